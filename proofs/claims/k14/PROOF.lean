import PyProof.Rows.All
import Wide.All
import OpenK.KLine
import KE.KItem
import KE.KIsAll
import Wide.FinOn
import Lean
import PyProof.EqAt
import PyProof.EqKinds
import PyProof.TupleCall
import PyProof.NeKinds
import PyProof.DictUpdate
import PyProof.AttrMissHeap
import KE.KDictOf
import PyProof.TupleIter
import PyProof.WalksEnum
import PyProof.EnumMake
import PyProof.Rows.EnumRows
import PyProof.Rows.MaxTwoN
import PyProof.ZipIter
import PyProof.IsRules
import PyProof.DictRoadsH
import Wide.Seal
import PyProof.MeetsDict
import PyProof.DictIter
import PyProof.DictWalks
import KE.KDictList
import PyProof.Rows.SumAny
import PyProof.ListRange
import PyProof.AutoSeq1
import PyProof.WalkInts
import PyProof.SeqI3
import KE.KTextTable
import PyProof.MeetsStr
import PyProof.StrCalls5
import PyProof.Rows.TupDisplay
import PyProof.Rows.TupAdd
import PyProof.Rows.StrNews2
import PyProof.StrBlockI
import PyProof.DictTruth
import PyProof.Rows.SortShell
import PyProof.DictValues
import PyProof.ConsumeS
import PyProof.Draws
import PyProof.Rows.SetFrom
import PyProof.FactsAll.set_1
import KE.KDictSum
import PyProof.Rows.SortStr
import PyProof.Rows.SortWalk
import PyProof.Rows.TmSorted
import PyProof.Rows.CallKwBuiltin
import KE.KTryDeep
import PyProof.Rows.CatchBare
import PyProof.Rows.TopTwo
import OpenK.KOwn
import KE.KRevIter
import PyProof.Rows.FactsT2
import PyProof.NeData
import PyProof.ListNew
import PySem.Challenge.RW_callmill_k14_dry_ends
set_option Elab.async false
set_option linter.all false
set_option maxRecDepth 100000
set_option maxHeartbeats 4000000
namespace L2
open PySem PySem.Spec PyProof.Rows
abbrev Key:=Sum Int Str
def as2:Key→Value→Bool
 | .inl k,v=>Value.isInt k v
 | .inr x,v=>Value.isStrOf x v
def keyH (w:World):Key→Int
 | .inl k=>hashInt k
 | .inr x=>hashStr w x
theorem a23:∀ {k:Key}{v:Value},as2 k v=true→(∃ i t,k=Sum.inl i∧v=Value.int i t)∨(∃ x t,k=Sum.inr x∧v=Value.str x t)
 | .inl i,v,h=>by
   obtain ⟨t,e⟩:=Value.isInt_shape (k:=i) (v:=v) h
   exact .inl ⟨i,t,rfl,e⟩
 | .inr x,v,h=>by
   obtain ⟨t,e⟩:=Value.isStrOf_shape (x:=x) (v:=v) h
   exact .inr ⟨x,t,rfl,e⟩
theorem au0 (i:Int) (t:Tok):as2 (.inl i) (.int i t)=true:=by simp [as2,Value.isInt]
theorem au1 (x:Str) (t:Tok):as2 (.inr x) (.str x t)=true:=by simp [as2,Value.isStrOf]
theorem bg2 (a b:Int):decide ((Sum.inl a:Key)=Sum.inl b)=(a == b):=by
 by_cases e:a=b
 · subst e; simp
 · have h:¬ (Sum.inl a:Key)=Sum.inl b:=fun q=>e (Sum.inl.inj q)
   rw [decide_eq_false h]
   exact (beq_eq_false_iff_ne.mpr e).symm
theorem bg3 (a b:Str):decide ((Sum.inr a:Key)=Sum.inr b)=decide (a=b):=by
 by_cases e:a=b
 · subst e; simp
 · have h:¬ (Sum.inr a:Key)=Sum.inr b:=fun q=>e (Sum.inr.inj q)
   rw [decide_eq_false h,decide_eq_false e]
theorem bg4 (a:Int) (b:Str):decide ((Sum.inl a:Key)=Sum.inr b)=false:=decide_eq_false (fun q=>nomatch q)
theorem bg5 (a:Str) (b:Int):decide ((Sum.inr a:Key)=Sum.inl b)=false:=decide_eq_false (fun q=>nomatch q)
def a34 (prog:Program) (w:World):PySem.KeyKind prog w Key where
 is:=as2
 hash:=keyH w
 inj:=fun v a b ha hb=>by
  rcases a23 ha with ⟨i,t,rfl,rfl⟩ | ⟨x,t,rfl,rfl⟩
  · rcases a23 hb with ⟨j,u,rfl,e⟩ | ⟨y,u,rfl,e⟩
    · injection e with e1 _; rw [e1]
    · exact nomatch e
  · rcases a23 hb with ⟨j,u,rfl,e⟩ | ⟨y,u,rfl,e⟩
    · exact nomatch e
    · injection e with e1 _; rw [e1]
 byValue:=fun k v h=>by
  rcases a23 h with ⟨i,t,rfl,rfl⟩ | ⟨x,t,rfl,rfl⟩ <;> rfl
 pyHash:=fun hv h=>by
  rcases a23 hv with ⟨i,t,rfl,rfl⟩ | ⟨x,t,rfl,rfl⟩
  · exact wpAny_pyHash_int h
  · exact wpAny_pyHash_str h
 eqBool:=fun hu hv h=>by
  rcases a23 hu with ⟨i,t,rfl,rfl⟩ | ⟨x,t,rfl,rfl⟩
  · rcases a23 hv with ⟨j,u,rfl,rfl⟩ | ⟨y,u,rfl,rfl⟩
    · rw [bg2] at h; exact wpAny_eqBool_int h
    · rw [bg4] at h; exact SeqAt.EqAt.int_str i t y u _ _ _ _ h
  · rcases a23 hv with ⟨j,u,rfl,rfl⟩ | ⟨y,u,rfl,rfl⟩
    · rw [bg5] at h; exact SeqAt.EqAt.str_int x t j u _ _ _ _ h
    · rw [bg3] at h; exact wpAny_eqBool_str h
 «strs»:=fun k x t v h=>by
  rcases a23 h with ⟨i,u,rfl,e⟩ | ⟨y,u,rfl,e⟩
  · exact nomatch e
  · injection e with e1 _
    subst e1
    cases v <;> rfl
theorem am3 (prog:Program) (w:World) (i:Int) (t:Tok):(a34 prog w).is (.inl i) (.int i t)=true:=au0 i t
theorem am4 (prog:Program) (w:World) (x:Str) (t:Tok):(a34 prog w).is (.inr x) (.str x t)=true:=au1 x t
inductive V where
 | non | bl (b:Bool) | int (i:Int) | str (x:Str) | byt (b:Array UInt8) | flt (b:UInt64) | ref (a:Addr) | ty (n:String)
 deriving DecidableEq
def RelV:V→Value→Prop
 | .non,u=>u=Value.none
 | .bl b,u=>u=Value.bool b
 | .int i,u=>∃ t,u=Value.int i t
 | .str x,u=>∃ t,u=Value.str x t
 | .byt b,u=>∃ t,u=Value.bytes b t
 | .flt b,u=>∃ t,u=Value.float b t
 | .ref a,u=>u=Value.ref a
 | .ty n,u=>u=Value.type n
abbrev Vals:List V→List Value→Prop:=Paired RelV
theorem Vals.length {xs:List V}{us:List Value}(r:Vals xs us):xs.length=us.length:=Paired.length r
theorem Vals.get:∀ {xs:List V}{us:List Value}{i:Nat}{x:V},Vals xs us→xs[i]?=some x→∃ u,us[i]?=some u∧RelV x u
 | _,_,_,_,.nil,e=>by simp at e
 | _,_,0,_,.cons r _,e=>by simp at e; subst e; exact ⟨_,rfl,r⟩
 | _,_,i+1,x,.cons _ t,e=>by
   obtain ⟨u,h1,h2⟩:=Vals.get (i:=i) (x:=x) t (by simpa using e)
   exact ⟨u,by simpa using h1,h2⟩
theorem Vals.set {x:V}{u:Value}(r:RelV x u):∀ {xs:List V}{us:List Value}(i:Nat),Vals xs us→Vals (xs.set i x) (us.set i u)
 | _,_,_,.nil=>.nil
 | _,_,0,.cons _ t=>.cons r t
 | _,_,i+1,.cons q t=>.cons q (Vals.set r i t)
theorem Vals.append:∀ {xs ys:List V}{us ws:List Value},Vals xs us→Vals ys ws→Vals (xs++ys) (us++ws)
 | _,_,_,_,.nil,s=>s
 | _,_,_,_,.cons r t,s=>.cons r (Vals.append t s)
theorem Vals.take:∀ {xs:List V}{us:List Value}(n:Nat),Vals xs us→Vals (xs.take n) (us.take n)
 | _,_,0,_=>.nil
 | _,_,_+1,.nil=>.nil
 | _,_,n+1,.cons r t=>.cons r (Vals.take n t)
theorem Vals.drop:∀ {xs:List V}{us:List Value}(n:Nat),Vals xs us→Vals (xs.drop n) (us.drop n)
 | _,_,0,r=>r
 | _,_,_+1,.nil=>.nil
 | _,_,n+1,.cons _ t=>Vals.drop n t
def RelO:Option V→Option Value→Prop
 | some v,some u=>RelV v u
 | none,none=>True
 | _,_=>False
def KV {κ:Type}:List (κ×V)→List (κ×Value)→Prop:=Paired fun (p:κ×V) (q:κ×Value)=>p.1=q.1∧RelV p.2 q.2
def kV:Key→V
 | .inl i=>.int i
 | .inr x=>.str x
inductive HO where
 | lst (xs:List V)
 | tup (xs:List V)
 | dK (kvs:List (Key×V)) | dT (kvs:List (List Key×V))
 | set (S:Int→Bool) (n:Nat)
 | ins (C dx:Addr) (fs:List (Str×V))
 | own (x:Addr)
 | xd (fs:List (Str×V))
 | met (f x:Addr)
 | rng (lo hi:Int)
 | frz (o:Obj) (u:HO)
 | tbl (ps:Array Value)
 | ext (φ:Heap→Prop)
abbrev Hp:=Addr→Option HO
def upd (H:Hp) (a:Addr) (o:HO):Hp:=fun b=>if b=a then some o else H b
theorem a18 {H:Hp}{a:Addr}{o:HO}:upd H a o a=some o:=by unfold upd; rw [if_pos rfl]
theorem a10 {H:Hp}{a b:Addr}{o:HO}(h:b≠a):upd H a o b=H b:=by unfold upd; rw [if_neg h]
theorem bs1 {H:Hp}{a b:Addr}{o u:HO}(h:H a=some o) (h':H b=some u) (d:o≠u):a≠b:=by
 intro e; subst e; rw [h] at h'; exact d (Option.some.inj h')
theorem a20 {H:Hp}{a b:Addr}{o:HO}(h:H a=some o) (h':H b=none):a≠b:=by
 intro e; subst e; rw [h] at h'; cases h'
section
variable (P:Program) (w:World)
def ObjOk (H:Hp) (h:Heap) (a:Addr):HO→Prop
 | .lst xs=>xs.length≤sizeLine∧∃ (its:List Value) (n:Nat),Vals xs its∧h.get? a=some { cls:=.type "list",data:=.seq its.toArray n }
 | .tup xs=>xs.length≤sizeLine∧∃ its:List Value,Vals xs its∧IsTup h a its.toArray
 | .dK kvs=>kvs.length≤sizeLine∧(a == sysModules)=false∧∃ vs,KV kvs vs∧h.DictOf (a34 P w) a vs
 | .dT kvs=>kvs.length≤sizeLine∧(a == sysModules)=false∧∃ xs:List (List Key×Addr×Value),
  Paired (fun (p:List Key×V) (q:List Key×Addr×Value)=>p.1=q.1∧H q.2.1=some (.tup (p.1.map kV))∧RelV p.2 q.2.2) kvs xs ∧
  ∃ o es ep,h.get? a=some o∧o.ExactDict∧o.data=.dict es ep∧es.toList=xs.map (entryOfKey (tupleKind (a34 P w)))∧(xs.map (·.1)).Nodup
 | .set S n=>h.SetOf (intKind P w) a S n
 | .ins C dx fs=>H dx=some (.own a)∧fs.length≤1000∧dx≠a∧h.get? a=some (PySem.W.instObj C dx) ∧
  ∃ mA,h.Ns1 dx mA∧(∀ f,RelO (fs.lookup f) (mA f))∧PySem.Within mA (fs.map (·.1))
 | .own _=>∃ o,h.get? a=some o
 | .xd fs=>∃ mA,h.Ns1 a mA∧∀ f,RelO (fs.lookup f) (mA f)
 | .rng lo hi=>∃ t u v,h.get? a=some { cls:=.type "range",data:=.fields #[.int lo t,.int hi u,.int 1 v] }
 | .frz o u=>h.get? a=some o∧ObjOk H h a u
 | .tbl ps=>h.get? a=some { cls:=.none,data:=.fields ps }
 | .met f x=>h.get? a=some (PySem.W.methodObj (.ref f) (.ref x))
 | .ext φ=>φ h∧(∃ o,h.get? a=some o)∧∀ h1 h2:Heap,φ h1→(∀ o,h1.get? a=some o→h2.get? a=some o)→φ h2
def HOk (H:Hp) (h:Heap):Prop:=∀ a o,H a=some o→ObjOk P w H h a o
end
section
variable {P:Program}{w:World}{H H':Hp}{h h':Heap}{a:Addr}{o:HO}
theorem ObjOk.lt (x:ObjOk P w H h a o):a<h.objs.size:=by
 cases o with
 | lst xs=>obtain ⟨_,_,_,_,e⟩:=x; exact Heap.lt_size e
 | tup xs=>obtain ⟨_,_,_,p⟩:=x; exact p.lt
 | dK kvs=>obtain ⟨_,_,_,_,o,_,_,e,_⟩:=x; exact Heap.lt_size e
 | dT kvs=>obtain ⟨_,_,_,_,o,_,_,e,_⟩:=x; exact Heap.lt_size e
 | set S n=>obtain ⟨o,_,_,_,e,_⟩:=x; exact Heap.lt_size e
 | ins C dx fs=>obtain ⟨_,_,_,e,_⟩:=x; exact Heap.lt_size e
 | own y=>obtain ⟨_,e⟩:=x; exact Heap.lt_size e
 | xd fs=>obtain ⟨_,⟨_,_,_,e,_⟩,_⟩:=x; exact Heap.lt_size e
 | rng lo hi=>obtain ⟨_,_,_,e⟩:=x; exact Heap.lt_size e
 | frz ob u=>obtain ⟨e,_⟩:=x; exact Heap.lt_size e
 | tbl ps=>exact Heap.lt_size (show h.get? a=some _ from x)
 | met f y=>exact Heap.lt_size (show h.get? a=some _ from x)
 | ext φ=>obtain ⟨_,⟨_,e⟩,_⟩:=x; exact Heap.lt_size e
theorem Paired.mapP {α β:Type}{F G:α→β→Prop}:∀ {l₁:List α}{l₂:List β},Paired F l₁ l₂→(∀ a b,F a b→G a b)→Paired G l₁ l₂
 | _,_,.nil,_=>.nil
 | _,_,.cons r t,f=>.cons (f _ _ r) (Paired.mapP t f)
theorem ObjOk.stay (x:ObjOk P w H h a o) (k:∀ b u,(b=a∨H b=some (.own a))→h.get? b=some u→h'.get? b=some u)
 (ho:∀ b,H b=some (.own a)→H' b=some (.own a)) (ht:∀ b xs,H b=some (.tup xs)→H' b=some (.tup xs)):ObjOk P w H' h' a o:=by
 induction o with
 | lst xs=>obtain ⟨z,its,n,r,e⟩:=x; exact ⟨z,its,n,r,k _ _ (.inl rfl) e⟩
 | tup xs=>obtain ⟨z,its,r,ob,e,c⟩:=x; exact ⟨z,its,r,ob,k _ _ (.inl rfl) e,c⟩
 | dK kvs=>obtain ⟨z,y,vs,r,ob,es,ep,e,c⟩:=x; exact ⟨z,y,vs,r,ob,es,ep,k _ _ (.inl rfl) e,c⟩
 | dT kvs =>
   obtain ⟨z,y,xs,r,ob,es,ep,e,c⟩:=x
   exact ⟨z,y,xs,Paired.mapP r fun p q z=>⟨z.1,ht _ _ z.2.1,z.2.2⟩,ob,es,ep,k _ _ (.inl rfl) e,c⟩
 | set S n=>obtain ⟨ob,es,ep,t,e,c⟩:=x; exact ⟨ob,es,ep,t,k _ _ (.inl rfl) e,c⟩
 | ins C dx fs =>
   obtain ⟨d,z,ne,e,mA,⟨od,es,ep,e2,c⟩,r⟩:=x
   exact ⟨ho _ d,z,ne,k _ _ (.inl rfl) e,mA,⟨od,es,ep,k _ _ (.inr d) e2,c⟩,r⟩
 | own y=>obtain ⟨ob,e⟩:=x; exact ⟨ob,k _ _ (.inl rfl) e⟩
 | xd fs=>obtain ⟨mA,⟨od,es,ep,e,c⟩,r⟩:=x; exact ⟨mA,⟨od,es,ep,k _ _ (.inl rfl) e,c⟩,r⟩
 | rng lo hi=>obtain ⟨t,u,v,e⟩:=x; exact ⟨t,u,v,k _ _ (.inl rfl) e⟩
 | frz ob u ih=>obtain ⟨e,q⟩:=x; exact ⟨k _ _ (.inl rfl) e,ih q⟩
 | tbl ps =>
   have e:h.get? a=some { cls:=.none,data:=.fields ps }:=x
   show h'.get? a=some { cls:=.none,data:=.fields ps }
   exact k a _ (.inl rfl) e
 | met f y =>
   have e:h.get? a=some (PySem.W.methodObj (.ref f) (.ref y)):=x
   show h'.get? a=some (PySem.W.methodObj (.ref f) (.ref y))
   exact k a _ (.inl rfl) e
 | ext φ=>obtain ⟨p,⟨o,e⟩,st⟩:=x; exact ⟨st _ _ p fun o q=>k _ _ (.inl rfl) q,⟨o,k _ _ (.inl rfl) e⟩,st⟩
theorem HOk.lt (x:HOk P w H h) (e:H a=some o):a<h.objs.size:=(x a o e).lt
theorem HOk.fresh (x:HOk P w H h) (e:h.objs.size≤a):H a=none:=by
 cases q:H a with
 | none=>rfl
 | some u=>exact absurd (Nat.lt_of_lt_of_le (x.lt q) e) (Nat.lt_irrefl _)
theorem HOk.kept (x:HOk P w H h) (k:∀ b u,h.get? b=some u→h'.get? b=some u):HOk P w H h':=fun a o e =>
 (x a o e).stay (fun b u _ q=>k b u q) (fun _ q=>q) fun _ _ q=>q
theorem HOk.laid (x:HOk P w H h) (k:∀ b u,h.get? b=some u→h'.get? b=some u) (hp:h.objs.size≤a) (new:ObjOk P w (upd H a o) h' a o):HOk P w (upd H a o) h':=fun b u e=>by
 have hn:=x.fresh hp
 by_cases hb:b=a
 · subst hb; rw [a18] at e; cases e; exact new
 · rw [a10 hb] at e
   exact (x b u e).stay (fun c v _ q=>k c v q) (fun c q=>by rw [a10 (a20 q hn)]; exact q) fun c xs q=>by rw [a10 (a20 q hn)]; exact q
end
def Rd (H:Hp) (a:Addr) (u:HO):Prop:=H a=some u∨∃ o,H a=some (.frz o u)
theorem Rd.ok {P:Program}{w:World}{H:Hp}{h:Heap}{a:Addr}{u:HO}(r:Rd H a u) (x:HOk P w H h):ObjOk P w H h a u:=by
 rcases r with r | ⟨o,r⟩
 · exact x a u r
 · obtain ⟨_,q⟩:=x a _ r
   exact q
def Mut:Option HO→Prop
 | some (.lst _)=>True
 | some (.dK _)=>True
 | some (.dT _)=>True
 | some (.set _ _)=>True
 | some (.ins _ _ _)=>True
 | some (.ext _)=>True
 | _=>False
section
variable {P:Program}{w:World}{H:Hp}{h h':Heap}{x e:Addr}{o':HO}
theorem HOk.write (ok:HOk P w H h) (mu:Mut (H x)) (he:e=x∨H e=some (.own x)) (k:∀ b u,b≠e→h.get? b=some u→h'.get? b=some u) (heo:∃ u,h'.get? e=some u)
 (new:ObjOk P w (upd H x o') h' x o'):HOk P w (upd H x o') h':=fun b u q=>by
 have nown:∀ c y,H c=some (.own y)→c≠x:=fun c y r z=>by subst z; rw [r] at mu; exact mu
 have ntup:∀ c xs,H c=some (.tup xs)→c≠x:=fun c xs r z=>by subst z; rw [r] at mu; exact mu
 by_cases hb:b=x
 · subst hb; rw [a18] at q; cases q; exact new
 · rw [a10 hb] at q
   by_cases hbe:b=e
   · have q':H b=some (.own x):=by
      rcases he with z | z
      · exact absurd (hbe.trans z) hb
      · rw [hbe]; exact z
     rw [q] at q'; cases q'
     obtain ⟨v,hv⟩:=heo
     exact ⟨v,by rw [hbe]; exact hv⟩
   · refine (ok b u q).stay (fun c v hc r=>k c v ?_ r) (fun c r=>by rw [a10 (nown c b r)]; exact r) fun c xs r=>by rw [a10 (ntup c xs r)]; exact r
     rcases hc with rfl | hc
     · exact hbe
     · rintro rfl
       rcases he with z | z
       · exact nown c b hc z
       · rw [hc] at z; cases z; exact hb rfl
end
structure Un (fs ex:List Addr) (H H':Hp) (h h':Heap):Prop where
 keep:∀ b o,h.get? b=some o→H b=none→b∉fs→b∉ex→h'.get? b=some o
 slot:∀ b o,h.get? b=some o→H b=none→b∈fs→b∉ex→∃ sl,h'.get? b=some { o with slots:=sl }
 free:∀ b o,h.get? b=some o→H b=none→b∉ex→H' b=none
 there:∀ b o,h.get? b=some o→b∉ex→∃ o',h'.get? b=some o'
 tups:∀ b xs,H b=some (.tup xs)→H' b=some (.tup xs)
 frzs:∀ b o u,H b=some (.frz o u)→H' b=some (.frz o u)
 tbls:∀ b ps,H b=some (.tbl ps)→∃ more,H' b=some (.tbl (ps++more))
section
variable {fs fs' ex ex':List Addr}{H H1 H2:Hp}{h h1 h2 h':Heap}{a x e:Addr}{o:HO}
theorem Un.any (u:Un fs ex H H1 h h1) {b:Addr}{ob:Obj}(q:h.get? b=some ob) (n:H b=none) (hx:b∉ex):∃ sl,h1.get? b=some { ob with slots:=sl }:=by
 by_cases hb:b∈fs
 · exact u.slot b ob q n hb hx
 · exact ⟨ob.slots,u.keep b ob q n hb hx⟩
theorem Un.kept (k:∀ b u,h.get? b=some u→h'.get? b=some u):Un fs ex H H h h' :=
 ⟨fun b ob q _ _ _=>k b ob q,fun b ob q _ _ _=>⟨ob.slots,k b ob q⟩,fun _ _ _ n _=>n,fun b ob q _=>⟨ob,k b ob q⟩,fun _ _ q=>q,fun _ _ _ q=>q,fun _ ps q=>⟨#[],by rw [q]; simp⟩⟩
theorem Un.refl:Un fs ex H H h h:=Un.kept fun _ _ q=>q
theorem Un.laid (k:∀ b u,h.get? b=some u→h'.get? b=some u) (hp:h.objs.size≤a) (hn:H a=none):Un fs ex H (upd H a o) h h' where
 keep:=fun b u q _ _ _=>k b u q
 slot:=fun b u q _ _ _=>⟨u.slots,k b u q⟩
 free:=fun b u q n _=>by rw [a10 (Nat.ne_of_lt (Nat.lt_of_lt_of_le (Heap.lt_size q) hp))]; exact n
 there:=fun b u q _=>⟨u,k b u q⟩
 tups:=fun b xs q=>by rw [a10 (a20 q hn)]; exact q
 frzs:=fun b u xs q=>by rw [a10 (a20 q hn)]; exact q
 tbls:=fun b ps q=>⟨#[],by rw [a10 (a20 q hn),q]; simp⟩
theorem Un.write (mu:Mut (H x)) (he:e=x∨H e=some (.own x)) (k:∀ b u,b≠e→h.get? b=some u→h'.get? b=some u) (heo:∃ u,h'.get? e=some u):Un fs ex H (upd H x o) h h':=by
 have hx:∀ b,H b=none→b≠x:=fun b n z=>by subst z; rw [n] at mu; exact mu
 have hb:∀ b,H b=none→b≠e:=fun b n z=>by
  subst z
  rcases he with r | r
  · exact hx b n r
  · rw [n] at r; cases r
 have hm:∀ b u,H b=some u→¬ Mut (some u)→b≠x:=fun b u q nm z=>by subst z; rw [q] at mu; exact nm mu
 refine ⟨fun b u q n _ _=>k b u (hb b n) q,fun b u q n _ _=>⟨u.slots,k b u (hb b n) q⟩,fun b u q n _=>by rw [a10 (hx b n)]; exact n,fun b u q _=>?_,
  fun b xs q=>by rw [a10 (hm b _ q fun z=>z)]; exact q,fun b u xs q=>by rw [a10 (hm b _ q fun z=>z)]; exact q,fun b ps q=>⟨#[],by rw [a10 (hm b _ q fun z=>z),q]; simp⟩⟩
 by_cases hbe:b=e
 · subst hbe; exact heo
 · exact ⟨u,k b u hbe q⟩
end
def trk (h:Heap) (H:Hp):List Addr:=(List.range h.objs.size).filter fun a=>(H a).isSome
def hidT (h:Heap) (H:Hp):Heap:=PySem.W.hideAll h (trk h H)
theorem au2 (h:Heap) (H:Hp):(hidT h H).objs.size=h.objs.size:=PySem.W.hideAll_size _ _
theorem b26 {h:Heap}{H:Hp}{b:Addr}{o:Obj}(e:h.get? b=some o) (n:H b=none):(hidT h H).get? b=some o :=
 PySem.W.hideAll_get _ e fun hm=>by
  have q:(H b).isSome=true:=(List.mem_filter.mp hm).2
  rw [n] at q; simp at q
theorem ba4 {h:Heap}{H:Hp}{b:Addr}{o:Obj}(e:(hidT h H).get? b=some o):h.get? b=some o∧H b=none:=by
 have e':h.get? b=some o:=PySem.W.of_hideAll (trk h H) e
 refine ⟨e',?_⟩
 cases q:H b with
 | none=>rfl
 | some x =>
   have hm:b∈trk h H:=List.mem_filter.mpr ⟨List.mem_range.mpr (Heap.lt_size e'),by simp [q]⟩
   have z:(hidT h H).get? b=none:=PySem.W.hideAll_none (trk h H) hm
   rw [z] at e; cases e
def ba5 (g h:Heap) (L:Addr):List (Addr×Obj):=(List.range h.objs.size).filterMap fun a=>if a=L∨(g.get? a).isSome=true then none else (h.get? a).map fun o=>(a,o)
def rest (g h:Heap) (L d:Addr):List (Addr×Obj):=(ba5 g h L).filter fun p=>decide (p.1≠d)
structure Mod (K:PySem.W.Frag) (mg:Str→Option Value) (base:Heap):Prop where
 kin:K.In base
 glob:base.Ns mainGlobals mg
 blt:∃ mb,base.Ns builtinsNs mb∧∀ x:Str,x≠"__name__"→mb x=bootBuiltins x
 nolimit:base.NoLimit
structure Cx where
 prog:Program
 w:World
 K:PySem.W.Frag
 mg:Str→Option Value
 base:Heap
 A:Around
 N:List Str
 s₀:Shared
 H₀:Hp
 env:Env
 outer:List Env
 stack:List Env
 ex:List Addr
 fn:Str→Bool
 calm:Bool
 pn:List (Addr×Obj)
 xe:Value→Shared→Prop
def frs (l:List Env):List Addr:=l.filterMap (·.frame)
abbrev Cx.fs (X:Cx):List Addr:=frs X.outer
def Vis (sc:Scope) (x:Str):Prop:=sc.names.lookup x=some .local∨sc.names.lookup x=some .cell∨sc.names.lookup x=some .free
def Loc (sc:Scope) (x:Str):Prop:=sc.names.lookup x=some .local∨sc.names.lookup x=some .cell
def Look (env:Env) (h:Heap) (m:Str→Option Value) (x:Str) (u:Value):Prop :=
 (env.kindOf x=some .local∧m x=some u)∨((env.kindOf x=some .cell∨env.kindOf x=some .free)∧∃ c,env.cells.lookup x=some c∧h.IsCell c (some u))
structure Cx.Ok (X:Cx):Prop where
 mod:Mod X.K X.mg X.base
 kind:X.env.scope.kind=.function
 glob:X.env.globals=mainGlobals
 blt:X.env.builtins=builtinsNs
 above:X.s₀.heap.objs.size≤X.env.locals
 inj:∀ x y c,X.env.cells.lookup x=some c→X.env.cells.lookup y=some c→x=y
 has:∀ x,(X.env.kindOf x=some .cell∨X.env.kindOf x=some .free)→∃ c,X.env.cells.lookup x=some c
 cab:∀ x c,X.fn x=true→X.env.cells.lookup x=some c→X.s₀.heap.objs.size≤c
 hd:X.calm=true→X.A.handled=none
 frames:X.A.frames=some X.stack
 stk:X.stack=X.outer∨(X.stack=X.env::X.outer∧X.env.frame=some X.env.locals)
 exf:∀ b∈X.ex,b≠X.env.locals∧∀ x c,X.env.cells.lookup x=some c→c≠b
 bs:∀ b o,X.base.get? b=some o→X.s₀.heap.get? b=some o∧X.H₀ b=none
 bsz:X.base.objs.size≤X.s₀.heap.objs.size
 noex:∀ b o,X.base.get? b=some o→b∉X.ex
 exfs:∀ b∈X.ex,b∉X.fs
 funs:X.s₀.heap.FunFrames X.base X.outer
 frf:∀ b∈X.fs,X.H₀ b=none
structure Inv (X:Cx) (pins:List (Addr×Obj)) (σ:List (Option V)) (H:Hp) (s:Shared):Prop where
 ok:X.Ok
 os:s.os=X.s₀.os
 bare:AllBare s.gens
 base:Un X.fs X.ex X.H₀ H X.s₀.heap s.heap
 loc:∃ m,s.heap.Ns X.env.locals m∧∀ (i:Nat) (x:Str) (v:V),X.N[i]?=some x→σ[i]?=some (some v)→Vis X.env.scope x→∃ u,RelV v u∧Look X.env s.heap m x u
 cell:∀ x c,X.env.cells.lookup x=some c→∃ v,s.heap.IsCell c v
 free:H X.env.locals=none
 freeC:∀ x c,X.env.cells.lookup x=some c→H c=none
 pin:∀ p∈X.pn++pins,s.heap.get? p.1=some p.2∧H p.1=none∧p.1≠X.env.locals∧p.1∉X.fs∧∀ v,p.2.data≠.cell v
 hok:HOk X.prog X.w H s.heap
 len:σ.length=X.N.length
section
variable {X:Cx}{pins:List (Addr×Obj)}{σ:List (Option V)} {H H':Hp}{s:Shared}{h':Heap}
theorem Cx.Ok.nofr (ok:X.Ok) {b:Addr}{o:Obj}(e:X.base.get? b=some o):b∉X.fs:=fun hb=>by
 have:=(ok.funs.mem hb).1
 rw [e] at this; cases this
theorem Inv.bs (I:Inv X pins σ H s):∀ b o,X.base.get? b=some o→s.heap.get? b=some o∧H b=none:=fun b o e =>
 ⟨I.base.keep b o (I.ok.bs b o e).1 (I.ok.bs b o e).2 (I.ok.nofr e) (I.ok.noex b o e),I.base.free b o (I.ok.bs b o e).1 (I.ok.bs b o e).2 (I.ok.noex b o e)⟩
theorem Inv.bk (I:Inv X pins σ H s):∀ b o,X.base.get? b=some o→s.heap.get? b=some o:=fun b o e=>(I.bs b o e).1
theorem Inv.mod (I:Inv X pins σ H s):Mod X.K X.mg X.base:=I.ok.mod
theorem Inv.kIn (I:Inv X pins σ H s):X.K.In s.heap:=I.ok.mod.kin.keeps I.bk
theorem Inv.lt (I:Inv X pins σ H s):X.env.locals<s.heap.objs.size:=let ⟨_,hn,_⟩:=I.loc; hn.lt
theorem Inv.sz (I:Inv X pins σ H s):X.s₀.heap.objs.size≤s.heap.objs.size:=Nat.le_trans I.ok.above (Nat.le_of_lt I.lt)
theorem Inv.nofs (I:Inv X pins σ H s) {a:Addr}(h:s.heap.objs.size≤a):a∉X.fs:=fun hb=>by
 obtain ⟨_,o,ho,_⟩:=I.ok.funs.mem hb
 exact absurd (Nat.lt_of_lt_of_le (Heap.lt_size ho) (Nat.le_trans I.sz h)) (Nat.lt_irrefl _)
theorem Inv.cne (I:Inv X pins σ H s):∀ x c,X.env.cells.lookup x=some c→c≠X.env.locals:=fun x c e z=>by
 obtain ⟨v,o,ho,hd⟩:=I.cell x c e
 obtain ⟨m,⟨o',es,ep,ho',hd',_⟩,_⟩:=I.loc
 rw [z,ho'] at ho; cases ho; rw [hd'] at hd; cases hd
theorem Inv.funs (I:Inv X pins σ H s):s.heap.FunFrames X.base X.outer:=by
 have all:∀ (l:List Env),(∀ b∈frs l,b∈X.fs)→X.s₀.heap.FunFrames X.base l→s.heap.FunFrames X.base l:=by
  intro l
  induction l with
  | nil=>intro _ _; trivial
  | cons env r ih =>
    intro hs hl
    obtain ⟨hk,⟨L,o,hf,hn,ho,hd⟩,hr⟩:=hl
    have hL:L∈X.fs:=hs L (by unfold frs; rw [List.filterMap_cons,hf]; exact List.mem_cons_self)
    obtain ⟨sl,e⟩:=I.base.slot L o ho (I.ok.frf L hL) hL fun z=>I.ok.exfs L z hL
    exact ⟨hk,⟨L,_,hf,hn,e,hd⟩,ih (fun b hb=>hs b (by unfold frs; rw [List.filterMap_cons,hf]; exact List.mem_cons_of_mem _ hb)) hr⟩
 exact all X.outer (fun _ hb=>hb) I.ok.funs
theorem Inv.stack (I:Inv X pins σ H s):s.heap.FunFrames X.base X.stack:=by
 rcases I.ok.stk with e | ⟨e,hf⟩
 · rw [e]; exact I.funs
 · rw [e]
   obtain ⟨m,hn,_⟩:=I.loc
   refine .cons (by rw [I.ok.kind]; decide) hf hn ?_ I.funs
   exact Heap.get?_none_of_le (Nat.le_trans I.ok.bsz I.ok.above)
theorem Inv.stkSub (I:Inv X pins σ H s):∀ b∈frs X.stack,b∈X.env.locals::X.fs:=fun b hb=>by
 rcases I.ok.stk with e | ⟨e,hf⟩
 · rw [e] at hb; exact List.mem_cons_of_mem _ hb
 · rw [e] at hb
   unfold frs at hb
   rw [List.filterMap_cons,hf] at hb
   exact hb
theorem Inv.stkFree (I:Inv X pins σ H s):∀ b∈frs X.stack,H b=none:=fun b hb=>by
 rcases List.mem_cons.mp (I.stkSub b hb) with e | hb
 · rw [e]; exact I.free
 · obtain ⟨_,o,ho,_⟩:=I.ok.funs.mem hb
   exact I.base.free b o ho (I.ok.frf b hb) fun z=>I.ok.exfs b z hb
theorem Inv.step {g':Array GenState}{t':Nat}{d':Drawn}{ch:List Addr}(I:Inv X pins σ H s)
 (hch:∀ b∈ch,(b∈X.ex∨X.s₀.heap.objs.size≤b)∧b≠X.env.locals∧(∀ x c,X.env.cells.lookup x=some c→c≠b)∧∀ p∈X.pn++pins,p.1≠b)
 (keep:∀ b o,b≠X.env.locals→b∉X.fs→b∉ch→s.heap.get? b=some o→H b=none→h'.get? b=some o)
 (slot:∀ b o,b≠X.env.locals→b∈X.fs→b∉ch→s.heap.get? b=some o→H b=none→∃ sl,h'.get? b=some { o with slots:=sl }) (free:∀ b o,b∉ch→s.heap.get? b=some o→H b=none→H' b=none)
 (there:∀ b o,b∉ch→s.heap.get? b=some o→∃ o',h'.get? b=some o')
 (tups:∀ b xs,H b=some (.tup xs)→H' b=some (.tup xs)) (frzs:∀ b o u,H b=some (.frz o u)→H' b=some (.frz o u)) (tbls:∀ b ps,H b=some (.tbl ps)→∃ more,H' b=some (.tbl (ps++more)))
 (ns:∀ m,s.heap.Ns X.env.locals m→h'.Ns X.env.locals m) (hok:HOk X.prog X.w H' h') (hg:AllBare g') :
 Inv X pins σ H' { s with heap:=h',gens:=g',drawn:=d',toks:=t' }:=by
 have neL:∀ b o,X.s₀.heap.get? b=some o→b≠X.env.locals:=fun b o e=>Nat.ne_of_lt (Nat.lt_of_lt_of_le (Heap.lt_size e) I.ok.above)
 have neC:∀ b o,X.s₀.heap.get? b=some o→b∉X.ex→b∉ch:=fun b o e hx hb=>by
  rcases (hch b hb).1 with z | z
  · exact hx z
  · exact absurd (Nat.lt_of_lt_of_le (Heap.lt_size e) z) (Nat.lt_irrefl _)
 have cellK:∀ x c,X.env.cells.lookup x=some c→∀ v,s.heap.IsCell c v→h'.IsCell c v:=fun x c e v ⟨o,ho,hd⟩=>by
  have nch:c∉ch:=fun z=>(hch c z).2.2.1 x c e rfl
  by_cases hc:c∈X.fs
  · obtain ⟨sl,q⟩:=slot c o (I.cne x c e) hc nch ho (I.freeC x c e)
    exact ⟨_,q,hd⟩
  · exact ⟨o,keep c o (I.cne x c e) hc nch ho (I.freeC x c e),hd⟩
 refine ⟨I.ok,I.os,hg,⟨fun b o e n hb hx=>?_,fun b o e n hb hx=>?_,fun b o e n hx=>?_,fun b o e hx=>?_,fun b xs e=>tups b xs (I.base.tups b xs e),fun b o xs e=>frzs b o xs (I.base.frzs b o xs e),fun b ps e=>?_⟩,?_,fun x c e=>?_,?_,fun x c e=>?_,fun p hp=>?_,hok,I.len⟩
 · exact keep b o (neL b o e) hb (neC b o e hx) (I.base.keep b o e n hb hx) (I.base.free b o e n hx)
 · obtain ⟨sl,e1⟩:=I.base.slot b o e n hb hx
   obtain ⟨sl',e2⟩:=slot b _ (neL b o e) hb (neC b o e hx) e1 (I.base.free b o e n hx)
   exact ⟨sl',e2⟩
 · obtain ⟨o',e1⟩:=I.base.there b o e hx
   exact free b o' (neC b o e hx) e1 (I.base.free b o e n hx)
 · obtain ⟨o',e1⟩:=I.base.there b o e hx
   exact there b o' (neC b o e hx) e1
 · obtain ⟨m1,e1⟩:=I.base.tbls b ps e
   obtain ⟨m2,e2⟩:=tbls b _ e1
   exact ⟨m1++m2,by rw [e2,Array.append_assoc]⟩
 · obtain ⟨m,hn,hl⟩:=I.loc
   refine ⟨m,ns m hn,fun i x v e1 e2 e3=>?_⟩
   obtain ⟨u,r,l⟩:=hl i x v e1 e2 e3
   refine ⟨u,r,?_⟩
   rcases l with l | ⟨k,c,e,z⟩
   · exact .inl l
   · exact .inr ⟨k,c,e,cellK x c e _ z⟩
 · obtain ⟨v,z⟩:=I.cell x c e
   exact ⟨v,cellK x c e v z⟩
 · obtain ⟨m,⟨o,_,_,ho,_⟩,_⟩:=I.loc
   exact free _ o (fun z=>(hch _ z).2.1 rfl) ho I.free
 · obtain ⟨v,o,ho,hd⟩:=I.cell x c e
   exact free c o (fun z=>(hch c z).2.2.1 x c e rfl) ho (I.freeC x c e)
 · obtain ⟨e,n,ne,nf,d⟩:=I.pin p hp
   have nch:p.1∉ch:=fun z=>(hch p.1 z).2.2.2 p hp rfl
   exact ⟨keep p.1 p.2 ne nf nch e n,free p.1 p.2 nch e n,ne,nf,d⟩
theorem Inv.un {t':Nat}(I:Inv X pins σ H s) (u:Un X.fs [] H H' s.heap h') (hok:HOk X.prog X.w H' h'):Inv X pins σ H' { s with heap:=h',toks:=t' }:=by
 obtain ⟨m,⟨o,es,ep,ho,r⟩,_⟩:=id I.loc
 obtain ⟨sl,hL⟩:=u.any ho I.free (by simp)
 exact I.step (g':=s.gens) (d':=s.drawn) (ch:=[]) (fun _ z=>nomatch z) (fun b o _ hb _ e n=>u.keep b o e n hb (by simp)) (fun b o _ hb _ e n=>u.slot b o e n hb (by simp)) (fun b o _ e n=>u.free b o e n (by simp)) (fun b o _ e=>u.there b o e (by simp)) u.tups u.frzs u.tbls (fun m' hm=>by
  obtain ⟨o',es',ep',ho',r'⟩:=hm
  rw [ho] at ho'; cases ho'
  exact ⟨_,es',ep',hL,r'⟩) hok I.bare
theorem Inv.call {g':Array GenState}{t':Nat}{d':Drawn}{ch:List Addr}(I:Inv X pins σ H s) (u:Un (frs X.stack) ch H H' s.heap h') (hok:HOk X.prog X.w H' h') (hg:AllBare g')
 (hch:∀ b∈ch,(b∈X.ex∨X.s₀.heap.objs.size≤b)∧b≠X.env.locals∧(∀ x c,X.env.cells.lookup x=some c→c≠b)∧∀ p∈X.pn++pins,p.1≠b) :
 Inv X pins σ H' { s with heap:=h',gens:=g',drawn:=d',toks:=t' }:=by
 obtain ⟨m,⟨o,es,ep,ho,r⟩,_⟩:=id I.loc
 obtain ⟨sl,hL⟩:=u.any ho I.free fun z=>(hch _ z).2.1 rfl
 exact I.step (ch:=ch) hch (fun b o hL hb hc e n=>u.keep b o e n (fun z=>(List.mem_cons.mp (I.stkSub b z)).elim hL hb) hc) (fun b o _ _ hc e n=>u.any e n hc) (fun b o hc e n=>u.free b o e n hc) (fun b o hc e=>u.there b o e hc) u.tups u.frzs u.tbls (fun m' hm=>by
  obtain ⟨o',es',ep',ho',r'⟩:=hm
  rw [ho] at ho'; cases ho'
  exact ⟨_,es',ep',hL,r'⟩) hok hg
theorem Inv.turned {t':Nat}{it:Addr}(I:Inv X pins σ H s) (k:∀ b o,b≠it→s.heap.get? b=some o→h'.get? b=some o) (hn:H it=none) (hL:it≠X.env.locals)
 (h1:it∈X.ex∨X.s₀.heap.objs.size≤it) (h2:∀ x c,X.env.cells.lookup x=some c→c≠it) (h3:∀ p∈X.pn++pins,p.1≠it):Inv X pins σ H { s with heap:=h',toks:=t' }:=by
 have nit:∀ b u,H b=some u→b≠it:=fun b u e z=>by rw [z,hn] at e; cases e
 refine I.step (g':=s.gens) (d':=s.drawn) (ch:=[it]) (fun b hb=>?_) (fun b o _ _ hc e _=>k b o (fun z=>hc (by simp [z])) e) (fun b o _ _ hc e _=>⟨o.slots,k b o (fun z=>hc (by simp [z])) e⟩) (fun _ _ _ _ n=>n)
  (fun b o hc e=>⟨o,k b o (fun z=>hc (by simp [z])) e⟩) (fun _ _ e=>e) (fun _ _ _ e=>e) (fun b ps e=>⟨#[],by rw [e]; simp⟩) (fun m hm=>?_) (fun b u e=>?_) I.bare
 · have e:b=it:=by simpa using hb
   subst e
   exact ⟨h1,hL,h2,h3⟩
 · obtain ⟨o,es,ep,ho,r⟩:=hm
   exact ⟨o,es,ep,k _ o (Ne.symm hL) ho,r⟩
 · refine (I.hok b u e).stay (fun c v hc q=>k c v ?_ q) (fun _ q=>q) fun _ _ q=>q
   rcases hc with z | z
   · rw [z]; exact nit b u e
   · exact nit c _ z
theorem Inv.tok (I:Inv X pins σ H s) (t:Nat):Inv X pins σ H { s with toks:=t }:=I.un (h':=s.heap) (t':=t) Un.refl I.hok
theorem Inv.kept {t':Nat}(I:Inv X pins σ H s) (k:∀ b u,s.heap.get? b=some u→h'.get? b=some u):Inv X pins σ H { s with heap:=h',toks:=t' }:=I.un (Un.kept k) (I.hok.kept k)
theorem Inv.laid {a:Addr}{o:HO}{t':Nat}(I:Inv X pins σ H s) (k:∀ b u,s.heap.get? b=some u→h'.get? b=some u) (hp:s.heap.objs.size≤a) (new:ObjOk X.prog X.w (upd H a o) h' a o) :
 Inv X pins σ (upd H a o) { s with heap:=h',toks:=t' }:=I.un (Un.laid k hp (I.hok.fresh hp)) (I.hok.laid k hp new)
theorem Inv.write {x e:Addr}{o:HO}{t':Nat}(I:Inv X pins σ H s) (mu:Mut (H x)) (he:e=x∨H e=some (.own x)) (k:∀ b u,b≠e→s.heap.get? b=some u→h'.get? b=some u) (heo:∃ u,h'.get? e=some u)
 (new:ObjOk X.prog X.w (upd H x o) h' x o):Inv X pins σ (upd H x o) { s with heap:=h',toks:=t' }:=I.un (Un.write mu he k heo) (I.hok.write mu he k heo new)
theorem Inv.pins_of {pins':List (Addr×Obj)}(I:Inv X pins σ H s) (h:∀ p∈pins',s.heap.get? p.1=some p.2∧H p.1=none∧p.1≠X.env.locals∧p.1∉X.fs∧∀ v,p.2.data≠.cell v):Inv X pins' σ H s :=
 ⟨I.ok,I.os,I.bare,I.base,I.loc,I.cell,I.free,I.freeC,fun p hp=>(List.mem_append.mp hp).elim (fun z=>I.pin p (List.mem_append_left _ z)) (h p),I.hok,I.len⟩
theorem ao8 {N:List Str}(hN:N.Nodup) {i j:Nat}{x:Str}(a:N[i]?=some x) (b:N[j]?=some x):i=j:=by
 obtain ⟨h1,e1⟩:=List.getElem?_eq_some_iff.mp a
 obtain ⟨h2,e2⟩:=List.getElem?_eq_some_iff.mp b
 exact (List.getElem_inj hN).mp (e1.trans e2.symm)
theorem ai4 {M:Model}{A:Around}{E:Value→Shared→Prop}{i:Nat}{x:Str}{v:V}{u:Value}{Q:Unit→Shared→Prop}(I:Inv X pins σ H s) (hN:X.N.Nodup) (hi:X.N[i]?=some x) (hx:Loc X.env.scope x) (r:RelV v u)
 (h:∀ s',Inv X pins (σ.set i (some v)) H s'→(∃ a,Heap.SameBut a s.heap s'.heap∧(a=X.env.locals∨X.env.cells.lookup x=some a))→Q () s') (hf:X.fn x=true∨X.env.scope.names.lookup x=some .local:=by first | exact .inl rfl | exact .inr rfl | assumption):wpAny M A (storeName X.env x u) Q E s:=by
 obtain ⟨m,hn,hl⟩:=id I.loc
 have hcls:(X.env.scope.kind == .class || (X.env.scope.kind == .module && X.env.locals != X.env.globals))=false:=by rw [I.ok.kind]; rfl
 have hiσ:i<σ.length:=by rw [I.len]; exact (List.getElem?_eq_some_iff.mp hi).1
 have cne:=I.cne
 have tracked:∀ {a:Addr}{h':Heap},(∃ o,s.heap.get? a=some o∧H a=none)→Heap.SameBut a s.heap h'→HOk X.prog X.w H h':=fun {a h'} ha hs b ob e=>by
  obtain ⟨_,_,hfree⟩:=ha
  refine (I.hok b ob e).stay (fun c w' hc q=>(hs.2 c ?_).trans q) (fun _ q=>q) fun _ _ q=>q
  rintro rfl
  rcases hc with rfl | hc
  · rw [hfree] at e; cases e
  · rw [hfree] at hc; cases hc
 rcases hx with hk | hk
 · refine wpAny_storeName_local hk hn (fun h' hn' hs=>?_) hcls
   obtain ⟨oL,_,_,hoL,_⟩:=id hn
   refine h _ ⟨I.ok,I.os,I.bare,⟨fun b o e n hb hx=>?_,fun b o e n hb hx=>?_,I.base.free,fun b o e hx=>?_,I.base.tups,I.base.frzs,I.base.tbls⟩,⟨_,hn',fun j y v' e1 e2 e3=>?_⟩,fun y c e=>?_,I.free,I.freeC,fun p hp=>?_,tracked ⟨oL,hoL,I.free⟩ hs,by simpa using I.len⟩ ⟨_,hs,.inl rfl⟩
   · exact (hs.2 b (Nat.ne_of_lt (Nat.lt_of_lt_of_le (Heap.lt_size e) I.ok.above))).trans (I.base.keep b o e n hb hx)
   · obtain ⟨sl,e1⟩:=I.base.slot b o e n hb hx
     exact ⟨sl,(hs.2 b (Nat.ne_of_lt (Nat.lt_of_lt_of_le (Heap.lt_size e) I.ok.above))).trans e1⟩
   · obtain ⟨o',e1⟩:=I.base.there b o e hx
     exact ⟨o',(hs.2 b (Nat.ne_of_lt (Nat.lt_of_lt_of_le (Heap.lt_size e) I.ok.above))).trans e1⟩
   · by_cases hj:j=i
     · subst hj
       rw [hi] at e1; cases e1
       rw [List.getElem?_set_self hiσ] at e2
       cases e2
       exact ⟨u,r,.inl ⟨hk,by simp⟩⟩
     · rw [List.getElem?_set_ne (Ne.symm hj)] at e2
       obtain ⟨u',r',q⟩:=hl j y v' e1 e2 e3
       refine ⟨u',r',?_⟩
       rcases q with ⟨k,e⟩ | ⟨k,c,e,z⟩
       · refine .inl ⟨k,?_⟩
         have:y≠x:=fun e=>hj (ao8 hN e1 (e ▸ hi))
         simp [this,e]
       · exact .inr ⟨k,c,e,z.sameBut hs (cne y c e)⟩
   · obtain ⟨w',z⟩:=I.cell y c e
     exact ⟨w',z.sameBut hs (cne y c e)⟩
   · obtain ⟨e,n,ne,nf,d⟩:=I.pin p hp
     exact ⟨(hs.2 p.1 ne).trans e,n,ne,nf,d⟩
 · have hfn:X.fn x=true:=by
    rcases hf with z | z
    · exact z
    · rw [z] at hk; cases hk
   obtain ⟨c,hc⟩:=I.ok.has x (.inl hk)
   obtain ⟨w',z⟩:=I.cell x c hc
   refine wpAny_storeName_cell I.ok.kind hk hc z (fun h' hc' hs=>?_)
   obtain ⟨oc,hoc,hocd⟩:=id z
   refine h { s with heap:=h' } ⟨I.ok,I.os,I.bare,⟨fun b o e n hb hx=>?_,fun b o e n hb hx=>?_,I.base.free,fun b o e hx=>?_,I.base.tups,I.base.frzs,I.base.tbls⟩,⟨m,hn.sameBut hs (Ne.symm (cne x c hc)),fun j y v' e1 e2 e3=>?_⟩,fun y c' e=>?_,I.free,I.freeC,fun p hp=>?_,tracked ⟨oc,hoc,I.freeC x c hc⟩ hs,by simpa using I.len⟩ ⟨c,hs,.inr hc⟩
   · exact (hs.2 b (Nat.ne_of_lt (Nat.lt_of_lt_of_le (Heap.lt_size e) (I.ok.cab x c hfn hc)))).trans (I.base.keep b o e n hb hx)
   · obtain ⟨sl,e1⟩:=I.base.slot b o e n hb hx
     exact ⟨sl,(hs.2 b (Nat.ne_of_lt (Nat.lt_of_lt_of_le (Heap.lt_size e) (I.ok.cab x c hfn hc)))).trans e1⟩
   · obtain ⟨o',e1⟩:=I.base.there b o e hx
     exact ⟨o',(hs.2 b (Nat.ne_of_lt (Nat.lt_of_lt_of_le (Heap.lt_size e) (I.ok.cab x c hfn hc)))).trans e1⟩
   · by_cases hj:j=i
     · subst hj
       rw [hi] at e1; cases e1
       rw [List.getElem?_set_self hiσ] at e2
       cases e2
       exact ⟨u,r,.inr ⟨.inl hk,c,hc,hc'⟩⟩
     · rw [List.getElem?_set_ne (Ne.symm hj)] at e2
       obtain ⟨u',r',q⟩:=hl j y v' e1 e2 e3
       refine ⟨u',r',?_⟩
       rcases q with q | ⟨k,c',e,z'⟩
       · exact .inl q
       · refine .inr ⟨k,c',e,z'.sameBut hs ?_⟩
         rintro rfl
         exact hj (ao8 hN e1 (I.ok.inj _ _ _ e hc ▸ hi))
   · by_cases hcc:c'=c
     · subst hcc; exact ⟨_,hc'⟩
     · obtain ⟨w2,z2⟩:=I.cell y c' e
       exact ⟨w2,z2.sameBut hs hcc⟩
   · obtain ⟨e,n,ne,nf,d⟩:=I.pin p hp
     refine ⟨(hs.2 p.1 ?_).trans e,n,ne,nf,d⟩
     intro q
     rw [q,hoc] at e
     have q':oc=p.2:=Option.some.inj e
     exact d w' (by rw [← q']; exact hocd)
theorem ao9 {M:Model}{A:Around}{E:Value→Shared→Prop}{i:Nat}{x:Str}{v:V}{u:Value}{Q:Unit→Shared→Prop}(I:Inv X pins σ H s) (hN:X.N.Nodup) (hi:X.N[i]?=some x) (hx:Loc X.env.scope x) (r:RelV v u)
 (h:∀ s',Inv X pins (σ.set i (some v)) H s'→Q () s') (hf:X.fn x=true∨X.env.scope.names.lookup x=some .local:=by first | exact .inl rfl | exact .inr rfl | assumption):wpAny M A (storeName X.env x u) Q E s :=
 ai4 I hN hi hx r (fun s' I' _=>h s' I') hf
theorem Inv.call' {s':Shared}{ch:List Addr}(I:Inv X pins σ H s) (ho:s'.os=s.os) (u:Un (frs X.stack) ch H H' s.heap s'.heap) (hok:HOk X.prog X.w H' s'.heap) (hg:AllBare s'.gens)
 (hch:∀ b∈ch,(b∈X.ex∨X.s₀.heap.objs.size≤b)∧b≠X.env.locals∧(∀ x c,X.env.cells.lookup x=some c→c≠b)∧∀ p∈X.pn++pins,p.1≠b):Inv X pins σ H' s':=by
 obtain ⟨h',g',d',t',o'⟩:=s'
 have e:o'=s.os:=ho
 subst e
 exact I.call (g':=g') (t':=t') (d':=d') u hok hg hch
end
abbrev XK:=Value→Option Addr→Hp→Prop
abbrev St:=List (Option V)
abbrev VK:=V→Hp→Prop
abbrev TE:=St→Hp→VK→Prop
abbrev TT:=St→Hp→(Bool→Hp→Prop)→Prop
abbrev TA:=St→Hp→(List V→Hp→Prop)→Prop
structure Ends where
 nx:St→Hp→Prop
 rt:VK
 bk:St→Hp→Prop:=fun _ _=>False
 ct:St→Hp→Prop:=fun _ _=>False
abbrev TS:=Ends→St→Hp→Prop
def EP (X:Cx) (pins:List (Addr×Obj)) (σ:St) (Q:VK) (u:Value) (s':Shared):Prop:=∃ v H',Inv X pins σ H' s'∧RelV v u∧Q v H'
def TP (X:Cx) (pins:List (Addr×Obj)) (σ:St) (Q:Bool→Hp→Prop) (b:Bool) (s':Shared):Prop:=∃ H',Inv X pins σ H' s'∧Q b H'
def AP (X:Cx) (pins:List (Addr×Obj)) (σ:St) (Q:List V→Hp→Prop) (us:List Value) (s':Shared):Prop:=∃ vs H',Inv X pins σ H' s'∧Vals vs us∧Q vs H'
def SP (X:Cx) (pins:List (Addr×Obj)) (D:Ends) (f:Flow) (s':Shared):Prop :=
 match f with
 | .next=>∃ σ' H',Inv X pins σ' H' s'∧D.nx σ' H'
 | .brk=>∃ σ' H',Inv X pins σ' H' s'∧D.bk σ' H'
 | .cont=>∃ σ' H',Inv X pins σ' H' s'∧D.ct σ' H'
 | .ret u=>∃ v σ' H',Inv X pins σ' H' s'∧RelV v u∧D.rt v H'
def PE (X:Cx) (e:Expr) (t:TE):Prop :=
 ∀ (pins:List (Addr×Obj)) (s:Shared) (σ:St) (H:Hp) (Q:VK),Inv X pins σ H s→t σ H Q→wpAny (model X.prog X.w) X.A (eval e X.env) (EP X pins σ Q) X.xe s
def PT (X:Cx) (e:Expr) (t:TT):Prop :=
 ∀ (pins:List (Addr×Obj)) (s:Shared) (σ:St) (H:Hp) (Q:Bool→Hp→Prop),Inv X pins σ H s→t σ H Q→wpAny (model X.prog X.w) X.A (isTrue e X.env (eval e X.env)) (TP X pins σ Q) X.xe s
def PW (X:Cx) (e:Expr) (t:TT):Prop :=
 ∀ (whole:Sem Value) (pins:List (Addr×Obj)) (s:Shared) (σ:St) (H:Hp) (Q:Bool→Hp→Prop),Inv X pins σ H s→t σ H Q→wpAny (model X.prog X.w) X.A (isTrue e X.env whole) (TP X pins σ Q) X.xe s
theorem PW.pt {X:Cx}{e:Expr}{t:TT}(h:PW X e t):PT X e t:=h _
def PA (X:Cx) (es:List Expr) (t:TA):Prop :=
 ∀ (pos:Pos) (pins:List (Addr×Obj)) (s:Shared) (σ:St) (H:Hp) (Q:List V→Hp→Prop),Inv X pins σ H s→t σ H Q→wpAny (model X.prog X.w) X.A (spliced (backTo pos (starEach es X.env))) (AP X pins σ Q) X.xe s
def PS (X:Cx) (st:Stmt) (t:TS):Prop :=
 ∀ (pins:List (Addr×Obj)) (s:Shared) (σ:St) (H:Hp) (D:Ends),Inv X pins σ H s→t D σ H→wpAny (model X.prog X.w) X.A (exec st X.env) (SP X pins D) X.xe s
def PSs (X:Cx) (st:List Stmt) (t:TS):Prop :=
 ∀ (pins:List (Addr×Obj)) (s:Shared) (σ:St) (H:Hp) (D:Ends),Inv X pins σ H s→t D σ H→wpAny (model X.prog X.w) X.A (execs st X.env) (SP X pins D) X.xe s
theorem thn {α:Type}{t:Sem α}{Q Q':α→Shared→Prop}{M:Model}{A:Around}{E:Value→Shared→Prop}{s:Shared}(h:wpAny M A t Q E s) (hQ:∀ a s,Q a s→Q' a s):wpAny M A t Q' E s:=wpAny_mono h hQ fun _ _ x=>x
section
variable {X:Cx}
def tVar (i:Nat):TE:=fun σ H Q=>∃ v,σ[i]?=some (some v)∧Q v H
def tC (v:V):TE:=fun _ H Q=>Q v H
theorem bg6 {i:Nat}{x:Str}{pos:Pos}(hN:X.N[i]?=some x) (hv:Vis X.env.scope x) (hd:(x == ("__debug__":Str))=false:=by decide) (hcd:(x == ("__classdict__":Str))=false:=by decide):PE X (.Name x pos) (tVar i):=by
 intro pins s σ H Q I h
 obtain ⟨v,e,h⟩:=h
 obtain ⟨m,hn,hl⟩:=I.loc
 obtain ⟨u,r,l⟩:=hl i x v hN e hv
 have fin:EP X pins σ Q u s:=⟨v,H,I,r,h⟩
 rcases l with ⟨hk,hm⟩ | ⟨hk,c,hc,hcell⟩
 · exact wpAny_Name (wpAny_loadName_local I.ok.kind hk hn hm fin) hd
 · rcases hk with hk | hk
   · exact wpAny_Name (wpAny_loadName_cell I.ok.kind hk hc hcell fin) hd
   · exact wpAny_Name (wpAny_loadName_free I.ok.kind hk hc hcell fin hcd) hd
theorem a03 {i j pos}:PE X (.Constant (.int i) j pos) (tC (.int i)):=fun _ _ _ H _ I h=>wpAny_Constant_int ⟨.int i,H,I.tok _,⟨_,rfl⟩,h⟩
theorem au3 {b j pos}:PE X (.Constant (.bool b) j pos) (tC (.bl b)):=fun _ _ _ H _ I h=>Constant_bool ⟨.bl b,H,I,rfl,h⟩
theorem ae2 {j pos}:PE X (.Constant .none j pos) (tC .non):=fun _ _ _ H _ I h=>Constant_none ⟨.non,H,I,rfl,h⟩
theorem a06 {x j pos}:PE X (.Constant (.str x) j pos) (tC (.str x)):=fun _ _ _ H _ I h=>Calls.Constant_str ⟨.str x,H,I.tok _,⟨_,rfl⟩,h⟩
def Gl (X:Cx) (x:Str):Prop:=X.env.kindOf x=some .globalImplicit
theorem au4 {E:Value→Shared→Prop}{pins:List (Addr×Obj)}{s:Shared}{σ:St} {H:Hp}{x:Str}{u:Value}{pos:Pos}{Q:Value→Shared→Prop}(I:Inv X pins σ H s) (hg:Gl X x) (hm:X.mg x=some u) (h:Q u s)
 (hd:(x == ("__debug__":Str))=false:=by decide):wpAny (model X.prog X.w) X.A (eval (.Name x pos) X.env) Q E s :=
 Calls.Name_function_global I.ok.kind hg (Calls.loadGlobal_global (by rw [I.ok.glob]; exact I.mod.glob.keeps I.bk) hm h) hd
theorem aa1 {E:Value→Shared→Prop}{pins:List (Addr×Obj)}{s:Shared}{σ:St} {H:Hp}{x:Str}{u:Value}{pos:Pos}{Q:Value→Shared→Prop}(I:Inv X pins σ H s) (hg:Gl X x) (hm:X.mg x=none) (hv:bootBuiltins x=some u) (h:Q u s)
 (hn:x≠"__name__":=by decide) (hd:(x == ("__debug__":Str))=false:=by decide):wpAny (model X.prog X.w) X.A (eval (.Name x pos) X.env) Q E s:=by
 obtain ⟨mb,h1,h2⟩:=I.mod.blt
 exact Calls.Name_function_global I.ok.kind hg (Calls.loadGlobal_builtin (by rw [I.ok.glob]; exact I.mod.glob.keeps I.bk) hm (by rw [I.ok.blt]; exact h1.keeps I.bk) ((h2 x hn).trans hv) h) hd
theorem au5 {x:Str}{v:V}{u:Value}{pos:Pos}(hg:Gl X x) (hm:X.mg x=some u) (r:RelV v u) (hd:(x == ("__debug__":Str))=false:=by decide):PE X (.Name x pos) (tC v) :=
 fun _ _ _ H _ I h=>au4 I hg hm ⟨v,H,I,r,h⟩ hd
theorem ba6 {x:Str}{v:V}{u:Value}{pos:Pos}(hg:Gl X x) (hm:X.mg x=none) (hv:bootBuiltins x=some u) (r:RelV v u) (hn:x≠"__name__":=by decide) (hd:(x == ("__debug__":Str))=false:=by decide):PE X (.Name x pos) (tC v) :=
 fun _ _ _ H _ I h=>aa1 I hg hm hv ⟨v,H,I,r,h⟩ hn hd
variable {a b:Expr}{ta tb:TE}{pos:Pos}
def PC (X:Cx) (op:CmpOp) (a b:Expr) (t:TE):Prop :=
 ∀ (pins:List (Addr×Obj)) (s:Shared) (σ:St) (H:Hp) (Q:VK),Inv X pins σ H s→t σ H Q →
  wpAny (model X.prog X.w) X.A (eval a X.env) (fun v s₁=>wpAny (model X.prog X.w) X.A (eval b X.env) (fun u s₂=>wpAny (model X.prog X.w) X.A (compareOp op v u) (EP X pins σ Q) X.xe s₂) X.xe s₁) X.xe s
theorem nobehind (b:Expr) {op:CmpOp}(h:op≠.In) (h2:op≠.NotIn):behindInMarks op b=false:=by
 have e1:(op == CmpOp.In)=false:=by cases op <;> first | rfl | exact absurd rfl h
 have e2:(op == CmpOp.NotIn)=false:=by cases op <;> first | rfl | exact absurd rfl h2
 cases b <;> simp [behindInMarks,e1,e2]
def tB (t:TE):TT:=fun σ H Q=>t σ H fun x H1=>∃ c,x=.bl c∧Q c H1
theorem bg7 {op:CmpOp}{t:TE}(h:PC X op a b t) (h1:behindInMarks op b=false:=by first | exact nobehind _ (by decide) (by decide) | rfl):PT X (.Compare a [op] [b] pos) (tB t):=by
 intro pins s σ H Q I hw
 refine wpAny_isTrue_Compare1 (thn (h pins s σ H _ I hw) fun v s1 h1=>thn h1 fun u s2 h2=>thn h2 ?_) h1
 rintro c s3 ⟨x,H1,I1,r1,q1⟩
 obtain ⟨d,rfl,q⟩:=q1
 cases r1
 exact wpAny_truthy_bool ⟨H1,I1,q⟩
variable {tA tB':TT}{rest:List Expr}
def tAnd (t u:TT):TT:=fun σ H Q=>t σ H fun c H1=>if c=true then u σ H1 Q else Q false H1
def tOr (t u:TT):TT:=fun σ H Q=>t σ H fun c H1=>if c=true then Q true H1 else u σ H1 Q
def tNot (t:TT):TT:=fun σ H Q=>t σ H fun c H1=>Q (!c) H1
theorem a66 (ha:PT X a tA):PW X (.BoolOp .And [a] pos) tA:=by
 intro wh pins s σ H Q I h
 refine isTrue_and (thn (ha pins s σ H Q I h) fun c s1 e=>?_)
 cases c with
 | true=>exact isTrue_and_nil e
 | false=>exact e
theorem b72 (ha:PT X a tA):PW X (.BoolOp .Or [a] pos) tA:=by
 intro wh pins s σ H Q I h
 refine isTrue_or (thn (ha pins s σ H Q I h) fun c s1 e=>?_)
 cases c with
 | false=>exact isTrue_or_nil e
 | true=>exact e
theorem a81 (ha:PT X a tA) (hb:PW X (.BoolOp .And (b::rest) pos) tB'):PW X (.BoolOp .And (a::b::rest) pos) (tAnd tA tB'):=by
 intro wh pins s σ H Q I h
 refine isTrue_and (thn (ha pins s σ H _ I h) ?_)
 rintro c s1 ⟨H1,I1,q1⟩
 cases c with
 | true=>exact hb wh pins s1 σ H1 Q I1 q1
 | false=>exact ⟨H1,I1,q1⟩
theorem ba7 (ha:PT X a tA) (hb:PW X (.BoolOp .Or (b::rest) pos) tB'):PW X (.BoolOp .Or (a::b::rest) pos) (tOr tA tB'):=by
 intro wh pins s σ H Q I h
 refine isTrue_or (thn (ha pins s σ H _ I h) ?_)
 rintro c s1 ⟨H1,I1,q1⟩
 cases c with
 | true=>exact ⟨H1,I1,q1⟩
 | false=>exact hb wh pins s1 σ H1 Q I1 q1
theorem bg8 (ha:PT X a tA):PT X (.UnaryOp .Not a pos) (tNot tA):=by
 intro pins s σ H Q I h
 exact isTrue_not (ha pins s σ H (fun c H1=>Q (!c) H1) I h)
def tIf (t:TT) (ta tb:TE):TE:=fun σ H Q=>t σ H fun c H1=>if c=true then ta σ H1 Q else tb σ H1 Q
theorem ap0 {c:Expr}(hc:PT X c tA) (ha:PE X a ta) (hb:PE X b tb):PE X (.IfExp c a b pos) (tIf tA ta tb):=by
 intro pins s σ H Q I h
 refine wpAny_IfExp (thn (hc pins s σ H _ I h) ?_)
 rintro d s1 ⟨H1,I1,q1⟩
 cases d with
 | true=>exact ha pins s1 σ H1 Q I1 q1
 | false=>exact hb pins s1 σ H1 Q I1 q1
end
def SqL (K:PySem.W.Frag) (H:Hp) (a:Addr) (xs:List V):Prop :=
 Rd H a (.lst xs) ∨
  ∃ (o:Obj) (its:Array Value) (n:Nat),K.lookup a=some o∧o.cls=.type "list"∧o.dict=none∧o.data=.seq its n∧its.size≤sizeLine∧Vals xs its.toList
def SqT (K:PySem.W.Frag) (H:Hp) (a:Addr) (xs:List V):Prop :=
 Rd H a (.tup xs) ∨
  ∃ (o:Obj) (its:Array Value) (n:Nat),K.lookup a=some o∧o.cls=.type "tuple"∧o.data=.seq its n∧its.size≤sizeLine∧Vals xs its.toList
def absV:Value→Option V
 | .none=>some .non
 | .bool b=>some (.bl b)
 | .int i _=>some (.int i)
 | .str x _=>some (.str x)
 | .bytes b _=>some (.byt b)
 | .float b _=>some (.flt b)
 | .ref a=>some (.ref a)
 | .type n=>some (.ty n)
 | _=>none
theorem RelV.abs {x:V}{u:Value}(r:RelV x u):absV u=some x:=by
 cases x with
 | non=>cases r; rfl
 | bl _=>cases r; rfl
 | int _=>obtain ⟨t,rfl⟩:=r; rfl
 | str _=>obtain ⟨t,rfl⟩:=r; rfl
 | byt _=>obtain ⟨t,rfl⟩:=r; rfl
 | flt _=>obtain ⟨t,rfl⟩:=r; rfl
 | ref _=>cases r; rfl
 | ty _=>cases r; rfl
theorem RelV.inj {x y:V}{u:Value}(r:RelV x u) (q:RelV y u):x=y:=Option.some.inj (r.abs.symm.trans q.abs)
theorem Vals.inj:∀ {xs ys:List V}{us:List Value},Vals xs us→Vals ys us→xs=ys
 | _,_,_,.nil,.nil=>rfl
 | _,_,_,.cons r t,.cons r' t'=>by rw [r.inj r',Vals.inj t t']
section
variable {X:Cx}{pins:List (Addr×Obj)}{σ:St} {H:Hp}{s:Shared}{a:Addr}{xs ys:List V}
theorem SqL.of {K:PySem.W.Frag}(h:H a=some (.lst xs)):SqL K H a xs:=.inl (.inl h)
theorem SqT.of {K:PySem.W.Frag}(h:H a=some (.tup xs)):SqT K H a xs:=.inl (.inl h)
theorem Inv.list (I:Inv X pins σ H s) (h:SqL X.K H a xs):∃ its:List Value,Vals xs its∧PlainL s.heap a its.toArray∧xs.length≤sizeLine:=by
 rcases h with h | ⟨o,its,n,hk,hc,hd,hs,hz,r⟩
 · obtain ⟨z,its,n,r,e⟩:=h.ok I.hok
   exact ⟨its,r,⟨_,n,e,rfl,rfl,rfl⟩,z⟩
 · refine ⟨its.toList,r,⟨o,n,I.kIn a o hk,hc,hd,by simpa using hs⟩,?_⟩
   have e:=r.length
   simp only [Array.length_toList] at e
   omega
theorem Inv.tuple (I:Inv X pins σ H s) (h:SqT X.K H a xs):∃ its:List Value,Vals xs its∧IsTup s.heap a its.toArray∧xs.length≤sizeLine:=by
 rcases h with h | ⟨o,its,n,hk,hc,hs,hz,r⟩
 · obtain ⟨z,its,r,p⟩:=h.ok I.hok
   exact ⟨its,r,p,z⟩
 · refine ⟨its.toList,r,⟨o,I.kIn a o hk,hc,n,by simpa using hs⟩,?_⟩
   have e:=r.length
   simp only [Array.length_toList] at e
   omega
theorem Inv.list_inj (I:Inv X pins σ H s) (h:SqL X.K H a xs) (h':SqL X.K H a ys):xs=ys:=by
 obtain ⟨its,r,⟨o,n,e,_,_,d⟩,_⟩:=I.list h
 obtain ⟨its',r',⟨o',n',e',_,_,d'⟩,_⟩:=I.list h'
 rw [e] at e'; cases e'
 rw [d] at d'
 injection d' with d1 _
 have:its=its':=by simpa using congrArg Array.toList d1
 subst this
 exact r.inj r'
theorem Inv.tuple_inj (I:Inv X pins σ H s) (h:SqT X.K H a xs) (h':SqT X.K H a ys):xs=ys:=by
 obtain ⟨its,r,⟨o,e,_,n,d⟩,_⟩:=I.tuple h
 obtain ⟨its',r',⟨o',e',_,n',d'⟩,_⟩:=I.tuple h'
 rw [e] at e'; cases e'
 rw [d] at d'
 injection d' with d1 _
 have:its=its':=by simpa using congrArg Array.toList d1
 subst this
 exact r.inj r'
end
abbrev Cx.wish (X:Cx) (E:Value→Shared→Prop):Cx:={ X with xe:=E }
abbrev Cx.nox (X:Cx):Cx:=X.wish fun _ _=>False
theorem Cx.Ok.wish {X:Cx}(ok:X.Ok) (E:Value→Shared→Prop):(X.wish E).Ok :=
 ⟨ok.mod,ok.kind,ok.glob,ok.blt,ok.above,ok.inj,ok.has,ok.cab,ok.hd,ok.frames,ok.stk,ok.exf,ok.bs,ok.bsz,ok.noex,ok.exfs,ok.funs,ok.frf⟩
theorem Cx.Ok.unwish {X:Cx}{E:Value→Shared→Prop}(ok:(X.wish E).Ok):X.Ok :=
 ⟨ok.mod,ok.kind,ok.glob,ok.blt,ok.above,ok.inj,ok.has,ok.cab,ok.hd,ok.frames,ok.stk,ok.exf,ok.bs,ok.bsz,ok.noex,ok.exfs,ok.funs,ok.frf⟩
section
variable {X:Cx}{pins:List (Addr×Obj)}{σ:St} {H:Hp}{s:Shared}{E:Value→Shared→Prop}
theorem Inv.wish (I:Inv X pins σ H s) (E:Value→Shared→Prop):Inv (X.wish E) pins σ H s:=⟨I.ok.wish E,I.os,I.bare,I.base,I.loc,I.cell,I.free,I.freeC,I.pin,I.hok,I.len⟩
theorem Inv.unwish (I:Inv (X.wish E) pins σ H s):Inv X pins σ H s:=⟨I.ok.unwish,I.os,I.bare,I.base,I.loc,I.cell,I.free,I.freeC,I.pin,I.hok,I.len⟩
theorem SP.unwish {D:Ends}{f:Flow}{s':Shared}(h:SP (X.wish E) pins D f s'):SP X pins D f s':=by
 cases f with
 | next=>obtain ⟨σ',H',I,q⟩:=h; exact ⟨σ',H',I.unwish,q⟩
 | brk=>obtain ⟨σ',H',I,q⟩:=h; exact ⟨σ',H',I.unwish,q⟩
 | cont=>obtain ⟨σ',H',I,q⟩:=h; exact ⟨σ',H',I.unwish,q⟩
 | ret u=>obtain ⟨v,σ',H',I,r,q⟩:=h; exact ⟨v,σ',H',I.unwish,r,q⟩
theorem PSs.nox {st:List Stmt}{t:TS}(h:PSs X.nox st t):PSs X st t:=fun pins s σ H D I hw =>
 wpAny_mono (h pins s σ H D (I.wish _) hw) (fun _ _ q=>q.unwish) fun _ _ z=>False.elim z
end
section
variable {X:Cx}{st:Stmt}{rest:List Stmt}{t u:TS}{e:Expr}{te:TE}{pos:Pos}
def bg9:TS:=fun D σ H=>D.nx σ H
def tSeq (t u:TS):TS:=fun D σ H=>t { D with nx:=u D } σ H
theorem a11:PSs X [] bg9:=fun _ _ σ H _ I h=>wpAny_execs_nil ⟨σ,H,I,h⟩
theorem a02 (h1:PS X st t) (h2:PSs X rest u):PSs X (st::rest) (tSeq t u):=by
 intro pins s σ H D I h
 refine wpAny_execs_cons (thn (h1 pins s σ H { D with nx:=u D } I h) fun f s1 q=>?_)
 cases f with
 | next =>
   obtain ⟨σ',H',I',q⟩:=q
   exact h2 pins s1 σ' H' D I' q
 | ret v=>exact q
 | brk=>exact q
 | cont=>exact q
theorem a04 (h1:PS X st t):PSs X [st] t:=by
 intro pins s σ H D I h
 refine wpAny_execs_cons (thn (h1 pins s σ H D I h) fun f s1 q=>?_)
 cases f with
 | next=>exact wpAny_execs_nil q
 | ret v=>exact q
 | brk=>exact q
 | cont=>exact q
def b73:TS:=fun D σ H=>D.bk σ H
theorem b27:PS X (.Break pos) b73:=fun _ _ σ H _ I h=>wpAny_Break ⟨σ,H,I,h⟩
theorem Inv.quiet {pins:List (Addr×Obj)}{σ:St} {H:Hp}{s:Shared}(I:Inv X pins σ H s):interactive X.env=false:=by simp [interactive,I.ok.kind]
def bh0 (te:TE):TS:=fun D σ H=>te σ H fun _ H1=>D.nx σ H1
theorem a95 (he:PE X e te) (hs:swapsWith e none pos.line X.env=pure false:=by rfl):PS X (.Expr e pos) (bh0 te):=by
 intro pins s σ H D I h
 exact wpAny_Expr_any (thn (he pins s σ H _ I h) (by rintro v s1 ⟨x,H1,I1,r1,q1⟩; exact ⟨σ,H1,I1,q1⟩)) I.quiet hs
def tRet (te:TE):TS:=fun D σ H=>te σ H D.rt
theorem a13 (he:PE X e te):PS X (.Return (some e) pos) (tRet te):=by
 intro pins s σ H D I h
 exact wpAny_Return_some (thn (he pins s σ H _ I h) (by rintro v s1 ⟨x,H1,I1,r1,q1⟩; exact ⟨x,σ,H1,I1,r1,q1⟩))
def tIfS (c:TT) (t u:TS):TS:=fun D σ H=>c σ H fun b H1=>if b=true then t D σ H1 else u D σ H1
theorem a25 {c:Expr}{a b:List Stmt}{tc:TT}(hc:PT X c tc) (ha:PSs X a t) (hb:PSs X b u):PS X (.If c a b pos) (tIfS tc t u):=by
 intro pins s σ H D I h
 refine wpAny_If (thn (hc pins s σ H _ I h) ?_)
 rintro d s1 ⟨H1,I1,q1⟩
 cases d with
 | true=>exact ha pins s1 σ H1 D I1 q1
 | false=>exact hb pins s1 σ H1 D I1 q1
end
abbrev TG:=V→St→Hp→(St→Hp→Prop)→Prop
abbrev TGs:=List V→St→Hp→(St→Hp→Prop)→Prop
def PG (X:Cx) (target:Expr) (t:TG):Prop :=
 ∀ (pins:List (Addr×Obj)) (s:Shared) (σ:St) (H:Hp) (v:V) (u:Value) (Q:St→Hp→Prop),Inv X pins σ H s→RelV v u→t v σ H Q →
  wpAny (model X.prog X.w) X.A (assign target X.env u) (fun _ s'=>∃ σ' H',Inv X pins σ' H' s'∧Q σ' H') X.xe s
def PGs (X:Cx) (ts:List Expr) (t:TGs):Prop :=
 ∀ (pins:List (Addr×Obj)) (s:Shared) (σ:St) (H:Hp) (vs:List V) (us:List Value) (Q:St→Hp→Prop),Inv X pins σ H s→Vals vs us→t vs σ H Q →
  wpAny (model X.prog X.w) X.A (assignInOrder ((assignEach ts X.env).map (·.2)) us) (fun _ s'=>∃ σ' H',Inv X pins σ' H' s'∧Q σ' H') X.xe s
abbrev TSet:=V→V→V→Hp→(Hp→Prop)→Prop
def PSet (X:Cx) (t:TSet):Prop :=
 ∀ (pins:List (Addr×Obj)) (s:Shared) (σ:St) (H:Hp) (o i v:V) (ov iv u:Value) (Q:Hp→Prop),Inv X pins σ H s→RelV o ov→RelV i iv→RelV v u→t o i v H Q →
  wpAny (model X.prog X.w) X.A (setItem ov iv u) (fun _ s'=>∃ H',Inv X pins σ H' s'∧Q H') X.xe s
section
variable {X:Cx}{pos:Pos}
def ab3 (i:Nat):TG:=fun v σ H Q=>Q (σ.set i (some v)) H
theorem a26 {i:Nat}{x:Str}(hN:X.N.Nodup) (hi:X.N[i]?=some x) (hx:Loc X.env.scope x) (hf:X.fn x=true∨X.env.scope.names.lookup x=some .local:=by first | exact .inl rfl | exact .inr rfl | assumption):PG X (.Name x pos) (ab3 i):=by
 intro pins s σ H v u Q I r h
 exact wpAny_assign_Name (ao9 I hN hi hx r (fun s' I'=>⟨_,H,I',h⟩) hf)
def gNil:TGs:=fun vs σ H Q=>vs=[]∧Q σ H
def b28 (t:TG) (u:TGs):TGs:=fun vs σ H Q=>∃ v r,vs=v::r∧t v σ H fun σ' H'=>u r σ' H' Q
theorem am5:PGs X [] gNil:=by
 intro pins s σ H vs us Q I r h
 obtain ⟨e,h⟩:=h
 subst e
 cases r
 exact assignInOrder_nil ⟨σ,H,I,h⟩
theorem a69 {e:Expr}{es:List Expr}{t:TG}{u:TGs}(h1:PG X e t) (h2:PGs X es u)
 (hs:(assignEach (e::es) X.env).map (·.2)=assign e X.env::(assignEach es X.env).map (·.2):=by rfl):PGs X (e::es) (b28 t u):=by
 intro pins s σ H vs us Q I r h
 obtain ⟨v,vr,e1,h⟩:=h
 subst e1
 cases r with
 | cons r rr =>
   rw [hs]
   refine assignInOrder_cons (thn (h1 pins s σ H _ _ _ I r h) ?_)
   rintro _ s1 ⟨σ1,H1,I1,q1⟩
   exact h2 pins s1 σ1 H1 _ _ Q I1 rr q1
def gTup (K:PySem.W.Frag) (n:Nat) (t:TGs):TG:=fun v σ H Q=>∃ a xs,v=.ref a∧SqT K H a xs∧xs.length=n∧t xs σ H Q
theorem bh1 {es:List Expr}{k:Nat}{t:TGs}{n:Nat}(hc:X.calm=true) (h:PGs X es t)
 (hn:(assignEach es X.env).length=n:=by rfl) (hst:(assignEach es X.env).findIdx? (·.1)=none:=by rfl):PG X (.Tuple es k pos) (gTup X.K n t):=by
 intro pins s σ H v u Q I r hw
 obtain ⟨a,xs,e1,hq,hl,hw⟩:=hw
 subst e1
 cases r
 obtain ⟨its,rv,ht,hz⟩:=I.tuple hq
 refine assign_Tuple_tuple (I.ok.hd hc) ht (by simp [hn,←hl,rv.length]) hst fun h' hx=>?_
 have I1:Inv X pins σ H { s with heap:=h' }:=I.kept (t':=s.toks) fun b o e=>hx b o (Nat.ne_of_lt (Heap.lt_size e)) e
 exact h pins _ σ H xs _ Q I1 (by simpa using rv) hw
def gSub (to ti:TE) (t:TSet):TG:=fun v σ H Q=>to σ H fun o H1=>ti σ H1 fun i H2=>t o i v H2 fun H3=>Q σ H3
theorem ap1 {o i:Expr}{to ti:TE}{t:TSet}(ho:PE X o to) (hi:PE X i ti) (hs:PSet X t)
 (ha:∀ v,assign (.Subscript o i pos) X.env v=(do
  let ov←holding [v] (eval o X.env)
  let iv←holding [v,ov] (eval i X.env)
  standAt pos
  holding [v,ov,iv] (setItem ov iv v)
  release [v,ov,iv] []):=by intro _; rfl):PG X (.Subscript o i pos) (gSub to ti t):=by
 intro pins s σ H v u Q I r h
 rw [ha]
 refine wpAny_bind (wpAny_holding (thn (ho pins s σ H _ I h) ?_))
 rintro ov s1 ⟨x,H1,I1,r1,q1⟩
 refine wpAny_bind (wpAny_holding (thn (hi pins s1 σ H1 _ I1 q1) ?_))
 rintro iv s2 ⟨y,H2,I2,r2,q2⟩
 refine wpAny_bind (wpAny_standAt (wpAny_bind (wpAny_holding (thn (hs pins s2 σ H2 x y v ov iv u _ I2 r1 r2 r q2) ?_))))
 rintro _ s3 ⟨H3,I3,q3⟩
 exact wpAny_release ⟨σ,H3,I3,q3⟩
def tAsg (te:TE) (g:TG):TS:=fun D σ H=>te σ H fun x H1=>g x σ H1 D.nx
theorem ap2 {tg e:Expr}{te:TE}{g:TG}(he:PE X e te) (hg:PG X tg g) (hs:swapsWithSole [tg] e pos.line X.env=pure false:=by rfl) (hw:swappedStores [tg] e X.env=pure none:=by rfl)
 (h1:(assignEach [tg] X.env).map (·.2)=[assign tg X.env]:=by rfl):PS X (.Assign [tg] e pos) (tAsg te g):=by
 intro pins s σ H D I h
 refine wpAny_Assign_stores (thn (he pins s σ H _ I h) ?_) hs hw
 rintro v s1 ⟨x,H1,I1,r1,q1⟩
 rw [h1]
 exact thn (hg pins s1 σ H1 x v _ I1 r1 q1) fun _ s2 q=>q
theorem a15 {i:Nat}{x:Str}{e:Expr}{te:TE}{pos':Pos}(hN:X.N.Nodup) (hi:X.N[i]?=some x) (hx:Loc X.env.scope x) (he:PE X e te) (hs:swapsWith e (some (.Name x pos')) pos.line X.env=pure false:=by rfl) (hf:X.fn x=true∨X.env.scope.names.lookup x=some .local:=by first | exact .inl rfl | exact .inr rfl | assumption) :
 PS X (.Assign [.Name x pos'] e pos) (tAsg te (ab3 i)):=by
 intro pins s σ H D I h
 refine wpAny_Assign_Name (thn (he pins s σ H _ I h) ?_) hs
 rintro v s1 ⟨y,H1,I1,r1,q1⟩
 exact ao9 I1 hN hi hx r1 (fun s2 I2=>⟨_,H1,I2,q1⟩) hf
end
section
variable {X:Cx}{pos:Pos}
def b74 (c:TT) (tb:TS):TS:=fun D σ H=>∃ W:Nat→St→Hp→Prop,(∃ m,W m σ H)∧∀ m σ H,W m σ H →
 c σ H fun b H1=>if b=true then ∃ N:St→Hp→Prop,(∀ σ' H',N σ' H'→∃ m',m'<m∧W m' σ' H')∧tb { D with nx:=N,ct:=N,bk:=D.nx } σ H1 else D.nx σ H1
theorem ap3 {c:Expr}{body:List Stmt}{tc:TT}{tb:TS}(hp:PassesOwn (model X.prog X.w) X.A X.env X.xe) (hc:PT X c tc) (hb:PSs X body tb):PS X (.While c body [] pos) (b74 tc tb):=by
 intro pins s σ H D I h
 obtain ⟨W,⟨m0,w0⟩,turn⟩:=h
 refine wpAny_While (codeAny_whileLoop (fun n s'=>∃ σ' H',Inv X pins σ' H' s'∧W n σ' H') ?_ m0 ⟨σ,H,I,w0⟩)
 rintro n s1 ⟨σ1,H1,I1,w1⟩
 refine wpAny_passesOwn hp (thn (hc pins s1 σ1 H1 _ I1 (turn n σ1 H1 w1)) ?_)
 rintro b s2 ⟨H2,I2,q2⟩
 cases b with
 | true =>
   obtain ⟨N,hN,q2⟩:=q2
   rw [if_pos rfl]
   refine wpAny_passesOwn hp (thn (hb pins s2 σ1 H2 _ I2 q2) fun f s3 q3=>?_)
   cases f with
   | next =>
     obtain ⟨σ3,H3,I3,n3⟩:=q3
     obtain ⟨m',hm,w3⟩:=hN σ3 H3 n3
     exact ⟨m',hm,σ3,H3,I3,w3⟩
   | cont =>
     obtain ⟨σ3,H3,I3,n3⟩:=q3
     obtain ⟨m',hm,w3⟩:=hN σ3 H3 n3
     exact ⟨m',hm,σ3,H3,I3,w3⟩
   | brk=>exact q3
   | ret v=>exact q3
 | false =>
   rw [if_neg Bool.false_ne_true]
   exact wpAny_execs_nil ⟨σ1,H2,I2,q2⟩
end
structure It where
 go:Nat→Hp→Prop
 yld:Nat→Hp→V→Hp→Prop
 stop:Nat→Hp→Prop
def FpOk (X:Cx) (pins:List (Addr×Obj)) (H:Hp) (b:Addr):Prop :=
 H b=none∧b≠X.env.locals∧b∉X.fs∧(b∈X.ex∨X.s₀.heap.objs.size≤b)∧(∀ x c,X.env.cells.lookup x=some c→c≠b)∧∀ p∈X.pn++pins,p.1≠b
theorem Inv.fpOk {X:Cx}{pins:List (Addr×Obj)}{σ:St} {H H':Hp}{s:Shared}{b:Addr}(I:Inv X pins σ H s) (hb:s.heap.objs.size≤b) (hn:H' b=none):FpOk X pins H' b:=by
 refine ⟨hn,Nat.ne_of_gt (Nat.lt_of_lt_of_le I.lt hb),I.nofs hb,.inr (Nat.le_trans I.sz hb),fun x c e z=>?_,fun p hp z=>?_⟩
 · obtain ⟨v,q⟩:=I.cell x c e
   exact absurd (Nat.lt_of_lt_of_le q.lt (by rw [z]; exact hb)) (Nat.lt_irrefl _)
 · exact absurd (Nat.lt_of_lt_of_le (Heap.lt_size (I.pin p hp).1) (by rw [z]; exact hb)) (Nat.lt_irrefl _)
structure Turn (P:Program) (w:World) (K:PySem.W.Frag) (tg:Expr) (J:It) (fp:List Addr) (it:Addr) (tn:Nat→Heap→Prop):Prop where
 mem:it∈fp
 obj:∀ i h,tn i h→∀ b∈fp,∃ o,h.get? b=some o∧∀ v,o.data≠.cell v
 keep:∀ i h h',tn i h→(∀ b∈fp,∀ o,h.get? b=some o→h'.get? b=some o)→tn i h'
 item:∀ (X:Cx),X.prog=P→X.w=w→X.K=K→X.calm=true→∀ (i:Nat) (pins:List (Addr×Obj)) (s:Shared) (σ:St) (H:Hp) (E:Value→Shared→Prop),Inv X pins σ H s→(∀ b∈fp,FpOk X pins H b)→tn i s.heap→J.go i H →
  wpAny (model P w) X.A (pyNext (.ref it)) (fun r s1=>∃ u,r=some u ∧
   wpAny (model P w) X.A (letOwnedTupleGo tg (.ref it) u) (fun _ s2=>∃ x H',Inv X pins σ H' s2∧RelV x u∧J.yld i H x H'∧tn (i+1) s2.heap∧∀ b∈fp,H' b=none) E s1) E s
 done:∀ (X:Cx),X.prog=P→X.w=w→X.K=K→X.calm=true→∀ (i:Nat) (pins:List (Addr×Obj)) (s:Shared) (σ:St) (H:Hp) (E:Value→Shared→Prop),Inv X pins σ H s→(∀ b∈fp,FpOk X pins H b)→tn i s.heap→J.stop i H →
  wpAny (model P w) X.A (pyNext (.ref it)) (fun r s1=>r=none∧Inv X pins σ H s1) E s
 self:∀ (A:Around) (i:Nat) (s:Shared) (Q:Value→Shared→Prop) (E:Value→Shared→Prop),tn i s.heap→Q (.ref it) s→wpAny (model P w) A (pyIter (.ref it)) Q E s
abbrev TI:=St→Hp→(It→Hp→Prop)→Prop
def PIE (X:Cx) (pins:List (Addr×Obj)) (σ:St) (tg:Expr) (R:It→Hp→Prop) (itv:Value) (s2:Shared):Prop :=
 ∃ (it:Addr) (fp:List Addr) (tn:Nat→Heap→Prop) (J:It) (H':Hp),itv=.ref it∧Inv X pins σ H' s2∧Turn X.prog X.w X.K tg J fp it tn∧tn 0 s2.heap∧(∀ b∈fp,FpOk X pins H' b)∧R J H'
def PI (X:Cx) (tg iter:Expr) (wi:TI):Prop :=
 ∀ (pins:List (Addr×Obj)) (s:Shared) (σ:St) (H:Hp) (R:It→Hp→Prop),Inv X pins σ H s→wi σ H R →
  wpAny (model X.prog X.w) X.A (eval iter X.env) (fun v s1=>wpAny (model X.prog X.w) X.A (pyIter v) (PIE X pins σ tg R) X.xe s1) X.xe s
theorem b29 {M:Model}{A:Around}{E:Value→Shared→Prop}{s:Shared}{tg:Expr}{it:Addr}{u:Value}{o:Obj}{n:String}{vs:Array Value}{Q:Unit→Shared→Prop}(ho:s.heap.get? it=some o) (hc:o.cls=.type n) (hd:o.data=.fields vs)
 (hn:["enumerate","zip","dict_itemiterator","dict_reverseitemiterator","odict_iterator","itertools.zip_longest","itertools.pairwise"].contains n=false) (hQ:Q () s):wpAny M A (letOwnedTupleGo tg (.ref it) u) Q E s:=by
 unfold letOwnedTupleGo
 cases tg <;> first
  | exact wpAny_pure hQ
  | (cases u <;> first
   | exact wpAny_pure hQ
   | (refine wpAny_bind (wpAny_load ho ?_)
      rw [hc,hd]
      show wpAny M A (if (["enumerate","zip","dict_itemiterator","dict_reverseitemiterator","odict_iterator","itertools.zip_longest","itertools.pairwise"].contains n && vs[0]? == some (rawInt _))=true then _ else _) Q E s
      rw [if_neg (by intro h; rw [hn,Bool.false_and] at h; cases h)]
      exact wpAny_pure hQ))
def Itl (K:PySem.W.Frag) (a:Addr):It :=
 ⟨fun i H=>∃ xs x,SqL K H a xs∧xs[i]?=some x,fun i H x H'=>H'=H∧∀ xs,SqL K H a xs→xs[i]?=some x,fun i H=>∃ xs,SqL K H a xs∧xs.length≤i⟩
def Itt (K:PySem.W.Frag) (a:Addr):It :=
 ⟨fun i H=>∃ xs x,SqT K H a xs∧xs[i]?=some x,fun i H x H'=>H'=H∧∀ xs,SqT K H a xs→xs[i]?=some x,fun i H=>∃ xs,SqT K H a xs∧xs.length≤i⟩
def Itr (lo:Int) (n:Nat):It:=⟨fun i _=>i<n,fun i H x H'=>H'=H∧x=.int (lo+i),fun i _=>n≤i⟩
theorem au6 {P:Program}{w:World}{K:PySem.W.Frag}{tg:Expr}(a it:Addr):Turn P w K tg (Itl K a) [it] it (fun i h=>h.IsListIter it a i) where
 mem:=by simp
 obj:=fun i h st b hb=>by
  have e:b=it:=by simpa using hb
  subst e
  obtain ⟨o,e,c,d⟩:=st
  exact ⟨o,e,fun v z=>by rw [d] at z; cases z⟩
 keep:=fun i h h' st k=>st.at fun o e=>k it (by simp) o e
 item:=by
  intro X hP hw hK hc i pins s σ H E I hf st hg
  subst hP hw hK
  obtain ⟨xs,x,hq,hx⟩:=hg
  obtain ⟨its,rv,p,hz⟩:=I.list hq
  obtain ⟨u,hu,ru⟩:=rv.get hx
  obtain ⟨f0,f1,f2,f3,f4,f5⟩:=hf it (by simp)
  refine wpAny_pyNext_list_item st p.isList (x:=u) (by simpa using hu) fun h' st' sb=>?_
  have I1:Inv X pins σ H { s with heap:=h' }:=I.turned (t':=s.toks) (fun b o hb e=>(sb.2 b hb).trans e) f0 f1 f3 f4 f5
  obtain ⟨o,e,c,d⟩:=id st'
  exact ⟨u,rfl,b29 (s:={ s with heap:=h' }) e c d (by decide) ⟨x,H,I1,ru,⟨rfl,fun ys hy=>by rw [I.list_inj hy hq]; exact hx⟩,st',fun b hb=>(hf b hb).1⟩⟩
 done:=by
  intro X hP hw hK hc i pins s σ H E I hf st hg
  subst hP hw hK
  obtain ⟨xs,hq,hx⟩:=hg
  obtain ⟨its,rv,p,hz⟩:=I.list hq
  obtain ⟨f0,f1,f2,f3,f4,f5⟩:=hf it (by simp)
  have hl:=rv.length
  exact wpAny_pyNext_list_end (I.ok.hd hc) st p.isList (by simp; omega) fun h' eb=>⟨rfl,I.turned (t':=s.toks) (fun b o hb e=>eb b o hb e) f0 f1 f3 f4 f5⟩
 self:=fun _ _ _ _ _ st h=>wpAny_pyIter_listiter st h
theorem as3 {P:Program}{w:World}{K:PySem.W.Frag}{tg:Expr}(a it:Addr):Turn P w K tg (Itt K a) [it] it (fun i h=>h.IsTupleIter it a i) where
 mem:=by simp
 obj:=fun i h st b hb=>by
  have e:b=it:=by simpa using hb
  subst e
  obtain ⟨o,e,c,d⟩:=st
  exact ⟨o,e,fun v z=>by rw [d] at z; cases z⟩
 keep:=fun i h h' st k=>st.at fun o e=>k it (by simp) o e
 item:=by
  intro X hP hw hK hc i pins s σ H E I hf st hg
  subst hP hw hK
  obtain ⟨xs,x,hq,hx⟩:=hg
  obtain ⟨its,rv,p,hz⟩:=I.tuple hq
  obtain ⟨u,hu,ru⟩:=rv.get hx
  obtain ⟨f0,f1,f2,f3,f4,f5⟩:=hf it (by simp)
  refine wpAny_pyNext_tuple_item st (show s.heap.IsTuple a its.toArray from p) (x:=u) (by simpa using hu) fun h' st' sb=>?_
  have I1:Inv X pins σ H { s with heap:=h' }:=I.turned (t':=s.toks) (fun b o hb e=>(sb.2 b hb).trans e) f0 f1 f3 f4 f5
  obtain ⟨o,e,c,d⟩:=id st'
  exact ⟨u,rfl,b29 (s:={ s with heap:=h' }) e c d (by decide) ⟨x,H,I1,ru,⟨rfl,fun ys hy=>by rw [I.tuple_inj hy hq]; exact hx⟩,st',fun b hb=>(hf b hb).1⟩⟩
 done:=by
  intro X hP hw hK hc i pins s σ H E I hf st hg
  subst hP hw hK
  obtain ⟨xs,hq,hx⟩:=hg
  obtain ⟨its,rv,p,hz⟩:=I.tuple hq
  obtain ⟨f0,f1,f2,f3,f4,f5⟩:=hf it (by simp)
  have hl:=rv.length
  exact wpAny_pyNext_tuple_end (I.ok.hd hc) st (show s.heap.IsTuple a its.toArray from p) (by simp; omega) fun h' eb=>⟨rfl,I.turned (t':=s.toks) (fun b o hb e=>eb b o hb e) f0 f1 f3 f4 f5⟩
 self:=fun _ _ _ _ _ st h=>wpAny_pyIter_tupleiter st h
theorem as4 {P:Program}{w:World}{K:PySem.W.Frag}{tg:Expr}(it:Addr) (lo:Int) (n:Nat):Turn P w K tg (Itr lo n) [it] it (fun i h=>IsRangeIter h it (lo+(i:Nat)*1) ((n:Int) - (i:Nat)) 1) where
 mem:=by simp
 obj:=fun i h st b hb=>by
  have e:b=it:=by simpa using hb
  subst e
  exact ⟨_,st,fun v z=>by
   have z':Data.fields _=Data.cell v:=z
   cases z'⟩
 keep:=fun i h h' st k=>k it (by simp) _ st
 item:=by
  intro X hP hw hK hc i pins s σ H E I hf st hg
  subst hP hw hK
  obtain ⟨f0,f1,f2,f3,f4,f5⟩:=hf it (by simp)
  have W:=Walks.range (prog:=X.prog) (w:=X.w) (I.ok.hd hc) it lo 1 n
  refine W.item i s _ _ hg st fun v h' tk hv st' kk=>?_
  obtain ⟨t,rfl⟩:=hv
  have I1:Inv X pins σ H { s with heap:=h',toks:=tk }:=I.turned (fun b o hb e=>kk b o (by simpa using hb) e) f0 f1 f3 f4 f5
  refine ⟨_,rfl,b29 (s:={ s with heap:=h',toks:=tk }) (n:="range_iterator") st' rfl rfl (by decide) ⟨.int (lo+i),H,I1,⟨t,?_⟩,⟨rfl,rfl⟩,st',fun b hb=>(hf b hb).1⟩⟩
  rw [Int.mul_one]
 done:=by
  intro X hP hw hK hc i pins s σ H E I hf st hg
  subst hP hw hK
  obtain ⟨f0,f1,f2,f3,f4,f5⟩:=hf it (by simp)
  exact wpAny_pyNext_range_end (I.ok.hd hc) st (by have:n≤i:=hg; omega) fun h' eb=>⟨rfl,I.turned (t':=s.toks) (fun b o hb e=>eb b o hb e) f0 f1 f3 f4 f5⟩
 self:=fun _ _ _ _ _ st h=>wpAny_pyIter_rangeiter st h
section
variable {X:Cx}{tg:Expr}
def ba8 (K:PySem.W.Frag) (tl:TE):TI:=fun σ H R=>tl σ H fun x H1=>∃ a,x=.ref a∧(∃ xs,SqL K H1 a xs)∧R (Itl K a) H1
def iTup (K:PySem.W.Frag) (tl:TE):TI:=fun σ H R=>tl σ H fun x H1=>∃ a,x=.ref a∧(∃ xs,SqT K H1 a xs)∧R (Itt K a) H1
theorem ba9 {l:Expr}{tl:TE}(hl:PE X l tl):PI X tg l (ba8 X.K tl):=by
 intro pins s σ H R I h
 refine thn (hl pins s σ H _ I h) ?_
 rintro v s1 ⟨x,H1,I1,r1,q1⟩
 obtain ⟨a,e,⟨xs,hq⟩,q⟩:=q1
 subst e
 cases r1
 obtain ⟨its,rv,p,hz⟩:=I1.list hq
 refine wpAny_pyIter_list p.isList ?_
 refine ⟨s1.heap.objs.size,[s1.heap.objs.size],_,_,H1,rfl,I1.kept (t':=s1.toks) fun b o e=>Heap.get?_push_of_some _ e,au6 a _,⟨_,Heap.get?_push_size _ rfl,rfl,rfl⟩,fun b hb=>?_,q⟩
 have e:b=s1.heap.objs.size:=by simpa using hb
 subst e
 exact I1.fpOk (Nat.le_refl _) (I1.hok.fresh (Nat.le_refl _))
theorem bh2 {l:Expr}{tl:TE}(hl:PE X l tl):PI X tg l (iTup X.K tl):=by
 intro pins s σ H R I h
 refine thn (hl pins s σ H _ I h) ?_
 rintro v s1 ⟨x,H1,I1,r1,q1⟩
 obtain ⟨a,e,⟨xs,hq⟩,q⟩:=q1
 subst e
 cases r1
 obtain ⟨its,rv,p,hz⟩:=I1.tuple hq
 refine wpAny_pyIter_tuple (show s1.heap.IsTuple a its.toArray from p) ?_
 refine ⟨s1.heap.objs.size,[s1.heap.objs.size],_,_,H1,rfl,I1.kept (t':=s1.toks) fun b o e=>Heap.get?_push_of_some _ e,as3 a _,⟨_,Heap.get?_push_size _ rfl,rfl,rfl⟩,fun b hb=>?_,q⟩
 have e:b=s1.heap.objs.size:=by simpa using hb
 subst e
 exact I1.fpOk (Nat.le_refl _) (I1.hok.fresh (Nat.le_refl _))
theorem b30 {pins:List (Addr×Obj)}{σ:St} {H:Hp}{s:Shared}{R:It→Hp→Prop}{E:Value→Shared→Prop}{lo hi:Int}{t u v:Tok}{tk:Nat}(I:Inv X pins σ H s) (h1:-(2 ^ 62)≤lo) (h2:lo<2 ^ 62) (h3:-(2 ^ 62)≤hi) (h4:hi<2 ^ 62)
 (q:R (Itr lo (hi - lo).toNat) H):wpAny (model X.prog X.w) X.A (pyIter (.ref s.heap.objs.size)) (PIE X pins σ tg R) E { s with heap:=s.heap.push { cls:=.type "range",data:=.fields #[.int lo t,.int hi u,.int 1 v] },toks:=tk }:=by
 refine wpAny_pyIter_range (IsRange.new ..) (small_one h1 h2 h3 h4) ?_
 have I1:Inv X pins σ H { s with heap:=s.heap.push { cls:=.type "range",data:=.fields #[.int lo t,.int hi u,.int 1 v] },toks:=tk }:=I.kept fun b o e=>Heap.get?_push_of_some _ e
 refine ⟨(s.heap.push { cls:=.type "range",data:=.fields #[.int lo t,.int hi u,.int 1 v] }).objs.size,[(s.heap.push { cls:=.type "range",data:=.fields #[.int lo t,.int hi u,.int 1 v] }).objs.size],_,_,H,rfl,
  I1.kept (t':=tk) fun b o e=>Heap.get?_push_of_some _ e,as4 _ lo (hi - lo).toNat,?_,fun b hb=>?_,q⟩
 · have e1:lo+((0:Nat):Int)*1=lo:=by simp
   have e2:(((hi - lo).toNat:Nat):Int) - ((0:Nat):Int)=Builtin.Range.rangeSize lo hi 1:=by rw [rangeSize_one]; split <;> omega
   show IsRangeIter _ _ (lo+((0:Nat):Int)*1) ((((hi - lo).toNat:Nat):Int) - ((0:Nat):Int)) 1
   rw [e1,e2]
   exact Heap.get?_push_size _ rfl
 · have e:b=(s.heap.push { cls:=.type "range",data:=.fields #[.int lo t,.int hi u,.int 1 v] }).objs.size:=by simpa using hb
   subst e
   exact I1.fpOk (Nat.le_refl _) (I1.hok.fresh (Nat.le_refl _))
def bh3 (ta:TA):TI:=fun σ H R=>ta σ H fun vs H1=>∃ j:Int,vs=[.int j]∧-(2 ^ 62)≤j∧j<2 ^ 62∧R (Itr 0 j.toNat) H1
theorem ab4 {a:Expr}{ta:TA}{p pos:Pos}(hg:Gl X "range") (hm:X.mg "range"=none) (ha:PA X [a] ta) (hs:starEach [a] X.env=[(false,eval a X.env)]:=by rfl):PI X tg (.Call (.Name "range" p) [a] [] pos) (bh3 ta):=by
 intro pins s σ H R I h
 refine Call_ (aa1 I hg hm boot_range (PyProof.Rows.callWith_type1 (thn (ha pos pins s σ H _ I h) ?_) hs rfl))
 rintro us s1 ⟨vs,H1,I1,r1,q1⟩
 obtain ⟨j,e,q1,q2,q⟩:=q1
 subst e
 cases r1 with
 | cons r rr =>
   cases rr
   obtain ⟨t,rfl⟩:=r
   exact call_range_1 (b30 I1 (by omega) (by omega) q1 q2 (by simpa using q))
def tFor (wi:TI) (g:TG) (tb:TS):TS:=fun D σ H=>wi σ H fun J H1=>∃ W:Nat→Nat→St→Hp→Prop,(∃ m,W 0 m σ H1)∧∀ i m σ H,W i m σ H →
 (J.stop i H∧D.nx σ H)∨(J.go i H∧∃ N:St→Hp→Prop,(∀ σ' H',N σ' H'→∃ m',m'<m∧W (i+1) m' σ' H')∧∀ x H',J.yld i H x H'→g x σ H' fun σ2 H2=>tb { D with nx:=N,ct:=N,bk:=D.nx } σ2 H2)
def ai5 (fp:List Addr) (h:Heap):List (Addr×Obj):=fp.filterMap fun b=>(h.get? b).map fun o=>(b,o)
theorem a70 {fp:List Addr}{h:Heap}{b:Addr}{o:Obj}(hb:b∈fp) (e:h.get? b=some o):(b,o)∈ai5 fp h:=List.mem_filterMap.mpr ⟨b,hb,by rw [e]; rfl⟩
theorem au7 {fp:List Addr}{h:Heap}{p:Addr×Obj}(hp:p∈ai5 fp h):p.1∈fp∧h.get? p.1=some p.2:=by
 obtain ⟨b,hb,e⟩:=List.mem_filterMap.mp hp
 cases q:h.get? b with
 | none=>rw [q] at e; cases e
 | some o =>
   rw [q] at e
   have e':(b,o)=p:=Option.some.inj e
   subst e'
   exact ⟨hb,q⟩
theorem Inv.pinned {pins:List (Addr×Obj)}{σ:St} {H:Hp}{s:Shared}{fp:List Addr}(I:Inv X pins σ H s) (hf:∀ b∈fp,FpOk X pins H b) (ho:∀ b∈fp,∃ o,s.heap.get? b=some o∧∀ v,o.data≠.cell v):Inv X (pins++ai5 fp s.heap) σ H s :=
 I.pins_of fun p hp=>(List.mem_append.mp hp).elim (fun z=>I.pin p (List.mem_append_right _ z)) fun z=>by
  obtain ⟨hb,e⟩:=au7 z
  obtain ⟨f0,f1,f2,_⟩:=hf p.1 hb
  obtain ⟨o,e',d⟩:=ho p.1 hb
  rw [e] at e'; cases e'
  exact ⟨e,f0,f1,f2,d⟩
theorem Inv.unpinned {pins pl:List (Addr×Obj)}{σ:St} {H:Hp}{s:Shared}(I:Inv X (pins++pl) σ H s):Inv X pins σ H s:=I.pins_of fun p hp=>I.pin p (List.mem_append_right _ (List.mem_append_left _ hp))
theorem a82 {iter:Expr}{body:List Stmt}{wi:TI}{g:TG}{tb:TS}{pos:Pos}(hp:PassesOwn (model X.prog X.w) X.A X.env X.xe) (hc:X.calm=true) (hi:PI X tg iter wi) (hg:PG X tg g) (hb:PSs X body tb)
 (hs:∀ x,foldedSetIterable iter X.env x=pure x:=by intro _; rfl):PS X (.For tg iter body [] pos) (tFor wi g tb):=by
 intro pins s σ H D I h
 refine wpAny_For (thn (hi pins s σ H _ I h) fun v s1 h1=>thn h1 fun itv s2 h2=>?_) hs
 obtain ⟨it,fp,tn,J,H2,e,I2,T,st2,f2,W,⟨m0,w0⟩,turn⟩:=h2
 subst e
 have stat:∀ {H':Hp},(∀ b∈fp,H' b=none)→∀ b∈fp,FpOk X pins H' b:=fun hn b hb=>⟨hn b hb,(f2 b hb).2⟩
 refine codeAny_forLoop_any (fun n s'=>∃ i σ' H',Inv X pins σ' H' s'∧tn i s'.heap∧(∀ b∈fp,H' b=none)∧W i n σ' H') ?_ m0 ⟨0,σ,H2,I2,st2,fun b hb=>(f2 b hb).1,w0⟩
 rintro n s3 ⟨i,σ3,H3,I3,st3,fr3,w3⟩
 rcases turn i n σ3 H3 w3 with ⟨stop,qn⟩ | ⟨go,N,hN,step⟩
 · refine wpAny_passesOwn hp (thn (T.done X rfl rfl rfl hc i pins s3 σ3 H3 X.xe I3 (stat fr3) st3 stop) ?_)
   rintro r s4 ⟨hr,I4⟩
   subst hr
   exact wpAny_execs_nil ⟨σ3,H3,I4,qn⟩
 · refine wpAny_passesOwn hp (thn (T.item X rfl rfl rfl hc i pins s3 σ3 H3 X.xe I3 (stat fr3) st3 go) ?_)
   rintro r s4 ⟨u,hr,h4⟩
   subst hr
   refine wpAny_passesOwn hp (thn h4 ?_)
   rintro _ s5 ⟨x,H5,I5,r5,y5,st5,fr5⟩
   have I5':=I5.pinned (stat fr5) (T.obj _ _ st5)
   refine wpAny_passesOwn hp (thn (hg _ s5 σ3 H5 x u _ I5' r5 (step x H5 y5)) ?_)
   rintro _ s6 ⟨σ6,H6,I6,q6⟩
   refine wpAny_passesOwn hp (thn (hb _ s6 σ6 H6 _ I6 q6) fun f s7 q7=>?_)
   have again:∀ {σ7:St} {H7:Hp},Inv X (pins++ai5 fp s5.heap) σ7 H7 s7→N σ7 H7→∃ m,m<n∧∃ i σ' H',Inv X pins σ' H' s7∧tn i s7.heap∧(∀ b∈fp,H' b=none)∧W i m σ' H':=fun {σ7 H7} I7 n7=>by
    obtain ⟨m',hm,w7⟩:=hN σ7 H7 n7
    refine ⟨m',hm,i+1,σ7,H7,I7.unpinned,T.keep _ _ _ st5 fun b hb o e=>(I7.pin (b,o) (List.mem_append_right _ (List.mem_append_right _ (a70 hb e)))).1,fun b hb=>?_,w7⟩
    obtain ⟨o,e,d⟩:=T.obj _ _ st5 b hb
    exact (I7.pin (b,o) (List.mem_append_right _ (List.mem_append_right _ (a70 hb e)))).2.1
   cases f with
   | next=>obtain ⟨σ7,H7,I7,n7⟩:=q7; exact again I7 n7
   | cont=>obtain ⟨σ7,H7,I7,n7⟩:=q7; exact again I7 n7
   | brk=>obtain ⟨σ7,H7,I7,q7⟩:=q7; exact ⟨σ7,H7,I7.unpinned,q7⟩
   | ret v=>obtain ⟨x7,σ7,H7,I7,r7,q7⟩:=q7; exact ⟨x7,σ7,H7,I7.unpinned,r7,q7⟩
end
theorem a83 {K:PySem.W.Frag}{a:Addr}{xs:List V}{g:TG}{tb:TS}{D:Ends}{σ:St} {H:Hp}(Pv:Nat→St→Hp→Prop) (h0:Pv 0 σ H) (hl:∀ i σ H,i≤xs.length→Pv i σ H→SqL K H a xs)
 (hs:∀ i x σ H,xs[i]?=some x→Pv i σ H→g x σ H fun σ2 H2=>tb { D with nx:=Pv (i+1),ct:=Pv (i+1),bk:=D.nx } σ2 H2) (hd:∀ σ H,Pv xs.length σ H→D.nx σ H) :
 ∃ W:Nat→Nat→St→Hp→Prop,(∃ m,W 0 m σ H)∧∀ i m σ H,W i m σ H →
  ((Itl K a).stop i H∧D.nx σ H)∨((Itl K a).go i H∧∃ N:St→Hp→Prop,(∀ σ' H',N σ' H'→∃ m',m'<m∧W (i+1) m' σ' H')∧∀ x H',(Itl K a).yld i H x H'→g x σ H' fun σ2 H2=>tb { D with nx:=N,ct:=N,bk:=D.nx } σ2 H2):=by
 refine ⟨fun i m σ H=>m=xs.length - i∧i≤xs.length∧Pv i σ H,⟨xs.length,by simp,Nat.zero_le _,h0⟩,?_⟩
 rintro i m σ H ⟨rfl,hi,p⟩
 have q:=hl i σ H hi p
 by_cases hlt:i<xs.length
 · refine .inr ⟨⟨xs,xs[i],q,by simp [hlt]⟩,Pv (i+1),fun σ' H' p'=>⟨xs.length - (i+1),by omega,rfl,hlt,p'⟩,fun x H' y=>?_⟩
   obtain ⟨e,y⟩:=y
   subst e
   exact hs i x σ _ (y xs q) p
 · have e:i=xs.length:=by omega
   subst e
   exact .inl ⟨⟨xs,q,Nat.le_refl _⟩,hd σ H p⟩
theorem ai6 {lo:Int}{n:Nat}{g:TG}{tb:TS}{D:Ends}{σ:St} {H:Hp}(Pv:Nat→St→Hp→Prop) (h0:Pv 0 σ H)
 (hs:∀ i σ H,i<n→Pv i σ H→g (.int (lo+i)) σ H fun σ2 H2=>tb { D with nx:=Pv (i+1),ct:=Pv (i+1),bk:=D.nx } σ2 H2) (hd:∀ σ H,Pv n σ H→D.nx σ H) :
 ∃ W:Nat→Nat→St→Hp→Prop,(∃ m,W 0 m σ H)∧∀ i m σ H,W i m σ H →
  ((Itr lo n).stop i H∧D.nx σ H)∨((Itr lo n).go i H∧∃ N:St→Hp→Prop,(∀ σ' H',N σ' H'→∃ m',m'<m∧W (i+1) m' σ' H')∧∀ x H',(Itr lo n).yld i H x H'→g x σ H' fun σ2 H2=>tb { D with nx:=N,ct:=N,bk:=D.nx } σ2 H2):=by
 refine ⟨fun i m σ H=>m=n - i∧i≤n∧Pv i σ H,⟨n,by simp,Nat.zero_le _,h0⟩,?_⟩
 rintro i m σ H ⟨rfl,hi,p⟩
 by_cases hlt:i<n
 · refine .inr ⟨hlt,Pv (i+1),fun σ' H' p'=>⟨n - (i+1),by omega,rfl,hlt,p'⟩,fun x H' y=>?_⟩
   obtain ⟨e,y⟩:=y
   subst e y
   exact hs i σ _ hlt p
 · have e:i=n:=by omega
   subst e
   exact .inl ⟨Nat.le_refl _,hd σ H p⟩
abbrev R2:=V→V→Hp→VK→Prop
def OpR (X:Cx) (f:Value→Value→Sem Value) (r:R2):Prop :=
 ∀ (pins:List (Addr×Obj)) (s:Shared) (σ:St) (H:Hp) (x y:V) (v u:Value) (Q:VK),Inv X pins σ H s→RelV x v→RelV y u→r x y H Q →
  wpAny (model X.prog X.w) X.A (f v u) (EP X pins σ Q) X.xe s
def UnR (X:Cx) (f:Value→Sem Value) (r:V→Hp→VK→Prop):Prop :=
 ∀ (pins:List (Addr×Obj)) (s:Shared) (σ:St) (H:Hp) (x:V) (v:Value) (Q:VK),Inv X pins σ H s→RelV x v→r x H Q →
  wpAny (model X.prog X.w) X.A (f v) (EP X pins σ Q) X.xe s
def CallR (X:Cx) (f:Value) (r:List V→Hp→VK→Prop):Prop :=
 ∀ (pins:List (Addr×Obj)) (s:Shared) (σ:St) (H:Hp) (xs:List V) (us:List Value) (Q:VK),Inv X pins σ H s→Vals xs us→r xs H Q →
  wpAny (model X.prog X.w) X.A (call f us) (EP X pins σ Q) X.xe s
def TruR (X:Cx) (r:V→Hp→(Bool→Hp→Prop)→Prop):Prop :=
 ∀ (pins:List (Addr×Obj)) (s:Shared) (σ:St) (H:Hp) (x:V) (v:Value) (Q:Bool→Hp→Prop),Inv X pins σ H s→RelV x v→r x H Q →
  wpAny (model X.prog X.w) X.A (truthy v) (TP X pins σ Q) X.xe s
def tOp (r:R2) (ta tb:TE):TE:=fun σ H Q=>ta σ H fun x H1=>tb σ H1 fun y H2=>r x y H2 Q
def tUn (r:V→Hp→VK→Prop) (ta:TE):TE:=fun σ H Q=>ta σ H fun x H1=>r x H1 Q
def rI (C:Int→Int→Prop) (g:Int→Int→V):R2:=fun x y H Q=>∃ i j,x=.int i∧y=.int j∧C i j∧Q (g i j) H
def rI0 (g:Int→Int→V):R2:=fun x y H Q=>∃ i j,x=.int i∧y=.int j∧Q (g i j) H
def rU (g:Int→V):V→Hp→VK→Prop:=fun x H Q=>∃ i,x=.int i∧Q (g i) H
section
variable {X:Cx}{a b c:Expr}{ta tb tc:TE}{pos:Pos}
theorem binT (ha:PE X a ta) (hb:PE X b tb) {pins:List (Addr×Obj)}{s:Shared}{σ:St} {H:Hp}{R:V→V→Hp→Prop}(I:Inv X pins σ H s)
 (h:ta σ H fun x H1=>tb σ H1 fun y H2=>R x y H2) {Q:Value→Shared→Prop}{f:Value→Value→Sem Value}
 (hf:∀ v u s2 x y H2,Inv X pins σ H2 s2→RelV x v→RelV y u→R x y H2→wpAny (model X.prog X.w) X.A (f v u) Q X.xe s2) :
 wpAny (model X.prog X.w) X.A (eval a X.env) (fun v s₁=>wpAny (model X.prog X.w) X.A (eval b X.env) (fun u s₂=>wpAny (model X.prog X.w) X.A (f v u) Q X.xe s₂) X.xe s₁) X.xe s:=by
 refine thn (ha pins s σ H _ I h) ?_
 rintro v s1 ⟨x,H1,I1,r1,q1⟩
 refine thn (hb pins s1 σ H1 _ I1 q1) ?_
 rintro u s2 ⟨y,H2,I2,r2,q2⟩
 exact hf v u s2 x y H2 I2 r1 r2 q2
theorem a27 {op:Operator}{r:R2}(ho:OpR X (binaryOp op) r) (ha:PE X a ta) (hb:PE X b tb):PE X (.BinOp a op b pos) (tOp r ta tb):=by
 intro pins s σ H Q I h
 exact wpAny_BinOp (binT ha hb I h fun v u s2 x y H2 I2 rx ry q=>ho pins s2 σ H2 x y v u Q I2 rx ry q)
theorem am6 {op:UnaryOp}{r:V→Hp→VK→Prop}(ho:UnR X (unaryOp op) r) (ha:PE X a ta):PE X (.UnaryOp op a pos) (tUn r ta):=by
 intro pins s σ H Q I h
 exact UnaryOp_ (thn (ha pins s σ H _ I h) (by rintro v s1 ⟨x,H1,I1,r1,q1⟩; exact ho pins s1 σ H1 x v Q I1 r1 q1))
theorem opI {f:Value→Value→Sem Value}{C:Int→Int→Prop}{g:Int→Int→Int}
 (rule:∀ (i j:Int) (t u:Tok) (s:Shared) (Q:Value→Shared→Prop) (E:Value→Shared→Prop),C i j→Q (.int (g i j) s.toks) { s with toks:=s.toks+1 }→wpAny (model X.prog X.w) X.A (f (.int i t) (.int j u)) Q E s) :
 OpR X f (rI C fun i j=>.int (g i j)):=by
 intro pins s σ H x y v u Q I rx ry h
 obtain ⟨i,j,rfl,rfl,hc,q⟩:=h
 obtain ⟨t,rfl⟩:=rx
 obtain ⟨t',rfl⟩:=ry
 exact rule i j t t' s _ _ hc ⟨.int (g i j),H,I.tok _,⟨_,rfl⟩,q⟩
theorem opI0 {f:Value→Value→Sem Value}{g:Int→Int→Int}
 (rule:∀ (i j:Int) (t u:Tok) (s:Shared) (Q:Value→Shared→Prop) (E:Value→Shared→Prop),Q (.int (g i j) s.toks) { s with toks:=s.toks+1 }→wpAny (model X.prog X.w) X.A (f (.int i t) (.int j u)) Q E s) :
 OpR X f (rI0 fun i j=>.int (g i j)):=by
 intro pins s σ H x y v u Q I rx ry h
 obtain ⟨i,j,rfl,rfl,q⟩:=h
 obtain ⟨t,rfl⟩:=rx
 obtain ⟨t',rfl⟩:=ry
 exact rule i j t t' s _ _ ⟨.int (g i j),H,I.tok _,⟨_,rfl⟩,q⟩
theorem opB0 {f:Value→Value→Sem Value}{g:Int→Int→Bool}
 (rule:∀ (i j:Int) (t u:Tok) (s:Shared) (Q:Value→Shared→Prop) (E:Value→Shared→Prop),Q (.bool (g i j)) s→wpAny (model X.prog X.w) X.A (f (.int i t) (.int j u)) Q E s) :
 OpR X f (rI0 fun i j=>.bl (g i j)):=by
 intro pins s σ H x y v u Q I rx ry h
 obtain ⟨i,j,rfl,rfl,q⟩:=h
 obtain ⟨t,rfl⟩:=rx
 obtain ⟨t',rfl⟩:=ry
 exact rule i j t t' s _ _ ⟨.bl (g i j),H,I,rfl,q⟩
def CDiv (i j:Int):Prop:=0<j∧j<1073741824
def CPow (i j:Int):Prop:=0≤j∧j≤1000000∧i.natAbs<2 ^ 64
def CMul (i j:Int):Prop:=(-(2 ^ 64)<i∧i<2 ^ 64)∨(-(2 ^ 64)<j∧j<2 ^ 64)
theorem CMul.ok {i j:Int}(h:CMul i j):IntMulOk i j:=by
 rcases h with ⟨h1,h2⟩ | ⟨h1,h2⟩
 · exact .of_left (intBits_le_64 h1 h2)
 · exact .of_right (intBits_le_64 h1 h2)
theorem bh4:OpR X (binaryOp .Add) (rI0 fun i j=>.int (i+j)):=opI0 fun _ _ _ _ _ _ _ q=>add_int q
theorem b75:OpR X (binaryOp .Sub) (rI0 fun i j=>.int (i - j)):=opI0 fun _ _ _ _ _ _ _ q=>sub_int q
theorem bb0:OpR X (binaryOp .FloorDiv) (rI CDiv fun i j=>.int (i / j)):=opI fun i j _ _ _ _ _ hc q=>by
 have h1:(0:Int)<j:=hc.1
 have h2:j<1073741824:=hc.2
 exact floordiv_int (by omega) (by rw [Int.fdiv_eq_ediv_of_nonneg i (by omega)]; exact q) (.inl (PyProof.noPylong_small (by omega)))
theorem ae3:OpR X (binaryOp .Mod) (rI (fun _ j=>0<j) fun i j=>.int (i % j)):=opI fun i j _ _ _ _ _ hc q=>by
 have h1:(0:Int)<j:=hc
 exact mod_int' (by omega) (by rw [Int.fmod_eq_emod_of_nonneg i (by omega)]; exact q)
theorem bh5:OpR X (binaryOp .Pow) (rI CPow fun i j=>.int (i ^ j.toNat)):=opI fun _ _ _ _ _ _ _ hc q=>pow_int_small hc.1 hc.2.1 hc.2.2 q
theorem unI {f:Value→Sem Value}{g:Int→Int}
 (rule:∀ (i:Int) (t:Tok) (s:Shared) (Q:Value→Shared→Prop) (E:Value→Shared→Prop),Q (.int (g i) s.toks) { s with toks:=s.toks+1 }→wpAny (model X.prog X.w) X.A (f (.int i t)) Q E s) :
 UnR X f (rU fun i=>.int (g i)):=by
 intro pins s σ H x v Q I rx h
 obtain ⟨i,rfl,q⟩:=h
 obtain ⟨t,rfl⟩:=rx
 exact rule i t s _ _ ⟨.int (g i),H,I.tok _,⟨_,rfl⟩,q⟩
theorem ab5:UnR X (unaryOp .USub) (rU fun i=>.int (-i)):=unI fun _ _ _ _ _ q=>neg_int q
end
def scal:V→V→Bool
 | .non,.non=>true | .non,.int _=>true | .int _,.non=>true | .non,.bl _=>true | .bl _,.non=>true | .non,.str _=>true | .str _,.non=>true
 | .int _,.int _=>true | .bl _,.bl _=>true | .str _,.str _=>true | .byt _,.byt _=>true
 | .int _,.str _=>true | .str _,.int _=>true | .bl _,.str _=>true | .str _,.bl _=>true
 | _,_=>false
def rEq:R2:=fun x y H Q=>scal x y=true∧Q (.bl (decide (x=y))) H
def rNe:R2:=fun x y H Q=>scal x y=true∧Q (.bl (!decide (x=y))) H
theorem au8 {i j:Int}:decide (V.int i=V.int j)=(i == j):=by
 rw [Bool.eq_iff_iff]
 simp
theorem b76 {i j:Bool}:decide (V.bl i=V.bl j)=(i == j):=by
 rw [Bool.eq_iff_iff]
 simp
theorem au9 {i j:Str}:decide (V.str i=V.str j)=(i == j):=by
 rw [Bool.eq_iff_iff]
 simp
theorem av0 {i j:Array UInt8}:decide (V.byt i=V.byt j)=(i.toList == j.toList):=by
 rw [Bool.eq_iff_iff]
 cases i
 cases j
 simp
section
variable {X:Cx}{a b c:Expr}{ta tb tc:TE}{pos:Pos}
theorem a17 {pins:List (Addr×Obj)}{σ:St} {H:Hp}{s:Shared}{Q:VK}{k k':Bool}(I:Inv X pins σ H s) (q:Q (.bl k) H) (e:k=k'):EP X pins σ Q (.bool k') s:=by
 subst e
 exact ⟨.bl k,H,I,rfl,q⟩
theorem a40:OpR X (compareOp .Eq) rEq:=by
 intro pins s σ H x y v u Q I rx ry h
 obtain ⟨hs,q⟩:=h
 cases x with
 | non =>
   cases rx
   cases y with
   | non=>cases ry; exact PySem.EqNone.eq_none_none (a17 I q (by simp))
   | bl j=>cases ry; exact PySem.EqNone.eq_none_bool (a17 I q (by simp))
   | int j=>obtain ⟨t',rfl⟩:=ry; exact PySem.EqNone.eq_none_int (a17 I q (by simp))
   | str j=>obtain ⟨t',rfl⟩:=ry; exact PySem.EqNone.eq_none_str (a17 I q (by simp))
   | _=>exact absurd (show false=true from hs) Bool.false_ne_true
 | bl i =>
   cases rx
   cases y with
   | non=>cases ry; exact PySem.EqNone.eq_bool_none (a17 I q (by simp))
   | bl j=>cases ry; exact eq_bool (a17 I q b76)
   | str j=>obtain ⟨t',rfl⟩:=ry; exact PySem.EqMixed.eq_bool_str (a17 I q (by simp))
   | _=>exact absurd (show false=true from hs) Bool.false_ne_true
 | int i =>
   obtain ⟨t,rfl⟩:=rx
   cases y with
   | non=>cases ry; exact PySem.EqNone.eq_int_none (a17 I q (by simp))
   | int j=>obtain ⟨t',rfl⟩:=ry; exact eq_int (a17 I q au8)
   | str j=>obtain ⟨t',rfl⟩:=ry; exact PySem.EqMixed.eq_int_str (a17 I q (by simp))
   | _=>exact absurd (show false=true from hs) Bool.false_ne_true
 | str i =>
   obtain ⟨t,rfl⟩:=rx
   cases y with
   | non=>cases ry; exact PySem.EqNone.eq_str_none (a17 I q (by simp))
   | bl j=>cases ry; exact PySem.EqMixed.eq_str_bool (a17 I q (by simp))
   | int j=>obtain ⟨t',rfl⟩:=ry; exact PySem.EqMixed.eq_str_int (a17 I q (by simp))
   | str j=>obtain ⟨t',rfl⟩:=ry; exact eq_str (a17 I q au9)
   | _=>exact absurd (show false=true from hs) Bool.false_ne_true
 | byt i =>
   obtain ⟨t,rfl⟩:=rx
   cases y with
   | byt j=>obtain ⟨t',rfl⟩:=ry; exact PySem.W.eq_bytes (a17 I q av0)
   | _=>exact absurd (show false=true from hs) Bool.false_ne_true
 | _=>cases y <;> exact absurd (show false=true from hs) Bool.false_ne_true
theorem bs3:OpR X (compareOp .NotEq) rNe:=by
 intro pins s σ H x y v u Q I rx ry h
 obtain ⟨hs,q⟩:=h
 cases x with
 | non =>
   cases rx
   cases y with
   | non=>cases ry; exact PySem.EqNone.ne_none_none (a17 I q (by simp))
   | bl j=>cases ry; exact PySem.EqNone.ne_none_bool (a17 I q (by simp))
   | int j=>obtain ⟨t',rfl⟩:=ry; exact PySem.EqNone.ne_none_int (a17 I q (by simp))
   | str j=>obtain ⟨t',rfl⟩:=ry; exact PySem.EqNone.ne_none_str (a17 I q (by simp))
   | _=>exact absurd (show false=true from hs) Bool.false_ne_true
 | bl i =>
   cases rx
   cases y with
   | non=>cases ry; exact PySem.EqNone.ne_bool_none (a17 I q (by simp))
   | bl j=>cases ry; exact ne_bool (a17 I q (congrArg not b76))
   | str j=>obtain ⟨t',rfl⟩:=ry; exact PySem.EqMixed.ne_bool_str (a17 I q (by simp))
   | _=>exact absurd (show false=true from hs) Bool.false_ne_true
 | int i =>
   obtain ⟨t,rfl⟩:=rx
   cases y with
   | non=>cases ry; exact PySem.EqNone.ne_int_none (a17 I q (by simp))
   | int j=>obtain ⟨t',rfl⟩:=ry; exact ne_int (a17 I q (congrArg not au8))
   | str j=>obtain ⟨t',rfl⟩:=ry; exact PySem.EqMixed.ne_int_str (a17 I q (by simp))
   | _=>exact absurd (show false=true from hs) Bool.false_ne_true
 | str i =>
   obtain ⟨t,rfl⟩:=rx
   cases y with
   | non=>cases ry; exact PySem.EqNone.ne_str_none (a17 I q (by simp))
   | bl j=>cases ry; exact PySem.EqMixed.ne_str_bool (a17 I q (by simp))
   | int j=>obtain ⟨t',rfl⟩:=ry; exact PySem.EqMixed.ne_str_int (a17 I q (by simp))
   | str j=>obtain ⟨t',rfl⟩:=ry; exact ne_str (a17 I q (congrArg not au9))
   | _=>exact absurd (show false=true from hs) Bool.false_ne_true
 | byt i =>
   obtain ⟨t,rfl⟩:=rx
   cases y with
   | byt j=>obtain ⟨t',rfl⟩:=ry; exact PySem.W.ne_bytes (a17 I q (congrArg not av0))
   | _=>exact absurd (show false=true from hs) Bool.false_ne_true
 | _=>cases y <;> exact absurd (show false=true from hs) Bool.false_ne_true
theorem bh6:OpR X (compareOp .Lt) (rI0 fun i j=>.bl (decide (i<j))):=opB0 fun _ _ _ _ _ _ _ q=>lt_int q
theorem b31:OpR X (compareOp .Gt) (rI0 fun i j=>.bl (decide (j<i))):=opB0 fun _ _ _ _ _ _ _ q=>gt_int q
theorem bb1:OpR X (compareOp .IsNot) (fun x y H Q=>y=.non∧Q (.bl (!decide (x=.non))) H):=by
 intro pins s σ H x y v u Q I rx ry h
 obtain ⟨rfl,q⟩:=h
 cases ry
 refine isnot_none_gen (a17 I q ?_)
 cases x <;> first
  | (cases rx; rfl)
  | (obtain ⟨t,rfl⟩:=rx; rfl)
theorem nomark (b:Expr) {op:CmpOp}(h:op≠.In:=by decide) (h2:op≠.NotIn:=by decide):behindInMarks op b=false:=by
 have e1:(op == CmpOp.In)=false:=by cases op <;> first | rfl | exact absurd rfl h
 have e2:(op == CmpOp.NotIn)=false:=by cases op <;> first | rfl | exact absurd rfl h2
 cases b <;> simp [behindInMarks,e1,e2]
def bh7 (t:TE):TT:=fun σ H Q=>t σ H fun x H'=>∃ k,x=.bl k∧Q k H'
theorem a05 {op:CmpOp}{r:R2}(ho:OpR X (compareOp op) r) (ha:PE X a ta) (hb:PE X b tb) (hm:behindInMarks op b=false):PT X (.Compare a [op] [b] pos) (bh7 (tOp r ta tb)):=by
 intro pins s σ H Q I h
 refine wpAny_isTrue_Compare1 (thn (ha pins s σ H _ I h) fun v s1 ⟨x,H1,I1,r1,q1⟩=>thn (hb pins s1 σ H1 _ I1 q1) fun u s2 ⟨y,H2,I2,r2,q2⟩ =>
  thn (ho pins s2 σ H2 x y v u _ I2 r1 r2 q2) fun c s3 ⟨z,H3,I3,r3,k,e,q3⟩=>?_) hm
 subst e
 cases r3
 exact wpAny_truthy_bool ⟨H3,I3,q3⟩
def TruV (K:PySem.W.Frag) (x:V) (H:Hp) (k:Bool):Prop :=
 match x with
 | .non=>k=false
 | .bl b=>k=b
 | .int i=>k=(i != 0)
 | .str y=>y.length≤sizeLine∧k=((y.length:Int) != 0)
 | .byt y=>y.size≤sizeLine∧k=((y.size:Int) != 0)
 | .ref p=>(∃ xs,SqL K H p xs∧k=!xs.isEmpty)∨(∃ xs,SqT K H p xs∧k=!xs.isEmpty)∨∃ kvs,H p=some (.dK kvs)∧k=!kvs.isEmpty
 | _=>False
theorem as5 {κ:Type} {kvs:List (κ×V)}{vs:List (κ×Value)}(r:KV kvs vs):(!vs.isEmpty)=!kvs.isEmpty:=by
 cases r <;> rfl
theorem ae4 {xs:List V}{its:List Value}(r:Vals xs its):(!its.toArray.isEmpty)=!xs.isEmpty:=by
 cases r <;> simp
theorem ai7:(sizeLine:Nat)<2 ^ 63:=by rw [sizeLine_eq]; decide
theorem bh8:TruR X (fun x H Q=>∃ k,TruV X.K x H k∧Q k H):=by
 intro pins s σ H x v Q I rx h
 obtain ⟨k,e,q⟩:=h
 have hl:=ai7
 have hs:sizeLine=16777216:=sizeLine_eq
 cases x with
 | non =>
   cases rx
   have e':k=false:=e
   subst e'
   exact truthy_none ⟨H,I,q⟩
 | bl b =>
   cases rx
   have e':k=b:=e
   subst e'
   exact wpAny_truthy_bool ⟨H,I,q⟩
 | int i =>
   obtain ⟨t,rfl⟩:=rx
   have e':k=(i != 0):=e
   subst e'
   exact PySem.P.truthy_int ⟨H,I,q⟩
 | str y =>
   obtain ⟨t,rfl⟩:=rx
   obtain ⟨hy,e'⟩:y.length≤sizeLine∧k=((y.length:Int) != 0):=e
   subst e'
   exact PySem.P.truthy_str (by omega) ⟨H,I.tok _,q⟩
 | byt y =>
   obtain ⟨t,rfl⟩:=rx
   obtain ⟨hy,e'⟩:y.size≤sizeLine∧k=((y.size:Int) != 0):=e
   subst e'
   exact PySem.W.truthy_bytes (by omega) ⟨H,I.tok _,q⟩
 | ref p =>
   cases rx
   have e':(∃ xs,SqL X.K H p xs∧k=!xs.isEmpty)∨(∃ xs,SqT X.K H p xs∧k=!xs.isEmpty)∨∃ kvs,H p=some (.dK kvs)∧k=!kvs.isEmpty:=e
   rcases e' with ⟨xs,hx,e'⟩ | ⟨xs,hx,e'⟩ | ⟨kvs,hx,e'⟩
   · subst e'
     obtain ⟨its,r,pl,hz⟩:=I.list hx
     have hlen:=r.length
     exact wpAny_truthy_list pl.isList (by simp only [List.size_toArray]; omega) ⟨H,I.tok _,by rw [ae4 r]; exact q⟩
   · subst e'
     obtain ⟨its,r,pl,hz⟩:=I.tuple hx
     have hlen:=r.length
     exact truthy_tuple pl (by simp only [List.size_toArray]; omega) ⟨H,I.tok _,by rw [ae4 r]; exact q⟩
   · subst e'
     obtain ⟨hz,hS,vs,r,m⟩:kvs.length≤sizeLine∧(p == sysModules)=false∧∃ vs,KV kvs vs∧s.heap.DictOf (a34 X.prog X.w) p vs:=I.hok p _ hx
     have hlen:kvs.length=vs.length:=Paired.length r
     exact wpAny_truthy_dict hS m (by omega) ⟨H,I.tok _,by rw [as5 r]; exact q⟩
 | _=>exact (show False from e).elim
theorem b32 (ha:PE X a ta) (he:∀ whole,isTrue a X.env whole=(do let v←whole; standAt a.pos; holding [v] (truthy v))) :
 PT X a (fun σ H Q=>ta σ H fun x H'=>∃ k,TruV X.K x H' k∧Q k H'):=by
 intro pins s σ H Q I h
 exact isTrue_plain (thn (ha pins s σ H _ I h) (by rintro v s1 ⟨x,H1,I1,r1,q1⟩; exact bh8 pins s1 σ H1 x v Q I1 r1 q1)) (he _)
theorem as6:OpR X (binaryOp .Add) (fun x y H Q=>∃ i j,x=.str i∧y=.str j∧i.length+j.length≤sizeLine∧Q (.str (i++j)) H):=by
 intro pins s σ H x y v u Q I rx ry h
 obtain ⟨i,j,rfl,rfl,hz,q⟩:=h
 obtain ⟨t,rfl⟩:=rx
 obtain ⟨t',rfl⟩:=ry
 exact add_str (fun t' tk=>⟨.str (i++j),H,I.tok _,⟨_,rfl⟩,q⟩) hz
theorem am7 {x:V}{us:List Value}(r:Vals [x] us):∃ u,us=[u]∧RelV x u:=by
 cases r with
 | cons r1 r2=>cases r2; exact ⟨_,rfl,r1⟩
theorem bh9 {x y:V}{us:List Value}(r:Vals [x,y] us):∃ u w',us=[u,w']∧RelV x u∧RelV y w':=by
 cases r with
 | cons r1 r2 =>
   cases r2 with
   | cons r3 r4=>cases r4; exact ⟨_,_,rfl,r1,r3⟩
theorem b33:CallR X (.builtin "abs") (fun xs H Q=>∃ i,xs=[.int i]∧Q (.int (if i<0 then -i else i)) H):=by
 intro pins s σ H xs us Q I r h
 obtain ⟨i,rfl,q⟩:=h
 obtain ⟨u,rfl,t,rfl⟩:=am7 r
 exact call_abs_int fun u tk=>⟨.int (if i<0 then -i else i),H,I.tok _,⟨_,rfl⟩,q⟩
def LenV (K:PySem.W.Frag) (x:V) (H:Hp) (n:Nat):Prop :=
 match x with
 | .str y=>y.length≤sizeLine∧n=y.length
 | .byt y=>y.size≤sizeLine∧n=y.size
 | .ref p=>(∃ xs,SqL K H p xs∧n=xs.length)∨∃ xs,SqT K H p xs∧n=xs.length
 | _=>False
theorem b34:CallR X (.builtin "len") (fun xs H Q=>∃ x n,xs=[x]∧LenV X.K x H n∧Q (.int n) H):=by
 intro pins s σ H xs us Q I r h
 obtain ⟨x,n,rfl,e,q⟩:=h
 obtain ⟨u,rfl,rx⟩:=am7 r
 have hl:=ai7
 have hs:sizeLine=16777216:=sizeLine_eq
 cases x with
 | str y =>
   obtain ⟨t,rfl⟩:=rx
   obtain ⟨hy,e'⟩:y.length≤sizeLine∧n=y.length:=e
   subst e'
   exact len_str (by omega) ⟨.int _,H,I.tok _,⟨_,rfl⟩,q⟩
 | byt y =>
   obtain ⟨t,rfl⟩:=rx
   obtain ⟨hy,e'⟩:y.size≤sizeLine∧n=y.size:=e
   subst e'
   exact PySem.W.len_bytes (by omega) ⟨.int _,H,I.tok _,⟨_,rfl⟩,q⟩
 | ref p =>
   cases rx
   have e':(∃ xs,SqL X.K H p xs∧n=xs.length)∨∃ xs,SqT X.K H p xs∧n=xs.length:=e
   rcases e' with ⟨xs,hx,e'⟩ | ⟨xs,hx,e'⟩
   · subst e'
     obtain ⟨its,r',pl,hz⟩:=I.list hx
     have hlen:=r'.length
     exact Calls.call_len_list pl.isList (by simp only [List.size_toArray]; omega) ⟨.int xs.length,H,I.tok _,⟨_,by simp only [List.size_toArray]; rw [hlen]⟩,q⟩
   · subst e'
     obtain ⟨its,r',pl,hz⟩:=I.tuple hx
     have hlen:=r'.length
     exact len_tuple pl (by simp only [List.size_toArray]; omega) ⟨.int xs.length,H,I.tok _,⟨_,by simp only [List.size_toArray]; rw [hlen]⟩,q⟩
 | _=>exact (show False from e).elim
end
structure ObjM (h:Heap) (x dx C:Addr) (mA:Str→Option Value):Prop where
 obj:h.get? x=some (PySem.W.instObj C dx)
 ns:h.Ns1 dx mA
 ne:dx≠x
theorem av1 {h:Heap}{dx:Addr}{mA:Str→Option Value}(n:h.Ns1 dx mA):∃ od,h.get? dx=some od∧∀ name,PySem.W.lookIn name od=some (mA name):=by
 obtain ⟨o,es,ep,ho,hd,hk,_,hm⟩:=n
 refine ⟨o,ho,fun name=>?_⟩
 have e:=hm name
 unfold nsFind findBy at e
 rw [← Array.find?_toList] at e
 unfold PySem.W.lookIn
 rw [hd]
 dsimp only
 split
 · rename_i y q
   rw [q] at e
   exact congrArg some e
 · rename_i q
   rw [q] at e
   have a:es.toList.any (·.refKey)=false:=by
    rw [List.any_eq_false]
    intro y hy
    obtain ⟨z,t,hkey⟩:=hk y (Array.mem_toList_iff.mp hy)
    simp [DictEntry.refKey,hkey]
   have a':¬ es.toList.any (·.refKey)=true:=by rw [a]; exact Bool.false_ne_true
   rw [if_neg a']
   exact congrArg some e
theorem ObjM.look {h:Heap}{x dx C:Addr}{mA:Str→Option Value}(I:ObjM h x dx C mA):∃ od,PySem.W.InstAt h x (PySem.W.instObj C dx) C (some od)∧∀ name,PySem.W.lookIn name od=some (mA name) :=
 let ⟨od,ho,hl⟩:=av1 I.ns
 ⟨od,⟨I.obj,rfl,rfl,ho⟩,hl⟩
section
variable {prog:Program}{w:World}{A:Around}{E:Value→Shared→Prop}{s:Shared}{K:PySem.W.Frag}{x dx C f:Addr}{mA:Str→Option Value}{name:Str}{v:Value}
end
def putF (f:Str) (v:V):List (Str×V)→List (Str×V)
 | []=>[(f,v)]
 | (g,x)::r=>if g=f then (g,v)::r else (g,x)::putF f v r
theorem RelO.some_of {v:V}{o:Option Value}(r:RelO (some v) o):∃ u,o=some u∧RelV v u:=by
 cases o with
 | none=>exact (show False from r).elim
 | some u=>exact ⟨u,rfl,r⟩
section
variable {P:Program}{w:World}{H H':Hp}{h h':Heap}{a C dx:Addr}{fs fs':List (Str×V)}
theorem bb2 (hok:HOk P w H h) (e:H a=some (.ins C dx fs)):∃ mA,ObjM h a dx C mA∧(∀ f,RelO (fs.lookup f) (mA f))∧PySem.Within mA (fs.map (·.1))∧fs.length≤1000∧H dx=some (.own a):=by
 obtain ⟨d,z,ne,ob,mA,n,r,q⟩:=(show ObjOk P w H h a (.ins C dx fs) from hok a _ e)
 exact ⟨mA,⟨ob,n,ne⟩,r,q,z,d⟩
end
structure Cls (K:PySem.W.Frag) (C:Addr):Prop where
 pg:PySem.W.plainGet K C Str.empty=true
 hd:PySem.W.hasDictIn K C=true
 po:PySem.W.plainOver K C=true
 sa:PySem.W.findIn K (.ref C) "__setattr__"=some (some (.builtin "object.__setattr__"))
theorem Cls.get {K:PySem.W.Frag}{C:Addr}(c:Cls K C) (f:Str):PySem.W.plainGet K C f=true:=c.pg
def bi0 (K:PySem.W.Frag) (C:Addr) (f:Str):Prop:=PySem.W.findIn K (.ref C) f=some none
structure Meth (K:PySem.W.Frag) (C:Addr) (m:Str) (f:Addr):Prop where
 at_:PySem.W.findIn K (.ref C) m=some (some (.ref f))
 fn:PySem.W.isFn K (.ref f)=true
 kp:PySem.W.keepIn K (.ref f)=true
section
variable {X:Cx}{pins:List (Addr×Obj)}{σ:St} {H:Hp}{s:Shared}{a C dx:Addr}{fs:List (Str×V)}{f:Str}{v:V}{A:Around}{E:Value→Shared→Prop}
end
section
variable {X:Cx}{o e value:Expr}{f:Str}{pos pos' tpos:Pos}{ta tv:TE}
end
section
variable {X:Cx}{pins:List (Addr×Obj)}{σ:St} {H:Hp}{s:Shared}{A:Around}{E:Value→Shared→Prop}{Q:Value→Shared→Prop}{c:Value}{b:Bool}
inductive TyOf (K:PySem.W.Frag) (H:Hp):V→Value→Prop where
 | non:TyOf K H .non (.type "NoneType")
 | bl (x:Bool):TyOf K H (.bl x) (.type "bool")
 | int (i:Int):TyOf K H (.int i) (.type "int")
 | str (x:Str):TyOf K H (.str x) (.type "str")
 | flt (x:UInt64):TyOf K H (.flt x) (.type "float")
 | lst {a:Addr}{xs:List V}(e:H a=some (.lst xs)):TyOf K H (.ref a) (.type "list")
 | frz {a:Addr}{o:Obj}{xs:List V}(e:H a=some (.frz o (.lst xs))):TyOf K H (.ref a) (.type "list")
 | tup {a:Addr}{xs:List V}(e:H a=some (.tup xs)):TyOf K H (.ref a) (.type "tuple")
 | dK {a:Addr}{kvs:List (Key×V)}(e:H a=some (.dK kvs)):TyOf K H (.ref a) (.type "dict")
 | dT {a:Addr}{kvs:List (List Key×V)}(e:H a=some (.dT kvs)):TyOf K H (.ref a) (.type "dict")
 | ins {a C dx:Addr}{fs:List (Str×V)}(e:H a=some (.ins C dx fs)) (cl:Cls K C) (ha:PySem.W.findIn K (.ref C) "__class__"=some (some (.builtin "object.__class__")))
  (hn:PySem.W.specialIn K (.builtin "object.__class__") "__get__"=some (some (.builtin "getset_descriptor.__get__"))) (htk:PySem.W.takesIn K (.builtin "object.__class__")=some true)
  (hm:PySem.W.mroIn K C (.type "object")=some true):TyOf K H (.ref a) (.ref C)
theorem av2 {x:V}{u t:Value}(I:Inv X pins σ H s) (rx:RelV x u) (ty:TyOf X.K H x t) (e:PySem.W.kitOne X.K t c=some b) (h:∀ tk,Q (.bool b) { s with toks:=tk }) :
 wpAny (model X.prog X.w) A (call (.builtin "isinstance") [u,c]) Q E s:=by
 cases ty with
 | non=>cases (show u=Value.none from rx); exact PySem.W.kia_one PySem.W.kitx_none I.kIn True.intro e (fun z=>nomatch z) h
 | bl y=>cases (show u=Value.bool y from rx); exact PySem.W.kia_one PySem.W.kitx_bool I.kIn True.intro e (fun z=>nomatch z) h
 | int i=>obtain ⟨t,q⟩:=(show ∃ t,u=Value.int i t from rx); cases q; exact PySem.W.kia_one PySem.W.kitx_int I.kIn True.intro e (fun z=>nomatch z) h
 | str y=>obtain ⟨t,q⟩:=(show ∃ t,u=Value.str y t from rx); cases q; exact PySem.W.kia_one PySem.W.kitx_str I.kIn True.intro e (fun z=>nomatch z) h
 | flt y=>obtain ⟨t,q⟩:=(show ∃ t,u=Value.float y t from rx); cases q; exact PySem.W.kia_one PySem.W.kitx_float I.kIn True.intro e (fun z=>nomatch z) h
 | @lst a xs ea =>
   cases (show u=Value.ref a from rx)
   obtain ⟨_,_,n,_,h1⟩:=(show ObjOk X.prog X.w H s.heap a (.lst xs) from I.hok a _ ea)
   exact PySem.W.kia_one PySem.W.kitx_list I.kIn ⟨_,h1,rfl⟩ e (fun z=>nomatch z) h
 | @frz a ob xs ea =>
   cases (show u=Value.ref a from rx)
   obtain ⟨_,_,_,n,_,h1⟩:=(show ObjOk X.prog X.w H s.heap a (.frz ob (.lst xs)) from I.hok a _ ea)
   exact PySem.W.kia_one PySem.W.kitx_list I.kIn ⟨_,h1,rfl⟩ e (fun z=>nomatch z) h
 | @tup a xs ea =>
   cases (show u=Value.ref a from rx)
   obtain ⟨_,_,_,p⟩:=(show ObjOk X.prog X.w H s.heap a (.tup xs) from I.hok a _ ea)
   obtain ⟨o,h1,h2,_⟩:=p
   exact PySem.W.kia_one PySem.W.kitx_tuple I.kIn ⟨o,h1,h2⟩ e (fun z=>nomatch z) h
 | @dK a kvs ea =>
   cases (show u=Value.ref a from rx)
   obtain ⟨_,_,vs,_,p⟩:=(show ObjOk X.prog X.w H s.heap a (.dK kvs) from I.hok a _ ea)
   obtain ⟨o,es,ep,h1,h2,_⟩:=p
   exact PySem.W.kia_one PySem.W.kitx_dict I.kIn ⟨o,h1,h2.1⟩ e (fun z=>nomatch z) h
 | @dT a kvs ea =>
   cases (show u=Value.ref a from rx)
   obtain ⟨_,_,xs,_,o,es,ep,h1,h2,_⟩:=(show ObjOk X.prog X.w H s.heap a (.dT kvs) from I.hok a _ ea)
   exact PySem.W.kia_one PySem.W.kitx_dict I.kIn ⟨o,h1,h2.1⟩ e (fun z=>nomatch z) h
 | @ins a C dx fs ea cl ha hn htk hm =>
   cases (show u=Value.ref a from rx)
   obtain ⟨mA,O,_⟩:=bb2 I.hok ea
   obtain ⟨od,J,_⟩:=O.look
   exact PySem.W.kia_one (PySem.W.kitx_own (cl.get _) cl.hd ha hn htk hm) I.kIn J e (fun z=>nomatch z) h
end
structure Room (k:Nat) (A:Around):Prop where
 hd:A.handled=none
 dp:A.depth+3*k+5<recursionLimit
 un:A.units+16*k+200<cLine
theorem Room.mono {j k:Nat}{A:Around}(r:Room k A) (h:j≤k):Room j A:=⟨r.hd,by have:=r.dp; omega,by have:=r.un; omega⟩
theorem Room.deeper {k:Nat}{A:Around}(r:Room (k+1) A) (env:Env):Room k (A.deeper env) :=
 ⟨r.hd,by have:=r.dp; show A.depth+1+3*k+5<_; omega,by have:=r.un; show A.units+3+16*k+200<_; omega⟩
theorem Room.depth {k:Nat}{A:Around}(r:Room k A):A.depth<recursionLimit:=by have:=r.dp; omega
theorem Room.units {k:Nat}{A:Around}(r:Room k A):A.units+64<cLine:=by have:=r.un; omega
def tNil:TA:=fun _ H Q=>Q [] H
def tCons (ta:TE) (tr:TA):TA:=fun σ H Q=>ta σ H fun x H1=>tr σ H1 fun xs H2=>Q (x::xs) H2
section
variable {X:Cx}{e:Expr}{es:List Expr}{te:TE}{t:TA}{pos:Pos}
theorem a01:PA X [] tNil:=fun _ _ _ _ H Q I h=>Calls.spliced_nil ⟨[],H,I,.nil,h⟩
theorem a00 (ha:PE X e te) (hr:PA X es t) (hs:starEach (e::es) X.env=(false,eval e X.env)::starEach es X.env:=by rfl):PA X (e::es) (tCons te t):=by
 intro pos pins s σ H Q I h
 rw [hs]
 show wpAny _ _ (spliced ((false,eval e X.env)::backTo pos (starEach es X.env))) _ _ s
 refine Calls.spliced_cons (thn (ha pins s σ H _ I h) ?_)
 rintro u s1 ⟨x,H1,I1,r1,q1⟩
 exact thn (hr pos pins s1 σ H1 _ I1 q1) (by rintro us s2 ⟨xs,H2,I2,r2,q2⟩; exact ⟨x::xs,H2,I2,.cons r1 r2,q2⟩)
end
abbrev Sp:=List V→Hp→VK→XK→Prop
abbrev CXT:=List Env→Hp→Shared→XK→Value→Shared→Prop
structure Env0 (P:Program) (w:World) (K:PySem.W.Frag) (mg:Str→Option Value) (base:Heap) (A:Around) (outer:List Env) (s:Shared) (H:Hp):Prop where
 frames:A.frames=some outer
 mod:Mod K mg base
 bs:∀ b o,base.get? b=some o→s.heap.get? b=some o∧H b=none
 bsz:base.objs.size≤s.heap.objs.size
 funs:s.heap.FunFrames base outer
 frf:∀ b∈frs outer,H b=none
 hok:HOk P w H s.heap
 bare:AllBare s.gens
def CE (outer:List Env) (P:Program) (w:World) (H:Hp) (s:Shared) (Q:VK) (u:Value) (s':Shared):Prop :=
 ∃ v H',s'.os=s.os∧AllBare s'.gens∧Un (frs outer) [] H H' s.heap s'.heap∧HOk P w H' s'.heap∧RelV v u∧Q v H'
def CR (CX:CXT) (outer:List Env) (P:Program) (w:World) (H:Hp) (s:Shared) (Q:VK) (E:XK) (r:Result) (s':Shared):Prop :=
 match r with
 | .ok (.ret u)=>CE outer P w H s Q u s'
 | .ok _=>False
 | .error e=>CX outer H s E e s'
structure FnOk (P:Program) (w:World) (K:PySem.W.Frag) (mg:Str→Option Value) (base:Heap) (CX:CXT) (k:Nat) (f:Addr) (fd:FuncData) (ps:List Str) (sp:Sp):Prop where
 len:∀ vs H Q E,sp vs H Q E→vs.length=ps.length
 run:∀ (A:Around) (outer:List Env) (s:Shared) (H:Hp) (args:Args) (us:List Value) (vs:List V) (Q:VK) (E:XK),Room k A→Env0 P w K mg base A outer s H→BindsTo s fd args (ps.zip us)→Vals vs us→sp vs H Q E →
  codeAny (model P w) A (.call (.ref f) args) (CR CX outer P w H s Q E) s
section
variable {X:Cx}{pins:List (Addr×Obj)}{σ:St} {H:Hp}{s s':Shared}
theorem Inv.env0 (I:Inv X pins σ H s):Env0 X.prog X.w X.K X.mg X.base X.A X.stack s H :=
 ⟨I.ok.frames,I.ok.mod,I.bs,Nat.le_trans I.ok.bsz I.sz,I.stack,I.stkFree,I.hok,I.bare⟩
theorem Inv.after {Q:VK}{u:Value}(I:Inv X pins σ H s) (h:CE X.stack X.prog X.w H s Q u s'):EP X pins σ Q u s':=by
 obtain ⟨v,H',os,bare,un,hok,r,q⟩:=h
 obtain ⟨hh,g,d,t,os'⟩:=s'
 obtain rfl:os'=s.os:=os
 exact ⟨v,H',I.call (h':=hh) (g':=g) (d':=d) (t':=t) (ch:=[]) un hok bare (fun b z=>absurd z (by simp)),r,q⟩
end
def bi1 (sp:Sp) (dvs:List V) (E:XK) (t:TA):TE:=fun σ H Q=>t σ H fun vs H1=>sp (vs++dvs) H1 Q E
def Binds (K:PySem.W.Frag) (fd:FuncData) (ps:List Str) (ds:List Value):Prop :=
 ∀ (s:Shared) (us:List Value),K.In s.heap→(us++ds).length=ps.length→BindsTo s fd ⟨us,[]⟩ (ps.zip (us++ds))
theorem Binds.all {K:PySem.W.Frag}{fd:FuncData}{ps:List Str}(h:∀ us:List Value,us.length=ps.length→bindArgs fd ⟨us,[]⟩=pure (ps.zip us)):Binds K fd ps []:=fun s us _ hl=>by
 rw [List.append_nil] at hl ⊢
 exact .of_eq (h us hl)
def av3 (CX:CXT) (X:Cx) (E:XK):Prop:=∀ (pins:List (Addr×Obj)) (σ:St) (H:Hp) (s:Shared) (e:Value) (s':Shared),Inv X pins σ H s→CX X.stack H s E e s'→X.xe e s'
section
variable {X:Cx}{CX:CXT}{k:Nat}{f C:Addr}{fd:FuncData}{ps:List Str}{sp:Sp}{dvs:List V}{ds:List Value}{E:XK}{x m:Str}{p pos apos:Pos}{e o:Expr}{es:List Expr}{ta:TE}{t:TA}
theorem bi2 {pins:List (Addr×Obj)}{σ:St} {H:Hp}{s:Shared}{Q:VK}{us:List Value}{vs:List V}(F:FnOk X.prog X.w X.K X.mg X.base CX k f fd ps sp) (hr:Room k X.A) (hb:Binds X.K fd ps ds) (hd:Vals dvs ds) (hx:av3 CX X E)
 (I:Inv X pins σ H s) (r:Vals vs us) (h:sp (vs++dvs) H Q E):wpAny (model X.prog X.w) X.A (call (.ref f) us) (EP X pins σ Q) X.xe s:=by
 have r2:Vals (vs++dvs) (us++ds):=r.append hd
 have hl:(us++ds).length=ps.length:=by rw [← r2.length]; exact F.len _ _ _ _ h
 refine wpAny_call (codeAny_mono (F.run X.A X.stack s H ⟨us,[]⟩ (us++ds) (vs++dvs) Q E hr I.env0 (hb s us I.kIn hl) r2 h) fun r s' hq=>?_)
 cases r with
 | error e=>exact hx pins σ H s e s' I hq
 | ok fl =>
   cases fl with
   | ret u=>exact I.after hq
   | next=>exact False.elim hq
   | brk=>exact False.elim hq
   | cont=>exact False.elim hq
theorem a08 (F:FnOk X.prog X.w X.K X.mg X.base CX k f fd ps sp) (hr:Room k X.A) (hg:Gl X x) (hm:X.mg x=some (.ref f)) (hk:PySem.W.keepIn X.K (.ref f)=true) (hb:Binds X.K fd ps ds) (hd:Vals dvs ds) (hx:av3 CX X E)
 (ha:PA X (e::es) t) (hdb:(x == ("__debug__":Str))=false:=by decide) (he:starEach (e::es) X.env=(false,eval e X.env)::starEach es X.env:=by rfl) (hpl:(backTo pos (starEach es X.env)).any (·.1)=false:=by rfl) :
 PE X (.Call (.Name x p) (e::es) [] pos) (bi1 sp dvs E t):=by
 intro pins s σ H Q I h
 refine wpAny_Call_Name_kw (au4 I hg hm ?_ hdb)
 refine PySem.W.callWith_K (h₀:=X.base) I.ok.mod.kin hk (thn (ha pos pins s σ H _ I h) ?_) he hpl
 rintro us s1 ⟨vs,H1,I1,r,q⟩
 refine ⟨I1.kIn,?_⟩
 exact bi2 F hr hb hd hx I1 r q
structure Mk (K:PySem.W.Frag) (C f:Addr):Prop where
 makes:PySem.W.makesIn K C=true
 init:PySem.W.findIn K (.ref C) "__init__"=some (some (.ref f))
 fn:PySem.W.isFn K (.ref f)=true
 kp:PySem.W.keepIn K (.ref C)=true
end
section
variable {X:Cx}{CX:CXT}{k:Nat}{f C:Addr}{fd:FuncData}{ps ks:List Str}{sp:Sp}{E:XK}{x m:Str}{p pos apos kpos:Pos}{e o:Expr}{es:List Expr}{kws:List Keyword}{te ta:TE}{t tk:TA}{nm:Option Str}
variable {g:List Value→List Value→List Value}{gV:List V→List V→List V}
end
structure FnScope (N P:List Str) (sc:Scope):Prop where
 kind:sc.kind=.function
 co:sc.isCoroutine=false
 gen:sc.isGenerator=false
 nd:N.Nodup
 pre:N.take P.length=P
 par:∀ x∈P,sc.names.lookup x=some .local∨sc.names.lookup x=some .cell
 nofree:∀ y∈sc.names,y.2≠.free
theorem ai8 {kindOf:Str→Option NameKind}{x:Str}:∀ {binds:List (Str×Value)}{m:Str→Option Value},(∀ v,(x,v)∉binds)→bindL kindOf binds m x=m x
 | [],_,_=>rfl
 | (n,v)::r,m,h=>by
   unfold bindL
   rw [ai8 fun w hw=>h w (List.mem_cons_of_mem _ hw)]
   split
   · have:x≠n:=by rintro rfl; exact h v List.mem_cons_self
     simp [this]
   · rfl
theorem ai9 {kindOf:Str→Option NameKind}{x:Str}:∀ {binds:List (Str×Value)}{m:Str→Option Value},(∀ v,(x,v)∉binds)→bindC kindOf binds m x=m x
 | [],_,_=>rfl
 | (n,v)::r,m,h=>by
   unfold bindC
   rw [ai9 fun w hw=>h w (List.mem_cons_of_mem _ hw)]
   split
   · rfl
   · have:x≠n:=by rintro rfl; exact h v List.mem_cons_self
     simp [this]
theorem aj0 {kindOf:Str→Option NameKind}{x:Str}{v:Value}:∀ {P:List Str}{vs:List Value}{i:Nat}{m:Str→Option Value},P.Nodup→P[i]?=some x→vs[i]?=some v→kindOf x=some .local →
 bindL kindOf (P.zip vs) m x=some v
 | [],_,_,_,_,h,_,_=>by simp at h
 | _::_,[],_,_,_,_,h,_=>by simp at h
 | p::P,w::vs,0,m,nd,h1,h2,hk=>by
   simp at h1 h2; subst h1; subst h2
   show bindL kindOf ((p,w)::P.zip vs) m p=_
   unfold bindL
   rw [ai8 fun v hv=>(List.nodup_cons.mp nd).1 (List.of_mem_zip hv).1,if_pos hk]
   simp
 | p::P,w::vs,i+1,m,nd,h1,h2,hk=>by
   show bindL kindOf ((p,w)::P.zip vs) m x=_
   unfold bindL
   exact aj0 (i:=i) (List.nodup_cons.mp nd).2 (by simpa using h1) (by simpa using h2) hk
theorem aj1 {kindOf:Str→Option NameKind}{x:Str}{v:Value}:∀ {P:List Str}{vs:List Value}{i:Nat}{m:Str→Option Value},P.Nodup→P[i]?=some x→vs[i]?=some v→kindOf x≠some .local →
 bindC kindOf (P.zip vs) m x=some v
 | [],_,_,_,_,h,_,_=>by simp at h
 | _::_,[],_,_,_,_,h,_=>by simp at h
 | p::P,w::vs,0,m,nd,h1,h2,hk=>by
   simp at h1 h2; subst h1; subst h2
   show bindC kindOf ((p,w)::P.zip vs) m p=_
   unfold bindC
   rw [ai9 fun v hv=>(List.nodup_cons.mp nd).1 (List.of_mem_zip hv).1,if_neg hk]
   simp
 | p::P,w::vs,i+1,m,nd,h1,h2,hk=>by
   show bindC kindOf ((p,w)::P.zip vs) m x=_
   unfold bindC
   exact aj1 (i:=i) (List.nodup_cons.mp nd).2 (by simpa using h1) (by simpa using h2) hk
def start (N:List Str) (vs:List V):St:=vs.map some++List.replicate (N.length - vs.length) none
def cxOf (CX:CXT) (P:Program) (w:World) (K:PySem.W.Frag) (mg:Str→Option Value) (base:Heap) (N:List Str) (qual:Str) (scope:Scope) (f:Addr) (cd:Value) (A:Around) (outer:List Env) (s:Shared) (H:Hp) (E:XK):Cx where
 prog:=P
 w:=w
 K:=K
 mg:=mg
 base:=base
 A:=A.deeper (envOfC qual scope s.heap.objs.size f cd)
 N:=N
 s₀:=s
 H₀:=H
 env:=envOfC qual scope s.heap.objs.size f cd
 outer:=outer
 stack:=envOfC qual scope s.heap.objs.size f cd::outer
 ex:=[]
 calm:=true
 fn:=fun _=>true
 pn:=[]
 xe:=fun e s'=>wpAny (model P w) (A.deeper (envOfC qual scope s.heap.objs.size f cd)) (leaving (envOfC qual scope s.heap.objs.size f cd) e) (fun _ s''=>CX outer H s E e s'') (fun e' s''=>CX outer H s E e' s'') s'
theorem ap4 {sc:Scope}{n:Nat}{x:Str}(h:sc.names.lookup x=some .cell):∃ c,(cellsFrom n sc.names []).lookup x=some c:=by
 have q:=PySem.W.cellsFrom_some sc.names n [] (.inl h)
 exact Option.isSome_iff_exists.mp q
theorem av4 {CX:CXT}{P:Program}{w:World}{K:PySem.W.Frag}{mg:Str→Option Value}{base:Heap}{N ps:List Str}{qual:Str}{scope:Scope}{f:Addr}{cd:Value}{A:Around}{outer:List Env}{s s1:Shared}{H:Hp}{E:XK}{us:List Value}{vs:List V}
 (S:FnScope N ps scope) (hd:A.handled=none) (e0:Env0 P w K mg base A outer s H) (hl:vs.length=ps.length) (r:Vals vs us)
 (x:InCallC s s.heap.objs.size (bindL (envOfC qual scope s.heap.objs.size f cd).kindOf (ps.zip us) fun _=>none) (cellsFrom (s.heap.objs.size+1) scope.names []) (bindC (envOfC qual scope s.heap.objs.size f cd).kindOf (ps.zip us) fun _=>none) s1) :
 Inv (cxOf CX P w K mg base N qual scope f cd A outer s H E) [] (start N vs) H s1:=by
 have hpl:ps.length≤N.length:=by have:=congrArg List.length S.pre; rw [List.length_take] at this; omega
 obtain ⟨h1,tk,rfl,hk⟩:=x.done
 have noA:∀ b:Addr,b∉(cxOf CX P w K mg base N qual scope f cd A outer s H E).ex:=fun b z=>absurd (show b∈([]:List Addr) from z) (by simp)
 refine ⟨⟨e0.mod,S.kind,rfl,rfl,Nat.le_refl _,fun y z c h1 h2=>?_,fun y hy=>?_,fun y c _ h=>?_,fun _=>hd,Around.frames_deeper e0.frames,.inr ⟨rfl,rfl⟩,fun b z=>absurd z (noA b),e0.bs,e0.bsz,fun b _ _=>noA b,fun b z=>absurd z (noA b),e0.funs,e0.frf⟩,
  rfl,e0.bare,Un.kept hk,⟨_,x.toInCall.ns,fun i y v h1 h2 h3=>?_⟩,fun y c h=>⟨_,x.cell y c h⟩,e0.hok.fresh (Nat.le_refl _),fun y c h=>?_,fun p hp=>absurd (show p∈([]:List (Addr×Obj)) from hp) (by simp),e0.hok.kept hk,?_⟩
 · exact name_of_addr x.apart (PySem.mem_of_lookup h1) (PySem.mem_of_lookup h2)
 · have hy:scope.names.lookup y=some .cell∨scope.names.lookup y=some .free:=hy
   rcases hy with hy | hy
   · exact ap4 hy
   · exact absurd rfl (S.nofree _ (PySem.mem_of_lookup hy))
 · exact Nat.le_of_lt (x.above y c (PySem.mem_of_lookup h))
 · have hi:i<vs.length:=by
    unfold start at h2
    by_cases hi:i<vs.length
    · exact hi
    · rw [List.getElem?_append_right (by simpa using hi)] at h2
      rw [List.getElem?_replicate] at h2
      split at h2 <;> cases h2
   have ha:vs[i]?=some v:=by
    unfold start at h2
    rw [List.getElem?_append_left (by simpa using hi),List.getElem?_map] at h2
    cases e:vs[i]? with
    | none=>rw [e] at h2; cases h2
    | some a=>rw [e] at h2; cases h2; rfl
   obtain ⟨u,hu,rv⟩:=r.get ha
   have hp:ps[i]?=some y:=by
    rw [← S.pre,List.getElem?_take_of_lt (by omega)]; exact h1
   have ndP:ps.Nodup:=by rw [← S.pre]; exact S.nd.sublist (List.take_sublist _ _)
   refine ⟨u,rv,?_⟩
   rcases S.par y (List.mem_of_getElem? hp) with k | k
   · exact .inl ⟨k,aj0 ndP hp hu k⟩
   · obtain ⟨c,e⟩:=ap4 (n:=s.heap.objs.size+1) k
     refine .inr ⟨.inl k,c,e,?_⟩
     have q:=x.cell y c e
     rw [aj1 ndP hp hu (by show scope.names.lookup y≠_; rw [k]; decide)] at q
     exact q
 · exact e0.hok.fresh (Nat.le_of_lt (x.above y c (PySem.mem_of_lookup h)))
 · unfold start
   show _=N.length
   rw [List.length_append,List.length_map,List.length_replicate]
   omega
theorem bs4 {CX:CXT}{P:Program}{w:World}{K:PySem.W.Frag}{mg:Str→Option Value}{base:Heap}{k:Nat}{f:Addr}{name qual:Str}{params:Arguments}{body:List Stmt}{scope:Scope}{dV kV doc pm cdv ct oc:Value}{an od:Option Addr}
 {osl:Array (Option Value)}{N ps:List Str}{sp:Sp}(lk:K.lookup f=some ⟨oc,od,.func (PySem.W.fnOf name qual params body scope dV kV doc pm an cdv ct),osl⟩) (hcd:PySem.W.codeIn K cdv qual=true) (S:FnScope N ps scope)
 (len:∀ vs H Q E,sp vs H Q E→vs.length=ps.length)
 (hbody:∀ (A:Around) (outer:List Env) (s:Shared) (H:Hp) (vs:List V) (Q:VK) (E:XK),Room k (A.deeper (envOfC qual scope s.heap.objs.size f cdv))→sp vs H Q E →
  ∃ t,PSs (cxOf CX P w K mg base N qual scope f cdv A outer s H E) body t∧t { nx:=fun _ H'=>Q .non H',rt:=Q } (start N vs) H) :
 FnOk P w K mg base CX (k+1) f (PySem.W.fnOf name qual params body scope dV kV doc pm an cdv ct) ps sp:=by
 refine ⟨len,fun A outer s H args us vs Q E hr e0 hb r hsp=>?_⟩
 have hl:=len _ _ _ _ hsp
 have KX:K.In s.heap:=e0.mod.kin.keeps fun b o e=>(e0.bs b o e).1
 have lim:s.heap.NoLimit:=e0.mod.nolimit.keeps fun b o e=>(e0.bs b o e).1
 have hkind:∀ y∈ps.zip us,scope.names.lookup y.1=some .local∨(scope.names.lookup y.1=some .cell∧((cellsFrom (s.heap.objs.size+1) scope.names []).lookup y.1).isSome=true):=fun ⟨n,v⟩ hy=>by
  rcases S.par n (List.of_mem_zip hy).1 with q | q
  · exact .inl q
  · exact .inr ⟨q,PySem.W.cellsFrom_some _ _ _ (.inl q)⟩
 refine codeAny_call_function hr.depth (KX _ _ lk) rfl S.co S.gen rfl (PySem.W.codeRec_of KX hcd) (hb _ _ _ _ ?_)
 refine wpAny_newFunctionEnv_cells S.kind hkind fun env he s1 x=>?_
 subst he
 refine ⟨lim.keeps x.toInCall.keep,codeAny_func ?_⟩
 obtain ⟨t,ht,hq⟩:=hbody A outer s H vs Q E (hr.deeper _) hsp
 have I:Inv (cxOf CX P w K mg base N qual scope f cdv A outer s H E) [] (start N vs) H s1:=av4 S hr.hd e0 hl r x
 refine wpAny_mono (ht [] s1 (start N vs) H _ I hq) (fun fl s' hs=>?_) fun e s' hs=>hs
 have fin:∀ {σ':St} {H':Hp}{v:V}{u:Value},Inv (cxOf CX P w K mg base N qual scope f cdv A outer s H E) [] σ' H' s'→RelV v u→Q v H'→CE outer P w H s Q u s' :=
  fun {σ' H' v u} J rv q=>⟨v,H',J.os,J.bare,J.base,J.hok,rv,q⟩
 cases fl with
 | ret u =>
   obtain ⟨v,σ',H',J,rv,q⟩:=hs
   exact fin J rv q
 | next =>
   obtain ⟨σ',H',J,q⟩:=hs
   exact fin (v:=V.non) (u:=Value.none) J rfl q
 | brk =>
   obtain ⟨_,_,_,q⟩:=hs
   exact False.elim q
 | cont =>
   obtain ⟨_,_,_,q⟩:=hs
   exact False.elim q
section
variable {X:Cx}{x:Str}{p pos:Pos}{e:Expr}{es:List Expr}{t:TA}{id T:String}{r:List V→Hp→VK→Prop}
def tCB (r:List V→Hp→VK→Prop) (t:TA):TE:=fun σ H Q=>t σ H fun vs H1=>r vs H1 Q
theorem a71 (hc:CallR X (.builtin id) r) (hg:Gl X x) (hm:X.mg x=none) (hv:bootBuiltins x=some (.builtin id)) (ha:PA X (e::es) t) (hn:x≠"__name__":=by decide) (hdb:(x == ("__debug__":Str))=false:=by decide)
 (he:starEach (e::es) X.env=(false,eval e X.env)::starEach es X.env:=by rfl) (hpl:(backTo pos (starEach es X.env)).any (·.1)=false:=by rfl):PE X (.Call (.Name x p) (e::es) [] pos) (tCB r t):=by
 intro pins s σ H Q I h
 refine wpAny_Call_Name_kw (aa1 I hg hm hv ?_ hn hdb)
 exact PyProof.Rows.callWith_builtin1 (thn (ha pos pins s σ H _ I h) (by rintro us s1 ⟨vs,H1,I1,r1,q1⟩; exact hc pins s1 σ H1 vs us Q I1 r1 q1)) he hpl
theorem a51 (hc:CallR X (.type T) r) (hg:Gl X x) (hm:X.mg x=none) (hv:bootBuiltins x=some (.type T)) (ha:PA X (e::es) t) (hn:x≠"__name__":=by decide) (hdb:(x == ("__debug__":Str))=false:=by decide)
 (he:starEach (e::es) X.env=(false,eval e X.env)::starEach es X.env:=by rfl) (hpl:(backTo pos (starEach es X.env)).any (·.1)=false:=by rfl):PE X (.Call (.Name x p) (e::es) [] pos) (tCB r t):=by
 intro pins s σ H Q I h
 refine wpAny_Call_Name_kw (aa1 I hg hm hv ?_ hn hdb)
 exact PyProof.Rows.callWith_type1 (thn (ha pos pins s σ H _ I h) (by rintro us s1 ⟨vs,H1,I1,r1,q1⟩; exact hc pins s1 σ H1 vs us Q I1 r1 q1)) he hpl
end
end L2
namespace HT
open PySem PyProof.Rows
section
open PySem.SeqAt
open PySem.AutoSeq1 (wpAny_loadPart')
open PySem.MeetsSeq PySem.MeetsSeq2 PySem.MeetsSeq3
end
section
variable {prog:Program}{w:World}{A:Around}{E:Value→Shared→Prop}{s:Shared}
def sIx (n d:Nat):Option Int→Nat
 | none=>d
 | some v=>if v<0 then (v+(n:Int)).toNat else min v.toNat n
theorem sIx_none (n d:Nat):sIx n d none=d:=rfl
theorem sIx_nat (n d k:Nat):sIx n d (some (k:Int))=min k n:=by
 show (if (k:Int)<0 then ((k:Int)+(n:Int)).toNat else min (k:Int).toNat n)=min k n
 rw [if_neg (by omega),Int.toNat_natCast]
theorem bi3 (n d:Nat) (hd:d≤n) (o:Option Int):sIx n d o≤n:=by
 cases o with
 | none=>exact hd
 | some v =>
   show (if v<0 then (v+(n:Int)).toNat else min v.toNat n)≤n
   by_cases hv:v<0
   · rw [if_pos hv]; omega
   · rw [if_neg hv]; exact Nat.min_le_right _ _
theorem av5 (v:Int) (n d:Nat):(if v<0 then max (v+(n:Int)) 0 else min v (n:Int))=((sIx n d (some v):Nat):Int):=by
 show (if v<0 then max (v+(n:Int)) 0 else min v (n:Int))=(((if v<0 then (v+(n:Int)).toNat else min v.toNat n):Nat):Int)
 by_cases hv:v<0
 · simp only [if_pos hv]; omega
 · simp only [if_neg hv]; omega
theorem as7 (lo hi:Option Int) (n:Nat):Builtin.Slice.sliceAdjust lo hi 1 (n:Int)=(((sIx n 0 lo:Nat):Int),((sIx n n hi:Nat):Int)):=by
 have h1:¬ ((1:Int)<0):=by omega
 unfold Builtin.Slice.sliceAdjust
 simp only [h1,if_false]
 refine Prod.ext ?_ ?_
 · cases lo with
   | none=>rfl
   | some v=>exact av5 v n 0
 · cases hi with
   | none=>rfl
   | some v=>exact av5 v n n
theorem as8 (i j:Nat):Builtin.Slice.slicePlaces (i:Int) (j:Int) 1=j - i:=by
 unfold Builtin.Slice.slicePlaces
 have h1:(1:Int) > 0:=by omega
 simp only [h1,if_true,Int.ediv_one]
 split <;> omega
theorem ae5 {v:Value}{o:Option Int}{Q:Option Int→Shared→Prop}(p:IsPart v o) (h:Q o s):wpAny (model prog w) A (Builtin.Slice.slicePartIndex v) Q E s:=by
 cases p with
 | none=>exact slicePart_none h
 | int i t=>exact slicePart_int h
theorem aa5 {sl:Addr}{vl vu:Value}{lo hi:Option Int}{n:Nat}{Q:Int×Int×Nat→Shared→Prop}(hs:s.heap.IsSliceOf sl vl vu .none) (pl:IsPart vl lo) (pu:IsPart vu hi)
 (h:Q (((sIx n 0 lo:Nat):Int),1,sIx n n hi - sIx n 0 lo) s):wpAny (model prog w) A (Builtin.Slice.sliceApplied (.ref sl) (pure (n:Int))) Q E s:=by
 obtain ⟨os,hos,hcs,hds⟩:=id hs
 unfold Builtin.Slice.sliceApplied Builtin.Slice.sliceFields
 refine wpAny_bind (wpAny_bind (wpAny_field hos hds (x:=vl) rfl (wpAny_bind (wpAny_field hos hds (x:=vu) rfl (wpAny_bind (wpAny_field hos hds (x:=.none) rfl (wpAny_pure ?_)))))))
 refine wpAny_bind (slicePart_none ?_)
 show wpAny _ _ (if ((1:Int) == 0)=true then _ else _) _ _ s
 rw [if_neg (by decide)]
 refine wpAny_bind (ae5 pl (wpAny_bind (ae5 pu (wpAny_bind (wpAny_pure ?_)))))
 show wpAny _ _ (match Builtin.Slice.sliceAdjust lo hi 1 (n:Int) with | (lo,hi)=>pure (lo,(1:Int),Builtin.Slice.slicePlaces lo hi 1)) _ _ s
 rw [as7 lo hi n]
 show wpAny _ _ (pure (((sIx n 0 lo:Nat):Int),(1:Int),Builtin.Slice.slicePlaces ((sIx n 0 lo:Nat):Int) ((sIx n n hi:Nat):Int) 1)) _ _ s
 rw [as8]
 exact wpAny_pure h
theorem b35 (xs:Array Value) (i k:Nat):((List.range k).filterMap fun (m:Nat)=>xs[((i:Int)+(m:Int)*1).toNat]?).toArray=((xs.toList.drop i).take k).toArray:=by
 have e:(fun (m:Nat)=>xs[((i:Int)+(m:Int)*1).toNat]?)=fun m=>xs[i+m]?:=by
  funext m
  have:((i:Int)+(m:Int)*1).toNat=i+m:=by omega
  rw [this]
 rw [e]
 have:=pick_run xs i k
 rw [List.filterMap_map] at this
 have e2:((fun x=>xs[x]?)∘fun x=>i+x)=fun m=>xs[i+m]?:=rfl
 rw [e2] at this
 rw [this]
theorem getItem_tuple_cut {t sl:Addr}{items:Array Value}{vl vu:Value}{lo hi:Option Int}{Q:Value→Shared→Prop}(ht:IsTup s.heap t items) (hs:s.heap.IsSliceOf sl vl vu .none) (pl:IsPart vl lo) (pu:IsPart vu hi)
 (hw:¬ (sIx items.size 0 lo=0∧sIx items.size items.size hi=items.size))
 (h:Q (.ref s.heap.objs.size) { s with heap:=s.heap.push { cls:=.type "tuple",data:=.seq ((items.toList.drop (sIx items.size 0 lo)).take (sIx items.size items.size hi - sIx items.size 0 lo)).toArray } })
 (hsz:items.size≤sizeLine):wpAny (model prog w) A (getItem (.ref t) (.ref sl)) Q E s:=by
 have htake:sizeOk (.seq ((items.toList.drop (sIx items.size 0 lo)).take (sIx items.size items.size hi - sIx items.size 0 lo)).toArray):=by
  show ((items.toList.drop (sIx items.size 0 lo)).take (sIx items.size items.size hi - sIx items.size 0 lo)).toArray.size≤sizeLine
  rw [List.size_toArray,List.length_take,List.length_drop,Array.length_toList]
  omega
 have hj:sIx items.size items.size hi≤items.size:=bi3 _ _ (Nat.le_refl _) hi
 obtain ⟨os,hos,hcs,hds⟩:=id hs
 have hTs:s.TypeIs (.ref sl) "slice":=⟨os,hos,hcs⟩
 unfold getItem
 try with_reducible refine wpAny_holding ?_
 first | refine wpAny_bind (wpAny_pure ?_) | skip
 refine wpAny_bind (wpAny_sequenceKey ht.typeIs (by decide) ?_)
 refine wpAny_bind (wpAny_callSpecial?_slot (name:=Str.ofString "__getitem__") ht.typeIs PyProof.Rows.slot_tuple_getitem
  (wpAny_call_entry PyProof.Rows.slot_tuple_getitem ht.typeIs entry_tuple_getitem ?_ (args_tuple_getitem _ _)))
 show wpAny _ _ (Builtin.Tuple.tupleItemsOf (.ref t) >>= _) _ _ s
 refine wpAny_bind (tupleItemsOf_ ht ?_)
 refine wpAny_bind (wpAny_typeOf hTs ?_)
 rw [if_pos (by decide)]
 refine wpAny_bind (aa5 hs pl pu ?_)
 have hno:¬ ((((sIx items.size 0 lo:Nat):Int) == 0 && (1:Int) == 1 && (sIx items.size items.size hi - sIx items.size 0 lo) == items.size)=true):=by
  intro q
  rw [Bool.and_eq_true,Bool.and_eq_true] at q
  have q1:((sIx items.size 0 lo:Nat):Int)=0:=eq_of_beq q.1.1
  have q2:sIx items.size items.size hi - sIx items.size 0 lo=items.size:=eq_of_beq q.2
  exact hw ⟨by omega,by omega⟩
 show wpAny _ _ (if (((sIx items.size 0 lo:Nat):Int) == 0 && (1:Int) == 1 && (sIx items.size items.size hi - sIx items.size 0 lo) == items.size)=true then _ else _) _ _ s
 rw [if_neg hno,b35]
 first
  | exact wpAny_bind (m:=Builtin.Tuple.tupleExact _) (wpAny_newObj_type (wpAny_pure ⟨_,rfl,wpAny_pure h⟩) htake)
  | exact wpAny_bind (m:=Builtin.Tuple.tupleExact _) (wpAny_newObj_type (wpAny_bind (wpAny_pure (wpAny_pure ⟨_,rfl,wpAny_pure h⟩))) htake)
  | exact wpAny_bind (wpAny_bind (m:=Builtin.Tuple.tupleExact _) (wpAny_newObj_type (wpAny_pure (wpAny_pure ⟨_,rfl,wpAny_pure h⟩)) htake))
  | exact wpAny_bind (wpAny_bind (m:=Builtin.Tuple.tupleExact _) (wpAny_newObj_type (wpAny_pure ⟨_,rfl,wpAny_pure h⟩) htake))
end
end HT
namespace L2
open PySem PySem.Spec PyProof.Rows
abbrev TO:=St→Hp→(Option Int→Hp→Prop)→Prop
def PO (X:Cx) (e:Option Expr) (t:TO):Prop :=
 ∀ (pins:List (Addr×Obj)) (s:Shared) (σ:St) (H:Hp) (Q:Option Int→Hp→Prop),Inv X pins σ H s→t σ H Q →
  wpAny (model X.prog X.w) X.A (evalPart e X.env) (fun u s'=>∃ o H',Inv X pins σ H' s'∧IsPart u o∧Q o H') X.xe s
def av6:TO:=fun _ H Q=>Q none H
def bi4 (t:TE):TO:=fun σ H Q=>t σ H fun x H1=>∃ i,x=.int i∧Q (some i) H1
section
variable {X:Cx}{e:Expr}{te:TE}{lo hi:Option Expr}{tl th:TO}{pos p2:Pos}
theorem a50:PO X none av6:=by
 intro pins s σ H Q I h
 rw [evalPart_none]
 exact wpAny_pure ⟨none,H,I,.none,h⟩
theorem a41 (h:PE X e te):PO X (some e) (bi4 te):=by
 intro pins s σ H Q I hw
 rw [evalPart_some]
 refine thn (h pins s σ H _ I hw) ?_
 rintro u s1 ⟨x,H1,I1,r1,q1⟩
 obtain ⟨i,rfl,q⟩:=q1
 obtain ⟨t,rfl⟩:=r1
 exact ⟨some i,H1,I1,.int i t,q⟩
def SlR (X:Cx) (r:V→Option Int→Option Int→Hp→VK→Prop):Prop :=
 ∀ (pins:List (Addr×Obj)) (s:Shared) (σ:St) (H:Hp) (x:V) (v vl vu:Value) (lo hi:Option Int) (sl:Addr) (Q:VK),Inv X pins σ H s→RelV x v→s.heap.IsSliceOf sl vl vu .none→IsPart vl lo→IsPart vu hi→r x lo hi H Q →
  ∃ T id,typeLookup (.type T) "__getitem__"=pure (some (.builtin id))∧s.TypeIs v T∧wpAny (model X.prog X.w) X.A (getItem v (.ref sl)) (EP X pins σ Q) X.xe s
def tSl (r:V→Option Int→Option Int→Hp→VK→Prop) (te:TE) (tl th:TO):TE:=fun σ H Q=>te σ H fun x H1=>tl σ H1 fun l H2=>th σ H2 fun u H3=>r x l u H3 Q
theorem a35 {r:V→Option Int→Option Int→Hp→VK→Prop}(hr:SlR X r) (he:PE X e te) (hl:PO X lo tl) (hu:PO X hi th):PE X (.Subscript e (.Slice lo hi none p2) pos) (tSl r te tl th):=by
 intro pins s σ H Q I h
 refine Subscript_ (thn (he pins s σ H _ I h) ?_)
 rintro v s1 ⟨x,H1,I1,r1,q1⟩
 refine wpAny_Slice (thn (hl pins s1 σ H1 _ I1 q1) ?_)
 rintro vl s2 ⟨l,H2,I2,pl,q2⟩
 refine thn (hu pins s2 σ H2 _ I2 q2) ?_
 rintro vu s3 ⟨u,H3,I3,pu,q3⟩
 rw [evalPart_none]
 refine wpAny_pure ?_
 have I4:Inv X pins σ H3 { s3 with heap:=s3.heap.push { cls:=.type "slice",data:=.fields #[vl,vu,.none] } }:=I3.kept (t':=s3.toks) fun b ob q=>Heap.get?_push_of_some _ q
 obtain ⟨T,id,hT,ht,hg⟩:=hr pins { s3 with heap:=s3.heap.push { cls:=.type "slice",data:=.fields #[vl,vu,.none] } } σ H3 x v vl vu l u s3.heap.objs.size Q I4 r1 (Heap.IsSliceOf.new ..) pl pu q3
 show wpAny (model X.prog X.w) X.A (subscriptTail e (.Slice lo hi none p2) v (.ref s3.heap.objs.size)) (EP X pins σ Q) X.xe { s3 with heap:=s3.heap.push { cls:=.type "slice",data:=.fields #[vl,vu,.none] } }
 exact tail_any (ops:=[.ref s3.heap.objs.size,v]) ht hT hg (by with_unfolding_all rfl)
def cutV (xs:List V) (lo hi:Option Int):List V:=(xs.drop (HT.sIx xs.length 0 lo)).take (HT.sIx xs.length xs.length hi - HT.sIx xs.length 0 lo)
theorem ab6 (xs:List V) (lo hi:Option Int):(cutV xs lo hi).length≤xs.length:=by
 unfold cutV
 rw [List.length_take,List.length_drop]
 omega
def rSlT (K:PySem.W.Frag):V→Option Int→Option Int→Hp→VK→Prop:=fun x lo hi H Q=>∃ a xs,x=.ref a∧SqT K H a xs ∧
 ¬ (HT.sIx xs.length 0 lo=0∧HT.sIx xs.length xs.length hi=xs.length)∧∀ p,H p=none→Q (.ref p) (upd H p (.tup (cutV xs lo hi)))
theorem bi5:SlR X (rSlT X.K):=by
 intro pins s σ H x v vl vu lo hi sl Q I rx hs pl pu h
 obtain ⟨a,xs,rfl,hx,hw,q⟩:=h
 cases rx
 obtain ⟨its,r,ht,hz⟩:=I.tuple hx
 have hlen:its.toArray.size=xs.length:=by rw [List.size_toArray]; exact r.length.symm
 refine ⟨"tuple",_,PyProof.Rows.slot_tuple_getitem.lookup,ht.typeIs,?_⟩
 refine HT.getItem_tuple_cut ht hs pl pu (by rw [hlen]; exact hw) ?_ (by rw [hlen]; exact hz)
 rw [hlen]
 refine ⟨.ref s.heap.objs.size,_,I.laid (t':=s.toks) (o:=.tup (cutV xs lo hi)) (fun b ob q=>Heap.get?_push_of_some _ q) (Nat.le_refl _) ?_,rfl,q _ (I.hok.fresh (Nat.le_refl _))⟩
 exact ⟨Nat.le_trans (ab6 xs lo hi) hz,_,(r.drop (HT.sIx xs.length 0 lo)).take (HT.sIx xs.length xs.length hi - HT.sIx xs.length 0 lo),IsTup.new _ _⟩
end
def ixN (n:Nat) (i:Int):Option Nat:=if 0≤i then (if i<n then some i.toNat else none) else if -(n:Int)≤i then some (i+n).toNat else none
def atI {α:Type}(xs:List α) (i:Int):Option α:=(ixN xs.length i).bind fun j=>xs[j]?
theorem av7 {n:Nat}{i:Int}{j:Nat}(h:ixN n i=some j):seqIndex? i n=some j∧j<n∧-(n:Int)≤i∧i<n:=by
 unfold ixN at h
 by_cases h0:0≤i
 · rw [if_pos h0] at h
   by_cases h1:i<n
   · rw [if_pos h1] at h
     have e:i.toNat=j:=Option.some.inj h
     exact ⟨by rw [seqIndex_of h0 h1,e],by omega,by omega,h1⟩
   · rw [if_neg h1] at h; cases h
 · rw [if_neg h0] at h
   by_cases h1:-(n:Int)≤i
   · rw [if_pos h1] at h
     have e:(i+n).toNat=j:=Option.some.inj h
     exact ⟨by rw [seqIndex_neg (by omega) h1,e],by omega,h1,by omega⟩
   · rw [if_neg h1] at h; cases h
theorem av8 {α:Type}{xs:List α}{i:Int}{v:α}(h:atI xs i=some v):∃ j,seqIndex? i xs.length=some j∧xs[j]?=some v∧j<xs.length∧-(xs.length:Int)≤i∧i<xs.length:=by
 unfold atI at h
 cases e:ixN xs.length i with
 | none=>rw [e] at h; cases h
 | some j =>
   rw [e] at h
   obtain ⟨h1,h2,h3,h4⟩:=av7 e
   exact ⟨j,h1,h,h2,h3,h4⟩
theorem a09 {α:Type}{xs:List α}{j:Nat}{v:α}(h:xs[j]?=some v):atI xs (j:Int)=some v:=by
 have hj:j<xs.length:=(List.getElem?_eq_some_iff.mp h).1
 have e:ixN xs.length (j:Int)=some j:=by
  unfold ixN
  rw [if_pos (by omega),if_pos (by omega)]; simp
 unfold atI; rw [e]; exact h
theorem atI_last {α:Type}(xs:List α) (v:α):atI (xs++[v]) (-1)=some v:=by
 have hl:(xs++[v]).length=xs.length+1:=by simp
 have e:ixN (xs++[v]).length (-1)=some xs.length:=by
  unfold ixN
  rw [hl,if_neg (by decide),if_pos (by omega)]
  congr 1
  omega
 unfold atI
 rw [e]
 show (xs++[v])[xs.length]?=some v
 simp
def bb3 (b:Expr):Prop:=∀ o i,subscripted b false o i=operate [o,i] (getItem o i)
def IxR (X:Cx) (r:R2):Prop :=
 ∀ (value slice:Expr) (pins:List (Addr×Obj)) (s:Shared) (σ:St) (H:Hp) (x y:V) (v u:Value) (Q:VK),Inv X pins σ H s→RelV x v→RelV y u→r x y H Q →
  subscripted slice false v u=operate [v,u] (getItem v u)→wpAny (model X.prog X.w) X.A (subscriptTail value slice v u) (EP X pins σ Q) X.xe s
def MtR (X:Cx) (id:String) (r:V→List V→Hp→VK→Prop):Prop :=
 ∀ (pins:List (Addr×Obj)) (s:Shared) (σ:St) (H:Hp) (x:V) (xs:List V) (v:Value) (us:List Value) (Q:VK),Inv X pins σ H s→RelV x v→Vals xs us→r x xs H Q →
  wpAny (model X.prog X.w) X.A (call (.builtin id) (v::us)) (EP X pins σ Q) X.xe s
section
variable {X:Cx}{a b:Expr}{ta tb:TE}{pos:Pos}
theorem a31 {r:R2}(hr:IxR X r) (ha:PE X a ta) (hb:PE X b tb) (hs:bb3 b):PE X (.Subscript a b pos) (tOp r ta tb):=by
 intro pins s σ H Q I h
 exact Subscript_ (binT ha hb I h fun v u s2 x y H2 I2 rx ry q=>hr a b pins s2 σ H2 x y v u Q I2 rx ry q (hs _ _))
def rIxL (K:PySem.W.Frag):R2:=fun x y H Q=>∃ p xs i v,x=.ref p∧y=.int i∧SqL K H p xs∧atI xs i=some v∧Q v H
def rIxT (K:PySem.W.Frag):R2:=fun x y H Q=>∃ p xs i v,x=.ref p∧y=.int i∧SqT K H p xs∧atI xs i=some v∧Q v H
theorem bb4:IxR X (rIxL X.K):=by
 intro value slice pins s σ H x y v u Q I rx ry h hs
 obtain ⟨p,xs,i,z,rfl,rfl,hq,he,q⟩:=h
 cases rx
 obtain ⟨t,rfl⟩:=ry
 obtain ⟨its,r,pl,hz⟩:=I.list hq
 obtain ⟨j,h1,h2,h3,h4,h5⟩:=av8 he
 obtain ⟨w,ew,rw'⟩:=r.get h2
 have hl:=r.length
 have hn:=ai7
 have fin:EP X pins σ Q w s:=⟨z,H,I,rw',q⟩
 by_cases h0:0≤i
 · have hj:i.toNat=j:=by
    rw [seqIndex_of h0 h5] at h1
    exact Option.some.inj h1
   exact item_listR pl.isList h0 (by omega) (by rw [hj]; simpa using ew) fin hs
 · have hj:(i+(its.toArray.size:Int)).toNat=j:=by
    rw [seqIndex_neg (by omega) h4] at h1
    rw [List.size_toArray,←hl]
    exact Option.some.inj h1
   exact subscriptTail_builtinR (x:=w) pl.isList.typeIs slot_list_getitem.lookup
    (wpAny_getItem_list_neg (Q:=fun r s'=>r=w∧EP X pins σ Q r s') pl.isList (by omega) (by rw [List.size_toArray] <;> omega) (by omega) (by rw [hj]; simpa using ew) ⟨rfl,fin⟩) hs
theorem bi6:IxR X (rIxT X.K):=by
 intro value slice pins s σ H x y v u Q I rx ry h hs
 obtain ⟨p,xs,i,z,rfl,rfl,hq,he,q⟩:=h
 cases rx
 obtain ⟨t,rfl⟩:=ry
 obtain ⟨its,r,pl,hz⟩:=I.tuple hq
 obtain ⟨j,h1,h2,h3,h4,h5⟩:=av8 he
 obtain ⟨w,ew,rw'⟩:=r.get h2
 have hl:=r.length
 have hn:=ai7
 have fin:EP X pins σ Q w s:=⟨z,H,I,rw',q⟩
 exact subscriptTail_builtinR (x:=w) pl.typeIs slot_tuple_getitem.lookup
  (getItem_tuple (j:=j) (Q:=fun r s'=>r=w∧EP X pins σ Q r s') pl (by omega) (by omega) (by rw [List.size_toArray,←hl]; exact h1) (by simpa using ew) ⟨rfl,fin⟩) hs
theorem as9 (its:List Value) (n j:Nat) (u:Value):Obj.mapSeq (·.setIfInBounds j u) { cls:=.type "list",data:=.seq its.toArray n }={ cls:=.type "list",data:=.seq (its.set j u).toArray n }:=by
 simp [Obj.mapSeq]
theorem Inv.lst {pins:List (Addr×Obj)}{σ:St} {H:Hp}{s:Shared}{p:Addr}{xs:List V}(I:Inv X pins σ H s) (h:H p=some (.lst xs)) :
 ∃ (its:List Value) (n:Nat),Vals xs its∧s.heap.get? p=some { cls:=.type "list",data:=.seq its.toArray n }∧xs.length≤sizeLine:=by
 obtain ⟨z,its,n,r,e⟩:=I.hok p _ h
 exact ⟨its,n,r,e,z⟩
theorem Inv.lstUpd {pins:List (Addr×Obj)}{σ:St} {H:Hp}{s:Shared}{p:Addr}{xs ys:List V}{its its':List Value}{n n':Nat}{f:Obj→Obj}(I:Inv X pins σ H s) (h:H p=some (.lst xs))
 (ho:s.heap.get? p=some { cls:=.type "list",data:=.seq its.toArray n }) (hf:f { cls:=.type "list",data:=.seq its.toArray n }={ cls:=.type "list",data:=.seq its'.toArray n' }) (r:Vals ys its') (hz:ys.length≤sizeLine) (t:Nat) :
 Inv X pins σ (upd H p (.lst ys)) { s with heap:=s.heap.update p f,toks:=t }:=by
 have e:(s.heap.update p f).get? p=some { cls:=.type "list",data:=.seq its'.toArray n' }:=by
  rw [Heap.get?_update_self f ho (by rw [hf] <;> rfl),hf]
 refine I.write (x:=p) (e:=p) (by rw [h]; trivial) (.inl rfl) (fun b u hb q=>(Heap.get?_update_other _ _ (Ne.symm hb)).trans q) ⟨_,e⟩ ?_
 exact ⟨hz,its',n',r,e⟩
def bi7:V→V→V→Hp→(Hp→Prop)→Prop:=fun o i v H Q=>∃ p xs k j,o=.ref p∧i=.int k∧H p=some (.lst xs)∧ixN xs.length k=some j∧Q (upd H p (.lst (xs.set j v)))
theorem aa7:PSet X bi7:=by
 intro pins s σ H o i v ov iv u Q I ro ri rv h
 obtain ⟨p,xs,k,j,rfl,rfl,hp,hj,q⟩:=h
 cases ro
 obtain ⟨t,rfl⟩:=ri
 obtain ⟨its,n,r,ho,hz⟩:=I.lst hp
 obtain ⟨h1,h2,h3,h4⟩:=av7 hj
 have hl:=r.length
 have hn:=ai7
 have I':Inv X pins σ (upd H p (.lst (xs.set j v))) { s with heap:=s.heap.update p (Obj.mapSeq (·.setIfInBounds j u)) } :=
  I.lstUpd hp ho (as9 its n j u) (r.set rv j) (by rw [List.length_set]; exact hz) s.toks
 by_cases h0:0≤k
 · have hk:k.toNat=j:=by
    rw [seqIndex_of h0 h4] at h1
    exact Option.some.inj h1
   exact PySem.W.ki_setAt ho h0 (by omega) (by rw [List.size_toArray,←hl]; exact h4) (by rw [hk]; exact ⟨_,I',q⟩)
 · have hk:(k+(its.toArray.size:Int)).toNat=j:=by
    rw [seqIndex_neg (by omega) h3] at h1
    rw [List.size_toArray,←hl]
    exact Option.some.inj h1
   exact PySem.W.ki_setBack ho (by omega) (by rw [List.size_toArray,←hl]; exact h3) (by omega) (by rw [hk]; exact ⟨_,I',q⟩)
theorem aj2 (lo hi:Option Int) (n:Nat):(sliceBounds lo hi none n).1=((HT.sIx n 0 lo:Nat):Int)∧(sliceBounds lo hi none n).2.1=((HT.sIx n n hi:Nat):Int)∧(sliceBounds lo hi none n).2.2=1:=by
 refine ⟨?_,?_,rfl⟩
 · cases lo with
   | none=>simp [sliceBounds,HT.sIx]
   | some i =>
     simp only [sliceBounds,HT.sIx,Option.getD_none,show (1:Int) > 0 by decide,if_true]
     by_cases h:i<0
     · simp only [h,if_true] <;> omega
     · simp only [h,if_false] <;> omega
 · cases hi with
   | none=>simp [sliceBounds,HT.sIx]
   | some i =>
     simp only [sliceBounds,HT.sIx,Option.getD_none,show (1:Int) > 0 by decide,if_true]
     by_cases h:i<0
     · simp only [h,if_true] <;> omega
     · simp only [h,if_false] <;> omega
theorem af3 (its:List Value) (lo hi:Option Int):slicePick its.toArray lo hi none=((its.drop (HT.sIx its.length 0 lo)).take (HT.sIx its.length its.length hi - HT.sIx its.length 0 lo)).toArray:=by
 obtain ⟨h1,h2,h3⟩:=aj2 lo hi its.toArray.size
 unfold slicePick
 rw [h1,h2,h3]
 simp only [sliceRange_one,pick_run,List.size_toArray] <;> rfl
def rSlL (K:PySem.W.Frag):V→Option Int→Option Int→Hp→VK→Prop:=fun x lo hi H Q=>∃ a xs,x=.ref a∧SqL K H a xs∧∀ p,H p=none→Q (.ref p) (upd H p (.lst (cutV xs lo hi)))
theorem bb5:SlR X (rSlL X.K):=by
 intro pins s σ H x v vl vu lo hi sl Q I rx hs pl pu h
 obtain ⟨a,xs,rfl,hx,q⟩:=h
 cases rx
 obtain ⟨its,r,ht,hz⟩:=I.list hx
 have hlen:=r.length
 refine ⟨"list",_,slot_list_getitem.lookup,ht.isList.typeIs,?_⟩
 refine wpAny_getItem_list_slice ht.isList hs pl pu .none (by simp) ?_ (by rw [List.size_toArray] <;> omega)
 rw [af3,←hlen]
 refine ⟨.ref s.heap.objs.size,_,I.laid (t':=s.toks) (o:=.lst (cutV xs lo hi)) (fun b ob q=>Heap.get?_push_of_some _ q) (Nat.le_refl _) ?_,rfl,q _ (I.hok.fresh (Nat.le_refl _))⟩
 exact ⟨Nat.le_trans (ab6 xs lo hi) hz,_,0,(r.drop (HT.sIx xs.length 0 lo)).take (HT.sIx xs.length xs.length hi - HT.sIx xs.length 0 lo),Heap.get?_push_size _ rfl⟩
def aa6:V→Bool
 | .non=>true
 | .bl _=>true
 | .int _=>true
 | .str _=>true
 | _=>false
def eqV:V→V→Bool
 | .non,.non=>true
 | .bl a,.bl b=>a == b
 | .bl a,.int b=>(if a then 1 else 0) == b
 | .int a,.bl b=>a == (if b then 1 else 0)
 | .int a,.int b=>a == b
 | .str a,.str b=>a == b
 | _,_=>false
theorem bi8 {A:Around}{s:Shared}{y x:V}{u v:Value}(ry:RelV y u) (rx:RelV x v) (fy:aa6 y=true) (fx:aa6 x=true):SeqAt.EqAt A s u v (eqV y x):=by
 cases y with
 | non =>
   cases ry
   cases x with
   | non=>cases rx; exact SeqAt.EqAt.same _
   | bl b=>cases rx; exact SeqAt.EqAt.none_bool b
   | int b=>obtain ⟨t,rfl⟩:=rx; exact SeqAt.EqAt.none_int b t
   | str b=>obtain ⟨t,rfl⟩:=rx; exact SeqAt.EqAt.none_str b t
   | _=>exact absurd (show false=true from fx) Bool.false_ne_true
 | bl a =>
   cases ry
   cases x with
   | non=>cases rx; exact SeqAt.EqAt.bool_none a
   | bl b=>cases rx; exact SeqAt.EqAt.bool_bool a b
   | int b=>obtain ⟨t,rfl⟩:=rx; exact SeqAt.EqAt.bool_int a b t
   | str b=>obtain ⟨t,rfl⟩:=rx; exact SeqAt.EqAt.bool_str a b t
   | _=>exact absurd (show false=true from fx) Bool.false_ne_true
 | int a =>
   obtain ⟨t',rfl⟩:=ry
   cases x with
   | non=>cases rx; exact SeqAt.EqAt.int_none a t'
   | bl b=>cases rx; exact SeqAt.EqAt.int_bool a t' b
   | int b=>obtain ⟨t,rfl⟩:=rx; exact SeqAt.EqAt.int_int a t' b t
   | str b=>obtain ⟨t,rfl⟩:=rx; exact SeqAt.EqAt.int_str a t' b t
   | _=>exact absurd (show false=true from fx) Bool.false_ne_true
 | str a =>
   obtain ⟨t',rfl⟩:=ry
   cases x with
   | non=>cases rx; exact SeqAt.EqAt.str_none a t'
   | bl b=>cases rx; exact SeqAt.EqAt.str_bool a t' b
   | int b=>obtain ⟨t,rfl⟩:=rx; exact SeqAt.EqAt.str_int a t' b t
   | str b=>obtain ⟨t,rfl⟩:=rx; exact SeqAt.EqAt.str_str a t' b t
   | _=>exact absurd (show false=true from fx) Bool.false_ne_true
 | _=>exact absurd (show false=true from fy) Bool.false_ne_true
def eqU (x:V) (u:Value):Bool:=match u with
 | .none=>eqV .non x
 | .bool b=>eqV (.bl b) x
 | .int i _=>eqV (.int i) x
 | .str z _=>eqV (.str z) x
 | _=>false
theorem b77 {x y:V}{u:Value}(r:RelV y u) (f:aa6 y=true):eqU x u=eqV y x:=by
 cases y with
 | non=>cases r; rfl
 | bl b=>cases r; rfl
 | int i=>obtain ⟨t,rfl⟩:=r; rfl
 | str z=>obtain ⟨t,rfl⟩:=r; rfl
 | _=>exact absurd (show false=true from f) Bool.false_ne_true
theorem ab7 {x:V}:∀ {xs:List V}{us:List Value},Vals xs us→xs.all aa6=true→us.any (eqU x)=xs.any fun y=>eqV y x
 | _,_,.nil,_=>rfl
 | y::xs,u::us,.cons r t,f=>by
   rw [List.all_cons,Bool.and_eq_true] at f
   rw [List.any_cons,List.any_cons,b77 r f.1,ab7 t f.2]
theorem a84 {A:Around}{s:Shared}{x:V}{v:Value}(rx:RelV x v) (fx:aa6 x=true):∀ {xs:List V}{us:List Value},Vals xs us→xs.all aa6=true→∀ u∈us,SeqAt.EqAt A s u v (eqU x u)
 | _,_,.nil,_=>fun u hu=>by cases hu
 | y::xs,u::us,.cons r t,f=>fun u' hu=>by
   rw [List.all_cons,Bool.and_eq_true] at f
   rcases List.mem_cons.mp hu with rfl | hu
   · rw [b77 r f.1]; exact bi8 r rx f.1 fx
   · exact a84 rx fx t f.2 u' hu
def inV (x:V) (xs:List V):Bool:=xs.any fun y=>eqV y x
def rIn (K:PySem.W.Frag) (neg:Bool):R2:=fun x y H Q=>∃ p xs,y=.ref p∧(SqL K H p xs∨SqT K H p xs)∧aa6 x=true∧xs.all aa6=true∧Q (.bl (if neg then !inV x xs else inV x xs)) H
theorem av9:OpR X (compareOp .In) (rIn X.K false):=by
 intro pins s σ H x y v u Q I rx ry h
 obtain ⟨p,xs,rfl,hq,fx,fs,q⟩:=h
 cases ry
 rcases hq with hq | hq
 · obtain ⟨its,r,pl,hz⟩:=I.list hq
   refine SeqAt.in_listAt (eqU x) pl.isList (fun w hw=>a84 rx fx r fs w (by simpa using hw)) ⟨.bl _,H,I,rfl,?_⟩
   rw [show its.toArray.any (eqU x)=its.any (eqU x) by simp,ab7 r fs]
   exact q
 · obtain ⟨its,r,pl,hz⟩:=I.tuple hq
   refine SeqAt.in_tupleAt (eqU x) pl (fun w hw=>a84 rx fx r fs w (by simpa using hw)) ⟨.bl _,H,I,rfl,?_⟩
   rw [show its.toArray.any (eqU x)=its.any (eqU x) by simp,ab7 r fs]
   exact q
theorem aj3:OpR X (compareOp .NotIn) (rIn X.K true):=by
 intro pins s σ H x y v u Q I rx ry h
 obtain ⟨p,xs,rfl,hq,fx,fs,q⟩:=h
 cases ry
 rcases hq with hq | hq
 · obtain ⟨its,r,pl,hz⟩:=I.list hq
   refine SeqAt.notIn_listAt (eqU x) pl.isList (fun w hw=>a84 rx fx r fs w (by simpa using hw)) ⟨.bl _,H,I,rfl,?_⟩
   rw [show its.toArray.any (eqU x)=its.any (eqU x) by simp,ab7 r fs]
   exact q
 · obtain ⟨its,r,pl,hz⟩:=I.tuple hq
   refine SeqAt.notIn_tupleAt (eqU x) pl (fun w hw=>a84 rx fx r fs w (by simpa using hw)) ⟨.bl _,H,I,rfl,?_⟩
   rw [show its.toArray.any (eqU x)=its.any (eqU x) by simp,ab7 r fs]
   exact q
theorem aj4:CallR X (.type "list") (fun xs H Q=>∃ p ys,xs=[.ref p]∧(SqL X.K H p ys∨SqT X.K H p ys)∧∀ l,H l=none→Q (.ref l) (upd H l (.lst ys))):=by
 intro pins s σ H xs us Q I r h
 obtain ⟨p,ys,rfl,hq,q⟩:=h
 obtain ⟨u,rfl,rx⟩:=am7 r
 cases rx
 have fin:∀ (its:List Value),Vals ys its→ys.length≤sizeLine→∀ (h':Heap) (c':Nat),(∀ b o',s.heap.get? b=some o'→h'.get? b=some o') →
  h'.get? s.heap.objs.size=some { cls:=.type "list",dict:=none,data:=.seq its.toArray c',slots:=#[] }→EP X pins σ Q (.ref s.heap.objs.size) { s with heap:=h' }:=fun its r' hz h' c' kp e =>
  ⟨.ref s.heap.objs.size,_,I.laid (t':=s.toks) kp (Nat.le_refl _) (show ObjOk X.prog X.w _ h' _ (.lst ys) from ⟨hz,its,c',r',e⟩),rfl,q _ (I.hok.fresh (Nat.le_refl _))⟩
 rcases hq with hq | hq
 · obtain ⟨its,r',pl,hz⟩:=I.list hq
   have hlen:=r'.length
   obtain ⟨o,ho,hc,n,hd⟩:=pl.isList
   exact call_list_seq p (.inl rfl) ho hc hd (fun h' c' kp e=>fin its r' hz h' c' kp e) (by simp only [List.size_toArray] <;> omega)
 · obtain ⟨its,r',pl,hz⟩:=I.tuple hq
   have hlen:=r'.length
   obtain ⟨o,ho,hc,n,hd⟩:=pl
   exact call_list_seq p (.inr rfl) ho hc hd (fun h' c' kp e=>fin its r' hz h' c' kp e) (by simp only [List.size_toArray] <;> omega)
def tyV (K:PySem.W.Frag) (T:String) (x:V) (H:Hp):Prop:=match x with
 | .str _=>T="str"
 | .int _=>T="int"
 | .ref p=>(T="list"∧∃ xs,SqL K H p xs)∨(T="tuple"∧∃ o,K.lookup p=some o∧o.cls=.type "tuple"∧o.dict=none) ∨
  (T="dict"∧((∃ kvs,H p=some (.dK kvs))∨∃ kvs,H p=some (.dT kvs)))∨(T="set"∧∃ S n,H p=some (.set S n))
 | _=>False
theorem b78 {pins:List (Addr×Obj)}{σ:St} {H:Hp}{s:Shared}{T:String}{x:V}{v:Value}(I:Inv X pins σ H s) (r:RelV x v) (ty:tyV X.K T x H) :
 s.TypeIs v T∧∀ a,v=.ref a→∃ ob,s.heap.get? a=some ob∧ob.dict=none:=by
 cases x with
 | str z =>
   obtain ⟨t,rfl⟩:=r
   cases (show T="str" from ty)
   exact ⟨typeIs_str s z t,fun _ e=>nomatch e⟩
 | int i =>
   obtain ⟨t,rfl⟩:=r
   cases (show T="int" from ty)
   exact ⟨typeIs_int s i t,fun _ e=>nomatch e⟩
 | ref p =>
   cases r
   rcases ty with ⟨rfl,xs,hq⟩ | ⟨rfl,o,hk,hc,hd⟩ | ⟨rfl,hk⟩ | ⟨rfl,S,n,hk⟩
   · obtain ⟨its,_,pl,_⟩:=I.list hq
     refine ⟨pl.isList.typeIs,fun a e=>?_⟩
     cases e
     obtain ⟨o,n,e,c,hd,_⟩:=pl
     exact ⟨o,e,hd⟩
   · refine ⟨⟨o,I.kIn p o hk,hc⟩,fun a e=>?_⟩
     cases e
     exact ⟨o,I.kIn _ o hk,hd⟩
   · have z:∃ o,s.heap.get? p=some o∧o.ExactDict:=by
      rcases hk with ⟨kvs,hk⟩ | ⟨kvs,hk⟩
      · obtain ⟨_,_,_,_,o,_,_,e,ex,_⟩:=I.hok p _ hk
        exact ⟨o,e,ex⟩
      · obtain ⟨_,_,_,_,o,_,_,e,ex,_⟩:=I.hok p _ hk
        exact ⟨o,e,ex⟩
     obtain ⟨o,e,ex⟩:=z
     refine ⟨⟨o,e,ex.1⟩,fun a e2=>?_⟩
     cases e2
     exact ⟨o,e,ex.2.1⟩
   · obtain ⟨o,_,_,_,e,ex,_⟩:=I.hok p _ hk
     refine ⟨⟨o,e,ex.1⟩,fun a e2=>?_⟩
     cases e2
     exact ⟨o,e,ex.2.1⟩
 | _=>exact False.elim ty
def tBM0 (K:PySem.W.Frag) (T:String) (r:V→List V→Hp→VK→Prop) (to:TE):TE:=fun σ H Q=>to σ H fun x H1=>tyV K T x H1∧r x [] H1 Q
def tBM (K:PySem.W.Frag) (T:String) (r:V→List V→Hp→VK→Prop) (to:TE) (t:TA):TE:=fun σ H Q=>to σ H fun x H1=>tyV K T x H1∧t σ H1 fun xs H2=>r x xs H2 Q
variable {o e:Expr}{es:List Expr}{to:TE}{t:TA}{name:Str}{apos cpos:Pos}{T id:String}{r:V→List V→Hp→VK→Prop}
theorem bi9 (pa:PlainAttrs T) (slot:Slot T name id) (hty:typeOf (.builtin id)=pure (.type "method_descriptor")) (hm:MtR X id r) (ho:PE X o to)
 (hbase:attributeBase o name X.env (eval o X.env)=eval o X.env:=by rfl) (hline:(apos.endLine == cpos.line)=true:=by rfl):PE X (.Call (.Attribute o name apos) [] [] cpos) (tBM0 X.K T r to):=by
 intro pins s σ H Q I h
 refine wpAny_Call_method0_late hbase hline (thn (ho pins s σ H _ I h) ?_)
 rintro v s1 ⟨x,H1,I1,r1,ty,q1⟩
 obtain ⟨h1,h2⟩:=b78 I1 r1 ty
 exact ⟨T,id,pa,slot,hty,h1,h2,Calls.callWith_builtin rfl (PySem.evalArgs_none (hm pins s1 σ H1 x [] v [] Q I1 r1 .nil q1))⟩
theorem bs5 (pa:PlainAttrs T) (slot:Slot T name id) (hty:typeOf (.builtin id)=pure (.type "method_descriptor")) (hm:MtR X id r) (ho:PE X o to) (ha:PA X (e::es) t)
 (hbase:attributeBase o name X.env (eval o X.env)=eval o X.env:=by rfl)
 (hfew:((backTo cpos (starEach (e::es) X.env)).all (fun x=>!x.1) && (backToKw cpos (keywordEach [] X.env)).all (fun x=>x.1.isSome)
  && decide ((e::es).length+([]:List Keyword).length+(if ([]:List Keyword).isEmpty then 0 else 1)<30))=true:=by rfl)
 (hline:(apos.endLine == cpos.line)=true:=by rfl) (hs:starEach (e::es) X.env=(false,eval e X.env)::starEach es X.env:=by rfl) (hplain:(backTo cpos (starEach es X.env)).any (·.1)=false:=by rfl) :
 PE X (.Call (.Attribute o name apos) (e::es) [] cpos) (tBM X.K T r to t):=by
 intro pins s σ H Q I h
 refine wpAny_Call_method_late hbase hfew hline rfl (thn (ho pins s σ H _ I h) ?_)
 rintro v s1 ⟨x,H1,I1,r1,ty,q1⟩
 obtain ⟨h1,h2⟩:=b78 I1 r1 ty
 refine ⟨T,id,pa,slot,hty,h1,h2,?_⟩
 have hA:=ha cpos pins s1 σ H1 _ I1 q1
 rw [hs] at hA ⊢
 refine Calls.callWith_builtin (by show (false || (backTo cpos (starEach es X.env)).any (·.1))=false; rw [hplain] <;> rfl) (Calls.evalArgs_plain ?_)
 exact thn hA (by rintro us s2 ⟨vs,H2,I2,r2,q2⟩; exact hm pins s2 σ H2 x vs v us Q I2 r1 r2 q2)
/- xs.append(e),list.index on a module's tuple .. are MtR facts of 06m -/
end
def MtM (X:Cx) (id:String) (r:V→List V→Hp→VK→Prop):Prop :=
 ∀ (pins:List (Addr×Obj)) (s:Shared) (σ:St) (H:Hp) (x:V) (xs:List V) (v:Value) (us:List Value) (Q:VK),Inv X pins σ H s→RelV x v→Vals xs us→r x xs H Q →
  wpAny (model X.prog X.w) X.A (call (.builtin id) (v::us)) (EP X pins σ Q) X.xe s
theorem Vals.one:∀ {x:V}{us:List Value},Vals [x] us→∃ u,us=[u]∧RelV x u
 | _,_,.cons r .nil=>⟨_,rfl,r⟩
theorem Vals.zero:∀ {us:List Value},Vals [] us→us=[]
 | _,.nil=>rfl
theorem Vals.dropLast {xs:List V}{us:List Value}(h:Vals xs us):Vals xs.dropLast us.dropLast:=by
 induction h with
 | nil=>exact .nil
 | cons r t ih =>
   cases t with
   | nil=>exact .nil
   | cons q t'=>exact .cons r ih
theorem Vals.reverse {xs:List V}{us:List Value}(h:Vals xs us):Vals xs.reverse us.reverse:=by
 induction h with
 | nil=>exact .nil
 | cons r t ih=>rw [List.reverse_cons,List.reverse_cons]; exact Vals.append ih (.cons r .nil)
theorem at0 {α:Type}(l:List α):l.eraseIdx (l.length - 1)=l.dropLast:=by
 induction l with
 | nil=>rfl
 | cons a r ih =>
   cases r with
   | nil=>rfl
   | cons b r =>
     have e:(a::b::r).length - 1=((b::r).length - 1)+1:=by
      have h1:(a::b::r).length=r.length+2:=rfl
      have h2:(b::r).length=r.length+1:=rfl
      omega
     rw [e,List.eraseIdx_cons_succ,ih]
     all_goals rfl
section
variable {X:Cx}{pins:List (Addr×Obj)}{σ:St} {H:Hp}{s:Shared}{l b:Addr}{xs ys zs:List V}
theorem Inv.lset {its its':List Value}{n:Nat}{f:Array Value→Array Value}{t':Nat}(I:Inv X pins σ H s) (hH:H l=some (.lst xs))
 (e:s.heap.get? l=some { cls:=.type "list",data:=.seq its.toArray n }) (hf:f its.toArray=its'.toArray) (hv:Vals ys its') (hz:ys.length≤sizeLine) :
 Inv X pins σ (upd H l (.lst ys)) { s with heap:=s.heap.update l (Obj.mapSeq f),toks:=t' }:=by
 have q:=PySem.IsL.update e f
 rw [hf] at q
 refine I.write (x:=l) (e:=l) (by rw [hH]; exact trivial) (.inl rfl) (fun b' u hb hu=>(Heap.get?_update_other s.heap (Obj.mapSeq f) (Ne.symm hb)).trans hu) ⟨_,q⟩ ?_
 exact ⟨hz,its',_,hv,q⟩
theorem Inv.lnew {its:List Value}{t':Nat}(I:Inv X pins σ H s) (hv:Vals ys its) (hz:ys.length≤sizeLine) :
 Inv X pins σ (upd H s.heap.objs.size (.lst ys)) { s with heap:=s.heap.push { cls:=.type "list",data:=.seq its.toArray },toks:=t' } :=
 I.laid (fun _ _ q=>Heap.get?_push_of_some _ q) (Nat.le_refl _) ⟨hz,its,0,hv,Heap.get?_push_size _ rfl⟩
theorem Inv.fresh (I:Inv X pins σ H s):H s.heap.objs.size=none:=I.hok.fresh (Nat.le_refl _)
theorem Inv.lstM (I:Inv X pins σ H s) (hH:H l=some (.lst xs)):xs.length≤sizeLine∧∃ (its:List Value) (n:Nat),Vals xs its∧xs.length=its.length∧s.heap.get? l=some { cls:=.type "list",data:=.seq its.toArray n }:=by
 obtain ⟨z,its,n,r,e⟩:=I.hok l _ hH
 exact ⟨z,its,n,r,r.length,e⟩
end
section
variable {X:Cx}
def aw0:V→List V→Hp→VK→Prop:=fun x vs H Q=>∃ l xs y,x=.ref l∧vs=[y]∧H l=some (.lst xs)∧xs.length<sizeLine∧Q .non (upd H l (.lst (xs++[y])))
theorem a52:MtM X "list.append" aw0:=by
 intro pins s σ H x vs v us Q I rx rv h
 obtain ⟨l,xs,y,rfl,rfl,hH,hz,q⟩:=h
 cases rx
 obtain ⟨u,rfl,ru⟩:=rv.one
 obtain ⟨z,its,n,r,hl,e⟩:=I.lstM hH
 refine call_meets F.slot_list_append ⟨_,e,rfl⟩ F.entry_list_append (F.args_list_append_2 _ _) (PySem.list_append l its.toArray n u (by rw [List.size_toArray]; omega)) ⟨e,?_⟩
 refine ⟨.non,_,I.lset (its':=its++[u]) hH e (by simp) (r.append (.cons ru .nil)) ?_,rfl,q⟩
 rw [List.length_append,List.length_singleton]
 omega
def rPop:V→List V→Hp→VK→Prop:=fun x vs H Q=>∃ l xs y,x=.ref l∧vs=[]∧H l=some (.lst xs)∧xs[xs.length - 1]?=some y∧Q y (upd H l (.lst xs.dropLast))
theorem b79:MtM X "list.pop" rPop:=by
 intro pins s σ H x vs v us Q I rx rv h
 obtain ⟨l,xs,y,rfl,rfl,hH,hy,q⟩:=h
 cases rx
 have hus:=rv.zero
 subst hus
 obtain ⟨z,its,n,r,hl,e⟩:=I.lstM hH
 obtain ⟨u,hu,ru⟩:=r.get hy
 have hy':its.toArray[its.toArray.size - 1]?=some u:=by
  show its.toArray[its.length - 1]?=some u
  rw [← Array.getElem?_toList,←hl]
  exact hu
 refine call_meets F.slot_list_pop ⟨_,e,rfl⟩ F.entry_list_pop (F.args_list_pop_1 _) (MeetsSeq.list_pop_last l its.toArray n u hy' (by rw [List.size_toArray]; omega)) ⟨e,?_⟩
 refine ⟨y,_,I.lset (its':=its.dropLast) hH e ?_ r.dropLast ?_,ru,q⟩
 · show its.toArray.eraseIdxIfInBounds (its.toArray.size - 1)=its.dropLast.toArray
   rw [List.size_toArray,List.eraseIdxIfInBounds_toArray,at0]
 · rw [List.length_dropLast]
   omega
def rCat:R2:=fun x y H Q=>∃ l b xs zs,x=.ref l∧y=.ref b∧H l=some (.lst xs)∧H b=some (.lst zs)∧xs.length+zs.length≤sizeLine∧∀ p,H p=none→Q (.ref p) (upd H p (.lst (xs++zs)))
theorem bj0:OpR X (binaryOp .Add) rCat:=by
 intro pins s σ H x y v u Q I rx ry h
 obtain ⟨l,b,xs,zs,rfl,rfl,hH,hB,hz,q⟩:=h
 cases rx
 cases ry
 obtain ⟨z,its,n,r,hl,e⟩:=I.lstM hH
 obtain ⟨z2,its2,n2,r2,hl2,e2⟩:=I.lstM hB
 refine PySem.P.add_list e e2 ?_ (by rw [List.size_toArray,List.size_toArray]; omega)
 have ea:its.toArray++its2.toArray=(its++its2).toArray:=by simp
 rw [ea]
 exact ⟨.ref _,_,I.lnew (t':=s.toks) (r.append r2) (by rw [List.length_append]; omega),rfl,q _ I.fresh⟩
end
section
variable {prog:Program}{w:World}{A:Around}{E:Value→Shared→Prop}{s:Shared}
set_option maxRecDepth 100000 in
end
section
variable {X:Cx}
end
end L2
namespace Att
open PySem PySem.W PySem.Calls PyProof.Rows
theorem ab8 {P:Params}{h:Heap}:∀ (ns:List Int) (vs:List Value),WellAll P h vs (ns.map WData.int)→IntsAre vs ns:=by
 intro ns
 induction ns with
 | nil =>
   intro vs w
   rw [List.map_nil] at w
   cases w
   exact .nil
 | cons n ns ih =>
   intro vs w
   rw [List.map_cons] at w
   cases w with
   | cons a b =>
     cases a
     exact .cons _ _ (ih _ b)
theorem aw1 {l:OpenLaw}{n:Nat}(hn:l.most=some n) {P:Params}{h:Heap}{args:List WData}{vals:List Value}
 (hpre:l.row.toRowW.claim.pre args=true) (hwl:WellAll P h vals args) :
 ∃ a vs ns,vals=[Value.ref a]∧args=[WData.list (ns.map WData.int)]∧h.get? a=some { cls:=.type "list",data:=.seq vs.toArray }∧IntsAre vs ns∧ns.length≤n:=by
 have hsh:WShape.hasAll [] args [.list .int]=true:=(pre_splitW hpre).1
 have hc:l.pre.holds [] { args:=args }=true:=(pre_splitW hpre).2
 obtain ⟨d,r,rfl,h1,h2⟩:=hasAllW_cons hsh
 obtain rfl:=hasAllW_nil h2
 obtain ⟨xs,rfl,h3⟩:=hasW_list h1
 obtain ⟨ns,rfl⟩:=items_int h3
 have hlen:ns.length≤n:=by
  unfold OpenLaw.pre at hc
  have h4:(WTm.not (.lt (.lit (.int (n:Int))) (.len (.arg 0)))).holds [] { args:=[.list (ns.map .int)] }=true:=by
   have h4:=(holds_andW hc).1
   rw [hn] at h4
   exact h4
  have h5:=condW_of h4 (w_not (w_lt w_lit (w_len_list (w_arg rfl))))
  rw [List.length_map] at h5
  refine Nat.le_of_not_lt fun q=>?_
  have q':(n:Int)<((ns.length:Nat):Int):=by omega
  first
   | (rw [decide_eq_true q'] at h5; exact absurd h5 (by decide))
   | (simp at h5; omega)
 cases hwl with
 | cons w1 w2 =>
   cases w2
   cases w1 with
   | list ho hall=>exact ⟨_,_,ns,rfl,rfl,ho,ab8 ns _ hall,hlen⟩
theorem aw2 (l:OpenLaw) (args:List WData):l.row.toRowW.claim.post args (.bool true) args=true :=
 postW_of (r:=l.row.toRowW) (X:=(true == true))
  (show WShape.has [] (.bool true) .bool=true by first | rfl | decide | simp [WShape.has,WShape.arms,WShape.armsAll])
  (show (WTm.eq .res (.lit (.bool true))).value [] { args:=args,res:=some (.bool true),after:=args }=some (.bool (true == true)) from w_eq_bool (w_res rfl) w_lit) rfl
theorem attach_call {l:OpenLaw}{n:Nat}{q:Program}{loose:List Str}{XP:(Str→Option Value)→Heap→Prop}{YP:World→Heap→Prop}{d:DefRec}
 (hn:l.most=some n) (hdf:d.params.defaults=[])
 (call:∀ (w:World) (s₀ s₁:Shared) (mg mb:Str→Option Value) (fa:Addr) (o:Obj) (pm cd doc:Value) (a:Addr) (vs:List Value) (ns:List Int),
  Ground q loose [] XP w s₀ mg mb s₁.heap→YP w s₁.heap →
  s₁.heap.get? fa=some o→o.data=.func (docDef d.name d.params d.body d.scope pm cd doc)→s₁.heap.CodeRec cd d.name→mg d.name=some (.ref fa) →
  s₁.heap.get? a=some { cls:=.type "list",data:=.seq vs.toArray }→IntsAre vs ns→ns.length≤n→s₁.gens=#[] →
  codeAny (model l.prog w) callerA (.call (.ref fa) ⟨[.ref a],[]⟩) (fun r s'=>r=.ok (.ret (.bool true))∧OldK s₁.heap s'.heap∧s'.os=s₁.os∧AllBare s'.gens) s₁) :
 WalkO q loose XP YP l.row.toRowW d [] (fun f vs=>PySem.call f vs):=by
 intro w s₀ s₁ mg mb G Y fa o pm cd doc dV kV ho hd hcd hD hmg hg args vals as hpre hlay hrd hwl hlo
 obtain rfl:dV=.none:=Dflts.none hD hdf
 obtain rfl:kV=.none:=Dflts.noKw hD
 obtain ⟨a,vs,ns,rfl,rfl,hobj,hints,hlen⟩:=aw1 hn hpre hwl
 refine enter_call (codeAny_mono (call w s₀ s₁ mg mb fa o pm cd doc a vs ns G Y ho (fd_plain hd) hcd hmg hobj hints hlen hg) fun r s' hq=>?_)
 obtain ⟨rfl,h2,h3,h4⟩:=hq
 exact ⟨.inl ⟨.bool true,.bool true,[],rfl,fun _=>rfl,.bool true,aw2 l _,fun _=>⟨List.Pairwise.nil,fun _ hm=>(nomatch hm)⟩⟩,h2,h3,h4⟩
section
variable {prog:Program}{w:World}{A:Around}{E:Value→Shared→Prop}{s:Shared}{K:Frag}
end
end Att
namespace L2
open PySem PySem.Spec PyProof.Rows
theorem aj5:∀ {vs:List Value}{ns:List Int},IntsAre vs ns→Vals (ns.map V.int) vs
 | _,_,.nil=>.nil
 | _,_,.cons n t h=>.cons ⟨t,rfl⟩ (aj5 h)
def Only (H:Hp):Prop:=∀ b,H b=none∨∃ o xs,H b=some (.frz o (.lst xs))
theorem b36 {P:Program}{w:World}{K:PySem.W.Frag}{mg mb:Str→Option Value}{CX:CXT}{k:Nat}{fa a:Addr}{fd:FuncData}{x:Str}{sp:Sp}{s₁:Shared}{vs:List Value}{ns:List Int}
 (KX:K.In s₁.heap) (hns:s₁.heap.Ns mainGlobals mg) (hb:s₁.heap.Ns builtinsNs mb) (hbb:∀ x:Str,x≠"__name__"→mb x=bootBuiltins x) (hlim:s₁.heap.NoLimit) (hg:s₁.gens=#[])
 (ha:s₁.heap.get? a=some { cls:=.type "list",data:=.seq vs.toArray }) (hi:IntsAre vs ns) (hl:ns.length≤sizeLine) (hr:Room k callerA)
 (F:∀ base:Heap,K.In base→base.Ns mainGlobals mg→FnOk P w K mg base CX k fa fd [x] sp) (hbind:∀ (s:Shared) (u:Value),BindsTo s fd ⟨[u],[]⟩ [(x,u)])
 (hsp:∀ H:Hp,Only H→SqL K H a (ns.map V.int)→sp [.ref a] H (fun v _=>v=.bl true) fun _ _ _=>False)
 (hCX:∀ H e s',CX [] H s₁ (fun _ _ _=>False) e s'→False) :
 codeAny (model P w) callerA (.call (.ref fa) ⟨[.ref a],[]⟩) (fun r s'=>r=.ok (.ret (.bool true))∧OldK s₁.heap s'.heap∧s'.os=s₁.os∧AllBare s'.gens) s₁:=by
 have rv:=aj5 hi
 have lenV:=hi.length
 have core:∀ H:Hp,Only H→SqL K H a (ns.map V.int)→HOk P w H s₁.heap→(∀ b,H b≠none→b=a)→(H a≠none→K.lookup a=none) →
  codeAny (model P w) callerA (.call (.ref fa) ⟨[.ref a],[]⟩) (fun r s'=>r=.ok (.ret (.bool true))∧OldK s₁.heap s'.heap∧s'.os=s₁.os∧AllBare s'.gens) s₁:=by
  intro H hO hS hok hA hK
  have base_of:∀ {b:Addr}{o:Obj},s₁.heap.get? b=some o→H b=none→(hidT s₁.heap H).get? b=some o:=fun e n=>b26 e n
  have noA:∀ {b:Addr}{o:Obj}{es:Array DictEntry}{ep:Nat},s₁.heap.get? b=some o→o.data=.dict es ep→H b=none:=fun {b o es ep} e d=>by
   cases q:H b with
   | none=>rfl
   | some u =>
     have e':b=a:=hA b (by rw [q]; simp)
     subst e'
     rw [ha] at e; cases e
     have d':Data.seq vs.toArray _=Data.dict es ep:=d
     cases d'
  have nsK:∀ {b:Addr}{m:Str→Option Value},s₁.heap.Ns b m→(hidT s₁.heap H).Ns b m:=fun {b m} ⟨o,es,ep,e,d,r⟩=>⟨o,es,ep,base_of e (noA e d),d,r⟩
  have hKb:K.In (hidT s₁.heap H):=fun b o e=>base_of (KX b o e) (by
   cases q:H b with
   | none=>rfl
   | some u =>
     have e':b=a:=hA b (by rw [q]; simp)
     subst e'
     rw [hK (by rw [q]; simp)] at e; cases e)
  have hM:Mod K mg (hidT s₁.heap H):=⟨hKb,nsK hns,⟨mb,nsK hb,hbb⟩,let ⟨mc,h1,h2⟩:=hlim; ⟨mc,nsK h1,h2⟩⟩
  have e0:Env0 P w K mg (hidT s₁.heap H) callerA [] s₁ H:=⟨rfl,hM,fun b o e=>ba4 e,Nat.le_of_eq (au2 _ _),trivial,fun b hb=>absurd (show b∈([]:List Addr) from hb) (by simp),hok,.of_eq hg⟩
  refine codeAny_mono ((F _ hKb (nsK hns)).run callerA [] s₁ H ⟨[.ref a],[]⟩ [.ref a] [.ref a] _ _ hr e0 (hbind s₁ (.ref a)) (.cons rfl .nil) (hsp H hO hS)) fun r s' h=>?_
  cases r with
  | error e=>exact (hCX H e s' h).elim
  | ok fl =>
    cases fl with
    | next=>exact False.elim h
    | brk=>exact False.elim h
    | cont=>exact False.elim h
    | ret u =>
      obtain ⟨v,H',os,bare,un,hok',r',q⟩:=h
      have q':v=.bl true:=q
      subst q'
      obtain rfl:u=Value.bool true:=r'
      refine ⟨rfl,OldK.of_keep fun b o e=>?_,os,bare⟩
      cases q:H b with
      | none=>exact un.keep b o e q (by intro z; exact absurd (show b∈([]:List Addr) from z) (by simp)) (by simp)
      | some u =>
        rcases hO b with z | ⟨ob,xs,z⟩
        · rw [q] at z; cases z
        · have z2:=un.frzs b ob _ z
          obtain ⟨e1,_⟩:=hok b _ z
          obtain ⟨e2,_⟩:=hok' b _ z2
          rw [e] at e1; cases e1
          exact e2
 cases hk:K.lookup a with
 | some o =>
   have e:=KX a o hk
   rw [ha] at e
   cases e
   refine core (fun _=>none) (fun _=>.inl rfl) (.inr ⟨_,vs.toArray,_,hk,rfl,rfl,rfl,by rw [List.size_toArray,lenV]; exact hl,by simpa using rv⟩) (fun b u z=>by have z':(none:Option HO)=some u:=z; cases z') (fun b z=>absurd rfl z) fun z=>absurd rfl z
 | none =>
   refine core (fun b=>if b=a then some (.frz { cls:=.type "list",data:=.seq vs.toArray } (.lst (ns.map V.int))) else none) (fun b=>?_) (.inl (.inr ⟨{ cls:=.type "list",data:=.seq vs.toArray },if_pos rfl⟩)) (fun b u z=>?_) (fun b z=>?_) fun _=>hk
   · by_cases hb:b=a
     · exact .inr ⟨_,_,if_pos hb⟩
     · exact .inl (if_neg hb)
   · by_cases hb:b=a
     · have z':=(if_pos hb).symm.trans z
       cases z'
       subst hb
       exact ⟨ha,by rw [List.length_map]; exact hl,vs,_,rv,ha⟩
     · have z':=(if_neg hb).symm.trans z
       cases z'
   · by_cases hb:b=a
     · exact hb
     · exact absurd (if_neg hb) z
theorem walk_of {l:PySem.W.OpenLaw}{n k:Nat}{q:Program}{loose:List Str}{XP:(Str→Option Value)→Heap→Prop}{YP:World→Heap→Prop}{d:DefRec}{K:Params→PySem.W.Frag}{CX:World→CXT}{sp:World→Sp}{x:Str}
 (hn:l.most=some n) (hn2:n≤sizeLine) (hdf:d.params.defaults=[]) (hr:Room k callerA)
 (hY:∀ (w:World) (h:Heap),YP w h→(K w.params).In h)
 (F:∀ (w:World) (mg:Str→Option Value) (fa:Addr) (h:Heap),(K w.params).In h→h.Ns mainGlobals mg→mg d.name=some (.ref fa) →
  ∃ fd:FuncData,(∀ (s:Shared) (u:Value),BindsTo s fd ⟨[u],[]⟩ [(x,u)]) ∧
   ∀ base:Heap,(K w.params).In base→base.Ns mainGlobals mg→FnOk l.prog w (K w.params) mg base (CX w) k fa fd [x] (sp w))
 (hsp:∀ (w:World) (H:Hp) (a:Addr) (ns:List Int),ns.length≤n→Only H→SqL (K w.params) H a (ns.map V.int)→sp w [.ref a] H (fun v _=>v=.bl true) fun _ _ _=>False)
 (hCX:∀ (w:World) (H:Hp) (s:Shared) (e:Value) (s':Shared),CX w [] H s (fun _ _ _=>False) e s'→False) :
 PySem.W.WalkO q loose XP YP l.row.toRowW d [] (fun f vs=>PySem.call f vs):=by
 refine Att.attach_call hn hdf fun w s₀ s₁ mg mb fa o pm cd doc a vs ns G Y ho hd hcd hmg hobj hints hlen hg=>?_
 have KX:=hY w _ Y
 obtain ⟨fd,hb,hF⟩:=F w mg fa _ KX G.T.g hmg
 exact b36 KX G.T.g G.T.b G.T.builtins G.T.nolimit hg hobj hints (Nat.le_trans hlen hn2) hr hF hb (fun H hO hS=>hsp w H a ns hlen hO hS) fun H e s'=>hCX w H s₁ e s'
def a76 (s:Stmt):Arguments:=match s with
 | .FunctionDef _ a _ _ _ _ _ _ _ _=>a
 | _=>{ posonlyargs:=[],args:=[],vararg:=none,kwonlyargs:=[],kw_defaults:=[],kwarg:=none,defaults:=[] }
def a67 (s:Stmt):List Stmt:=match s with
 | .FunctionDef _ _ b _ _ _ _ _ _ _=>b
 | _=>[]
def a07 (s:Stmt):Scope:=match s with
 | .FunctionDef _ _ _ _ _ _ sc _ _ _=>sc
 | _=>{ kind:=.function,names:=[],isGenerator:=false,isCoroutine:=false }
abbrev CX0:CXT:=fun _ _ _ _ _ _=>False
abbrev E0:XK:=fun _ _ _=>False
theorem a24 {X:Cx}:av3 CX0 X E0:=fun _ _ _ _ _ _ _ h=>h.elim
structure Fun (K:PySem.W.Frag) (x qual:Str) (st:Stmt) (f:Addr) (fd:FuncData):Prop where
 ex:∃ (oc:Value) (od:Option Addr) (kV doc pm:Value) (an:Option Addr) (cdv ct:Value) (osl:Array (Option Value)),
  fd=PySem.W.fnOf x qual (a76 st) (a67 st) (a07 st) .none kV doc pm an cdv ct∧K.lookup f=some ⟨oc,od,.func fd,osl⟩∧PySem.W.codeIn K cdv qual=true
 kp:PySem.W.keepIn K (.ref f)=true
section
variable {P:Program}{w:World}{K:PySem.W.Frag}{mg:Str→Option Value}{base:Heap}
theorem Fun.ok {x qual:Str}{st:Stmt}{f:Addr}{fd:FuncData}{N ps:List Str}{k:Nat}{sp:Sp}(F:Fun K x qual st f fd) (S:FnScope N ps (a07 st)) (len:∀ vs H Q E,sp vs H Q E→vs.length=ps.length)
 (hbody:∀ (cdv:Value) (A:Around) (outer:List Env) (s:Shared) (H:Hp) (vs:List V) (Q:VK) (E:XK),Room k (A.deeper (envOfC qual (a07 st) s.heap.objs.size f cdv))→sp vs H Q E →
  ∃ t,PSs (cxOf CX0 P w K mg base N qual (a07 st) f cdv A outer s H E).nox (a67 st) t∧t { nx:=fun _ H'=>Q .non H',rt:=Q } (start N vs) H):FnOk P w K mg base CX0 (k+1) f fd ps sp:=by
 obtain ⟨oc,od,kV,doc,pm,an,cdv,ct,osl,rfl,lk,hcd⟩:=F.ex
 refine bs4 lk hcd S len fun A outer s H vs Q E hr hsp=>?_
 obtain ⟨t,h,q⟩:=hbody cdv A outer s H vs Q E hr hsp
 exact ⟨t,h.nox,q⟩
theorem Fun.binds {x qual:Str}{st:Stmt}{f:Addr}{fd:FuncData}{ps:List Str}(F:Fun K x qual st f fd)
 (h:∀ (kV doc pm:Value) (an:Option Addr) (cdv ct:Value) (us:List Value),us.length=ps.length→bindArgs (PySem.W.fnOf x qual (a76 st) (a67 st) (a07 st) .none kV doc pm an cdv ct) ⟨us,[]⟩=pure (ps.zip us)):Binds K fd ps []:=by
 obtain ⟨oc,od,kV,doc,pm,an,cdv,ct,osl,rfl,lk,hcd⟩:=F.ex
 exact .all (h kV doc pm an cdv ct)
theorem b80 {x qual:Str}{st:Stmt}{f:Addr}{oc:Value}{od an:Option Addr}{osl:Array (Option Value)}{kV doc pm cdv ct:Value}(l:K.lookup f=some ⟨oc,od,.func (PySem.W.fnOf x qual (a76 st) (a67 st) (a07 st) .none kV doc pm an cdv ct),osl⟩)
 (c:PySem.W.codeIn K cdv qual=true) (k:PySem.W.keepIn K (.ref f)=true):Fun K x qual st f (PySem.W.fnOf x qual (a76 st) (a67 st) (a07 st) .none kV doc pm an cdv ct):=⟨⟨oc,od,kV,doc,pm,an,cdv,ct,osl,rfl,l,c⟩,k⟩
end
theorem b37 {A:Around}{k:Nat}(hr:Room k A):A.units+1<cLine:=Nat.lt_of_le_of_lt (Nat.add_le_add_left (by decide:1≤64) _) hr.units
theorem small1000 {n:Nat}(h:n≤1000):n<sizeLine:=Nat.lt_of_le_of_lt h (by decide)
section
variable {X:Cx}
theorem pv (i:Nat) {x:Str}{pos:Pos}(hN:X.N[i]?=some x:=by rfl) (hv:Vis X.env.scope x:=by first | exact Or.inl rfl | exact Or.inr (Or.inl rfl) | exact Or.inr (Or.inr rfl)) (hd:(x == ("__debug__":Str))=false:=by decide)
 (hcd:(x == ("__classdict__":Str))=false:=by decide):PE X (.Name x pos) (tVar i):=bg6 hN hv hd hcd
end
theorem iteF {A B:Prop}(h:B):if false=true then A else B:=by
 rw [if_neg Bool.false_ne_true]
 exact h
theorem iteT {A B:Prop}(h:A):if true=true then A else B:=by
 rw [if_pos rfl]
 exact h
def Same (H H':Hp):Prop:=∀ b o,H b=some o→H' b=some o
theorem Same.refl (H:Hp):Same H H:=fun _ _ h=>h
theorem Same.trans {H H1 H2:Hp}(a:Same H H1) (b:Same H1 H2):Same H H2:=fun c o h=>b c o (a c o h)
end L2
namespace K14
open PySem L2
def top (i:Nat):Stmt:=PySem.Challenge.pw_callmill_k14_dry_ends.main.body.getD i (.Pass ⟨0,0,0,0⟩)
def view:Program:={ PySem.Challenge.pw_callmill_k14_dry_ends with main:={ PySem.Challenge.pw_callmill_k14_dry_ends.main with body:=[top 1,top 2,top 3,top 4,top 5,top 6,top 7,top 9,top 10,top 11,top 12,top 13,top 14,top 15,top 16,top 17,top 18,top 19,top 20,top 21] } }
abbrev ae6:Stmt:=top 2
abbrev aa2:Stmt:=top 3
abbrev a39:Stmt:=top 4
abbrev a45:Stmt:=top 5
abbrev a77:Stmt:=top 6
abbrev a75:Stmt:=top 7
abbrev a85:Stmt:=top 9
abbrev ab9:Stmt:=top 10
abbrev ae7:Stmt:=top 11
abbrev ac0:Stmt:=top 12
abbrev ac1:Stmt:=top 13
abbrev aj6:Stmt:=top 14
abbrev ae8:Stmt:=top 15
abbrev a78:Stmt:=top 16
abbrev a68:Stmt:=top 17
abbrev aa3:Stmt:=top 18
abbrev ap5:Stmt:=top 19
abbrev ac2:Stmt:=top 20
abbrev bj1:Stmt:=top 21
def aj7 (K:PySem.W.Frag):Sp:=fun vs H Q _=>∃ (a:Addr) (ns:List Int),vs=[.ref a]∧SqL K H a (ns.map V.int)∧ns.length≤63∧∀ H',Q (.bl true) H'
set_option genInjectivity false in
structure Adr where
 {a_dry_ends:Addr}
 {fd_dry_ends:FuncData}
 {a_first_talk:Addr}
 {fd_first_talk:FuncData}
 {a_ends_of_body:Addr}
 {fd_ends_of_body:FuncData}
 {a_ends_of_statement:Addr}
 {fd_ends_of_statement:FuncData}
 {a_kept_ends:Addr}
 {fd_kept_ends:FuncData}
 {a_ends_of_talk:Addr}
 {fd_ends_of_talk:FuncData}
 {a__law_cell_at:Addr}
 {fd__law_cell_at:FuncData}
 {a__law_mixed:Addr}
 {fd__law_mixed:FuncData}
 {a__law_deck:Addr}
 {fd__law_deck:FuncData}
 {a__law_digit:Addr}
 {fd__law_digit:FuncData}
 {a__law_block:Addr}
 {fd__law_block:FuncData}
 {a__law_one:Addr}
 {fd__law_one:FuncData}
 {a__law_some:Addr}
 {fd__law_some:FuncData}
 {a__law_talks:Addr}
 {fd__law_talks:FuncData}
 {a__law_bodies:Addr}
 {fd__law_bodies:FuncData}
 {a__law_behind:Addr}
 {fd__law_behind:FuncData}
 {a__law_on:Addr}
 {fd__law_on:FuncData}
 {a__law_due:Addr}
 {fd__law_due:FuncData}
 {a_law:Addr}
 {fd_law:FuncData}
 {u_ENDS:Value}
 {ad_ENDS:Addr}
structure CIi (K:PySem.W.Frag) (x q:Str) (st:Stmt) (ps:List Str) (a:Addr) (fd:FuncData):Prop where
 F:Fun K x q st a fd
 b:Binds K fd ps []
structure CFi (K:PySem.W.Frag) (mg:Str→Option Value) (x:Str) (st:Stmt) (ps:List Str) (a:Addr) (fd:FuncData):Prop extends CIi K x x st ps a fd where
 m:mg x=some (.ref a)
structure CMi (K:PySem.W.Frag) (c:Addr) (x q:Str) (st:Stmt) (ps:List Str) (a:Addr) (fd:FuncData):Prop extends CIi K x q st ps a fd where
 M:Meth K c x a
structure Txt (K:PySem.W.Frag) (mg:Str→Option Value) (t:Adr):Prop where
 f_dry_ends:CFi K mg "dry_ends" ae6 ["script","body"] t.a_dry_ends t.fd_dry_ends
 f_first_talk:CFi K mg "first_talk" aa2 ["talks","name"] t.a_first_talk t.fd_first_talk
 f_ends_of_body:CFi K mg "ends_of_body" a39 ["body","talks","known"] t.a_ends_of_body t.fd_ends_of_body
 f_ends_of_statement:CFi K mg "ends_of_statement" a45 ["statement","talks","known"] t.a_ends_of_statement t.fd_ends_of_statement
 f_kept_ends:CFi K mg "kept_ends" a77 ["ends","kept"] t.a_kept_ends t.fd_kept_ends
 f_ends_of_talk:CFi K mg "ends_of_talk" a75 ["name","talks","known"] t.a_ends_of_talk t.fd_ends_of_talk
 f__law_cell_at:CFi K mg "_law_cell_at" a85 ["script","k"] t.a__law_cell_at t.fd__law_cell_at
 f__law_mixed:CFi K mg "_law_mixed" ab9 ["cell","k"] t.a__law_mixed t.fd__law_mixed
 f__law_deck:CFi K mg "_law_deck" ae7 ["script"] t.a__law_deck t.fd__law_deck
 f__law_digit:CFi K mg "_law_digit" ac0 ["deck","many"] t.a__law_digit t.fd__law_digit
 f__law_block:CFi K mg "_law_block" ac1 ["deck","later","looped","deep"] t.a__law_block t.fd__law_block
 f__law_one:CFi K mg "_law_one" aj6 ["deck","later","looped","deep"] t.a__law_one t.fd__law_one
 f__law_some:CFi K mg "_law_some" ae8 ["deck","later","looped","deep"] t.a__law_some t.fd__law_some
 f__law_talks:CFi K mg "_law_talks" a78 ["deck"] t.a__law_talks t.fd__law_talks
 f__law_bodies:CFi K mg "_law_bodies" a68 ["body"] t.a__law_bodies t.fd__law_bodies
 f__law_behind:CFi K mg "_law_behind" aa3 ["pile","mark"] t.a__law_behind t.fd__law_behind
 f__law_on:CFi K mg "_law_on" ap5 ["talks","pile","statement","found"] t.a__law_on t.fd__law_on
 f__law_due:CFi K mg "_law_due" ac2 ["talks","body"] t.a__law_due t.fd__law_due
 f_law:CFi K mg "law" bj1 ["script"] t.a_law t.fd_law
 z_abs:mg "abs"=none
 z_dict:mg "dict"=none
 z_enumerate:mg "enumerate"=none
 z_isinstance:mg "isinstance"=none
 z_len:mg "len"=none
 z_list:mg "list"=none
 z_range:mg "range"=none
 z_reversed:mg "reversed"=none
 m_ENDS:mg "ENDS"=some t.u_ENDS
 r_ENDS:RelV (.ref t.ad_ENDS) t.u_ENDS
 dd_ENDS:∃ od its nn sl,K.lookup t.ad_ENDS=some ⟨.type "tuple",od,.seq its nn,sl⟩∧its.size≤sizeLine∧Vals [.str "on",.str "again",.str "leave",.str "back",.str "stop"] its.toList
theorem ad9 {us:List Value}{n:Nat}(h:us.length=n+1):∃ u r,us=u::r:=by
 cases us with
 | nil=>cases h
 | cons u r=>exact ⟨u,r,rfl⟩
theorem bs6 {us:List Value}(h:us.length=1):∃ u0,us=[u0]:=by
 obtain ⟨u0,us,rfl⟩:=ad9 h; replace h:=Nat.succ.inj h
 obtain rfl:=List.length_eq_zero_iff.mp h
 exact ⟨u0,rfl⟩
theorem bs7 {us:List Value}(h:us.length=2):∃ u0 u1,us=[u0,u1]:=by
 obtain ⟨u0,us,rfl⟩:=ad9 h; replace h:=Nat.succ.inj h
 obtain ⟨u1,us,rfl⟩:=ad9 h; replace h:=Nat.succ.inj h
 obtain rfl:=List.length_eq_zero_iff.mp h
 exact ⟨u0,u1,rfl⟩
theorem bs8 {us:List Value}(h:us.length=3):∃ u0 u1 u2,us=[u0,u1,u2]:=by
 obtain ⟨u0,us,rfl⟩:=ad9 h; replace h:=Nat.succ.inj h
 obtain ⟨u1,us,rfl⟩:=ad9 h; replace h:=Nat.succ.inj h
 obtain ⟨u2,us,rfl⟩:=ad9 h; replace h:=Nat.succ.inj h
 obtain rfl:=List.length_eq_zero_iff.mp h
 exact ⟨u0,u1,u2,rfl⟩
theorem bs9 {us:List Value}(h:us.length=4):∃ u0 u1 u2 u3,us=[u0,u1,u2,u3]:=by
 obtain ⟨u0,us,rfl⟩:=ad9 h; replace h:=Nat.succ.inj h
 obtain ⟨u1,us,rfl⟩:=ad9 h; replace h:=Nat.succ.inj h
 obtain ⟨u2,us,rfl⟩:=ad9 h; replace h:=Nat.succ.inj h
 obtain ⟨u3,us,rfl⟩:=ad9 h; replace h:=Nat.succ.inj h
 obtain rfl:=List.length_eq_zero_iff.mp h
 exact ⟨u0,u1,u2,u3,rfl⟩
theorem bb6 {K:PySem.W.Frag}{x q:Str}{st:Stmt}{f:Addr}{ps:List Str}{oc:Value}{od an:Option Addr}{osl:Array (Option Value)}{kV doc pm cdv ct:Value}(l:K.lookup f=some ⟨oc,od,.func (PySem.W.fnOf x q (a76 st) (a67 st) (a07 st) .none kV doc pm an cdv ct),osl⟩) (c:PySem.W.codeIn K cdv q=true) (k:PySem.W.keepIn K (.ref f)=true) (b:∀ (kV doc pm:Value) (an:Option Addr) (cdv ct:Value) (us:List Value),us.length=ps.length→bindArgs (PySem.W.fnOf x q (a76 st) (a67 st) (a07 st) .none kV doc pm an cdv ct) ⟨us,[]⟩=pure (ps.zip us)):CIi K x q st ps f (PySem.W.fnOf x q (a76 st) (a67 st) (a07 st) .none kV doc pm an cdv ct):=⟨b80 l c k,(b80 l c k).binds b⟩
theorem bt0 {K:PySem.W.Frag}{mg:Str→Option Value}{h:Heap}{x:Str}{st:Stmt}{ps:List Str}{f:Addr}{fd:FuncData}(X:K.In h) (G:h.Ns mainGlobals mg) (a:PySem.W.nsIn K mainGlobals x=some (some (.ref f))) (i:CIi K x x st ps f fd):CFi K mg x st ps f fd:=⟨i,PySem.W.mg_of X G a⟩
def HF (P:Params) (K:PySem.W.Frag):Prop:=∃ t:Adr,∀ (mg:Str→Option Value) (h:Heap),K.In h→h.Ns mainGlobals mg→Txt K mg t
theorem walk2 {l:PySem.W.OpenLaw}{q:Program}{loose:List Str}{XP:(Str→Option Value)→Heap→Prop}{YP:World→Heap→Prop}{d:DefRec}{K:Params→PySem.W.Frag}(hn:l.most=some 63) (hdf:d.params.defaults=[]) (hd:d.name="law") (hl:l=PySem.Challenge.rw_callmill_k14_dry_ends) (hY:∀ (w:World) (h:Heap),YP w h→(K w.params).In h) (hF:∀ P,HF P (K P)) (G:∀ K:Params→PySem.W.Frag,(∀ P,HF P (K P))→(∀ (w:World) (mg:Str→Option Value) (fa:Addr) (h:Heap),(K w.params).In h→h.Ns mainGlobals mg→mg "law"=some (.ref fa)→∃ fd:FuncData,(∀ (s:Shared) (u:Value),BindsTo s fd ⟨[u],[]⟩ [("script",u)])∧∀ base:Heap,(K w.params).In base→base.Ns mainGlobals mg→FnOk PySem.Challenge.rw_callmill_k14_dry_ends.prog w (K w.params) mg base CX0 120 fa fd ["script"] (aj7 (K w.params)))):PySem.W.WalkO q loose XP YP l.row.toRowW d [] (fun f vs=>PySem.call f vs) :=
 L2.walk_of (n:=63) (k:=120) (x:="script") (CX:=fun _=>CX0) (sp:=fun w=>aj7 (K w.params)) hn (by decide) hdf ⟨rfl,by decide,by decide⟩ hY (by rw [hd,hl]; exact G K hF) (fun _ _ a ns hl _ hS=>⟨a,ns,rfl,hS,hl,fun _=>rfl⟩) fun _ _ _ _ _ z=>z
theorem bt1 {K:PySem.W.Frag}{C:Addr}{x q:Str}{st:Stmt}{ps:List Str}{f:Addr}{fd:FuncData}(a:PySem.W.findIn K (.ref C) x=some (some (.ref f))) (i:PySem.W.isFn K (.ref f)=true) (h:CIi K x q st ps f fd):CMi K C x q st ps f fd:=⟨h,a,i,h.F.kp⟩
theorem bt2 {K:PySem.W.Frag}{a:Addr}{vs:List V}{od:Option Addr}{its:Array Value}{nn:Nat}{sl:Array (Option Value)}(h1:K.lookup a=some ⟨.type "tuple",od,.seq its nn,sl⟩) (h2:its.size≤sizeLine) (h3:Vals vs its.toList):∃ od its nn sl,K.lookup a=some ⟨.type "tuple",od,.seq its nn,sl⟩∧its.size≤sizeLine∧Vals vs its.toList:=⟨_,_,_,_,h1,h2,h3⟩
theorem bt3 {K:PySem.W.Frag}{a:Addr}{od:Option Addr}{cd:ClassData}{sl:Array (Option Value)}(h:K.lookup a=some ⟨.type "type",od,.cls cd,sl⟩):∃ od cd sl,K.lookup a=some ⟨.type "type",od,.cls cd,sl⟩:=⟨_,_,_,h⟩
section
open PySem PySem.W PyProof.Rows
local macro_rules | `(tactic| o_head $H) => `(tactic| refine holds_open (q := K14.view) (loose := []) (Xt := fun s => xlAt K14.view [] s && recOk (RowW.records _) s) (XP := XL K14.view []) (Yf := Hook.obs $H) (Ya := Hook.val $H) (YP := Hook.says $H) (N := 8000) ?hl (Hook.of $H) (Hook.keeps $H) (fun s e => xl_of s (Bool.and_eq_true_iff.mp e).1) XL.keeps (by rfl) (by rfl) (by rfl) (fun s e => recFacts_of (Bool.and_eq_true_iff.mp e).2) (by rfl) (by first | assumption | decide +kernel) (by decide +kernel) ⟨rfl, rfl, rfl, rfl, rfl, by decide +kernel⟩ ?hw ?hc)
local macro_rules | `(tactic| walk_at "bi") => `(tactic| (intro _ _ _ _ _ _ us hl; first | (obtain ⟨_, z⟩ := bs6 hl; subst z; rfl) | (obtain ⟨_, _, z⟩ := bs7 hl; subst z; rfl) | (obtain ⟨_, _, _, z⟩ := bs8 hl; subst z; rfl) | (obtain ⟨_, _, _, _, z⟩ := bs9 hl; subst z; rfl)))
local macro_rules | `(tactic| walk_at "fi") => `(tactic| first | (refine' bt0 $(Lean.mkIdent `X) $(Lean.mkIdent `G) ?a (bb6 ?l ?c ?k (by walk_at "bi")); (case a => k_is); (case l => k_is); (case c => k_is); (case k => k_is)) | (refine' bt1 ?a ?i (bb6 ?l ?c ?k (by walk_at "bi")); (case a => k_is); (case i => k_is); (case l => k_is); (case c => k_is); (case k => k_is)) | (refine' bb6 ?l ?c ?k (by walk_at "bi"); (case l => k_is); (case c => k_is); (case k => k_is)) | (refine' PySem.W.mg_of $(Lean.mkIdent `X) $(Lean.mkIdent `G) ?a; (case a => k_is)) | (refine' PySem.W.mg_none_of $(Lean.mkIdent `X) $(Lean.mkIdent `G) ?a; (case a => k_is)) | (unfold bi0; k_is) | k_is | (refine' Cls.mk ?a ?b ?c ?d; (case a => k_is); (case b => k_is); (case c => k_is); (case d => k_is)) | (refine' Mk.mk ?a ?b ?c ?d; (case a => k_is); (case b => k_is); (case c => k_is); (case d => k_is)) | exact ⟨_, rfl⟩ | (with_reducible exact rfl) | (refine' bt2 ?a ?b ?c; (case a => k_is); (case b => exact Nat.le_of_lt (L2.small1000 (by decide))); (case c => repeat first | exact .nil | refine .cons (by first | exact rfl | exact ⟨_, rfl⟩) ?_)) | (refine' bt3 ?a; (case a => k_is)) | (change PySem.W.excIn _ _ _ _ = true; kernel_rfl) | exact rfl)
def bt:List Obj→Nat→BT→BT
 | [],_,t=>t
 | o::l,i,t=>bt l (i+1) (t.ins i o)
noncomputable def T0 (P:Params):BT:=bt (boot_heap P).objs.toList 0 .nil
def runT (tb:String→Option Builtin) (p:Program) (w:World) (n₀:Nat) (ann:Option Value):Nat→SharedT→Thread→Option SharedT
 | 0,_,_=>none
 | n+1,s,t=>match through t with
   | true=>some s
   | false=>match stepOk n₀ ann t with
     | false=>none
     | true=>match stepT (denote tb) p w s t with
       | some (s',t')=>runT tb p w n₀ ann n s' t'
       | none=>none
theorem aw3 {tb:String→Option Builtin}{p:Program}{w:World}{n₀:Nat}{ann:Option Value}:∀ {n:Nat}{s s':SharedT}{t:Thread},runT tb p w n₀ ann n s t=some s'→topRun tb p w n₀ ann n s.abs t=some s'.abs
 | 0,_,_,_,h=>by cases h
 | n+1,s,s',t,h=>by
   unfold runT at h
   unfold topRun
   cases he:through t with
   | true=>rw [he] at h; cases h; rfl
   | false =>
     rw [he] at h
     cases hk:stepOk n₀ ann t with
     | false=>rw [hk] at h; cases h
     | true =>
       rw [hk] at h
       cases hs:stepT (denote tb) p w s t with
       | none=>rw [hs] at h; cases h
       | some r=>obtain ⟨s₂,t₂⟩:=r; rw [hs] at h; rw [stepT_spec hs]; exact aw3 h
theorem aw4 {p q:Program}{loose:List Str}{Xt:Shared→Bool}{α:Type}{Yf:Shared→α}{Ya:World→α}{N:Nat}{g0:Bool}{m₀:Nat}{ann:Option Value}(e:opening p=plainProg p.main.scope.names) (hN:Nat.ble 600 N=true) (f:∀ s,fenceModules? p s=some s)
 (b:∀ P,boot_heap P=absHeap (T0 P) m₀ (boot_heap P).life) (z:∀ w:World,(boot_heap w.params).isNs mainGlobals=true∧(boot_heap w.params).objs.size=m₀∧(boot_heap w.params).nsMap mainGlobals "__annotations__"=ann)
 (h1:∀ (w:World) (os:OsState),(runT treeTable p w m₀ ann N ⟨T0 w.params,m₀,(boot_heap w.params).life,Array.mk [],boot_drawn,boot_toks,os⟩ (topStub p)).map (fun s=>(staticsOk (importedModules p.main.body) (boot_heap w.params) s.abs.heap && namesBound p s.abs.heap && gensDone s.abs && laidKept (boot_heap w.params) s.abs.heap,Yf s.abs))=some (true,Ya w))
 (h2:∀ (w:World) (os:OsState),(runT treeTable p w m₀ ann N ⟨T0 w.params,m₀,(boot_heap w.params).life,Array.mk [],boot_drawn,boot_toks,os⟩ (topStub p)).map (fun s=>openSeen q loose (importedModules p.main.body) Xt g0 s.abs)=some (openGood q loose)):LeftO p q loose Xt Yf Ya N g0:=fun w=>by
 obtain ⟨⟨hp,g,d,k,os⟩,hs,hv⟩:=Option.map_eq_some_iff.mp (boot_open e hN f w)
 injection hv with v1 v2
 injection v2 with v2 v3
 injection v3 with v3 v4
 dsimp only at v1 v2 v3 v4
 subst v1 v2 v3 v4
 obtain ⟨z1,z2,z3⟩:=z w
 obtain ⟨s',h0,l1⟩:=Option.map_eq_some_iff.mp (h1 w os)
 obtain ⟨l1,l3⟩:=Prod.mk.inj l1
 have l2:=h2 w os
 rw [h0] at l2
 replace l2:=Option.some.inj l2
 have r:=aw3 h0
 have r':topRun treeTable p w m₀ ann N ⟨boot_heap w.params,Array.mk [],boot_drawn,boot_toks,os⟩ (topStub p)=some s'.abs:=by
  rw [b w.params]
  exact r
 unfold openEnds
 rw [hs]
 show (topFrom treeTable p w N _).map _=_
 unfold topFrom
 dsimp only
 rw [z1,z2,z3,r']
 show (match staticsOk (importedModules p.main.body) (boot_heap w.params) s'.abs.heap && namesBound p s'.abs.heap && gensDone s'.abs && laidKept (boot_heap w.params) s'.abs.heap with | true=>some s'.abs | false=>none).map _=_
 rw [l1]
 exact congrArg some (Prod.ext l2 l3)
theorem bj2 (P:Params):boot_heap P=absHeap (T0 P) 11 (boot_heap P).life:=by kernel_rfl
theorem bj3 (w:World):(boot_heap w.params).isNs mainGlobals=true∧(boot_heap w.params).objs.size=11∧(boot_heap w.params).nsMap mainGlobals "__annotations__"=some (.ref 6):=⟨by kernel_rfl,by kernel_rfl,by kernel_rfl⟩
theorem bb7 (w:World) (os:OsState):(runT treeTable PySem.Challenge.rw_callmill_k14_dry_ends.row.prog w 11 (some (.ref 6)) 8000 ⟨T0 w.params,11,(boot_heap w.params).life,Array.mk [],boot_drawn,boot_toks,os⟩ (topStub PySem.Challenge.rw_callmill_k14_dry_ends.row.prog)).map (fun s=>openSeen K14.view [] (importedModules PySem.Challenge.rw_callmill_k14_dry_ends.row.prog.main.body) (fun s=>xlAt K14.view [] s && recOk PySem.Challenge.rw_callmill_k14_dry_ends.row.records s) true s.abs)=some (openGood K14.view []):=by kernel_rfl
set_option maxRecDepth 100000 in
set_option maxHeartbeats 0 in
theorem head (G:∀ K:Params→PySem.W.Frag,(∀ P,HF P (K P))→(∀ (w:World) (mg:Str→Option Value) (fa:Addr) (h:Heap),(K w.params).In h→h.Ns mainGlobals mg→mg "law"=some (.ref fa)→∃ fd:FuncData,(∀ (s:Shared) (u:Value),BindsTo s fd ⟨[u],[]⟩ [("script",u)])∧∀ base:Heap,(K w.params).In base→base.Ns mainGlobals mg→FnOk PySem.Challenge.rw_callmill_k14_dry_ends.prog w (K w.params) mg base CX0 120 fa fd ["script"] (aj7 (K w.params)))):PySem.Challenge.rw_callmill_k14_dry_ends.Holds:=by
 w_on; o_law; k_head; (case hw=>w_witness2); (case hl=>exact aw4 rfl rfl (fun _=>rfl) bj2 bj3 (by intro w os; kernel_rfl) bb7)
 k_fill
 refine K14.walk2 (l:=PySem.Challenge.rw_callmill_k14_dry_ends) rfl rfl rfl rfl (fun w h Y=>PySem.W.kIn_of Y) ?facts G
 case facts =>
  intro P
  refine' ⟨Adr.mk,fun mg h X G=>?z⟩
  case z =>
   constructor
   all_goals (try dsimp only); walk_at "fi"
end
end K14
namespace L2
open PySem PySem.Spec PyProof.Rows
section
variable {κ:Type} [DecidableEq κ]
def valV (kvs:List (κ×V)) (k:κ):Option V:=(kvs.find? fun kv=>decide (kv.1=k)).map (·.2)
def putK (kvs:List (κ×V)) (k:κ) (v:V):List (κ×V) :=
 if (kvs.any fun kv=>decide (kv.1=k))=true then kvs.map (fun kv=>if kv.1=k then (kv.1,v) else kv) else kvs++[(k,v)]
theorem a36 {p:κ×V}{r:List (κ×V)}{k:κ}(e:p.1=k):valV (p::r) k=some p.2:=by simp [valV,List.find?_cons,e]
theorem a37 {p:κ×V}{r:List (κ×V)}{k:κ}(e:¬ p.1=k):valV (p::r) k=valV r k:=by simp [valV,List.find?_cons,e]
theorem aa8 (k:κ):∀ kvs:List (κ×V),(kvs.any fun kv=>decide (kv.1=k))=(valV kvs k).isSome
 | []=>rfl
 | p::r=>by
   rw [List.any_cons]
   by_cases e:p.1=k
   · simp only [a36 e,decide_eq_true e,Bool.true_or,Option.isSome_some]
   · rw [a37 e,decide_eq_false e,Bool.false_or]; exact aa8 k r
theorem ap6 (k j:κ) (y:V):∀ kvs:List (κ×V),valV (kvs.map fun kv=>if kv.1=k then (kv.1,y) else kv) j=(valV kvs j).map fun x=>if j=k then y else x
 | []=>rfl
 | p::r=>by
   have ih:=ap6 k j y r
   rw [List.map_cons]
   by_cases h:p.1=k
   · rw [if_pos h]
     by_cases e:p.1=j
     · rw [a36 (p:=(p.1,y)) e,a36 e,Option.map_some,if_pos (e.symm.trans h)]
     · rw [a37 (p:=(p.1,y)) e,a37 e,ih]
   · rw [if_neg h]
     by_cases e:p.1=j
     · rw [a36 (p:=p) e,a36 e,Option.map_some,if_neg (fun z=>h (e.trans z))]
     · rw [a37 (p:=p) e,a37 e,ih]
theorem aj8 (k j:κ) (y:V):∀ kvs:List (κ×V),valV kvs k=none→valV (kvs++[(k,y)]) j=if j=k then some y else valV kvs j
 | [],_=>by
   by_cases e:k=j
   · rw [if_pos e.symm]; exact a36 (p:=(k,y)) e
   · rw [if_neg (fun z=>e z.symm)]; exact a37 (p:=(k,y)) e
 | p::r,hn=>by
   rw [List.cons_append]
   have hk:¬ p.1=k:=fun z=>by rw [a36 z] at hn; cases hn
   rw [a37 hk] at hn
   have ih:=aj8 k j y r hn
   by_cases e:p.1=j
   · rw [a36 e,a36 e,if_neg (fun z=>hk (e.trans z))]
   · rw [a37 e,a37 e,ih]
theorem aa9 (kvs:List (κ×V)) (k j:κ) (y:V):valV (putK kvs k y) j=if j=k then some y else valV kvs j:=by
 unfold putK
 by_cases a:(kvs.any fun kv=>decide (kv.1=k))=true
 · rw [if_pos a,ap6]
   rw [aa8] at a
   by_cases e:j=k
   · obtain ⟨x,hx⟩:=Option.isSome_iff_exists.mp a
     rw [if_pos e,e,hx,Option.map_some,if_pos rfl]
   · rw [if_neg e]
     cases valV kvs j with
     | none=>rfl
     | some x=>rw [Option.map_some,if_neg e]
 · rw [if_neg a]
   refine aj8 k j y kvs ?_
   rw [aa8] at a
   cases q:valV kvs k with
   | none=>rfl
   | some x=>rw [q] at a; exact (a rfl).elim
theorem a79 (kvs:List (κ×V)) (k:κ) (v:V):(putK kvs k v).length≤kvs.length+1:=by
 unfold putK
 split
 · rw [List.length_map]; omega
 · rw [List.length_append,List.length_cons,List.length_nil]; omega
theorem RelO.isSome_eq {o:Option V}{u:Option Value}(r:RelO o u):o.isSome=u.isSome:=by
 cases o with
 | none=>cases u with
   | none=>rfl
   | some _=>exact (show False from r).elim
 | some _=>cases u with
   | none=>exact (show False from r).elim
   | some _=>rfl
theorem KV.val {kvs:List (κ×V)}{vs:List (κ×Value)}(r:KV kvs vs) (k:κ):RelO (valV kvs k) (valueAt vs k):=by
 unfold KV at r
 induction r with
 | nil=>exact True.intro
 | @cons p q ps qs h t ih =>
   obtain ⟨h1,h2⟩:=h
   by_cases e:p.1=k
   · have e':q.1=k:=h1.symm.trans e
     have b:valueAt (q::qs) k=some q.2:=by simp [valueAt,List.find?_cons,e']
     rw [a36 e,b]; exact h2
   · have e':¬ q.1=k:=fun z=>e (h1.trans z)
     have b:valueAt (q::qs) k=valueAt qs k:=by simp [valueAt,List.find?_cons,e']
     rw [a37 e,b]; exact ih
theorem KV.any {kvs:List (κ×V)}{vs:List (κ×Value)}(r:KV kvs vs) (k:κ):(kvs.any fun kv=>decide (kv.1=k))=vs.any fun kv=>decide (kv.1=k):=by
 unfold KV at r
 induction r with
 | nil=>rfl
 | cons h t ih=>rw [List.any_cons,List.any_cons,ih,h.1]
theorem KV.repl {kvs:List (κ×V)}{vs:List (κ×Value)}(r:KV kvs vs) (k:κ) {y:V}{u:Value}(ry:RelV y u) :
 KV (kvs.map fun kv=>if kv.1=k then (kv.1,y) else kv) (vs.map fun kv=>if kv.1=k then (kv.1,u) else kv):=by
 unfold KV at r ⊢
 induction r with
 | nil=>exact .nil
 | @cons p q ps qs h t ih =>
   rw [List.map_cons,List.map_cons]
   refine .cons ?_ ih
   obtain ⟨h1,h2⟩:=h
   by_cases e:p.1=k
   · rw [if_pos e,if_pos (h1.symm.trans e)]; exact ⟨h1,ry⟩
   · rw [if_neg e,if_neg (fun z=>e (h1.trans z))]; exact ⟨h1,h2⟩
theorem KV.put {kvs:List (κ×V)}{vs:List (κ×Value)}(r:KV kvs vs) (k:κ) {y:V}{u:Value}(ry:RelV y u):KV (putK kvs k y) (stored vs k u):=by
 unfold putK stored
 rw [r.any k]
 by_cases e:(vs.any fun kv=>decide (kv.1=k))=true
 · rw [if_pos e,if_pos e]; exact r.repl k ry
 · rw [if_neg e,if_neg e]; exact Paired.snoc r ⟨rfl,ry⟩
theorem KV.length {kvs:List (κ×V)}{vs:List (κ×Value)}(r:KV kvs vs):kvs.length=vs.length:=Paired.length r
end
theorem aw5 {P:Program}{w:World}{k:Key}{u:Value}(r:RelV (kV k) u):(a34 P w).is k u=true:=by
 cases k with
 | inl i=>obtain ⟨t,e⟩:=(show ∃ t,u=Value.int i t from r); subst e; exact am3 P w i t
 | inr x=>obtain ⟨t,e⟩:=(show ∃ t,u=Value.str x t from r); subst e; exact am4 P w x t
theorem aj9 {P:Program}{w:World}:∀ {ks:List Key}{us:List Value},Vals (ks.map kV) us→ItemsAre (a34 P w) ks us
 | [],_,r=>by rw [List.map_nil] at r; cases r; exact .nil
 | k::ks,_,r=>by
   rw [List.map_cons] at r
   cases r with
   | cons h t=>exact .cons (aw5 h) (aj9 t)
abbrev KT (H:Hp):List (List Key×V)→List (List Key×Addr×Value)→Prop:=Paired fun p q=>p.1=q.1∧H q.2.1=some (.tup (p.1.map kV))∧RelV p.2 q.2.2
theorem KT.val {H:Hp}{kvs:List (List Key×V)}{xs:List (List Key×Addr×Value)}(r:KT H kvs xs) (k:List Key):RelO (valV kvs k) ((atKey xs k).map (·.2)):=by
 induction r with
 | nil=>exact True.intro
 | @cons p q ps qs h t ih =>
   obtain ⟨h1,_,h2⟩:=h
   by_cases e:p.1=k
   · have e':q.1=k:=h1.symm.trans e
     have b:atKey (q::qs) k=some q.2:=by simp [atKey,List.find?_cons,e']
     rw [a36 e,b]; exact h2
   · have e':¬ q.1=k:=fun z=>e (h1.trans z)
     have b:atKey (q::qs) k=atKey qs k:=by simp [atKey,List.find?_cons,e']
     rw [a37 e,b]; exact ih
theorem KT.repl {H:Hp}{kvs:List (List Key×V)}{xs:List (List Key×Addr×Value)}(r:KT H kvs xs) (k:List Key) {y:V}{u:Value}(ry:RelV y u) :
 KT H (kvs.map fun kv=>if kv.1=k then (kv.1,y) else kv) (xs.map (putAt k u)):=by
 induction r with
 | nil=>exact .nil
 | @cons p q ps qs h t ih =>
   rw [List.map_cons,List.map_cons]
   refine .cons ?_ ih
   obtain ⟨h1,h2,h3⟩:=h
   unfold putAt
   by_cases e:p.1=k
   · rw [if_pos e,if_pos (h1.symm.trans e)]; exact ⟨h1,h2,ry⟩
   · rw [if_neg e,if_neg (fun z=>e (h1.trans z))]; exact ⟨h1,h2,h3⟩
theorem KT.put {H:Hp}{kvs:List (List Key×V)}{xs:List (List Key×Addr×Value)}(r:KT H kvs xs) (k:List Key) {b:Addr}{y:V}{u:Value}(hb:H b=some (.tup (k.map kV))) (ry:RelV y u) :
 KT H (putK kvs k y) (storedH xs k b u):=by
 have e:(kvs.any fun kv=>decide (kv.1=k))=(atKey xs k).isSome:=by
  rw [aa8,(r.val k).isSome_eq,Option.isSome_map]
 unfold putK storedH
 rw [e]
 by_cases q:(atKey xs k).isSome=true
 · rw [if_pos q,if_pos q]; exact r.repl k ry
 · rw [if_neg q,if_neg q]; exact Paired.snoc r ⟨rfl,hb,ry⟩
theorem KT.keeps {H H':Hp}{kvs:List (List Key×V)}{xs:List (List Key×Addr×Value)}(r:KT H kvs xs) (ht:∀ b ys,H b=some (.tup ys)→H' b=some (.tup ys)):KT H' kvs xs :=
 Paired.mapP r fun _ _ z=>⟨z.1,ht _ _ z.2.1,z.2.2⟩
section
variable {P:Program}{w:World}{H:Hp}{h:Heap}{a:Addr}
theorem bj4 {u:HO}(ok:HOk P w H h) (e:Rd H a u):ObjOk P w H h a u:=e.ok ok
theorem b38 {kvs:List (Key×V)}(ok:HOk P w H h) (e:Rd H a (.dK kvs)):kvs.length≤sizeLine∧(a == sysModules)=false∧∃ vs,KV kvs vs∧h.DictOf (a34 P w) a vs :=
 show ObjOk P w H h a (.dK kvs) from bj4 ok e
theorem bt4 {kvs:List (Key×V)}(ok:HOk P w H h) (e:H a=some (.dK kvs)):kvs.length≤sizeLine∧(a == sysModules)=false∧∃ vs,KV kvs vs∧h.DictOf (a34 P w) a vs:=b38 ok (.inl e)
theorem ap7 {ks:List Key}(ok:HOk P w H h) (e:H a=some (.tup (ks.map kV))):(tupleKind (a34 P w)).is h ks a:=by
 obtain ⟨_,its,r,o,h1,h2,n,h3⟩:=(show ObjOk P w H h a (.tup (ks.map kV)) from ok a _ e)
 exact ⟨o,its.toArray,n,h1,h2,h3,by simpa using aj9 r⟩
theorem b39 {kvs:List (List Key×V)}(ok:HOk P w H h) (e:Rd H a (.dT kvs)):kvs.length≤sizeLine∧(a == sysModules)=false ∧
 ∃ xs,KT H kvs xs∧h.DictOfH (tupleKind (a34 P w)) a xs:=by
 obtain ⟨z,y,xs,r,o,es,ep,h1,h2,h3,h4,h5⟩:=(show ObjOk P w H h a (.dT kvs) from bj4 ok e)
 refine ⟨z,y,xs,r,o,es,ep,h1,h2,h3,h4,fun x hx=>?_,h5⟩
 have all:∀ {l:List (List Key×V)}{m:List (List Key×Addr×Value)},KT H l m→∀ x∈m,(tupleKind (a34 P w)).is h x.1 x.2.1:=by
  intro l m q
  induction q with
  | nil=>intro x hx; exact nomatch hx
  | @cons p q ps qs hq t ih =>
    intro x hx
    rcases List.mem_cons.mp hx with e | hx
    · subst e
      exact ap7 ok (by rw [← hq.1]; exact hq.2.1)
    · exact ih x hx
 exact all r x hx
theorem bt5 {kvs:List (List Key×V)}(ok:HOk P w H h) (e:H a=some (.dT kvs)):kvs.length≤sizeLine∧(a == sysModules)=false ∧
 ∃ xs,KT H kvs xs∧h.DictOfH (tupleKind (a34 P w)) a xs:=b39 ok (.inl e)
end
def DGet (H:Hp) (a:Addr) (y:V) (r:Option V):Prop :=
 (∃ kvs k,Rd H a (.dK kvs)∧y=kV k∧r=valV kvs k)∨∃ kvs k b,Rd H a (.dT kvs)∧y=.ref b∧H b=some (.tup (k.map kV))∧r=valV kvs k
def DPut (H:Hp) (a:Addr) (y v:V) (H':Hp):Prop :=
 (∃ kvs k,H a=some (.dK kvs)∧y=kV k∧kvs.length<sizeLine∧H'=upd H a (.dK (putK kvs k v))) ∨
 ∃ kvs k b,H a=some (.dT kvs)∧y=.ref b∧H b=some (.tup (k.map kV))∧kvs.length<sizeLine∧H'=upd H a (.dT (putK kvs k v))
theorem DGet.k {H:Hp}{a:Addr}{kvs:List (Key×V)}{k:Key}(e:H a=some (.dK kvs)):DGet H a (kV k) (valV kvs k):=.inl ⟨kvs,k,.inl e,rfl,rfl⟩
theorem DPut.k {H:Hp}{a:Addr}{kvs:List (Key×V)}{k:Key}{v:V}(e:H a=some (.dK kvs)) (hl:kvs.length<sizeLine):DPut H a (kV k) v (upd H a (.dK (putK kvs k v))):=.inl ⟨kvs,k,e,rfl,hl,rfl⟩
section
variable {X:Cx}{pins:List (Addr×Obj)}{σ:St} {H:Hp}{s:Shared}{a:Addr}{y v:V}{u r:Value}{o:Option V}{A:Around}{E:Value→Shared→Prop}
theorem Inv.big (I:Inv X pins σ H s):sysModules<s.heap.objs.size:=by
 have h:mainGlobals<s.heap.objs.size:=(I.mod.glob.keeps I.bk).lt
 exact Nat.lt_trans (by decide) h
theorem aw6 {Q:Value→Shared→Prop}(hu:A.units+1<cLine) (I:Inv X pins σ H s) (g:DGet H a y (some v)) (ry:RelV y u) (h:∀ w' s',Inv X pins σ H s'→RelV v w'→Q w' s') :
 wpAny (model X.prog X.w) A (getItem (.ref a) u) Q E s:=by
 rcases g with ⟨kvs,k,e,ey,l⟩ | ⟨kvs,k,b,e,ey,eb,l⟩
 · subst ey
   obtain ⟨z,hd,vs,rel,dd⟩:=b38 I.hok e
   obtain ⟨w',hw,rw'⟩:=RelO.some_of (v:=v) (o:=valueAt vs k) (by rw [l]; exact rel.val k)
   exact wpAny_getItem_of (aw5 ry) dd.mapOf hw (h w' _ (I.tok _) rw')
 · subst ey
   cases (show u=Value.ref b from ry)
   obtain ⟨z,hd,xs,rel,dd⟩:=b39 I.hok e
   obtain ⟨w',hw,rw'⟩:=RelO.some_of (v:=v) (o:=(atKey xs k).map (·.2)) (by rw [l]; exact rel.val k)
   obtain ⟨p,hp,hp2⟩:=Option.map_eq_some_iff.mp hw
   refine wpAny_getItem_heap (tupleKind_room_in1 hu) (ap7 I.hok eb) dd hp ?_
   rw [hp2]
   exact h w' _ (I.tok _) rw'
theorem bb8 {Q:Value→Shared→Prop}(hu:A.units+1<cLine) (I:Inv X pins σ H s) (g:DGet H a y o) (ry:RelV y u) (h:∀ s',Inv X pins σ H s'→Q (.bool (!o.isSome)) s') :
 wpAny (model X.prog X.w) A (compareOp .NotIn u (.ref a)) Q E s:=by
 rcases g with ⟨kvs,k,e,ey,l⟩ | ⟨kvs,k,b,e,ey,eb,l⟩
 · subst ey
   obtain ⟨z,hd,vs,rel,dd⟩:=b38 I.hok e
   refine wpAny_notIn_of (aw5 ry) hd dd.mapOf ?_
   rw [← (rel.val k).isSome_eq,←l]
   exact h _ (I.tok _)
 · subst ey
   cases (show u=Value.ref b from ry)
   obtain ⟨z,hd,xs,rel,dd⟩:=b39 I.hok e
   refine wpAny_notIn_heap (tupleKind_room_in1 hu) (ap7 I.hok eb) hd dd ?_
   have q:=(rel.val k).isSome_eq
   rw [Option.isSome_map] at q
   rw [← q,←l]
   exact h _ (I.tok _)
theorem aw7 {h':Heap}{t':Nat}{ob:HO}(I:Inv X pins σ H s) (mu:Mut (H a)) (hs:Heap.SameBut a s.heap h') (he:∃ q,h'.get? a=some q) (new:ObjOk X.prog X.w (upd H a ob) h' a ob) :
 Inv X pins σ (upd H a ob) { s with heap:=h',toks:=t' } :=
 I.write (x:=a) (e:=a) mu (.inl rfl) (fun b q hb z=>(hs.2 b hb).trans z) he new
theorem b81 {P:Program}{w:World}{H':Hp}{h':Heap}{kvs:List (Key×V)}{vs:List (Key×Value)}(z:kvs.length≤sizeLine) (hd:(a == sysModules)=false) (rel:KV kvs vs) (dd:h'.DictOf (a34 P w) a vs) :
 ObjOk P w H' h' a (.dK kvs):=⟨z,hd,vs,rel,dd⟩
theorem aw8 {H':Hp}{Q:Unit→Shared→Prop}(hu:A.units+1<cLine) (I:Inv X pins σ H s) (g:DPut H a y v H') (ry:RelV y u) (rv:RelV v r) (h:∀ s',Inv X pins σ H' s'→Q () s') :
 wpAny (model X.prog X.w) A (setItem (.ref a) u r) Q E s:=by
 rcases g with ⟨kvs,k,e,ey,l,eH⟩ | ⟨kvs,k,b,e,ey,eb,l,eH⟩
 · subst ey eH
   obtain ⟨z,hd,vs,rel,dd⟩:=bt4 I.hok e
   have hz:vs.length≤sizeLine:=by rw [← rel.length]; exact z
   have hl:(putK kvs k v).length≤sizeLine:=by have:=a79 kvs k v; omega
   refine wpAny_setItem_pairs (hsz:=hz) (aw5 ry) dd fun h' dd' hs=>h _ ?_
   have he:∃ q,h'.get? a=some q:=let ⟨q,_,_,hq,_⟩:=dd'; ⟨q,hq⟩
   exact aw7 I (by rw [e]; exact True.intro) hs he (b81 hl hd (rel.put k rv) dd')
 · subst ey eH
   cases (show u=Value.ref b from ry)
   obtain ⟨z,hd,xs,rel,dd⟩:=bt5 I.hok e
   have hz:xs.length≤sizeLine:=by rw [← Paired.length rel]; exact z
   have hl:(putK kvs k v).length≤sizeLine:=by have:=a79 kvs k v; omega
   refine wpAny_setItem_heap (hsz:=hz) (tupleKind_room_in1 hu) (ap7 I.hok eb) dd fun h' dd' hs=>h _ ?_
   obtain ⟨q,es,ep,hq,h2,h3,h4,_,h5⟩:=dd'
   refine aw7 I (by rw [e]; exact True.intro) hs ⟨q,hq⟩ ⟨hl,hd,_,(rel.put k eb rv).keeps fun c ys ec=>?_,q,es,ep,hq,h2,h3,h4,h5⟩
   rw [a10 (bs1 ec e (fun z=>nomatch z))]
   exact ec
end
section
variable {X:Cx}{pins:List (Addr×Obj)}{σ:St} {H:Hp}{s:Shared}{a:Addr}{kvs:List (Key×V)}{k:Key}{u:Value}{A:Around}{E:Value→Shared→Prop}
end
def NoSl (i:Expr):Prop:=∀ ov iv,subscripted i false ov iv=operate [ov,iv] (getItem ov iv)
theorem bb9 {prog:Program}{w:World}{A:Around}{E:Value→Shared→Prop}{s:Shared}{env:Env}{value slice:Expr}{pos:Pos}{T id:String}{Q:Value→Shared→Prop}
 (hl:typeLookup (.type T) "__getitem__"=pure (some (.builtin id))) (hs:NoSl slice)
 (h:wpAny (model prog w) A (eval value env) (fun o s₁=>wpAny (model prog w) A (eval slice env) (fun i s₂=>s₂.TypeIs o T∧wpAny (model prog w) A (getItem o i) Q E s₂) E s₁) E s) :
 wpAny (model prog w) A (eval (.Subscript value slice pos) env) Q E s:=by
 refine Subscript_ (wpAny_mono h (fun o s₁ h₁=>wpAny_mono h₁ (fun i s₂ h₂=>?_) fun _ _ x=>x) fun _ _ x=>x)
 obtain ⟨hT,h₂⟩:=h₂
 unfold subscriptTail
 refine wpAny_bind ?_
 rw [getitemInPython_of_ne hT.not_modules]
 refine wpAny_bind (wpAny_specialOf hT hl ?_)
 have fin:wpAny (model prog w) A (subscripted slice false o i) (fun r s₃=>wpAny (model prog w) A (letTemporaryGo value o r >>= fun _=>pure r) Q E s₃) E s₂:=by
  rw [hs o i]
  exact wpAny_operating (wpAny_mono h₂ (fun r s₃ h₃=>wpAny_bind (wpAny_letTemporaryGo (wpAny_pure h₃))) fun _ _ x=>x)
 first
  | exact wpAny_pure (wpAny_bind fin)
  | exact wpAny_bind (wpAny_pure (wpAny_bind fin))
  | exact wpAny_bind fin
theorem am8 {X:Cx}{pins:List (Addr×Obj)}{σ:St} {H:Hp}{s:Shared}{a:Addr}{y:V}{o:Option V}(I:Inv X pins σ H s) (g:DGet H a y o):s.TypeIs (.ref a) "dict":=by
 rcases g with ⟨kvs,k,e,_,_⟩ | ⟨kvs,k,b,e,_,_,_⟩
 · obtain ⟨_,_,vs,_,dd⟩:=b38 I.hok e
   exact dd.typeIs
 · obtain ⟨_,_,xs,_,dd⟩:=b39 I.hok e
   exact dd.typeIs
def bj5 (td ty:TE):TE:=fun σ H Q=>td σ H fun x H1=>ty σ H1 fun y H2=>∃ a v,x=.ref a∧DGet H2 a y (some v)∧Q v H2
def aw9 (ty td:TE):TE:=fun σ H Q=>ty σ H fun y H1=>td σ H1 fun x H2=>∃ a o,x=.ref a∧DGet H2 a y o∧Q (.bl (!o.isSome)) H2
def bj6 (td ty tv:TE):TS:=fun D σ H=>tv σ H fun v H1=>td σ H1 fun x H2=>ty σ H2 fun y H3=>∃ a H4,x=.ref a∧DPut H3 a y v H4∧D.nx σ H4
section
variable {X:Cx}{o i e value:Expr}{pos pos' tpos:Pos}{td ty tv:TE}
theorem ax0 (hu:X.A.units+1<cLine) (ho:PE X o td) (hi:PE X i ty) (hs:NoSl i):PE X (.Subscript o i pos) (bj5 td ty):=by
 intro pins s σ H Q I h
 refine bb9 PySem.F.slot_dict_getitem.lookup hs (thn (ho pins s σ H _ I h) ?_)
 rintro u s1 ⟨x,H1,I1,rx,q1⟩
 refine thn (hi pins s1 σ H1 _ I1 q1) ?_
 rintro iv s2 ⟨y,H2,I2,ry,a,v,ex,g,q2⟩
 subst ex
 obtain rfl:u=Value.ref a:=rx
 exact ⟨am8 I2 g,aw6 hu I2 g ry fun w' s3 I3 rw'=>⟨v,H2,I3,rw',q2⟩⟩
theorem ax1 (hu:X.A.units+1<cLine) (hi:PE X i ty) (ho:PE X o td):PC X .NotIn i o (aw9 ty td):=by
 intro pins s σ H Q I h
 refine thn (hi pins s σ H _ I h) ?_
 rintro iv s1 ⟨y,H1,I1,ry,q1⟩
 refine thn (ho pins s1 σ H1 _ I1 q1) ?_
 rintro u s2 ⟨x,H2,I2,rx,a,ov,ex,g,q2⟩
 subst ex
 obtain rfl:u=Value.ref a:=rx
 exact bb8 hu I2 g ry fun s3 I3=>⟨.bl (!ov.isSome),H2,I3,rfl,q2⟩
theorem bc0 (hu:X.A.units+1<cLine) (ho:PE X o td) (hi:PE X i ty) (hv:PE X value tv) (hs:swapsWith value (some (.Subscript o i pos')) pos.line X.env=pure false) :
 PS X (.Assign [.Subscript o i pos'] value pos) (bj6 td ty tv):=by
 intro pins s σ H D I h
 refine wpAny_Assign_Subscript (thn (hv pins s σ H _ I h) ?_) hs
 rintro r s1 ⟨v,H1,I1,rv,q1⟩
 refine thn (ho pins s1 σ H1 _ I1 q1) ?_
 rintro u s2 ⟨x,H2,I2,rx,q2⟩
 refine thn (hi pins s2 σ H2 _ I2 q2) ?_
 rintro iv s3 ⟨y,H3,I3,ry,a,H4,ex,g,q3⟩
 subst ex
 obtain rfl:u=Value.ref a:=rx
 exact aw8 hu I3 g ry rv fun s4 I4=>⟨σ,H4,I4,q3⟩
end
theorem b40 {P:Program}{w:World}{H:Hp}(h:Heap) (hb:sysModules<h.objs.size):ObjOk P w H (h.push { cls:=.type "dict",data:=.dict #[] }) h.objs.size (.dK []) :=
 ⟨Nat.zero_le _,beq_eq_false_iff_ne.mpr (Ne.symm (Nat.ne_of_lt hb)),[],.nil,Heap.DictOf.new h⟩
def bj7:TE:=fun _ H Q=>∀ p,H p=none→Q (.ref p) (upd H p (.dK []))
section
variable {X:Cx}{pos:Pos}
theorem b41:PE X (.Dict [] [] pos) bj7:=fun pins s σ H Q I h =>
 wpAny_Dict_empty ⟨.ref s.heap.objs.size,_,I.laid (a:=s.heap.objs.size) (o:=.dK []) (t':=s.toks) (fun _ _ q=>Heap.get?_push_of_some _ q) (Nat.le_refl _) (b40 s.heap I.big),rfl,h _ (I.hok.fresh (Nat.le_refl _))⟩
end
def a63 (kvs more:List (Key×V)):List (Key×V):=more.foldl (fun acc kv=>putK acc kv.1 kv.2) kvs
theorem KV.merge:∀ {more:List (Key×V)}{rs:List (Key×Value)}{kvs:List (Key×V)}{vs:List (Key×Value)},KV more rs→KV kvs vs→KV (a63 kvs more) (merged vs rs):=by
 intro more rs kvs vs r
 unfold KV at r
 induction r generalizing kvs vs with
 | nil=>intro q; exact q
 | @cons p q ps qs h t ih =>
   intro r0
   have e:KV (putK kvs p.1 p.2) (stored vs q.1 q.2):=by
    have:=r0.put p.1 h.2
    rw [← h.1]; exact this
   exact ih e
theorem a86:∀ (more kvs:List (Key×V)),(a63 kvs more).length≤kvs.length+more.length
 | [],kvs=>by show kvs.length≤kvs.length+0; omega
 | p::r,kvs=>by
   have h1:=a86 r (putK kvs p.1 p.2)
   have h2:=a79 kvs p.1 p.2
   show (a63 (putK kvs p.1 p.2) r).length≤_
   rw [List.length_cons]; omega
section
variable {X:Cx}{pins:List (Addr×Obj)}{σ:St} {H:Hp}{s:Shared}{a:Addr}{y d:V}{u r:Value}{o:Option V}{A:Around}{E:Value→Shared→Prop}
end
section
variable {X:Cx}{o e f:Expr}{apos cpos:Pos}{td ty tx:TE}
end
section
variable {X:Cx}{pins:List (Addr×Obj)}{σ:St} {H:Hp}{s:Shared}{a:Addr}{kvs:List (Key×V)}{A:Around}{E:Value→Shared→Prop}
end
section
variable {X:Cx}{pins:List (Addr×Obj)}{σ:St} {H:Hp}{s:Shared}{a:Addr}{y:V}{u:Value}{A:Around}{E:Value→Shared→Prop}
end
section
variable {κ:Type} [DecidableEq κ]
end
def cxC (X:Cx) (N:List Str) (scope:Scope) (cl:List (Str×Addr)) (C:Addr) (s0:Shared) (H0:Hp) (ex:List Addr):Cx :=
 { X with N:=N,s₀:=s0,H₀:=H0,env:=compEnvC scope cl C X.env,outer:=X.stack,stack:=X.stack,ex:=ex,fn:=fun x=>scope.names.lookup x == some .cell,pn:=[],xe:=fun _ _=>False }
theorem ae9 {env : Env} (has : ∀ x, (env.kindOf x = some .cell ∨ env.kindOf x = some .free) → ∃ c, env.cells.lookup x = some c) {scope : Scope}
    (hf : ∀ y ∈ scope.names, y.2 = .free → env.kindOf y.1 = some .cell ∨ env.kindOf y.1 = some .free) :
    ∃ cl, closureFor scope env = pure cl ∧ (∀ x c, cl.lookup x = some c → env.cells.lookup x = some c) ∧ (∀ y ∈ scope.names, y.2 = .free → ∃ c, cl.lookup y.1 = some c) := by
  have gen : ∀ (names : List (Str × NameKind)) (cs : List (Str × Addr)), (∀ y ∈ names, y.2 = .free → env.kindOf y.1 = some .cell ∨ env.kindOf y.1 = some .free) →
      (∀ x c, cs.lookup x = some c → env.cells.lookup x = some c) →
      ∃ cl, (forIn (m := Sem) names cs fun p r => do
          match p with
          | (name, kind) => if kind == .free then do let c ← cellOf env name; pure (ForInStep.yield ((name, c) :: r)) else pure (ForInStep.yield r)) = pure cl ∧
        (∀ x c, cl.lookup x = some c → env.cells.lookup x = some c) ∧ (∀ x c, cs.lookup x = some c → ∃ c, cl.lookup x = some c) ∧ (∀ y ∈ names, y.2 = .free → ∃ c, cl.lookup y.1 = some c) := by
    intro names
    induction names with
    | nil => intro cs _ h; exact ⟨cs, rfl, h, fun x c e => ⟨c, e⟩, fun y hy => nomatch hy⟩
    | cons p r ih =>
      intro cs hp h
      obtain ⟨n, k⟩ := p
      by_cases hk : k = .free
      · subst hk
        obtain ⟨c, hc⟩ := has n (hp (n, .free) List.mem_cons_self rfl)
        have h' : ∀ x d, ((n, c) :: cs).lookup x = some d → env.cells.lookup x = some d := by
          intro x d e
          rw [List.lookup_cons] at e
          cases hx : x == n with
          | true =>
            rw [hx] at e
            have : x = n := by simpa using hx
            cases e; rw [this]; exact hc
          | false => rw [hx] at e; exact h x d e
        obtain ⟨cl, e1, e2, e3, e4⟩ := ih ((n, c) :: cs) (fun y hy => hp y (List.mem_cons_of_mem _ hy)) h'
        have hn : ∃ d, cl.lookup n = some d := e3 n c (by simp [List.lookup_cons])
        refine ⟨cl, ?_, e2, fun x d e => ?_, fun y hy hyk => ?_⟩
        · rw [List.forIn_cons]
          have : cellOf env n = pure c := by unfold cellOf; rw [hc]
          simp only [beq_self_eq_true, if_true, this]
          exact e1
        · by_cases hx : x = n
          · subst hx; exact hn
          · exact e3 x d (by rw [List.lookup_cons]; have : (x == n) = false := by simpa using hx
                             rw [this]; exact e)
        · rcases List.mem_cons.mp hy with rfl | hy
          · exact hn
          · exact e4 y hy hyk
      · obtain ⟨cl, e1, e2, e3, e4⟩ := ih cs (fun y hy => hp y (List.mem_cons_of_mem _ hy)) h
        refine ⟨cl, ?_, e2, e3, fun y hy hyk => ?_⟩
        · rw [List.forIn_cons]
          have : (k == NameKind.free) = false := by simpa using hk
          simp only [this]
          exact e1
        · rcases List.mem_cons.mp hy with rfl | hy
          · exact absurd hyk hk
          · exact e4 y hy hyk
  obtain ⟨cl, e1, e2, _, e4⟩ := gen scope.names [] hf (fun x c e => nomatch e)
  refine ⟨cl, ?_, e2, e4⟩
  unfold closureFor
  simp only []
  exact congrArg (· >>= fun cs => pure cs) e1 |>.trans rfl
theorem ak0 {scope:Scope}{env:Env}{x:Str}{k:NameKind}(h:(relabel scope env).names.lookup x=some k) (hk:k=.cell∨k=.free):∃ y∈scope.names,y.1=x∧(y.2=.free∨y.2=.cell):=by
 have gen:∀ names:List (Str×NameKind),(names.map fun (n,k)=>if (k == NameKind.free && env.scope.kind == .function && env.kindOf n == some .cell) then (n,NameKind.cell) else (n,k)).lookup x=some k →
  ∃ y∈names,y.1=x∧(y.2=.free∨y.2=.cell):=by
  intro names
  induction names with
  | nil=>intro h; cases h
  | cons p r ih =>
    obtain ⟨n,j⟩:=p
    intro h
    rw [List.map_cons,List.lookup_cons] at h
    have e1:(if (j == NameKind.free && env.scope.kind == .function && env.kindOf n == some .cell)=true then (n,NameKind.cell) else (n,j)).1=n:=by split <;> rfl
    dsimp only at h
    rw [e1] at h
    cases hx:x == n with
    | false =>
      rw [hx] at h
      obtain ⟨y,hy,q⟩:=ih h
      exact ⟨y,List.mem_cons_of_mem _ hy,q⟩
    | true =>
      rw [hx] at h
      have ex:x=n:=by simpa using hx
      refine ⟨(n,j),List.mem_cons_self,ex.symm,?_⟩
      by_cases hc:(j == NameKind.free && env.scope.kind == .function && env.kindOf n == some .cell)=true
      · have:=(Bool.and_eq_true _ _).mp ((Bool.and_eq_true _ _).mp hc).1
        exact .inl (by simpa using this.1)
      · rw [if_neg hc] at h
        cases h
        exact hk.symm
 exact gen scope.names h
theorem a55:∀ (names:List (Str×NameKind)) (n:Nat) (a b:List (Str×Addr)),cellsFrom n names (a++b)=cellsFrom n names a++b
 | [],_,_,_=>rfl
 | (x,k)::r,n,a,b=>by
   unfold cellsFrom
   split
   · exact a55 r (n+1) ((x,n)::a) b
   · exact a55 r n a b
theorem a56:∀ (names:List (Str×NameKind)) (n:Nat) (a:List (Str×Addr)) (x:Str) (c:Addr),(x,c)∈cellsFrom n names a→(x,c)∈a∨(x,NameKind.cell)∈names
 | [],_,_,_,_,h=>.inl h
 | (y,k)::r,n,a,x,c,h=>by
   unfold cellsFrom at h
   split at h
   · next hk =>
     rcases a56 r (n+1) _ x c h with z | z
     · rcases List.mem_cons.mp z with e | z
       · cases e
         have:k=.cell:=by simpa using hk
         subst this
         exact .inr List.mem_cons_self
       · exact .inl z
     · exact .inr (List.mem_cons_of_mem _ z)
   · rcases a56 r n a x c h with z | z
     · exact .inl z
     · exact .inr (List.mem_cons_of_mem _ z)
theorem a87 {α:Type}:∀ {l:List (Str×α)}{x:Str}{c:α},(x,c)∈l→∃ d,l.lookup x=some d
 | [],_,_,h=>nomatch h
 | (y,d)::l,x,c,h=>by
   rw [List.lookup_cons]
   cases hx:x == y with
   | true=>exact ⟨d,rfl⟩
   | false =>
     rcases List.mem_cons.mp h with e | h
     · cases e
       simp at hx
     · exact a87 h
theorem a96 {α:Type}{x:Str}:∀ {a b:List (Str×α)},(a++b).lookup x=(a.lookup x).or (b.lookup x)
 | [],_=>rfl
 | (y,d)::a,b=>by
   rw [List.cons_append,List.lookup_cons,List.lookup_cons]
   cases hx:x == y with
   | true=>rfl
   | false=>exact a96 (a:=a) (b:=b)
theorem a57:∀ (names:List (Str×NameKind)) (n:Nat) (a:List (Str×Addr)) (p:Str×Addr),p∈a→p∈cellsFrom n names a
 | [],_,_,_,h=>h
 | (y,k)::r,n,a,p,h=>by
   unfold cellsFrom
   split
   · exact a57 r (n+1) _ p (List.mem_cons_of_mem _ h)
   · exact a57 r n a p h
theorem a58:∀ (names:List (Str×NameKind)) (n:Nat) (a:List (Str×Addr)) (x:Str),(x,NameKind.cell)∈names→∃ c,(x,c)∈cellsFrom n names a
 | (y,k)::r,n,a,x,h=>by
   unfold cellsFrom
   rcases List.mem_cons.mp h with e | h
   · cases e
     exact ⟨n,a57 r (n+1) _ _ List.mem_cons_self⟩
   · split
     · exact a58 r (n+1) _ x h
     · exact a58 r n a x h
structure CellsR (X:Cx) (scope:Scope) (Nf:List Str) (r:List (Str×Addr)) (C:Addr) (h1:Heap):Prop where
 sp:∀ x c,r.lookup x=some c→(C<c∧h1.IsCell c none)∨X.env.cells.lookup x=some c
 inj:∀ x y c,r.lookup x=some c→r.lookup y=some c→x=y
 has:∀ y∈scope.names,(y.2=.free∨y.2=.cell)→∃ c,r.lookup y.1=some c
 cab:∀ x c,scope.names.lookup x=some .cell→r.lookup x=some c→C<c
 cap:∀ x∈Nf,∀ c,r.lookup x=some c→X.env.cells.lookup x=some c
theorem bc1 {X:Cx}{scope:Scope}{Nf:List Str}{cl:List (Str×Addr)}{h:Heap}{C:Addr}(hC:h.objs.size=C+1) (hX:∀ x c,X.env.cells.lookup x=some c→c<C) (hinj:∀ x y c,X.env.cells.lookup x=some c→X.env.cells.lookup y=some c→x=y)
 (hcl:∀ x c,cl.lookup x=some c→X.env.cells.lookup x=some c) (hcf:∀ y∈scope.names,y.2=.free→∃ c,cl.lookup y.1=some c) (hnx:∀ x∈Nf,(x,NameKind.cell)∉scope.names) :
 CellsR X scope Nf (cellsFrom (C+1) scope.names cl) C (pushCells h scope.names):=by
 have e0:cellsFrom (C+1) scope.names cl=cellsFrom (C+1) scope.names []++cl:=a55 scope.names (C+1) [] cl
 have ok:=cellsFrom_ok scope.names h (C+1) [] ⟨fun _ _ hm=>(nomatch hm),List.Pairwise.nil⟩ (by rw [hC]; exact Nat.le_refl _)
 rw [hC] at ok
 have hmem:∀ x c,(x,c)∈cellsFrom (C+1) scope.names []→(x,NameKind.cell)∈scope.names:=fun x c h=>by
  rcases a56 _ _ _ x c h with z | z
  · exact nomatch z
  · exact z
 have ho:∀ x,(x,NameKind.cell)∈scope.names→∃ c,(cellsFrom (C+1) scope.names []).lookup x=some c:=fun x hx=>by
  obtain ⟨c,hc⟩:=a58 scope.names (C+1) [] x hx
  exact a87 hc
 rw [e0]
 generalize cellsFrom (C+1) scope.names []=own at ok hmem e0 ho
 have spl:∀ x c,(own++cl).lookup x=some c→(own.lookup x=some c∧C<c)∨(own.lookup x=none∧cl.lookup x=some c):=fun x c e=>by
  rw [a96] at e
  cases hx:own.lookup x with
  | none=>rw [hx] at e; exact .inr ⟨rfl,e⟩
  | some d =>
    rw [hx] at e
    cases e
    exact .inl ⟨rfl,(ok.empty x c (PySem.mem_of_lookup hx)).2⟩
 refine ⟨fun x c e=>?_,fun x y c e1 e2=>?_,fun y hy hk=>?_,fun x c hk e=>?_,fun x hx c e=>?_⟩
 · rcases spl x c e with ⟨e1,h1⟩ | ⟨_,e1⟩
   · exact .inl ⟨h1,(ok.empty x c (PySem.mem_of_lookup e1)).1⟩
   · exact .inr (hcl x c e1)
 · rcases spl x c e1 with ⟨a1,b1⟩ | ⟨_,a1⟩ <;> rcases spl y c e2 with ⟨a2,b2⟩ | ⟨_,a2⟩
   · exact name_of_addr ok.apart (PySem.mem_of_lookup a1) (PySem.mem_of_lookup a2)
   · exact absurd (hX y c (hcl y c a2)) (Nat.not_lt.mpr (Nat.le_of_lt b1))
   · exact absurd (hX x c (hcl x c a1)) (Nat.not_lt.mpr (Nat.le_of_lt b2))
   · exact hinj x y c (hcl x c a1) (hcl y c a2)
 · rw [a96]
   cases hx:own.lookup y.1 with
   | some d=>exact ⟨d,rfl⟩
   | none =>
     rcases hk with hk | hk
     · exact hcf y hy hk
     · obtain ⟨c,hc⟩:=ho y.1 (by rw [← hk]; exact hy)
       rw [hx] at hc
       cases hc
 · obtain ⟨d,hd⟩:=ho x (PySem.mem_of_lookup hk)
   rcases spl x c e with ⟨_,h1⟩ | ⟨z,_⟩
   · exact h1
   · rw [hd] at z
     cases z
 · rcases spl x c e with ⟨h1,_⟩ | ⟨_,e1⟩
   · exact absurd (hmem x c (PySem.mem_of_lookup h1)) (hnx x hx)
   · exact hcl x c e1
section
variable {X:Cx}{pins:List (Addr×Obj)}{σ:St} {H:Hp}{s:Shared}{N:List Str}{scope:Scope}{cl:List (Str×Addr)}{C:Addr}{ex:List Addr}{Nf:List Str}{h1:Heap}
theorem bj8 (I:Inv X pins σ H s) (hC:s.heap.objs.size≤C) (hkind:scope.kind=.function) (R:CellsR X scope Nf cl C h1)
 (hex:∀ b∈ex,FpOk X pins H b) (hexl:∀ b∈ex,b<s.heap.objs.size):(cxC X N scope cl C s H ex).Ok where
 mod:=I.ok.mod
 kind:=hkind
 glob:=I.ok.glob
 blt:=I.ok.blt
 above:=hC
 inj:=R.inj
 has:=fun x hx=>by
  have hx':∃ k,(relabel scope X.env).names.lookup x=some k∧(k=.cell∨k=.free):=by
   rcases hx with h | h
   · exact ⟨_,h,.inl rfl⟩
   · exact ⟨_,h,.inr rfl⟩
  obtain ⟨k,h,hk⟩:=hx'
  obtain ⟨y,hy,e1,e2⟩:=ak0 h hk
  rw [← e1]
  exact R.has y hy e2
 cab:=fun x c h e=>Nat.le_trans hC (Nat.le_of_lt (R.cab x c (by have h':(scope.names.lookup x == some NameKind.cell)=true:=h; simpa using h') e))
 hd:=I.ok.hd
 frames:=I.ok.frames
 stk:=.inl rfl
 exf:=fun b hb=>⟨Nat.ne_of_lt (Nat.lt_of_lt_of_le (hexl b hb) hC),fun x c e=>by
  rcases R.sp x c e with ⟨z,_⟩ | z
  · exact Nat.ne_of_gt (Nat.lt_trans (Nat.lt_of_lt_of_le (hexl b hb) hC) z)
  · exact (hex b hb).2.2.2.2.1 x c z⟩
 bs:=I.bs
 bsz:=Nat.le_trans I.ok.bsz I.sz
 noex:=fun b o e hb=>by
  rcases (hex b hb).2.2.2.1 with z | z
  · exact I.ok.noex b o e z
  · have h1:=Heap.lt_size e
    have h2:=I.ok.bsz
    exact absurd (Nat.lt_of_lt_of_le h1 (Nat.le_trans h2 z)) (Nat.lt_irrefl _)
 exfs:=fun b hb z=>by
  have h1:=I.stkSub b z
  rcases List.mem_cons.mp h1 with z | z
  · exact (hex b hb).2.1 z
  · exact (hex b hb).2.2.1 z
 funs:=I.stack
 frf:=I.stkFree
def capV (caps:List Nat) (σ:St):St:=caps.map fun j=>(σ[j]?).join
def cSt (n:Nat) (caps:List Nat) (σ:St):St:=List.replicate n none++capV caps σ
theorem bc2 {caps:List Nat}{Nt:List Str}{s1:Shared}{m:Str→Option Value}(I:Inv X pins σ H s) (ok:(cxC X (Nt++Nf) scope cl C s H ex).Ok)
 (R:CellsR X scope Nf cl C s1.heap)
 (hcap:caps.map (fun j=>X.N[j]?)=Nf.map some)
 (hvis:∀ x∈Nf,scope.names.lookup x=some .free) (hXv:∀ x∈Nf,X.env.kindOf x=some .cell∨X.env.kindOf x=some .free) (hcf:∀ x∈Nf,∃ c,cl.lookup x=some c)
 (hos:s1.os=s.os) (hgens:s1.gens=s.gens) (hk:∀ b o,s.heap.get? b=some o→s1.heap.get? b=some o) (hns:s1.heap.Ns C m) (hC:s.heap.objs.size≤C) :
 Inv (cxC X (Nt++Nf) scope cl C s H ex) [] (cSt Nt.length caps σ) H s1:=by
 have hlen:caps.length=Nf.length:=by
  have:=congrArg List.length hcap
  simpa using this
 refine ⟨ok,hos,by rw [hgens]; exact I.bare,Un.kept hk,⟨m,hns,fun i x v h1 h2 h3=>?_⟩,fun x c e=>?_,I.hok.fresh hC,fun x c e=>by
  rcases R.sp x c e with ⟨z,_⟩ | z
  · exact I.hok.fresh (Nat.le_trans hC (Nat.le_of_lt z))
  · exact I.freeC x c z,fun p hp=>absurd (show p∈([]:List (Addr×Obj)) from hp) (by simp),I.hok.kept hk,?_⟩
 · -- a captured name
   have hi:Nt.length≤i:=by
    refine Nat.le_of_not_lt fun q=>?_
    unfold cSt at h2
    rw [List.getElem?_append_left (by simpa using q),List.getElem?_replicate] at h2
    split at h2 <;> cases h2
   have h1':Nf[i - Nt.length]?=some x:=by
    have:(Nt++Nf)[i]?=some x:=h1
    rwa [List.getElem?_append_right hi] at this
   unfold cSt at h2
   rw [List.getElem?_append_right (by simpa using hi)] at h2
   have e0:i - (List.replicate Nt.length (none:Option V)).length=i - Nt.length:=by simp
   rw [e0] at h2
   generalize hj:i - Nt.length=j at h1' h2
   unfold capV at h2
   rw [List.getElem?_map] at h2
   cases hc:caps[j]? with
   | none=>rw [hc] at h2; cases h2
   | some jj =>
     rw [hc] at h2
     have h2':(σ[jj]?).join=some v:=Option.some.inj h2
     have h2'':σ[jj]?=some (some v):=by
      cases q:σ[jj]? with
      | none=>rw [q] at h2'; cases h2'
      | some z=>rw [q] at h2'; cases z with
        | none=>cases h2'
        | some z'=>cases h2'; rfl
     have hN:X.N[jj]?=some x:=by
      have q:=congrArg (fun l=>l[j]?) hcap
      simp only [List.getElem?_map,hc,h1',Option.map_some] at q
      exact Option.some.inj q
     have hx:x∈Nf:=List.mem_of_getElem? h1'
     have hXk:=hXv x hx
     obtain ⟨mX,_,hl⟩:=I.loc
     obtain ⟨u,ru,lk⟩:=hl jj x v hN h2'' (by
      rcases hXk with z | z
      · exact .inr (.inl z)
      · exact .inr (.inr z))
     refine ⟨u,ru,.inr ?_⟩
     rcases lk with ⟨z,_⟩ | ⟨_,c,hc1,hcell⟩
     · rcases hXk with y | y <;> (rw [z] at y; cases y)
     · obtain ⟨c',hc'⟩:=hcf x hx
       have e:=R.cap x hx c' hc'
       rw [hc1] at e; cases e
       refine ⟨?_,c,hc',?_⟩
       · rcases h3 with z | z | z
         · -- not a local of the block
           exfalso
           have hfree:=hvis x hx
           have z':(relabel scope X.env).names.lookup x=some .local:=z
           have gen:∀ names:List (Str×NameKind),names.lookup x=some .free→(names.map fun (n,k)=>if (k == NameKind.free && X.env.scope.kind == .function && X.env.kindOf n == some .cell) then (n,NameKind.cell) else (n,k)).lookup x≠some .local:=by
            intro names
            induction names with
            | nil=>intro h; cases h
            | cons p r ih =>
              obtain ⟨n,k⟩:=p
              intro h
              rw [List.map_cons,List.lookup_cons]
              rw [List.lookup_cons] at h
              have e1:(if (k == NameKind.free && X.env.scope.kind == .function && X.env.kindOf n == some .cell)=true then (n,NameKind.cell) else (n,k)).1=n:=by split <;> rfl
              dsimp only
              rw [e1]
              cases hx:x == n with
              | false=>rw [hx] at h; exact ih h
              | true =>
                rw [hx] at h
                cases h
                show some (if _ then (n,NameKind.cell) else (n,NameKind.free)).2≠some .local
                split <;> (intro q; cases q)
           exact gen scope.names hfree z'
         · exact .inl z
         · exact .inr z
       · obtain ⟨o,eo,d⟩:=hcell
         exact ⟨o,hk _ _ eo,d⟩
 · rcases R.sp x c e with ⟨_,z⟩ | z
   · exact ⟨none,z⟩
   · obtain ⟨v,q⟩:=I.cell x c z
     obtain ⟨o,eo,d⟩:=q
     exact ⟨v,o,hk _ _ eo,d⟩
 · show (cSt Nt.length caps σ).length=(Nt++Nf).length
   unfold cSt capV
   simp [hlen]
end
abbrev b82 (ifs:List Expr) (env:Env):Sem Bool:=forIn ifs true fun c r=>if r=true then do let ok←isTrue c env (eval c env); pure (ForInStep.yield ok) else pure (ForInStep.yield r)
abbrev NoX:Value→Shared→Prop:=fun _ _=>False
theorem ak1 {P:Program}{w:World}{B:Around}{R:Result→Shared→Prop}{s:Shared}{y tg l:Expr}{cs:List Expr}{sc:Scope}{ps:Pos}{iv av:Value}{en:Env}(G:Nat→Shared→Prop)
 (one:∀ n s,G n s→wpAny (model P w) B (pyNext iv) (fun r s1=>match r with
  | none=>R (.ok .next) s1
  | some v=>wpAny (model P w) B (letOwnedTupleGo tg iv v) (fun _ s1=>wpAny (model P w) B (assign tg en v) (fun _ s2=>wpAny (model P w) B (b82 cs en) (fun k s3 =>
   if k=true then wpAny (model P w) B (eval y en) (fun x s4=>wpAny (model P w) B (call (.builtin "list.append") [av,x]) (fun _ s5=>∃ m,m<n∧G m s5) NoX s4) NoX s3
   else ∃ m,m<n∧G m s3) NoX s2) NoX s1) NoX s1) NoX s) (n:Nat) (h:G n s) :
 codeAny (model P w) B (.compLoop (.ListComp y [⟨tg,l,cs,0⟩] sc ps) 0 iv av en) R s:=by
 refine codeAny_loop rfl G (fun n s hG=>?_) n h
 show wpAny _ B ((compTurn (.ListComp y [⟨tg,l,cs,0⟩] sc ps) 0 iv av en).onRaise (fun x=>do noteFrame x en; theTreesLotGoes x)) _ _ s
 refine wpAny_noted ?_
 rw [compTurn_list]
 refine wpAny_bind (wpAny_standAt (wpAny_bind (wpAny_mono (one n s hG) (fun r s1 h1=>?_) fun _ _ z=>z.elim)))
 cases r with
 | none=>exact wpAny_pure h1
 | some v =>
   refine wpAny_bind (wpAny_mono h1 (fun _ s1' h1'=>?_) fun _ _ z=>z.elim)
   refine wpAny_bind (wpAny_mono h1' (fun _ s2 h2=>wpAny_bind (wpAny_mono h2 (fun k s3 h3=>?_) fun _ _ z=>z.elim)) fun _ _ z=>z.elim)
   cases k with
   | false=>exact wpAny_pure ⟨rfl,h3⟩
   | true=>exact wpAny_bind (wpAny_bind (wpAny_mono h3 (fun x s4 h4=>wpAny_bind (wpAny_mono h4 (fun _ s5 h5=>wpAny_pure (wpAny_pure ⟨rfl,h5⟩)) fun _ _ z=>z.elim)) fun _ _ z=>z.elim))
def PTs (X:Cx) (ifs:List Expr) (t:TT):Prop :=
 ∀ (pins:List (Addr×Obj)) (s:Shared) (σ:St) (H:Hp) (Q:Bool→Hp→Prop),Inv X pins σ H s→t σ H Q →
  wpAny (model X.prog X.w) X.A (b82 ifs X.env) (TP X pins σ Q) X.xe s
def tNoIf:TT:=fun _ H Q=>Q true H
theorem ax2 {X:Cx}:PTs X [] tNoIf:=fun pins s σ H Q I h=>wpAny_tests_nil ⟨H,I,h⟩
theorem af4 {X:Cx}{c:Expr}{t:TT}(h:PT X c t):PTs X [c] t:=fun pins s σ H Q I q=>wpAny_tests_one (h pins s σ H Q I q)
section
variable {X:Cx}{pins:List (Addr×Obj)}{σ:St} {H:Hp}{s:Shared}
theorem Inv.adopt {D:Addr}{o:HO}(I:Inv X pins σ H s) (hD:H D=none) (h1:X.s₀.heap.objs.size≤D) (h2:D≠X.env.locals) (h3:∀ x c,X.env.cells.lookup x=some c→c≠D) (h4:∀ p∈X.pn++pins,p.1≠D)
 (new:ObjOk X.prog X.w (upd H D o) s.heap D o):Inv X pins σ (upd H D o) s:=by
 have old:∀ {b:Addr}{q:Obj},X.s₀.heap.get? b=some q→b≠D:=fun e=>Nat.ne_of_lt (Nat.lt_of_lt_of_le (Heap.lt_size e) h1)
 refine ⟨I.ok,I.os,I.bare,⟨I.base.keep,I.base.slot,fun b q e n hx=>by rw [a10 (old e)]; exact I.base.free b q e n hx,I.base.there,fun b xs e=>?_,fun b q u e=>?_,fun b ps e=>?_⟩,I.loc,I.cell,by rw [a10 (Ne.symm h2)]; exact I.free,fun x c e=>by rw [a10 (h3 x c e)]; exact I.freeC x c e,fun p hp=>?_,fun b u e=>?_,I.len⟩
 · have e':=I.base.tups b xs e
   rw [a10 (a20 e' hD)]; exact e'
 · have e':=I.base.frzs b q u e
   rw [a10 (a20 e' hD)]; exact e'
 · obtain ⟨more,e'⟩:=I.base.tbls b ps e
   exact ⟨more,by rw [a10 (a20 e' hD)]; exact e'⟩
 · obtain ⟨a1,a2,a3,a4,a5⟩:=I.pin p hp
   exact ⟨a1,by rw [a10 (h4 p hp)]; exact a2,a3,a4,a5⟩
 · by_cases hb:b=D
   · subst hb; rw [a18] at e; cases e; exact new
   · rw [a10 hb] at e
     exact (I.hok b u e).stay (fun c v _ q=>q) (fun c q=>by rw [a10 (a20 q hD)]; exact q) fun c xs q=>by rw [a10 (a20 q hD)]; exact q
def tLC (wi:TI) (g:TG) (tt:TT) (te:TE) (n:Nat) (caps:List Nat):TE:=fun σ H Q=>wi σ H fun J H1=>∃ W:Nat→Nat→List V→St→Hp→Prop,(∃ m,W 0 m [] (cSt n caps σ) H1)∧∀ i m acc σ' H',W i m acc σ' H' →
 (J.stop i H'∧∀ l,H' l=none→Q (.ref l) (upd H' l (.lst acc))) ∨
 (J.go i H'∧acc.length<sizeLine∧∃ N:List V→St→Hp→Prop,(∀ ac σ2 H2,N ac σ2 H2→∃ m',m'<m∧W (i+1) m' ac σ2 H2)∧∀ x H2,J.yld i H' x H2→g x σ' H2 fun σ3 H3=>tt σ3 H3 fun b H4=>if b=true then te σ3 H4 fun y H5=>N (acc++[y]) σ3 H5 else N acc σ3 H4)
structure CompOk (X:Cx) (scope:Scope) (Nt Nf:List Str) (caps:List Nat):Prop where
 kind:scope.kind=.function
 nx:∀ x∈Nf,(x,NameKind.cell)∉scope.names
 nm:∀ y∈scope.names,y.2=.local→scope.names.lookup y.1=some .local
 fr:∀ y∈scope.names,y.2=.free→X.env.kindOf y.1=some .cell∨X.env.kindOf y.1=some .free
 cap:caps.map (fun j=>X.N[j]?)=Nf.map some
 vis:∀ x∈Nf,scope.names.lookup x=some .free
theorem at1 {M:Model}{A:Around}{E:Value→Shared→Prop}{scope:Scope}{globals:Addr}{closure:List (Str×Addr)}{qual:Str}{func:Option Addr}{code:Value}{env:Env}{builtins:Addr}{Q:Env→Shared→Prop}
 (hQ:Q (newEnv scope s.heap.objs.size globals (cellsFrom (s.heap.objs.size+1) scope.names closure) qual func code (some env) builtins) { s with heap:=pushCells (s.heap.push { cls:=.type "dict",data:=.dict #[] }) scope.names }) :
 wpAny M A (newFunctionEnv scope globals closure [] qual func code (some env) builtins) Q E s:=by
 simp only [newFunctionEnv,Option.isSome_some,if_true]
 refine wpAny_bind (wpAny_alloc ?_)
 refine wpAny_bind (wpAny_layCells _ (fun name kind cells=>by cases hkc:kind == NameKind.cell <;> simp [hkc]) _ _ _ _ ?_)
 rw [show ({ s with heap:=s.heap.push { cls:=.type "dict",data:=.dict #[] } }:Shared).heap.objs.size=s.heap.objs.size+1 from Heap.size_push ..]
 rw [List.forIn_nil]
 exact wpAny_bind (wpAny_pure (wpAny_pure hQ))
theorem af0 {tg iter elt:Expr}{ifs:List Expr}{scope:Scope}{pos:Pos}{g:TG}{tt:TT}{te:TE}{Nt Nf:List Str}{caps:List Nat}{cl:List (Str×Addr)}{it:Addr}{fp:List Addr}{tn:Nat→Heap→Prop}{J:It}{Q:VK}{E:Value→Shared→Prop}
 {RR:Value→Addr→Result→Shared→Prop}
 (hc:X.calm=true) (S:CompOk X scope Nt Nf caps)
 (hg:∀ cl C s0 H0 ex,PG (cxC X (Nt++Nf) scope cl C s0 H0 ex) tg g)
 (ht:∀ cl C s0 H0 ex,PTs (cxC X (Nt++Nf) scope cl C s0 H0 ex) ifs tt)
 (he:∀ cl C s0 H0 ex,PE (cxC X (Nt++Nf) scope cl C s0 H0 ex) elt te)
 (hcl:∀ x c,cl.lookup x=some c→X.env.cells.lookup x=some c) (hcf:∀ y∈scope.names,y.2=.free→∃ c,cl.lookup y.1=some c)
 (I:Inv X pins σ H s) (T:Turn X.prog X.w X.K tg J fp it tn) (st:tn 0 s.heap) (hfp:∀ b∈fp,FpOk X pins H b)
 (hW:∃ W:Nat→Nat→List V→St→Hp→Prop,(∃ m,W 0 m [] (cSt Nt.length caps σ) H)∧∀ i m acc σ' H',W i m acc σ' H' →
  (J.stop i H'∧∀ l,H' l=none→Q (.ref l) (upd H' l (.lst acc))) ∨
  (J.go i H'∧acc.length<sizeLine∧∃ N:List V→St→Hp→Prop,(∀ ac σ2 H2,N ac σ2 H2→∃ m',m'<m∧W (i+1) m' ac σ2 H2)∧∀ x H2,J.yld i H' x H2→g x σ' H2 fun σ3 H3=>tt σ3 H3 fun b H4=>if b=true then te σ3 H4 fun y H5=>N (acc++[y]) σ3 H5 else N acc σ3 H4))
 (fin:∀ D C m s' H',Inv X pins σ H' s'→Q (.ref D) H'→s'.heap.Ns C m→H' C=none→C≠X.env.locals→X.s₀.heap.objs.size≤C→(∀ x c,X.env.cells.lookup x=some c→c≠C)→(∀ p∈X.pn++pins,p.1≠C)→RR (.ref D) C (.ok .next) s') :
 wpAny (model X.prog X.w) X.A (newList []) (fun acc s₃=>wpAny (model X.prog X.w) X.A (newFunctionEnv scope X.env.globals cl [] X.env.qual none .none (some X.env)) (fun cenv s₄ =>
  codeAny (model X.prog X.w) X.A (.compStart (.ListComp elt [⟨tg,iter,ifs,0⟩] scope pos) 0 (.ref it) acc { cenv with scope:=relabel scope X.env }) (RR acc cenv.locals) s₄) E s₃) E s:=by
 obtain ⟨W,⟨m0,w0⟩,turn⟩:=hW
 refine wpAny_newObj_type (at1 ?_)
 dsimp only
 generalize hH2:s.heap.push { cls:=.type "list",dict:=none,data:=.seq ([]:List Value).toArray }=P2
 have hCs:P2.objs.size=s.heap.objs.size+1:=by rw [← hH2,Heap.size_push]
 have hDC:s.heap.objs.size≠P2.objs.size:=by rw [hCs]; exact Nat.ne_of_lt (Nat.lt_succ_self _)
 have hCle:s.heap.objs.size≤P2.objs.size:=by rw [hCs]; exact Nat.le_succ _
 have below:∀ b,b<s.heap.objs.size→b≠P2.objs.size:=fun b hb=>by rw [hCs]; exact Nat.ne_of_lt (Nat.lt_succ_of_lt hb)
 have kp:=pushCells_keeps scope.names (P2.push { cls:=.type "dict",data:=.dict #[] })
 have hns₁:=(Heap.Ns.new P2 (.type "dict")).keeps kp
 have old:∀ b o,s.heap.get? b=some o→(pushCells (P2.push { cls:=.type "dict",data:=.dict #[] }) scope.names).get? b=some o:=fun b o e=>kp _ _ (Heap.get?_push_of_some _ (hH2 ▸ Heap.get?_push_of_some _ e))
 have hacc:(pushCells (P2.push { cls:=.type "dict",data:=.dict #[] }) scope.names).PlainList s.heap.objs.size #[]:=⟨_,kp _ _ (Heap.get?_push_of_some _ (hH2 ▸ Heap.get?_push_size _ rfl))⟩
 have R:=bc1 (X:=X) (scope:=scope) (Nf:=Nf) (cl:=cl) (h:=P2.push { cls:=.type "dict",data:=.dict #[] }) (C:=P2.objs.size) (Heap.size_push ..) (fun x c e=>by
  obtain ⟨v,q⟩:=I.cell x c e
  exact Nat.lt_of_lt_of_le q.lt hCle) I.ok.inj hcl hcf S.nx
 generalize cellsFrom (P2.objs.size+1) scope.names cl=r at R ⊢
 generalize pushCells (P2.push { cls:=.type "dict",data:=.dict #[] }) scope.names=h₁ at R hns₁ old hacc ⊢
 have fpl:∀ b∈fp,b<s.heap.objs.size:=fun b hb=>by
  obtain ⟨o,e,_⟩:=T.obj _ _ st b hb
  exact Heap.lt_size e
 have st₁:tn 0 h₁:=T.keep _ _ _ st fun b _ o e=>old b o e
 generalize hCe:P2.objs.size=C at hns₁ R hDC hCle below ⊢
 generalize hDe:s.heap.objs.size=D at hacc hDC hCle ⊢
 have hDl:X.env.locals<D:=by rw [← hDe]; exact I.lt
 have hDs:X.s₀.heap.objs.size≤D:=by rw [← hDe]; exact I.sz
 have hcD:∀ x c,X.env.cells.lookup x=some c→c<D:=fun x c e=>by
  obtain ⟨v,q⟩:=I.cell x c e
  rw [← hDe]; exact q.lt
 have hpD:∀ p∈X.pn++pins,p.1<D:=fun p hp=>by rw [← hDe]; exact Heap.lt_size (I.pin p hp).1
 let Y:Cx:=cxC X (Nt++Nf) scope r C s H fp
 have okY:Y.Ok:=bj8 I (by rw [hDe]; exact hCle) S.kind R hfp fpl
 have hfsY:∀ b,b∈Y.fs→b<D:=fun b hb=>by
  rcases List.mem_cons.mp (I.stkSub b hb) with z | z
  · rw [z]; exact hDl
  · refine Nat.lt_of_lt_of_le ?_ hDs
    have:=(I.ok.funs.mem z)
    refine Nat.lt_of_not_le fun q=>?_
    exact absurd z (fun z=>by
     have:=I.nofs (a:=b)
     by_cases hb2:s.heap.objs.size≤b
     · exact this hb2 z
     · obtain ⟨_,o,e,_⟩:=I.ok.funs.mem z
       exact absurd (Heap.lt_size e) (Nat.not_lt.mpr q))
 have loop:∀ s₃:Shared,s₃={ s with heap:=h₁ } →
  codeAny (model X.prog X.w) X.A (.compLoop (.ListComp elt [⟨tg,iter,ifs,0⟩] scope pos) 0 (.ref it) (.ref D) Y.env) (RR (.ref D) C) s₃:=by
  rintro s₃ rfl
  have I0:Inv Y [] (cSt Nt.length caps σ) H { s with heap:=h₁ } :=
   bc2 I okY R S.cap S.vis (fun x hx=>S.fr (x,.free) (PySem.mem_of_lookup (S.vis x hx)) rfl) (fun x hx=>R.has (x,.free) (PySem.mem_of_lookup (S.vis x hx)) (.inl rfl)) rfl rfl old hns₁ (by rw [hDe]; exact hCle)
  have fpY:∀ {H':Hp},(∀ b∈fp,H' b=none)→∀ b∈fp,FpOk Y [] H' b:=fun hn b hb =>
   ⟨hn b hb,Nat.ne_of_lt (Nat.lt_of_lt_of_le (fpl b hb) (by rw [hDe]; exact hCle)),okY.exfs b hb,.inl hb,fun x c e=>by
    rcases R.sp x c e with ⟨z,_⟩ | z
    · exact Nat.ne_of_gt (Nat.lt_trans (Nat.lt_of_lt_of_le (fpl b hb) (by rw [hDe]; exact hCle)) z)
    · exact (hfp b hb).2.2.2.2.1 x c z,fun p hp=>absurd (show p∈([]:List (Addr×Obj)) from hp) (by simp)⟩
  have fpD:∀ b∈fp,b≠D:=fun b hb=>Nat.ne_of_lt (by rw [← hDe]; exact fpl b hb)
  refine ak1 (fun n s'=>∃ i acc its σ' H',Inv Y [] σ' H' s'∧tn i s'.heap∧(∀ b∈fp,H' b=none)∧s'.heap.PlainList D its∧H' D=none∧Vals acc its.toList∧acc.length≤sizeLine∧W i n acc σ' H') ?_ m0
   ⟨0,[],#[],cSt Nt.length caps σ,H,I0,st₁,fun b hb=>(hfp b hb).1,hacc,by rw [← hDe]; exact I.hok.fresh (Nat.le_refl _),.nil,Nat.zero_le _,w0⟩
  rintro n s3 ⟨i,acc,its,σ3,H3,I3,st3,fr3,⟨nd,e3⟩,hD3,rv3,hl3,w3⟩
  have cD:C≠D:=Ne.symm hDC
  have pinOk:∀ {H':Hp}{s':Shared}{o:Obj},s'.heap.get? D=some o→H' D=none→(∀ v,o.data≠.cell v)→s'.heap.get? D=some o∧H' D=none∧D≠Y.env.locals∧D∉Y.fs∧∀ v,o.data≠.cell v:=fun e n d =>
   ⟨e,n,hDC,fun z=>absurd (hfsY D z) (Nat.lt_irrefl _),d⟩
  have I3':Inv Y [(D,{ cls:=.type "list",data:=.seq its nd })] σ3 H3 s3:=I3.pins_of fun p hp=>by
   obtain rfl:p=(D,({ cls:=.type "list",data:=.seq its nd }:Obj)):=List.mem_singleton.mp hp
   exact pinOk e3 hD3 (fun v z=>by cases z)
  have fpY':∀ {H':Hp},(∀ b∈fp,H' b=none)→∀ b∈fp,FpOk Y [(D,{ cls:=.type "list",data:=.seq its nd })] H' b:=fun hn b hb=>by
   obtain ⟨a1,a2,a3,a4,a5,_⟩:=fpY hn b hb
   refine ⟨a1,a2,a3,a4,a5,fun p hp=>?_⟩
   obtain rfl:p=(D,({ cls:=.type "list",data:=.seq its nd }:Obj)):=List.mem_singleton.mp hp
   exact Ne.symm (fpD b hb)
  rcases turn i n acc σ3 H3 w3 with ⟨stop,qn⟩ | ⟨go,hlt,N,hN,step⟩
  · refine thn (T.done Y rfl rfl rfl hc i _ s3 σ3 H3 _ I3' (fpY' fr3) st3 stop) ?_
    rintro r s4 ⟨hr,I4⟩
    subst hr
    have e4:=(I4.pin (D,{ cls:=.type "list",data:=.seq its nd }) (List.mem_append_right _ List.mem_cons_self)).1
    have IX:Inv X pins σ H3 s4:=I.call' (ch:=fp) I4.os I4.base I4.hok I4.bare fun b hb=>by
     obtain ⟨_,a2,_,a4,a5,a6⟩:=hfp b hb
     exact ⟨a4,a2,a5,a6⟩
    have IA:=IX.adopt (o:=.lst acc) hD3 hDs (Nat.ne_of_gt hDl) (fun x c e=>Nat.ne_of_lt (hcD x c e)) (fun p hp=>Nat.ne_of_lt (hpD p hp)) ⟨hl3,its.toList,nd,rv3,e4⟩
    obtain ⟨m,nsC,_⟩:=I4.loc
    refine fin D C m s4 _ IA (qn D hD3) nsC (by rw [a10 cD]; exact I4.free) ?_ ?_ ?_ ?_
    · exact Nat.ne_of_gt (Nat.lt_of_lt_of_le hDl hCle)
    · exact Nat.le_trans hDs hCle
    · exact fun x c e=>Nat.ne_of_lt (Nat.lt_of_lt_of_le (hcD x c e) hCle)
    · exact fun p hp=>Nat.ne_of_lt (Nat.lt_of_lt_of_le (hpD p hp) hCle)
  · refine thn (T.item Y rfl rfl rfl hc i _ s3 σ3 H3 _ I3' (fpY' fr3) st3 go) ?_
    rintro r s4 ⟨u,hr,h4⟩
    subst hr
    refine thn h4 ?_
    rintro _ s5 ⟨x,H5,I5,r5,y5,st5,fr5⟩
    have I5':=I5.pinned (fpY' fr5) (T.obj _ _ st5)
    refine thn (hg r C s H fp _ s5 σ3 H5 x u _ I5' r5 (step x H5 y5)) ?_
    rintro _ s6 ⟨σ6,H6,I6,q6⟩
    refine thn (ht r C s H fp _ s6 σ6 H6 _ I6 q6) ?_
    rintro b s7 ⟨H7,I7,q7⟩
    have back:∀ {σ':St} {H':Hp}{s':Shared},Inv Y ([(D,{ cls:=.type "list",data:=.seq its nd })]++ai5 fp s5.heap) σ' H' s' →
     s'.heap.get? D=some { cls:=.type "list",data:=.seq its nd }∧H' D=none∧tn (i+1) s'.heap∧∀ b∈fp,H' b=none:=fun {σ' H' s'} J7=>by
     have hd:=J7.pin (D,{ cls:=.type "list",data:=.seq its nd }) (List.mem_append_right _ (List.mem_append_left _ List.mem_cons_self))
     refine ⟨hd.1,hd.2.1,T.keep _ _ _ st5 fun b hb o e=>(J7.pin (b,o) (List.mem_append_right _ (List.mem_append_right _ (a70 hb e)))).1,fun b hb=>?_⟩
     obtain ⟨o,e,d⟩:=T.obj _ _ st5 b hb
     exact (J7.pin (b,o) (List.mem_append_right _ (List.mem_append_right _ (a70 hb e)))).2.1
    cases b with
    | false =>
      rw [if_neg Bool.false_ne_true]
      rw [if_neg Bool.false_ne_true] at q7
      obtain ⟨m',hm,w7⟩:=hN _ _ _ q7
      obtain ⟨b1,b2,b3,b4⟩:=back I7
      exact ⟨m',hm,i+1,acc,its,σ6,H7,I7.pins_of (fun p hp=>nomatch hp),b3,b4,⟨nd,b1⟩,b2,rv3,hl3,w7⟩
    | true =>
      rw [if_pos rfl]
      rw [if_pos rfl] at q7
      refine thn (he r C s H fp _ s7 σ6 H7 _ I7 q7) ?_
      rintro u8 s8 ⟨y,H8,I8,r8,n8⟩
      obtain ⟨m',hm,w8⟩:=hN _ _ _ n8
      obtain ⟨b1,b2,b3,b4⟩:=back I8
      have hsz:its.size≤sizeLine:=by
       have h1:=rv3.length
       have h2:its.toList.length=its.size:=by simp
       omega
      refine wpAny_list_append_plain (hsz:=hsz) ⟨nd,b1⟩ fun h' pl' sb'=>?_
      have I8':Inv Y [] σ6 H8 s8:=I8.pins_of (fun p hp=>nomatch hp)
      refine ⟨m',hm,i+1,acc++[y],its.push u8,σ6,H8,I8'.turned (t':=s8.toks) (fun b o hb e=>(sb'.2 b hb).trans e) b2 hDC (.inr (by show s.heap.objs.size≤D; rw [hDe]; exact Nat.le_refl _)) (fun x c e=>by
       rcases R.sp x c e with ⟨z,_⟩ | z
       · exact Nat.ne_of_gt (Nat.lt_of_le_of_lt hCle z)
       · exact Nat.ne_of_lt (hcD x c z)) (fun p hp=>absurd (show p∈([]:List (Addr×Obj)) from hp) (by simp)),?_,b4,pl',b2,?_,?_,w8⟩
      · exact T.keep _ _ _ b3 fun b hb o e=>(sb'.2 b (fpD b hb)).trans e
      · rw [Array.toList_push]
        exact rv3.append (.cons r8 .nil)
      · rw [List.length_append,List.length_singleton]
        omega
 exact codeAny_compStart_list (loop _ rfl) (T.self _ _ _ _ _ st₁ (loop _ rfl))
theorem b42 {tg iter elt:Expr}{ifs:List Expr}{scope:Scope}{pos:Pos}{wi:TI}{g:TG}{tt:TT}{te:TE}{Nt Nf:List Str}{caps:List Nat}(hc:X.calm=true) (S:CompOk X scope Nt Nf caps) (hi:PI X tg iter wi)
 (hg:∀ cl C s0 H0 ex,PG (cxC X (Nt++Nf) scope cl C s0 H0 ex) tg g)
 (ht:∀ cl C s0 H0 ex,PTs (cxC X (Nt++Nf) scope cl C s0 H0 ex) ifs tt)
 (he:∀ cl C s0 H0 ex,PE (cxC X (Nt++Nf) scope cl C s0 H0 ex) elt te)
 (hs:∀ x,foldedSetIterable iter X.env x=pure x:=by intro _; rfl):PE X (.ListComp elt [⟨tg,iter,ifs,0⟩] scope pos) (tLC wi g tt te Nt.length caps):=by
 intro pins s σ H Q I h
 obtain ⟨cl,hclos,hcl,hcf⟩:=ae9 I.ok.has S.fr
 rw [eval_ListComp]
 refine wpAny_comprehension_free (use:=none) rfl hs hclos S.kind S.nm (thn (hi pins s σ H _ I h) fun v s1 h1=>thn h1 fun itv s2 h2=>?_)
 obtain ⟨it,fp,tn,J,H2,e,I2,T,st2,f2,hW⟩:=h2
 subst e
 refine af0 (RR:=fun acc C=>compPost (model X.prog X.w) X.A X.xe none (EP X pins σ Q) acc C) (Q:=Q) hc S hg ht he hcl hcf I2 T st2 f2 hW ?_
 intro D C m s' H' I' q nsC hCn hCl hCs hCc hCp
 exact ⟨m,nsC,fun h' sb=>⟨.ref D,H',I'.turned (t':=s'.toks) (fun b o hb e=>(sb.2 b hb).trans e) hCn hCl (.inr hCs) hCc hCp,rfl,q⟩⟩
theorem bj9 {tg iter elt:Expr}{ifs:List Expr}{scope:Scope}{pos spos py:Pos}{y:Str}{i:Nat}{wi:TI}{g:TG}{tt:TT}{te:TE}{Nt Nf:List Str}{caps:List Nat}(hc:X.calm=true) (S:CompOk X scope Nt Nf caps) (hi:PI X tg iter wi)
 (hg:∀ cl C s0 H0 ex,PG (cxC X (Nt++Nf) scope cl C s0 H0 ex) tg g)
 (ht:∀ cl C s0 H0 ex,PTs (cxC X (Nt++Nf) scope cl C s0 H0 ex) ifs tt)
 (he:∀ cl C s0 H0 ex,PE (cxC X (Nt++Nf) scope cl C s0 H0 ex) elt te)
 (hN:X.N.Nodup) (hy:X.N[i]?=some y) (hx:Loc X.env.scope y)
 (hsw:swapsWith (.ListComp elt [⟨tg,iter,ifs,0⟩] scope pos) (some (.Name y py)) spos.line X.env=pure true)
 (hf:X.fn y=true∨X.env.scope.names.lookup y=some .local:=by first | exact .inl rfl | exact .inr rfl | assumption)
 (hs:∀ x,foldedSetIterable iter X.env x=pure x:=by intro _; rfl):PS X (.Assign [.Name y py] (.ListComp elt [⟨tg,iter,ifs,0⟩] scope pos) spos) (tAsg (tLC wi g tt te Nt.length caps) (ab3 i)):=by
 intro pins s σ H D I h
 obtain ⟨cl,hclos,hcl,hcf⟩:=ae9 I.ok.has S.fr
 rw [exec_Assign_Name_used _ _ _ _ hsw]
 refine wpAny_bind (wpAny_standAt (wpAny_bind ?_))
 show wpAny _ X.A (do let _←comprehension (.ListComp elt [⟨tg,iter,ifs,0⟩] scope pos) scope X.env _ (newList []) false (eval iter X.env) (some (assign (.Name y py) X.env))) _ _ s
 refine wpAny_bind (wpAny_mono (wpAny_comprehension_free (use:=some (assign (.Name y py) X.env)) (Q:=fun _ s'=>SP X pins D .next s') rfl hs hclos S.kind S.nm
  (thn (hi pins s σ H _ I h) fun v s1 h1=>thn h1 fun itv s2 h2=>?_)) (fun _ s' hq=>wpAny_pure (wpAny_pure hq)) fun _ _ e=>e)
 obtain ⟨it,fp,tn,J,H2,e,I2,T,st2,f2,hW⟩:=h2
 subst e
 refine af0 (RR:=fun acc C=>compPost (model X.prog X.w) X.A X.xe (some (assign (.Name y py) X.env)) (fun _ s'=>SP X pins D .next s') acc C) (Q:=fun x H1=>ab3 i x σ H1 D.nx) hc S hg ht he hcl hcf I2 T st2 f2 hW ?_
 intro l C m s' H' I' q nsC hCn hCl hCs hCc hCp
 show wpAny _ X.A (assign (.Name y py) X.env (.ref l)) _ _ _
 refine wpAny_assign_Name (ai4 (v:=.ref l) I' hN hy hx rfl (?_) hf)
 rintro s'' I'' ⟨a,sb,ha⟩
 have haC:C≠a:=by
  rcases ha with z | z
  · rw [z]; exact hCl
  · exact fun e=>hCc y a z e.symm
 refine ⟨m,nsC.sameBut sb haC,fun h' sb'=>⟨_,H',I''.turned (t':=s''.toks) (fun b o hb e=>(sb'.2 b hb).trans e) hCn hCl (.inr hCs) hCc hCp,q⟩⟩
end
section
variable {X:Cx}{tg:Expr}
end
section
variable {X:Cx}
def a16 (ys:List Str):List V:=ys.map V.str
def CBig (i j:Int):Prop:=(i.natAbs<2 ^ 4096∧j.natAbs<2 ^ 4096)∨CMul i j
theorem ax3 {i:Int}{n:Nat}(h:i.natAbs<2 ^ n):Builtin.Int.intBits i≤n:=by
 unfold Builtin.Int.intBits
 split
 · exact Nat.zero_le _
 · rename_i h0
   have h1:i.natAbs≠0:=by simpa using h0
   have:=(Nat.log2_lt h1).mpr h
   omega
theorem CBig.ok {i j:Int}(h:CBig i j):IntMulOk i j:=by
 rcases h with ⟨h1,h2⟩ | h
 · exact IntMulOk.of_bits (Nat.le_trans (ax3 h1) (by decide)) (Nat.le_trans (ax3 h2) (by decide))
 · exact h.ok
theorem bk0:OpR X (binaryOp .Mult) (rI CBig fun i j=>.int (i*j)):=opI fun _ _ _ _ _ _ _ hc q=>mul_int q hc.ok
theorem b43:CallR X (.builtin "isinstance") (fun xs H Q=>∃ x n t b,xs=[x,.ty n]∧TyOf X.K H x t∧PySem.W.kitOne X.K t (.type n)=some b∧Q (.bl b) H):=by
 intro pins s σ H xs us Q I r h
 obtain ⟨x,n,t,b,rfl,ty,e,q⟩:=h
 obtain ⟨u,w',rfl,rx,ry⟩:=bh9 r
 cases (show w'=Value.type n from ry)
 exact av2 I rx ty e fun tk=>⟨.bl b,H,I.tok _,rfl,q⟩
theorem strs_at:∀ {ys:List Str}{us:List Value},Vals (a16 ys) us→∀ (i:Nat) (h:i<us.length),∃ y t,ys[i]?=some y∧us[i]=.str y t
 | [],_,r,i,h=>by cases r; simp at h
 | y::ys,_,r,i,h=>by
   cases r with
   | cons r1 r2 =>
     cases i with
     | zero =>
       obtain ⟨t,rfl⟩:=r1
       exact ⟨y,t,rfl,rfl⟩
     | succ i=>exact strs_at (ys:=ys) r2 i (by simpa using h)
end
section
variable {X:Cx}{e:Expr}{te:TE}{pos:Pos}
end
abbrev New (H:Hp) (o:HO) (Q:VK):Prop:=∀ p H',H p=none→Same H H'→H' p=some o→Q (.ref p) H'
theorem Same.new {H:Hp}{p:Addr}{o:HO}(h:H p=none):Same H (upd H p o):=fun b u e=>by rw [a10 (a20 e h)]; exact e
theorem New.to {H:Hp}{Q:VK}{o:HO}(h:New H o Q):∀ p,H p=none→Q (.ref p) (upd H p o):=fun p hp=>h p _ hp (Same.new hp) a18
section
variable {X:Cx}{es:List Expr}{t:TA}{pos:Pos}
def bk1 (t:TA):TE:=fun σ H Q=>t σ H fun xs H1=>xs.length≤sizeLine∧New H1 (.lst xs) Q
def bk2 (t:TA):TE:=fun σ H Q=>t σ H fun xs H1=>xs.length≤sizeLine∧New H1 (.tup xs) Q
theorem a14 {x1}(h:PA X es t):PE X (.Tuple es x1 pos) (bk2 t):=by
 intro pins s σ H Q I hq
 refine wpAny_Tuple_spliced (thn (h pos pins s σ H _ I hq) fun us s1 ⟨xs,H1,I1,r,z,q⟩=>⟨by rw [← r.length]; exact z,?_⟩)
 refine ⟨.ref s1.heap.objs.size,upd H1 s1.heap.objs.size (.tup xs),I1.laid (t':=s1.toks) (fun b u e=>Heap.get?_push_of_some _ e) (Nat.le_refl _) ?_,rfl,New.to q _ (I1.hok.fresh (Nat.le_refl _))⟩
 exact ⟨z,us,r,⟨_,Heap.get?_push_size _ rfl,rfl,_,rfl⟩⟩
theorem a12 (h:PA X es t):PE X (.List es pos) (bk1 t):=by
 intro pins s σ H Q I hq
 refine wpAny_List_spliced (thn (h pos pins s σ H _ I hq) fun us s1 ⟨xs,H1,I1,r,z,q⟩=>⟨by rw [← r.length]; exact z,?_⟩)
 refine ⟨.ref s1.heap.objs.size,upd H1 s1.heap.objs.size (.lst xs),I1.laid (t':=s1.toks) (fun b u e=>Heap.get?_push_of_some _ e) (Nat.le_refl _) ?_,rfl,New.to q _ (I1.hok.fresh (Nat.le_refl _))⟩
 exact ⟨z,us,0,r,Heap.get?_push_size _ rfl⟩
def rSlN (K:PySem.W.Frag):V→Option Int→Option Int→Hp→VK→Prop:=fun x lo hi H Q=>∃ a xs,x=.ref a∧SqL K H a xs∧New H (.lst (cutV xs lo hi)) Q
theorem b44:SlR X (rSlN X.K):=by
 intro pins s σ H x v vl vu lo hi sl Q I rx hs pl pu h
 obtain ⟨a,xs,e,h1,h2⟩:=h
 exact bb5 pins s σ H x v vl vu lo hi sl Q I rx hs pl pu ⟨a,xs,e,h1,New.to h2⟩
theorem at2:CallR X (.type "list") (fun xs H Q=>∃ p ys,xs=[.ref p]∧(SqL X.K H p ys∨SqT X.K H p ys)∧New H (.lst ys) Q):=by
 intro pins s σ H xs us Q I r h
 obtain ⟨p,ys,e,h1,h2⟩:=h
 exact aj4 pins s σ H xs us Q I r ⟨p,ys,e,h1,New.to h2⟩
end
def rIsi (K:PySem.W.Frag):List V→Hp→VK→Prop:=fun xs H Q=>∃ x n t b,xs=[x,.ty n]∧TyOf K H x t∧PySem.W.kitOne K t (.type n)=some b∧Q (.bl b) H
def tTru (K:PySem.W.Frag) (ta:TE):TT:=fun σ H Q=>ta σ H fun x H'=>∃ k,TruV K x H' k∧Q k H'
def rLen (K:PySem.W.Frag):List V→Hp→VK→Prop:=fun xs H Q=>∃ x n,xs=[x]∧LenV K x H n∧Q (.int n) H
def ap8 (K:PySem.W.Frag):List V→Hp→VK→Prop:=fun xs H Q=>∃ p ys,xs=[.ref p]∧(SqL K H p ys∨SqT K H p ys)∧New H (.lst ys) Q
section
variable {X:Cx}{a:Expr}{ta:TE}
theorem bk3:CallR X (.builtin "isinstance") (rIsi X.K):=b43
theorem bk4 (ha:PE X a ta) (he:∀ whole,isTrue a X.env whole=(do let v←whole; standAt a.pos; holding [v] (truthy v))):PT X a (tTru X.K ta):=b32 ha he
theorem bk5:CallR X (.builtin "len") (rLen X.K):=b34
theorem bc3:CallR X (.type "list") (ap8 X.K):=at2
end
def bc4:R2:=fun x y H Q=>match x,y with
 | .int i,.int j=>Q (.int (i+j)) H
 | .str i,.str j=>i.length+j.length≤sizeLine∧Q (.str (i++j)) H
 | .ref l,.ref b=>∃ xs zs,H l=some (.lst xs)∧H b=some (.lst zs)∧xs.length+zs.length≤sizeLine∧New H (.lst (xs++zs)) Q
 | _,_=>False
def b83:R2:=fun x y H Q=>match x,y with
 | .int i,.int j=>CBig i j∧Q (.int (i*j)) H
 | .str z,.int n=>MulOk z n∧Q (.str (Txt.mul z n)) H
 | _,_=>False
def rStr:List V→Hp→VK→Prop:=fun xs H Q=>match xs with
 | [.int i]=>i.natAbs.log2<1920∧Q (.str (toString i)) H
 | [.str z]=>Q (.str z) H
 | _=>False
section
variable {X:Cx}
theorem a19:OpR X (binaryOp .Add) bc4:=by
 intro pins s σ H x y v u Q I rx ry h
 cases x with
 | int i=>cases y with
   | int j=>exact bh4 pins s σ H _ _ v u Q I rx ry ⟨i,j,rfl,rfl,h⟩
   | _=>exact (show False from h).elim
 | str i=>cases y with
   | str j=>exact as6 pins s σ H _ _ v u Q I rx ry ⟨i,j,rfl,rfl,h⟩
   | _=>exact (show False from h).elim
 | ref l=>cases y with
   | ref b =>
     obtain ⟨xs,zs,h1,h2,h3,h4⟩:=h
     exact bj0 pins s σ H _ _ v u Q I rx ry ⟨l,b,xs,zs,rfl,rfl,h1,h2,h3,New.to h4⟩
   | _=>exact (show False from h).elim
 | _=>exact (show False from h).elim
theorem a88:OpR X (binaryOp .Mult) b83:=by
 intro pins s σ H x y v u Q I rx ry h
 cases x with
 | int i=>cases y with
   | int j=>exact bk0 pins s σ H _ _ v u Q I rx ry ⟨i,j,rfl,rfl,h⟩
   | _=>exact (show False from h).elim
 | str z=>cases y with
   | int n =>
     obtain ⟨t,rfl⟩:=rx
     obtain ⟨t',rfl⟩:=ry
     exact SB.mul h.1 fun t2 k=>⟨.str _,H,I.tok _,⟨_,rfl⟩,h.2⟩
   | _=>exact (show False from h).elim
 | _=>exact (show False from h).elim
theorem b45 {scope sc:Scope}{Nt Nf:List Str}{caps:List Nat}(hsc:X.env.scope=sc) (kind:scope.kind=.function) (nx:∀ x∈Nf,(x,NameKind.cell)∉scope.names) (nm:∀ y∈scope.names,y.2=.local→scope.names.lookup y.1=some .local)
 (fr:∀ y∈scope.names,y.2=.free→sc.names.lookup y.1=some .cell∨sc.names.lookup y.1=some .free) (cap:caps.map (fun j=>X.N[j]?)=Nf.map some) (vis:∀ x∈Nf,scope.names.lookup x=some .free):CompOk X scope Nt Nf caps :=
 ⟨kind,nx,nm,fun y hy h=>by show X.env.scope.names.lookup y.1=_∨X.env.scope.names.lookup y.1=_; rw [hsc]; exact fr y hy h,cap,vis⟩
theorem a97 {scope sc:Scope}{Nt Nf:List Str}{caps:List Nat}(hsc:X.env.scope=sc) (kind:scope.kind=.function) (nc:∀ y∈scope.names,y.2≠.cell) (nm:∀ y∈scope.names,y.2=.local→scope.names.lookup y.1=some .local)
 (fr:∀ y∈scope.names,y.2=.free→sc.names.lookup y.1=some .cell∨sc.names.lookup y.1=some .free) (cap:caps.map (fun j=>X.N[j]?)=Nf.map some) (vis:∀ x∈Nf,scope.names.lookup x=some .free):CompOk X scope Nt Nf caps :=
 b45 hsc kind (fun x _ h=>nc (x,.cell) h rfl) nm fr cap vis
abbrev b46 (J:It) (te:TE) (tt:TT) (caps:List Nat) (σ:St) (H:Hp) (Q:VK):Prop:=∃ W:Nat→Nat→List V→St→Hp→Prop,(∃ m,W 0 m [] (cSt 1 caps σ) H)∧∀ i m acc σ' H',W i m acc σ' H' →
 (J.stop i H'∧∀ l,H' l=none→Q (.ref l) (upd H' l (.lst acc))) ∨
 (J.go i H'∧acc.length<sizeLine∧∃ N:List V→St→Hp→Prop,(∀ ac σ2 H2,N ac σ2 H2→∃ m',m'<m∧W (i+1) m' ac σ2 H2)∧∀ x H2,J.yld i H' x H2→ab3 0 x σ' H2 fun σ3 H3=>tt σ3 H3 fun b H4=>if b=true then te σ3 H4 fun y H5=>N (acc++[y]) σ3 H5 else N acc σ3 H4)
theorem ax4 {J:It}{te:TE}{tt:TT}{caps:List Nat}{σ:St} {H:Hp}{Q:VK}(n:Nat) (hz:n≤sizeLine) (Pv:Nat→List V→Hp→Prop) (h0:Pv 0 [] H) (hl:∀ i acc H,Pv i acc H→acc.length≤i)
 (hgo:∀ i acc H,i<n→Pv i acc H→J.go i H) (hst:∀ acc H,Pv n acc H→J.stop n H)
 (hs:∀ i x acc H H2,i<n→Pv i acc H→J.yld i H x H2→tt (some x::capV caps σ) H2 fun b H4=>if b=true then te (some x::capV caps σ) H4 fun y H5=>Pv (i+1) (acc++[y]) H5 else Pv (i+1) acc H4)
 (hd:∀ acc H,Pv n acc H→New H (.lst acc) Q):b46 J te tt caps σ H Q:=by
 refine ⟨fun i m acc σ' H=>m=n - i∧i≤n∧(∃ v,σ'=v::capV caps σ)∧Pv i acc H,⟨n,by simp,Nat.zero_le _,⟨none,rfl⟩,h0⟩,?_⟩
 rintro i m acc σ' H' ⟨rfl,hi,⟨v,rfl⟩,p⟩
 by_cases hlt:i<n
 · refine .inr ⟨hgo i acc H' hlt p,?_,fun ac σ2 H2=>(∃ v,σ2=v::capV caps σ)∧Pv (i+1) ac H2,fun ac σ2 H2 ⟨e,p'⟩=>⟨n - (i+1),by omega,rfl,hlt,e,p'⟩,fun x H2 y=>?_⟩
   · have:=hl i acc H' p
     omega
   · have eN:∀ ac H5,((∃ u,some x::capV caps σ=u::capV caps σ)∧Pv (i+1) ac H5)=Pv (i+1) ac H5:=fun ac H5=>propext ⟨And.right,fun p=>⟨⟨_,rfl⟩,p⟩⟩
     show tt (some x::capV caps σ) H2 fun b H4=>if b=true then te (some x::capV caps σ) H4 fun y H5=>((∃ u,some x::capV caps σ=u::capV caps σ)∧Pv (i+1) (acc++[y]) H5) else ((∃ u,some x::capV caps σ=u::capV caps σ)∧Pv (i+1) acc H4)
     simp only [eN]
     exact hs i x acc H' H2 hlt p y
 · have e:i=n:=by omega
   subst e
   exact .inl ⟨hst acc H' p,New.to (hd acc H' p)⟩
theorem bc5 {K:PySem.W.Frag}{a:Addr}{xs:List V}{te:TE}{tt:TT}{caps:List Nat}{σ:St} {H:Hp}{Q:VK}(hz:xs.length≤sizeLine) (Pv:Nat→List V→Hp→Prop) (h0:Pv 0 [] H) (hl:∀ i acc H,Pv i acc H→acc.length≤i∧SqL K H a xs)
 (hs:∀ i x acc H,xs[i]?=some x→Pv i acc H→tt (some x::capV caps σ) H fun b H4=>if b=true then te (some x::capV caps σ) H4 fun y H5=>Pv (i+1) (acc++[y]) H5 else Pv (i+1) acc H4)
 (hd:∀ acc H,Pv xs.length acc H→New H (.lst acc) Q):b46 (Itl K a) te tt caps σ H Q:=by
 refine ax4 xs.length hz Pv h0 (fun i acc H p=>(hl i acc H p).1) (fun i acc H hi p=>⟨xs,xs[i],(hl i acc H p).2,by simp [hi]⟩) (fun acc H p=>⟨xs,(hl _ acc H p).2,Nat.le_refl _⟩) ?_ hd
 rintro i x acc H1 H2 hi p ⟨rfl,y⟩
 exact hs i x acc _ (y xs (hl i acc _ p).2) p
theorem bk6 {K:PySem.W.Frag}{a:Addr}{xs:List V}{te:TE}{tt:TT}{caps:List Nat}{σ:St} {H:Hp}{Q:VK}(hz:xs.length≤sizeLine) (Pv:Nat→List V→Hp→Prop) (h0:Pv 0 [] H) (hl:∀ i acc H,Pv i acc H→acc.length≤i∧SqT K H a xs)
 (hs:∀ i x acc H,xs[i]?=some x→Pv i acc H→tt (some x::capV caps σ) H fun b H4=>if b=true then te (some x::capV caps σ) H4 fun y H5=>Pv (i+1) (acc++[y]) H5 else Pv (i+1) acc H4)
 (hd:∀ acc H,Pv xs.length acc H→New H (.lst acc) Q):b46 (Itt K a) te tt caps σ H Q:=by
 refine ax4 xs.length hz Pv h0 (fun i acc H p=>(hl i acc H p).1) (fun i acc H hi p=>⟨xs,xs[i],(hl i acc H p).2,by simp [hi]⟩) (fun acc H p=>⟨xs,(hl _ acc H p).2,Nat.le_refl _⟩) ?_ hd
 rintro i x acc H1 H2 hi p ⟨rfl,y⟩
 exact hs i x acc _ (y xs (hl i acc _ p).2) p
theorem b47 {lo:Int}{n:Nat}{te:TE}{tt:TT}{caps:List Nat}{σ:St} {H:Hp}{Q:VK}(hz:n≤sizeLine) (Pv:Nat→List V→Hp→Prop) (h0:Pv 0 [] H) (hl:∀ i acc H,Pv i acc H→acc.length≤i)
 (hs:∀ i acc H,i<n→Pv i acc H→tt (some (.int (lo+i))::capV caps σ) H fun b H4=>if b=true then te (some (.int (lo+i))::capV caps σ) H4 fun y H5=>Pv (i+1) (acc++[y]) H5 else Pv (i+1) acc H4)
 (hd:∀ acc H,Pv n acc H→New H (.lst acc) Q):b46 (Itr lo n) te tt caps σ H Q:=by
 refine ax4 n hz Pv h0 hl (fun i acc H hi p=>hi) (fun acc H p=>Nat.le_refl _) ?_ hd
 rintro i x acc H1 H2 hi p ⟨rfl,rfl⟩
 exact hs i acc _ hi p
end
end L2
namespace L2
open PySem
theorem ex_some_and {α:Type}{a:α}{p:α→Prop}:(∃ v,some (some a)=some (some v)∧p v)↔p a:=⟨fun ⟨_,e,h⟩=>by cases e; exact h,fun h=>⟨a,rfl,h⟩⟩
def ax5 (J:It) (g:TG) (tb:TS) (D:Ends) (σ:St) (H1:Hp):Prop:=∃ W:Nat→Nat→St→Hp→Prop,(∃ m,W 0 m σ H1)∧∀ i m σ H,W i m σ H →
 (J.stop i H∧D.nx σ H)∨(J.go i H∧∃ N:St→Hp→Prop,(∀ σ' H',N σ' H'→∃ m',m'<m∧W (i+1) m' σ' H')∧∀ x H',J.yld i H x H'→g x σ H' fun σ2 H2=>tb { D with nx:=N,ct:=N,bk:=D.nx } σ2 H2)
def ac3 (J:It) (g:TG) (tt:TT) (te:TE) (n:Nat) (caps:List Nat) (σ:St) (H:Hp) (Q:VK):Prop:=∃ W:Nat→Nat→List V→St→Hp→Prop,(∃ m,W 0 m [] (cSt n caps σ) H)∧∀ i m acc σ' H',W i m acc σ' H' →
 (J.stop i H'∧∀ l,H' l=none→Q (.ref l) (upd H' l (.lst acc))) ∨
 (J.go i H'∧acc.length<sizeLine∧∃ N:List V→St→Hp→Prop,(∀ ac σ2 H2,N ac σ2 H2→∃ m',m'<m∧W (i+1) m' ac σ2 H2)∧∀ x H2,J.yld i H' x H2→g x σ' H2 fun σ3 H3=>tt σ3 H3 fun b H4=>if b=true then te σ3 H4 fun y H5=>N (acc++[y]) σ3 H5 else N acc σ3 H4)
section
variable {K:PySem.W.Frag}{a:Addr}{xs:List V}{te:TE}{tt:TT}{caps:List Nat}{σ:St} {H:Hp}{Q:VK}{z:Str}{lo:Int}{n:Nat}
theorem am9 (hz:xs.length≤sizeLine) (Pv:Nat→List V→Hp→Prop) (h0:Pv 0 [] H) (hl:∀ i acc H,Pv i acc H→acc.length≤i∧SqL K H a xs)
 (hs:∀ i x acc H,xs[i]?=some x→Pv i acc H→tt (some x::capV caps σ) H fun b H4=>if b=true then te (some x::capV caps σ) H4 fun y H5=>Pv (i+1) (acc++[y]) H5 else Pv (i+1) acc H4)
 (hd:∀ acc H,Pv xs.length acc H→New H (.lst acc) Q):ac3 (Itl K a) (ab3 0) tt te 1 caps σ H Q:=bc5 hz Pv h0 hl hs hd
theorem bk7 (hz:xs.length≤sizeLine) (Pv:Nat→List V→Hp→Prop) (h0:Pv 0 [] H) (hl:∀ i acc H,Pv i acc H→acc.length≤i∧SqT K H a xs)
 (hs:∀ i x acc H,xs[i]?=some x→Pv i acc H→tt (some x::capV caps σ) H fun b H4=>if b=true then te (some x::capV caps σ) H4 fun y H5=>Pv (i+1) (acc++[y]) H5 else Pv (i+1) acc H4)
 (hd:∀ acc H,Pv xs.length acc H→New H (.lst acc) Q):ac3 (Itt K a) (ab3 0) tt te 1 caps σ H Q:=bk6 hz Pv h0 hl hs hd
theorem b48 (hz:n≤sizeLine) (Pv:Nat→List V→Hp→Prop) (h0:Pv 0 [] H) (hl:∀ i acc H,Pv i acc H→acc.length≤i)
 (hs:∀ i acc H,i<n→Pv i acc H→tt (some (.int (lo+i))::capV caps σ) H fun b H4=>if b=true then te (some (.int (lo+i))::capV caps σ) H4 fun y H5=>Pv (i+1) (acc++[y]) H5 else Pv (i+1) acc H4)
 (hd:∀ acc H,Pv n acc H→New H (.lst acc) Q):ac3 (Itr lo n) (ab3 0) tt te 1 caps σ H Q:=b47 hz Pv h0 hl hs hd
end
theorem cxOf_K {CX:CXT}{P:Program}{w:World}{K:PySem.W.Frag}{mg:Str→Option Value}{base:Heap}{N:List Str}{qual:Str}{scope:Scope}{f:Addr}{cd:Value}{A:Around}{outer:List Env}{s:Shared}{H:Hp}{E:XK} :
 (cxOf CX P w K mg base N qual scope f cd A outer s H E).K=K:=rfl
theorem cxC_K {X:Cx}{N:List Str}{scope:Scope}{cl:List (Str×Addr)}{C:Addr}{s0:Shared}{H0:Hp}{ex:List Addr}:(cxC X N scope cl C s0 H0 ex).K=X.K:=rfl
section
variable {X:Cx}
theorem a21 (K:PySem.W.Frag) (hK:X.K=K:=by rfl):IxR X (rIxL K):=hK ▸ bb4
theorem a29 (K:PySem.W.Frag) (hK:X.K=K:=by rfl):IxR X (rIxT K):=hK ▸ bi6
theorem a42 (K:PySem.W.Frag) (hK:X.K=K:=by rfl):SlR X (rSlN K):=hK ▸ b44
theorem bc6 (K:PySem.W.Frag) (hK:X.K=K:=by rfl):CallR X (.builtin "isinstance") (rIsi K):=hK ▸ bk3
theorem af5 (K:PySem.W.Frag) (hK:X.K=K:=by rfl):CallR X (.builtin "len") (rLen K):=hK ▸ bk5
theorem a89 (K:PySem.W.Frag) (hK:X.K=K:=by rfl):CallR X (.type "list") (ap8 K):=hK ▸ bc3
theorem a90 (K:PySem.W.Frag) (hK:X.K=K:=by rfl):OpR X (compareOp .In) (rIn K false):=hK ▸ av9
theorem ax6 (K:PySem.W.Frag) (hK:X.K=K:=by rfl):OpR X (compareOp .NotIn) (rIn K true):=hK ▸ aj3
theorem an0 (K:PySem.W.Frag) {a:Expr}{ta:TE}(ha:PE X a ta) (he:∀ whole,isTrue a X.env whole=(do let v←whole; standAt a.pos; holding [v] (truthy v))) (hK:X.K=K:=by rfl):PT X a (tTru K ta):=hK ▸ bk4 ha he
theorem a43 (K:PySem.W.Frag) {tg l:Expr}{tl:TE}(hl:PE X l tl) (hK:X.K=K:=by rfl):PI X tg l (ba8 K tl):=hK ▸ ba9 hl
theorem bc7 (K:PySem.W.Frag) {tg l:Expr}{tl:TE}(hl:PE X l tl) (hK:X.K=K:=by rfl):PI X tg l (iTup K tl):=hK ▸ bh2 hl
theorem an1 (K:PySem.W.Frag) {pos:Pos}{es:List Expr}{k:Nat}{t:TGs}{n:Nat}(hc:X.calm=true) (h:PGs X es t) (hn:(assignEach es X.env).length=n:=by rfl) (hst:(assignEach es X.env).findIdx? (·.1)=none:=by rfl) (hK:X.K=K:=by rfl) :
 PG X (.Tuple es k pos) (gTup K n t):=hK ▸ bh1 hc h hn hst
theorem ax7 (K:PySem.W.Frag) {o:Expr}{to:TE}{name:Str}{apos cpos:Pos}{T id:String}{r:V→List V→Hp→VK→Prop}(pa:PlainAttrs T) (slot:Slot T name id) (hty:typeOf (.builtin id)=pure (.type "method_descriptor")) (hm:MtR X id r) (ho:PE X o to)
 (hbase:attributeBase o name X.env (eval o X.env)=eval o X.env:=by rfl) (hline:(apos.endLine == cpos.line)=true:=by rfl) (hK:X.K=K:=by rfl):PE X (.Call (.Attribute o name apos) [] [] cpos) (tBM0 K T r to):=hK ▸ bi9 pa slot hty hm ho hbase hline
theorem af1 (K:PySem.W.Frag) {o e:Expr}{es:List Expr}{to:TE}{t:TA}{name:Str}{apos cpos:Pos}{T id:String}{r:V→List V→Hp→VK→Prop}(pa:PlainAttrs T) (slot:Slot T name id) (hty:typeOf (.builtin id)=pure (.type "method_descriptor")) (hm:MtR X id r) (ho:PE X o to) (ha:PA X (e::es) t)
 (hbase:attributeBase o name X.env (eval o X.env)=eval o X.env:=by rfl)
 (hfew:((backTo cpos (starEach (e::es) X.env)).all (fun x=>!x.1) && (backToKw cpos (keywordEach [] X.env)).all (fun x=>x.1.isSome) && decide ((e::es).length+([]:List Keyword).length+(if ([]:List Keyword).isEmpty then 0 else 1)<30))=true:=by rfl)
 (hline:(apos.endLine == cpos.line)=true:=by rfl) (hs:starEach (e::es) X.env=(false,eval e X.env)::starEach es X.env:=by rfl) (hplain:(backTo cpos (starEach es X.env)).any (·.1)=false:=by rfl) (hK:X.K=K:=by rfl) :
 PE X (.Call (.Attribute o name apos) (e::es) [] cpos) (tBM K T r to t):=hK ▸ bs5 pa slot hty hm ho ha hbase hfew hline hs hplain
end
theorem ap9:bootBuiltins "len"=some (.builtin "len"):=by decide +kernel
theorem af6:bootBuiltins "isinstance"=some (.builtin "isinstance"):=by decide +kernel
theorem bk8:bootBuiltins "abs"=some (.builtin "abs"):=by decide +kernel
theorem a98:bootBuiltins "list"=some (.type "list"):=by decide +kernel
theorem bc8:bootBuiltins "dict"=some (.type "dict"):=by decide +kernel
def Bd (p:Nat) (x:Int):Prop:=x.natAbs<2 ^ p
theorem Bd.mono {p q:Nat}{x:Int}(h:Bd p x) (l:p≤q):Bd q x:=Nat.lt_of_lt_of_le h (Nat.pow_le_pow_right (by decide) l)
theorem Bd.mul {p q:Nat}{x y:Int}(h:Bd p x) (h':Bd q y):Bd (p+q) (x*y):=by
 unfold Bd at *
 rw [Int.natAbs_mul,Nat.pow_add]
 exact Nat.mul_lt_mul'' h h'
theorem Bd.add {p:Nat}{x y:Int}(h:Bd p x) (h':Bd p y):Bd (p+1) (x+y):=by
 unfold Bd at *
 have:(x+y).natAbs≤x.natAbs+y.natAbs:=Int.natAbs_add_le x y
 rw [Nat.pow_succ]
 omega
theorem Bd.big {p q:Nat}{x y:Int}(h:Bd p x) (h':Bd q y) (hp:p≤4096:=by decide) (hq:q≤4096:=by decide):CBig x y:=.inl ⟨h.mono hp,h'.mono hq⟩
theorem Bd.of {p:Nat}{x:Int}(h0:0≤x) (h1:x<2 ^ p):Bd p x:=by
 unfold Bd
 have e:((2 ^ p:Nat):Int)=(2:Int) ^ p:=by norm_cast
 omega
end L2
local macro_rules | `(tactic| walk_at "rd") => `(tactic| simp only [L2.tCB, L2.tCons, L2.tNil, L2.tVar, L2.rStr, L2.tNoIf, L2.capV, List.map_nil, List.getElem?_cons_zero, L2.ex_some_and, if_true])
namespace L2
open PySem
theorem le_line {n:Nat}(h:n≤1000000):n≤sizeLine:=Nat.le_trans h (by decide)
theorem nox_K {X:Cx}:X.nox.K=X.K:=rfl
theorem wish_K {X:Cx}{E:Value→Shared→Prop}:(X.wish E).K=X.K:=rfl
section
variable {σ:St} {H:Hp}{Q:VK}{D:Ends}{nn bb cc:St→Hp→Prop}{rr:VK}{t u:TS}{ta tb tc te:TE}{tA tB:TT}{g:TG}{QT:Bool→Hp→Prop}{QA:List V→Hp→Prop}{QS:St→Hp→Prop}
theorem bt6 (h:te σ H fun x H1=>g x σ H1 nn):tAsg te g ⟨nn,rr,bb,cc⟩ σ H:=h
theorem i_name {i:Nat}{v:V}(h:QS (σ.set i (some v)) H):ab3 i v σ H QS:=h
theorem i_var {i:Nat}{v:V}(e:σ[i]?=some (some v)) (h:Q v H):tVar i σ H Q:=⟨v,e,h⟩
theorem i_c {v:V}(h:Q v H):tC v σ H Q:=h
theorem i_op {r:R2}(h:ta σ H fun x H1=>tb σ H1 fun y H2=>r x y H2 Q):tOp r ta tb σ H Q:=h
theorem i_un {r:V→Hp→VK→Prop}(h:ta σ H fun x H1=>r x H1 Q):tUn r ta σ H Q:=h
theorem i_rU {f:Int→V}{i:Int}(h:Q (f i) H):rU f (.int i) H Q:=⟨i,rfl,h⟩
theorem i_rI {C:Int→Int→Prop}{f:Int→Int→V}{i j:Int}(c:C i j) (h:Q (f i j) H):rI C f (.int i) (.int j) H Q:=⟨i,j,rfl,rfl,c,h⟩
theorem bt7 {f:Int→Int→V}{i j:Int}(h:Q (f i j) H):rI0 f (.int i) (.int j) H Q:=⟨i,j,rfl,rfl,h⟩
theorem bc9 {i j:Int}(h:Q (.int (i+j)) H):bc4 (.int i) (.int j) H Q:=h
theorem a30 {l b:Addr}{xs zs:List V}(h1:H l=some (.lst xs)) (h2:H b=some (.lst zs)) (z:xs.length+zs.length≤sizeLine) (h:New H (.lst (xs++zs)) Q):bc4 (.ref l) (.ref b) H Q:=⟨xs,zs,h1,h2,z,h⟩
theorem af7 {i j:Int}(c:CBig i j) (h:Q (.int (i*j)) H):b83 (.int i) (.int j) H Q:=⟨c,h⟩
theorem decI (i j:Int):decide (V.int i=V.int j)=decide (i=j):=by rw [Bool.eq_iff_iff]; simp
theorem decS (i j:Str):decide (V.str i=V.str j)=decide (i=j):=by rw [Bool.eq_iff_iff]; simp
theorem bt8 {i j:Int}(h:Q (.bl (decide (i=j))) H):rEq (.int i) (.int j) H Q:=⟨rfl,by rw [decI]; exact h⟩
theorem bt9 {i j:Str}(h:Q (.bl (decide (i=j))) H):rEq (.str i) (.str j) H Q:=⟨rfl,by rw [decS]; exact h⟩
theorem bu0 {i j:Str}(h:Q (.bl (!decide (i=j))) H):rNe (.str i) (.str j) H Q:=⟨rfl,by rw [decS]; exact h⟩
theorem bk9 (h:te σ H fun x H'=>∃ k,x=.bl k∧QT k H'):bh7 te σ H QT:=h
theorem i_bl {k:Bool}{p:Bool→Prop}(h:p k):∃ j,V.bl k=V.bl j∧p j:=⟨k,rfl,h⟩
theorem bu1 (h:tA σ H fun b H1=>if b=true then t D σ H1 else u D σ H1):tIfS tA t u D σ H:=h
theorem i_if (h:tA σ H fun b H1=>if b=true then ta σ H1 Q else tb σ H1 Q):tIf tA ta tb σ H Q:=h
theorem bu2 (h:te σ H rr):tRet te ⟨nn,rr,bb,cc⟩ σ H:=h
theorem bl0 (h:nn σ H):bg9 ⟨nn,rr,bb,cc⟩ σ H:=h
theorem bl1 (h:te σ H fun _ H1=>nn σ H1):bh0 te ⟨nn,rr,bb,cc⟩ σ H:=h
theorem ax8 (h:bb σ H):b73 ⟨nn,rr,bb,cc⟩ σ H:=h
theorem bl3 {tr:TA}(h:te σ H fun x H1=>tr σ H1 fun xs H2=>QA (x::xs) H2):tCons te tr σ H QA:=h
theorem bu3 (h:QA [] H):tNil σ H QA:=h
theorem i_cb {r:List V→Hp→VK→Prop}{ts:TA}(h:ts σ H fun vs H1=>r vs H1 Q):tCB r ts σ H Q:=h
theorem bl4 {sp:Sp}{dvs:List V}{E:XK}{ts:TA}(h:ts σ H fun vs H1=>sp (vs++dvs) H1 Q E):bi1 sp dvs E ts σ H Q:=h
theorem bu4 {ts:TA}(h:ts σ H fun xs H1=>xs.length≤sizeLine∧New H1 (.lst xs) Q):bk1 ts σ H Q:=h
theorem bu5 {ts:TA}(h:ts σ H fun xs H1=>xs.length≤sizeLine∧New H1 (.tup xs) Q):bk2 ts σ H Q:=h
theorem bl5 {n:Nat}{P:Prop}(h:n≤sizeLine) (p:P):n≤sizeLine∧P:=⟨h,p⟩
theorem i_rgA {j:Int}{P:Prop}(h:-(2 ^ 62)≤j) (h':j<2 ^ 62) (p:P):-(2 ^ 62)≤j∧j<2 ^ 62∧P:=⟨h,h',p⟩
theorem bl6 (h:QT true H):tNoIf σ H QT:=h
theorem bu6 (h:tA σ H fun c H1=>QT (!c) H1):tNot tA σ H QT:=h
theorem bu7 (h:tA σ H fun c H1=>if c=true then tB σ H1 QT else QT false H1):tAnd tA tB σ H QT:=h
theorem i_or (h:tA σ H fun c H1=>if c=true then QT true H1 else tB σ H1 QT):tOr tA tB σ H QT:=h
theorem bu8 {wi:TI}(h:wi σ H fun J H1=>ax5 J g t D σ H1):tFor wi g t D σ H:=h
theorem i_lc {wi:TI}{n:Nat}{caps:List Nat}(h:wi σ H fun J H1=>ac3 J g tA te n caps σ H1 Q):tLC wi g tA te n caps σ H Q:=h
theorem bl7 {R:It→Hp→Prop}{ts:TA}(h:ts σ H fun vs H1=>∃ j:Int,vs=[.int j]∧-(2 ^ 62)≤j∧j<2 ^ 62∧R (Itr 0 j.toNat) H1):bh3 ts σ H R:=h
theorem bd0 {K:PySem.W.Frag}{R:It→Hp→Prop}(h:te σ H fun x H1=>∃ a,x=.ref a∧(∃ xs,SqL K H1 a xs)∧R (Itl K a) H1):ba8 K te σ H R:=h
theorem bl8 {K:PySem.W.Frag}{R:It→Hp→Prop}(h:te σ H fun x H1=>∃ a,x=.ref a∧(∃ xs,SqT K H1 a xs)∧R (Itt K a) H1):iTup K te σ H R:=h
theorem bu9 {j:Int}{p:Int→Prop}(h:p j):∃ i:Int,[V.int j]=[V.int i]∧p i:=⟨j,rfl,h⟩
theorem bv0 {a:Addr}{p:Addr→Prop}(h:p a):∃ b,V.ref a=V.ref b∧p b:=⟨a,rfl,h⟩
theorem i_bm {K:PySem.W.Frag}{T:String}{r:V→List V→Hp→VK→Prop}{to:TE}{ts:TA}(h:to σ H fun x H1=>tyV K T x H1∧ts σ H1 fun xs H2=>r x xs H2 Q):tBM K T r to ts σ H Q:=h
theorem bv1 {K:PySem.W.Frag}{T:String}{r:V→List V→Hp→VK→Prop}{to:TE}(h:to σ H fun x H1=>tyV K T x H1∧r x [] H1 Q):tBM0 K T r to σ H Q:=h
theorem a59 {K:PySem.W.Frag}{p:Addr}{xs:List V}{i:Int}{v:V}(h1:SqL K H p xs) (h2:atI xs i=some v) (h:Q v H):rIxL K (.ref p) (.int i) H Q:=⟨p,xs,i,v,rfl,rfl,h1,h2,h⟩
theorem a46 {K:PySem.W.Frag}{p:Addr}{xs:List V}{i:Int}{v:V}(h1:SqT K H p xs) (h2:atI xs i=some v) (h:Q v H):rIxT K (.ref p) (.int i) H Q:=⟨p,xs,i,v,rfl,rfl,h1,h2,h⟩
theorem i_sl {r:V→Option Int→Option Int→Hp→VK→Prop}{tl th:TO}(h:te σ H fun x H1=>tl σ H1 fun l H2=>th σ H2 fun u H3=>r x l u H3 Q):tSl r te tl th σ H Q:=h
theorem b49 {QO:Option Int→Hp→Prop}(h:QO none H):av6 σ H QO:=h
theorem bl9 {QO:Option Int→Hp→Prop}(h:te σ H fun x H1=>∃ i,x=.int i∧QO (some i) H1):bi4 te σ H QO:=h
theorem bv2 {i:Int}{p:Int→Prop}(h:p i):∃ j,V.int i=V.int j∧p j:=⟨i,rfl,h⟩
theorem af8 {K:PySem.W.Frag}{a:Addr}{xs:List V}{lo hi:Option Int}(h1:SqL K H a xs) (h:New H (.lst (cutV xs lo hi)) Q):rSlN K (.ref a) lo hi H Q:=⟨a,xs,rfl,h1,h⟩
theorem bv3 {A B:Prop}(h:A):if true=true then A else B:=iteT h
theorem bv4 {A B:Prop}(h:B):if false=true then A else B:=iteF h
theorem bm0 {A B:Prop}(h:B):if (!true)=true then A else B:=iteF h
theorem a32 {c A B:Prop} [Decidable c] (hc:c) (h:A):if decide c=true then A else B:=by rw [decide_eq_true hc]; exact iteT h
theorem a33 {c A B:Prop} [Decidable c] (hc:¬ c) (h:B):if decide c=true then A else B:=by rw [decide_eq_false hc]; exact iteF h
theorem bm1 {K:PySem.W.Frag}{n:Nat}{ts:TGs}{a:Addr}{xs:List V}(h1:SqT K H a xs) (h2:xs.length=n) (h:ts xs σ H QS):gTup K n ts (.ref a) σ H QS:=⟨a,xs,rfl,h1,h2,h⟩
theorem bm2 (h:QS σ H):gNil [] σ H QS:=⟨rfl,h⟩
theorem bd1 {gt:TG}{us:TGs}{v:V}{r:List V}(h:gt v σ H fun σ' H'=>us r σ' H' QS):b28 gt us (v::r) σ H QS:=⟨v,r,rfl,h⟩
theorem bm3 {K:PySem.W.Frag}{a:Addr}{xs:List V}(e:H a=some (.lst xs)) (h:Q (.bl true) H):rIsi K [V.ref a,V.ty "list"] H Q:=⟨_,_,_,true,rfl,.lst e,rfl,h⟩
theorem bv5 {K:PySem.W.Frag}(h:te σ H fun x H'=>∃ k,TruV K x H' k∧QT k H'):tTru K te σ H QT:=h
theorem bm4 {K:PySem.W.Frag}{k:Bool}{p:Bool→Prop}(h:p k):∃ j,TruV K (.bl k) H j∧p j:=⟨k,rfl,h⟩
theorem aq0 {K:PySem.W.Frag}{p:Addr}{xs:List V}(h1:SqL K H p xs) (h:Q (.int xs.length) H):rLen K [V.ref p] H Q:=⟨_,_,rfl,.inl ⟨xs,h1,rfl⟩,h⟩
theorem an2 {K:PySem.W.Frag}{p:Addr}{ys:List V}(h1:SqL K H p ys) (h:New H (.lst ys) Q):ap8 K [.ref p] H Q:=⟨p,ys,rfl,.inl h1,h⟩
end
end L2
namespace L2
open PySem PySem.Spec PyProof.Rows
section
variable {X:Cx}
end
theorem b50 {K:PySem.W.Frag}{a:Addr}{xs:List V}{te:TE}{tt:TT}{caps:List Nat}{σ:St} {H:Hp}{Q:VK}(hz:xs.length≤sizeLine) (Pv:Nat→List V→Hp→Prop) (h0:Pv 0 [] H) (hl:∀ i acc H,Pv i acc H→acc.length≤i∧SqL K H a xs)
 (hs:∀ i x acc H,xs[i]?=some x→Pv i acc H→∃ p u v,x=.ref p∧SqT K H p [u,v]∧tt (some u::some v::capV caps σ) H fun b H4=>if b=true then te (some u::some v::capV caps σ) H4 fun y H5=>Pv (i+1) (acc++[y]) H5 else Pv (i+1) acc H4)
 (hd:∀ acc H,Pv xs.length acc H→New H (.lst acc) Q):ac3 (Itl K a) (gTup K 2 (b28 (ab3 0) (b28 (ab3 1) gNil))) tt te 2 caps σ H Q:=by
 refine ⟨fun i m acc σ' H=>m=xs.length - i∧i≤xs.length∧(∃ u v,σ'=u::v::capV caps σ)∧Pv i acc H,⟨xs.length,by simp,Nat.zero_le _,⟨none,none,rfl⟩,h0⟩,?_⟩
 rintro i m acc σ' H' ⟨rfl,hi,⟨u0,v0,rfl⟩,p⟩
 obtain ⟨hl1,hq⟩:=hl i acc H' p
 by_cases hlt:i<xs.length
 · refine .inr ⟨⟨xs,xs[i],hq,by simp [hlt]⟩,by omega,fun ac σ2 H2=>(∃ u v,σ2=u::v::capV caps σ)∧Pv (i+1) ac H2,fun ac σ2 H2 ⟨e,p'⟩=>⟨xs.length - (i+1),by omega,rfl,hlt,e,p'⟩,fun x H2 y=>?_⟩
   obtain ⟨e,y⟩:=y
   subst e
   obtain ⟨q,u,v,rfl,hT,hst⟩:=hs i x acc _ (y xs hq) p
   have eN:∀ ac H5,((∃ u1 v1,some u::some v::capV caps σ=u1::v1::capV caps σ)∧Pv (i+1) ac H5)=Pv (i+1) ac H5:=fun ac H5=>propext ⟨And.right,fun p=>⟨⟨_,_,rfl⟩,p⟩⟩
   refine ⟨q,[u,v],rfl,hT,rfl,u,[v],rfl,v,[],rfl,rfl,?_⟩
   show tt (some u::some v::capV caps σ) _ fun b H4=>if b=true then te (some u::some v::capV caps σ) H4 fun y H5=>((∃ u1 v1,some u::some v::capV caps σ=u1::v1::capV caps σ)∧Pv (i+1) (acc++[y]) H5) else ((∃ u1 v1,some u::some v::capV caps σ=u1::v1::capV caps σ)∧Pv (i+1) acc H4)
   simp only [eN]
   exact hst
 · have e:i=xs.length:=by omega
   subst e
   exact .inl ⟨⟨xs,hq,Nat.le_refl _⟩,New.to (hd acc H' p)⟩
section
variable {σ:St} {H:Hp}{Q:VK}
theorem a72 {l:Addr}{xs:List V}{y:V}(h1:H l=some (.lst xs)) (hz:xs.length<sizeLine) (h:Q .non (upd H l (.lst (xs++[y])))):aw0 (.ref l) [y] H Q:=⟨l,xs,y,rfl,rfl,h1,hz,h⟩
theorem bm5 {l:Addr}{xs:List V}{y:V}(h1:H l=some (.lst (xs++[y]))) (h:Q y (upd H l (.lst xs))):rPop (.ref l) [] H Q:=⟨l,xs++[y],y,rfl,rfl,h1,by simp,by simpa using h⟩
theorem ak2 {K:PySem.W.Frag}{l:Addr}{xs:List V}{P:Prop}(h1:SqL K H l xs) (h:P):tyV K "list" (.ref l) H∧P:=⟨.inl ⟨rfl,xs,h1⟩,h⟩
end
def Tups (H H':Hp):Prop:=∀ b xs,H b=some (.tup xs)→H' b=some (.tup xs)
theorem Same.tups {H H':Hp}(s:Same H H'):Tups H H':=fun b xs h=>s b _ h
theorem vac {P:Program}{w:World}{K:PySem.W.Frag}{mg:Str→Option Value}{base:Heap}{CX:CXT}{k:Nat}{f:Addr}{fd:FuncData}{ps:List Str}{sp:Sp}(h:∀ vs H Q E,¬ sp vs H Q E):FnOk P w K mg base CX k f fd ps sp :=
 ⟨fun vs H Q E q=>(h _ _ _ _ q).elim,fun A outer s H args us vs Q E _ _ _ _ q=>(h _ _ _ _ q).elim⟩
end L2
namespace L2
open PySem
theorem Same.updNew {H H1:Hp}{l:Addr}{o:HO}(s:Same H H1) (h:H l=none):Same H (upd H1 l o):=fun b u e=>by rw [a10 (a20 e h)]; exact s b u e
inductive Ex where
 | num (i:Int)
 | box (n:Str)
 | two (k:Bool) (a b:Ex)
def bd2 (k:Bool):Str:=if k then "plus" else "less"
end L2
namespace L2
open PySem PySem.Spec PyProof.Rows
inductive Cd where
 | cmp (k:Bool) (a b:Ex)
 | nt (c:Cd)
 | both (c d:Cd)
def b51 (k:Bool):Str:=if k then "same" else "under"
end L2
namespace L2
open PySem
theorem af9 (w:Str) (ys:List Str):inV (.str w) (a16 ys)=decide (w∈ys):=by
 unfold inV a16
 rw [List.any_map,Bool.eq_iff_iff,List.any_eq_true,decide_eq_true_iff]
 constructor
 · rintro ⟨y,hy,e⟩
   have:(y == w)=true:=e
   have:y=w:=by simpa using this
   exact this ▸ hy
 · intro h
   exact ⟨w,h,by show (w == w)=true; simp⟩
theorem ax9 (ys:List Str):(a16 ys).all aa6=true:=by simp [a16,aa6]
theorem bd3 {K:PySem.W.Frag}{H:Hp}{Q:VK}{p:Addr}{ys:List Str}{w:Str}(h1:SqL K H p (a16 ys)) (h:Q (.bl (decide (w∈ys))) H):rIn K false (.str w) (.ref p) H Q:=⟨p,a16 ys,rfl,.inl h1,rfl,ax9 ys,by rw [af9]; exact h⟩
theorem bm6 {σ:St} {H:Hp}{Q:VK}{td ty:TE}(h:td σ H fun x H1=>ty σ H1 fun y H2=>∃ a v,x=.ref a∧DGet H2 a y (some v)∧Q v H2):bj5 td ty σ H Q:=h
end L2
namespace L2
open PySem PySem.Spec PyProof.Rows
end L2
namespace L2
open PySem
inductive Tr where
 | non
 | int (i:Int)
 | str (s:Str)
 | tup (xs:List Tr)
 | lst (xs:List Tr)
mutual
def Tr.At (H:Hp):Tr→V→List Addr→Prop
 | .non,v,fs=>v=.non∧fs=[]
 | .int i,v,fs=>v=.int i∧fs=[]
 | .str s,v,fs=>v=.str s∧fs=[]
 | .tup xs,v,fs=>∃ a vs,v=.ref a∧H a=some (.tup vs)∧Tr.Ats H xs vs fs
 | .lst xs,v,fs=>∃ a vs gs,v=.ref a∧H a=some (.lst vs)∧Tr.Ats H xs vs gs∧fs=a::gs
def Tr.Ats (H:Hp):List Tr→List V→List Addr→Prop
 | [],vs,fs=>vs=[]∧fs=[]
 | x::xs,vs,fs=>∃ v ws f g,vs=v::ws∧fs=f++g∧Tr.At H x v f∧Tr.Ats H xs ws g
end
def Keep (fs:List Addr) (H H':Hp):Prop:=Tups H H'∧∀ a∈fs,∀ xs,H a=some (.lst xs)→H' a=some (.lst xs)
theorem Same.keep {H H':Hp}(s:Same H H') (fs:List Addr):Keep fs H H':=⟨s.tups,fun a _ xs h=>s a _ h⟩
theorem Keep.sub {fs gs:List Addr}{H H':Hp}(k:Keep fs H H') (h:∀ a∈gs,a∈fs):Keep gs H H':=⟨k.1,fun a m=>k.2 a (h a m)⟩
mutual
theorem Tr.At.mono {H H':Hp}:∀ {x:Tr}{v:V}{fs:List Addr},x.At H v fs→Keep fs H H'→x.At H' v fs
 | .non,_,_,h,_=>by simpa only [Tr.At] using h
 | .int _,_,_,h,_=>by simpa only [Tr.At] using h
 | .str _,_,_,h,_=>by simpa only [Tr.At] using h
 | .tup xs,v,fs,h,k=>by
   simp only [Tr.At] at h ⊢
   obtain ⟨a,vs,e,g,r⟩:=h
   exact ⟨a,vs,e,k.1 _ _ g,Tr.Ats.mono r k⟩
 | .lst xs,v,fs,h,k=>by
   simp only [Tr.At] at h ⊢
   obtain ⟨a,vs,gs,e,g,r,rfl⟩:=h
   exact ⟨a,vs,gs,e,k.2 _ (by simp) _ g,Tr.Ats.mono r (k.sub fun b m=>by simp [m]),rfl⟩
theorem Tr.Ats.mono {H H':Hp}:∀ {xs:List Tr}{vs:List V}{fs:List Addr},Tr.Ats H xs vs fs→Keep fs H H'→Tr.Ats H' xs vs fs
 | [],_,_,h,_=>by simpa only [Tr.Ats] using h
 | x::xs,vs,fs,h,k=>by
   simp only [Tr.Ats] at h ⊢
   obtain ⟨v,ws,f,g,e,rfl,a,b⟩:=h
   exact ⟨v,ws,f,g,e,rfl,Tr.At.mono a (k.sub fun c m=>by simp [m]),Tr.Ats.mono b (k.sub fun c m=>by simp [m])⟩
end
theorem Tr.Ats.len {H:Hp}:∀ {xs:List Tr}{vs:List V}{fs:List Addr},Tr.Ats H xs vs fs→vs.length=xs.length
 | [],vs,fs,h=>by
   simp only [Tr.Ats] at h
   obtain ⟨rfl,rfl⟩:=h
   rfl
 | y::xs,vs,fs,h=>by
   simp only [Tr.Ats] at h
   obtain ⟨w,ws,f,g,rfl,rfl,b,c⟩:=h
   simp [c.len]
end L2
namespace L2
open PySem PySem.Spec PyProof.Rows
mutual
def Tr.h:Tr→Nat
 | .non=>0
 | .int _=>0
 | .str _=>0
 | .tup xs=>Tr.hs xs+1
 | .lst xs=>Tr.hs xs+1
def Tr.hs:List Tr→Nat
 | []=>0
 | x::xs=>max x.h (Tr.hs xs)
end
theorem b84 (n:Nat):((List.range n).all fun _=>true)=true:=by simp
theorem a91 (A:Around):A.in1.units=A.units+1:=rfl
section
variable {X:Cx}{pins:List (Addr×Obj)}{σ:St} {H:Hp}{s:Shared}
mutual
theorem Tr.eqAt (I:Inv X pins σ H s):∀ {t:Tr}{A:Around}{v w:V}{fs gs:List Addr}{u z:Value},t.At H v fs→t.At H w gs→RelV v u→RelV w z→A.units+t.h<cLine→SeqAt.EqAt A s u z true
 | .non,A,v,w,fs,gs,u,z,h1,h2,r1,r2,hu=>by
   simp only [Tr.At] at h1 h2
   obtain ⟨rfl,-⟩:=h1
   obtain ⟨rfl,-⟩:=h2
   cases r1
   cases r2
   exact SeqAt.EqAt.same _
 | .int i,A,v,w,fs,gs,u,z,h1,h2,r1,r2,hu=>by
   simp only [Tr.At] at h1 h2
   obtain ⟨rfl,-⟩:=h1
   obtain ⟨rfl,-⟩:=h2
   obtain ⟨t1,rfl⟩:=r1
   obtain ⟨t2,rfl⟩:=r2
   have:=SeqAt.EqAt.int_int (A:=A) (s:=s) i t1 i t2
   simpa using this
 | .str i,A,v,w,fs,gs,u,z,h1,h2,r1,r2,hu=>by
   simp only [Tr.At] at h1 h2
   obtain ⟨rfl,-⟩:=h1
   obtain ⟨rfl,-⟩:=h2
   obtain ⟨t1,rfl⟩:=r1
   obtain ⟨t2,rfl⟩:=r2
   have:=SeqAt.EqAt.str_str (A:=A) (s:=s) i t1 i t2
   simpa using this
 | .tup xs,A,v,w,fs,gs,u,z,h1,h2,r1,r2,hu=>by
   simp only [Tr.At] at h1 h2
   obtain ⟨a,vs,rfl,e1,c1⟩:=h1
   obtain ⟨b,ws,rfl,e2,c2⟩:=h2
   cases r1
   cases r2
   by_cases hab:a=b
   · subst hab
     exact SeqAt.EqAt.same _
   refine SeqAt.EqAt.of_refs hab ?_
   obtain ⟨is1,q1,p1,_⟩:=I.tuple (SqT.of e1)
   obtain ⟨is2,q2,p2,_⟩:=I.tuple (SqT.of e2)
   simp only [Tr.h] at hu
   have hl:is1.length=is2.length:=by rw [← q1.length,←q2.length,c1.len,c2.len]
   have:=SeqAt.RcAt.tuples (A:=A) (s:=s) (e:=fun _=>true) p1 p2 (by omega) (fun j h1 h2=>by
    have:=Tr.eqAts I (A:=A.in1) c1 c2 q1 q2 (by rw [a91]; omega) j (by simpa using h1) (by simpa using h2)
    simpa using this)
   simpa [hl,b84] using this
 | .lst xs,A,v,w,fs,gs,u,z,h1,h2,r1,r2,hu=>by
   simp only [Tr.At] at h1 h2
   obtain ⟨a,vs,_,rfl,e1,c1,_⟩:=h1
   obtain ⟨b,ws,_,rfl,e2,c2,_⟩:=h2
   cases r1
   cases r2
   by_cases hab:a=b
   · subst hab
     exact SeqAt.EqAt.same _
   refine SeqAt.EqAt.of_refs hab ?_
   obtain ⟨is1,q1,p1,_⟩:=I.list (SqL.of e1)
   obtain ⟨is2,q2,p2,_⟩:=I.list (SqL.of e2)
   simp only [Tr.h] at hu
   have hl:is1.length=is2.length:=by rw [← q1.length,←q2.length,c1.len,c2.len]
   have:=SeqAt.RcAt.lists (A:=A) (s:=s) (e:=fun _=>true) p1.isList p2.isList (by simpa using hl) (by omega) (fun j h1 h2=>by
    have:=Tr.eqAts I (A:=A.in1) c1 c2 q1 q2 (by rw [a91]; omega) j (by simpa using h1) (by simpa using h2)
    simpa using this)
   simpa [b84] using this
theorem Tr.eqAts (I:Inv X pins σ H s):∀ {ts:List Tr}{A:Around}{vs ws:List V}{fs gs:List Addr}{us zs:List Value},Tr.Ats H ts vs fs→Tr.Ats H ts ws gs→Vals vs us→Vals ws zs→A.units+Tr.hs ts<cLine →
 ∀ (j:Nat) (h1:j<us.length) (h2:j<zs.length),SeqAt.EqAt A s us[j] zs[j] true
 | [],A,vs,ws,fs,gs,us,zs,c1,c2,q1,q2,hu,j,h1,h2=>by
   simp only [Tr.Ats] at c1
   obtain ⟨rfl,-⟩:=c1
   cases q1
   exact absurd h1 (by simp)
 | t::ts,A,vs,ws,fs,gs,us,zs,c1,c2,q1,q2,hu,j,h1,h2=>by
   simp only [Tr.Ats] at c1 c2
   obtain ⟨v,vs,f,g,rfl,rfl,a1,b1⟩:=c1
   obtain ⟨w,ws,f',g',rfl,rfl,a2,b2⟩:=c2
   cases q1 with
   | cons r1 q1 =>
   cases q2 with
   | cons r2 q2 =>
   simp only [Tr.hs] at hu
   cases j with
   | zero=>exact Tr.eqAt I a1 a2 r1 r2 (by omega)
   | succ j=>exact Tr.eqAts I b1 b2 q1 q2 (by omega) j (by simpa using h1) (by simpa using h2)
end
end
section
variable {prog:Program}{w:World}{A:Around}{E:Value→Shared→Prop}
end
section
variable {X:Cx}{pos:Pos}
end
inductive Pt where
 | s (z:Str)
 | i (n:Int)
def Pt.v:Pt→V
 | .s z=>.str z
 | .i n=>.int n
end L2
namespace L2
open PySem
def Pt.tr:Pt→Tr
 | .s z=>.str z
 | .i n=>.int n
def Ex.tr:Ex→Tr
 | .num i=>.tup [.str "number",.int i]
 | .box n=>.tup [.str "box",.str n]
 | .two k a b=>.tup [.str (bd2 k),a.tr,b.tr]
def Cd.tr:Cd→Tr
 | .cmp k a b=>.tup [.str (b51 k),a.tr,b.tr]
 | .nt c=>.tup [.str "not",c.tr]
 | .both c d=>.tup [.str "both",c.tr,d.tr]
mutual
inductive Stm where
 | plain (ps:List Pt)
 | put (n:Str) (e:Ex)
 | loop (b:List Stm)
 | wait (n:Int) (bs:List Br)
 | test (c:Cd) (a b:List Stm)
inductive Br where
 | mk (p:List Pt) (b:List Stm)
end
mutual
def Stm.tr:Stm→Tr
 | .plain ps=>.tup (ps.map Pt.tr)
 | .put n e=>.tup [.str "put",.str n,e.tr]
 | .loop b=>.tup [.str "loop",.lst (Stm.trs b)]
 | .wait n bs=>.tup [.str "wait",.int n,.lst (Br.trs bs)]
 | .test c a b=>.tup [.str "test",c.tr,.lst (Stm.trs a),.lst (Stm.trs b)]
def Br.tr:Br→Tr
 | .mk p b=>.tup [.tup (p.map Pt.tr),.lst (Stm.trs b)]
def Stm.trs:List Stm→List Tr
 | []=>[]
 | s::r=>s.tr::Stm.trs r
def Br.trs:List Br→List Tr
 | []=>[]
 | s::r=>s.tr::Br.trs r
end
section
variable {H:Hp}{v:V}{fs:List Addr}
end
section
variable {H:Hp}{v:V}{fs:List Addr}
end
end L2
namespace L2
open PySem PySem.Spec PyProof.Rows
section
variable {X:Cx}
end
end L2
namespace L2
def bv6 (ws:List (Option Nat)) (n:Nat):List Nat:=(List.range n).filter fun i=>decide (ws[i]?=some none)
def kept (ws:List (Option Nat)):List Nat:=bv6 ws ws.length
end L2
namespace L2
open PySem
section
variable {prog:Program}{w:World}{K:Type} [DecidableEq K] {knd:KeyKind prog w K}{A:Around}{E:Value→Shared→Prop}{s:Shared}
theorem a92:plainId "dict.update.loop"=true:=by decide +kernel
theorem ak3:entryFor table "dict.update.loop"=some Builtin.«dict.update.loop»:=entryFor_of_fast (by kernel_rfl)
theorem ay0:typeLookup (.type "list") "keys"=pure none:=am_miss_of_fast (by decide +kernel)
theorem getAttr?_miss_list {a:Addr}{o:Obj}{xs:Array Value}{k:Nat}{name:Str}{Q:Option Value→Shared→Prop}
 (hx:s.heap.get? a=some o) (hc:o.cls=.type "list") (hdat:o.data=.seq xs k) (hd:o.dict=none) (hmiss:typeLookup (.type "list") name=pure none) (hname:(["__module__","__name__","__qualname__","__doc__","__annotations__"]:List Str).contains name=false) (hA:A.handled=none)
 (h:∀ h' tk,(∀ b o,s.heap.get? b=some o→h'.get? b=some o)→Q none { s with heap:=h',toks:=tk }) (hsz:name.length+100≤sizeLine:=by size_fits) :
 wpAny (model prog w) A (getAttr? (.ref a) name) Q E s:=by
 obtain ⟨c,dct,dat,sl⟩:=o
 simp only at hc hdat hd
 subst hc hdat hd
 obtain ⟨hp,g,d,tk,os⟩:=s
 have hT:∀ tk',(⟨hp,g,d,tk',os⟩:Shared).TypeIs (.ref a) "list":=fun _=>⟨_,hx,rfl⟩
 have f1:=sub_AttributeError
 have f3:=F.slot_list_getattribute.lookup
 have f4:=F.slot_list_getattribute.bind (.ref a)
 have f5:=am_list_getattr_none
 unfold getAttr? getAttrBy? getAttrBy
 repeat (any_goals (first | assumption | exact hT _ | ((with_reducible show wpAny _ _ (call (Value.builtin "list.__getattribute__") _ _) _ _ _); refine call_meets F.slot_list_getattribute (hT _) am_entry_list_getattribute (F.args_list_getattribute_2 _ _) (meets_getattribute_miss_list a xs k sl name _ hmiss hname hsz) ⟨hx,hA,fun h' tk' e hx'=>?_⟩) | wp_step))
 obtain ⟨t',u',he⟩:=hx'.there
 show wpAny _ _ (getattributeRaised _ _ _ _ _ _ _) _ _ _
 unfold getattributeRaised
 repeat (any_goals (first | assumption | wp_step))
 exact h _ _ hx'.keeps
end
section
variable {prog:Program}{w:World}{K:Type} [DecidableEq K] {knd:KeyKind prog w K}{A:Around}{E:Value→Shared→Prop}{s:Shared}
def PairsAt (knd:KeyKind prog w K) (h:Heap) (items:Array Value) (ps:List (K×Value)) (no:List Addr):Prop :=
 ps.length=items.size∧∀ (j:Nat) (x:Value),items[j]?=some x→∃ T k key v,x=.ref T∧T∉no∧h.IsTuple T #[key,v]∧knd.is k key=true∧ps[j]?=some (k,v)
theorem PairsAt.mono {h h':Heap}{items:Array Value}{ps:List (K×Value)}{no:List Addr}(p:PairsAt knd h items ps no) (k:∀ b o,b∉no→h.get? b=some o→h'.get? b=some o):PairsAt knd h' items ps no :=
 ⟨p.1,fun j x e=>by
  obtain ⟨T,k1,key,v,h1,h2,⟨o,h3,h3'⟩,h4,h5⟩:=p.2 j x e
  exact ⟨T,k1,key,v,h1,h2,⟨o,k T o h2 h3,h3'⟩,h4,h5⟩⟩
theorem an3 {R:Result→Shared→Prop}{d it l:Addr}{items:Array Value}{ps:List (K×Value)}{res:Value}(hdi:d≠it) (hli:l≠it) (hld:l≠d) (hA:A.handled=none) :
 ∀ (n i:Nat) (s:Shared) (kvs:List (K×Value)),items.size - i=n→i≤items.size→s.heap.IsListIter it l i→s.heap.IsList l items→s.heap.DictOf knd d kvs→kvs.length+n≤sizeLine→PairsAt knd s.heap items ps [d,it] →
 (∀ h' tk,h'.DictOf knd d (merged kvs (ps.drop i))→(∀ b o,b≠d→b≠it→s.heap.get? b=some o→h'.get? b=some o)→R (.ok (.ret res)) { s with heap:=h',toks:=tk }) →
 codeAny (model prog w) A (.builtin "dict.update.loop" ⟨[.ref d,.ref it,rawInt i,res],[]⟩) R s:=by
 intro n
 induction n with
 | zero =>
   intro i s kvs hn hi hit hl hd hz hp hR
   have e:i=items.size:=by omega
   subst e
   refine codeAny_builtin ak3 ?_
   rw [Around.under_plainId a92 _]
   show wpAny _ A.in1 (pyNext (.ref it) >>= _) _ _ s
   refine wpAny_bind (wpAny_pyNext_list_end (by exact hA) hit hl (Array.getElem?_eq_none (Nat.le_refl _)) fun h' hx=>?_)
   show wpAny _ _ (Builtin.Dict.addKeywords d [] >>= _) _ _ _
   refine wpAny_bind (wpAny_pure (wpAny_pure ?_))
   refine hR h' s.toks ?_ fun b o _ h2 e=>hx b o h2 e
   rw [List.drop_of_length_le (Nat.le_of_eq hp.1)]
   exact hd.extBut hx hdi
 | succ n ih =>
   intro i s kvs hn hi hit hl hd hz hp hR
   have hlt:i<items.size:=by omega
   obtain ⟨T,k,key,v,e1,e2,hT,hk,hv⟩:=hp.2 i items[i] (by simp [hlt])
   refine codeAny_builtin ak3 ?_
   rw [Around.under_plainId a92 _]
   show wpAny _ A.in1 (pyNext (.ref it) >>= _) _ _ s
   refine wpAny_bind (wpAny_pyNext_list_item hit hl (x:=items[i]) (by simp [hlt]) fun h1 hit1 hs1=>?_)
   rw [e1]
   have hTd:T≠d:=fun z=>e2 (by simp [z])
   have hTi:T≠it:=fun z=>e2 (by simp [z])
   obtain ⟨oT,hoT,cT,nT,dT⟩:=hT
   have hoT1:h1.get? T=some oT:=(hs1.2 T hTi).trans hoT
   have tT:({ s with heap:=h1 }:Shared).TypeIs (.ref T) "tuple":=⟨oT,hoT1,cT⟩
   show wpAny _ _ (holding [Value.ref T] _ >>= _) _ _ _
   refine wpAny_bind (wpAny_holding ?_)
   refine wpAny_bind (wpAny_tryCatch ?_)
   unfold Builtin.Dict.pairItems
   refine wpAny_bind (wpAny_typeOf tT ?_)
   rw [if_pos (by decide)]
   refine wpAny_bind (wpAny_seqItems hoT1 dT (wpAny_pure ?_))
   show wpAny _ _ (holding [key,v] (dictSet d key v)) _ _ _
   refine wpAny_holding ?_
   have hd1:h1.DictOf knd d kvs:=hd.sameBut hs1 hdi
   refine wpAny_dictSet_pairs (hsz:=by omega) hk hd1 fun h2 hd2 hs2=>?_
   refine wpAny_pure ⟨plainId_quiet a92 _,?_⟩
   have kp:∀ b o,b≠d→b≠it→s.heap.get? b=some o→h2.get? b=some o:=fun b o hb1 hb2 e=>(hs2.2 b hb1).trans ((hs1.2 b hb2).trans e)
   have hit2:h2.IsListIter it l (i+1):=let ⟨o,e,r⟩:=hit1; ⟨o,(hs2.2 it (Ne.symm hdi)).trans e,r⟩
   have hl2:h2.IsList l items:=let ⟨o,e,r⟩:=hl; ⟨o,kp l o hld hli e,r⟩
   have:=ih (i+1) { s with heap:=h2,toks:=s.toks+1 } (stored kvs k v) (by omega) (by omega) hit2 hl2 hd2 (by have:=stored_length_le kvs k v; omega) (hp.mono fun b o hb e=>kp b o (fun z=>hb (by simp [z])) (fun z=>hb (by simp [z])) e) (fun h' tk hd' kp'=>?_)
   · exact this
   · refine hR h' tk ?_ fun b o h3 h4 e=>kp' b o h3 h4 (kp b o h3 h4 e)
     have hdr:ps.drop i=(k,v)::ps.drop (i+1):=by
      obtain ⟨hj,ej⟩:=List.getElem?_eq_some_iff.mp hv
      rw [List.drop_eq_getElem_cons hj,ej]
     rw [hdr]
     exact hd'
theorem ac4 {l:Addr}{o:Obj}{items:Array Value}{n:Nat}{ps:List (K×Value)}{Q:Value→Shared→Prop}(ho:s.heap.get? l=some o) (hc:o.cls=.type "list") (hd:o.dict=none) (hdat:o.data=.seq items n)
 (hA:A.handled=none) (hp:PairsAt knd s.heap items ps []) (hz:items.size≤sizeLine)
 (h:∀ h' tk,h'.DictOf knd s.heap.objs.size (merged [] ps)→(∀ b o,s.heap.get? b=some o→h'.get? b=some o)→Q (.ref s.heap.objs.size) { s with heap:=h',toks:=tk }) :
 wpAny (model prog w) A (call (.type "dict") [.ref l]) Q E s:=by
 refine callType_codes (Q₁:=fun obj s₁=>obj=.ref s.heap.objs.size∧s₁={ s with heap:=s.heap.push { cls:=.type "dict",data:=.dict #[] } }) F.kt_called_dict (F.kt_typeCall_dict_1 _) F.entry_dict_init (kt_code_dict_new _ ⟨rfl,rfl⟩) ?_
 rintro obj s₁ ⟨rfl,rfl⟩
 have hnew:(s.heap.push { cls:=.type "dict",data:=.dict #[] }).DictOf knd s.heap.objs.size []:=Heap.DictOf.new s.heap
 have hlt:=Heap.lt_size ho
 have ho':(s.heap.push { cls:=.type "dict",data:=.dict #[] }).get? l=some o:=Heap.get?_push_of_some _ ho
 refine ⟨hnew.typeIs,F.args_dict_init_2 _ _,?_⟩
 unfold Builtin.«dict.__init__»
 refine wpAny_bind ?_
 unfold Builtin.Dict.selfAndRest
 refine wpAny_bind (wpAny_notOrdered_dict hnew.typeIs ?_)
 show wpAny _ _ (pure (s.heap.objs.size,[Value.ref l])) _ _ _
 refine wpAny_pure ?_
 show wpAny _ _ (Builtin.Dict.updateFrom "dict.__init__" s.heap.objs.size (.ref l) [] .none) _ _ _
 unfold Builtin.Dict.updateFrom
 refine wpAny_bind (wpAny_typeOf (T:="list") ⟨o,ho',hc⟩ ?_)
 rw [if_pos (by decide)]
 refine wpAny_bind (getAttr?_miss_list ho' hc hdat hd ay0 (by decide) (by exact hA) fun h1 tk1 k1=>?_)
 show wpAny _ _ (rule _ >>= _) _ _ _
 refine wpAny_bind (wpAny_rule ?_)
 have k0:∀ b q,s.heap.get? b=some q→h1.get? b=some q:=fun b q e=>k1 b q (Heap.get?_push_of_some _ e)
 have hl1:h1.IsList l items:=⟨o,k0 l o ho,hc,n,hdat⟩
 refine wpAny_bind (wpAny_pyIter_list hl1 (wpAny_pure ⟨plainId_quiet a92 _,?_⟩))
 have hd1:h1.DictOf knd s.heap.objs.size []:=by
  obtain ⟨q,es,ep,e1,e2,e3⟩:=hnew
  exact ⟨q,es,ep,k1 _ _ e1,e2,e3⟩
 have hds:s.heap.objs.size<h1.objs.size:=by
  obtain ⟨q,es,ep,e1,_⟩:=hd1
  exact Heap.lt_size e1
 have hl1s:l<h1.objs.size:=Heap.lt_size (k0 l o ho)
 refine an3 (knd:=knd) (items:=items) (ps:=ps) (d:=s.heap.objs.size) (it:=h1.objs.size) (l:=l) (Nat.ne_of_lt hds) (Nat.ne_of_lt hl1s) (Nat.ne_of_lt hlt) (by exact hA) items.size 0 _ [] (by omega) (Nat.zero_le _) ⟨_,Heap.get?_push_size _ rfl,rfl,rfl⟩ (hl1.push _) (hd1.push _) (by simpa using hz) ⟨hp.1,fun j x e=>?_⟩ fun h' tk hd' kp=>?_
 · obtain ⟨T,k,key,v,e1,_,⟨oT,e2,e3⟩,e4,e5⟩:=hp.2 j x e
   refine ⟨T,k,key,v,e1,?_,⟨oT,Heap.get?_push_of_some _ (k0 _ _ e2),e3⟩,e4,e5⟩
   have h1:=Heap.lt_size e2
   have h2:=Heap.lt_size (k0 _ _ e2)
   simp only [List.mem_cons,List.not_mem_nil,or_false,not_or]
   exact ⟨Nat.ne_of_lt h1,Nat.ne_of_lt h2⟩
 · exact ⟨rfl,h h' tk hd' fun b q e=>kp b q (Nat.ne_of_lt (Heap.lt_size e)) (Nat.ne_of_lt (Heap.lt_size (k0 _ _ e))) (Heap.get?_push_of_some _ (k0 b q e))⟩
end
end L2
namespace L2
open PySem PySem.Spec PyProof.Rows
section
variable {X:Cx}{pins:List (Addr×Obj)}{σ:St} {H:Hp}{s:Shared}
theorem Inv.turnedL {t':Nat}{h':Heap}{ch:List Addr}(I:Inv X pins σ H s) (k:∀ b o,b∉ch→s.heap.get? b=some o→h'.get? b=some o) (hf:∀ b∈ch,FpOk X pins H b):Inv X pins σ H { s with heap:=h',toks:=t' }:=by
 have nit:∀ b u,H b=some u→b∉ch:=fun b u e z=>by rw [(hf b z).1] at e; cases e
 refine I.step (g':=s.gens) (d':=s.drawn) (ch:=ch) (fun b hb=>⟨(hf b hb).2.2.2.1,(hf b hb).2.1,(hf b hb).2.2.2.2.1,(hf b hb).2.2.2.2.2⟩) (fun b o _ _ hc e _=>k b o hc e) (fun b o _ _ hc e _=>⟨o.slots,k b o hc e⟩) (fun _ _ _ _ n=>n)
  (fun b o hc e=>⟨o,k b o hc e⟩) (fun _ _ e=>e) (fun _ _ _ e=>e) (fun b ps e=>⟨#[],by rw [e]; simp⟩) (fun m hm=>?_) (fun b u e=>?_) I.bare
 · obtain ⟨o,es,ep,ho,r⟩:=hm
   exact ⟨o,es,ep,k _ o (fun z=>(hf _ z).2.1 rfl) ho,r⟩
 · refine (I.hok b u e).stay (fun c v hc q=>k c v ?_ q) (fun _ q=>q) fun _ _ q=>q
   rcases hc with z | z
   · rw [z]; exact nit b u e
   · exact nit c _ z
end
def Ite (K:PySem.W.Frag) (a:Addr):It :=
 ⟨fun i H=>∃ xs x,SqL K H a xs∧xs[i]?=some x,fun i H v H'=>∃ p y,v=.ref p∧H p=none∧Same H H'∧H' p=some (.tup [.int (i:Nat),y])∧∀ xs,SqL K H a xs→xs[i]?=some y,fun i H=>∃ xs,SqL K H a xs∧xs.length≤i⟩
theorem ay1 {P:Program}{w:World}{K:PySem.W.Frag}{elts:List Expr}{x1:Nat}{pos:Pos}(a e it:Addr) (hne:e≠it) :
 Turn P w K (.Tuple elts x1 pos) (Ite K a) [e,it] e (fun i h=>(∃ old,IsEnum h e it (i:Nat) old)∧h.IsListIter it a i) where
 mem:=by simp
 obj:=fun i h st b hb=>by
  obtain ⟨⟨old,he⟩,o,e2,c,d⟩:=st
  rcases (by simpa using hb:b=e∨b=it) with rfl | rfl
  · exact ⟨_,he,fun v z=>by cases z⟩
  · exact ⟨o,e2,fun v z=>by rw [d] at z; cases z⟩
 keep:=fun i h h' st k=>⟨let ⟨old,he⟩:=st.1; ⟨old,k e (by simp) _ he⟩,st.2.at fun o x=>k it (by simp) o x⟩
 item:=by
  intro X hP hw hK hc i pins s σ H E I hf st hg
  subst hP hw hK
  obtain ⟨xs,x,hq,hx⟩:=hg
  obtain ⟨its,rv,p,hz⟩:=I.list hq
  obtain ⟨u,hu,ru⟩:=rv.get hx
  obtain ⟨⟨old,he⟩,hit⟩:=st
  have helt:e<s.heap.objs.size:=Heap.lt_size he
  have hilt:it<s.heap.objs.size:=by obtain ⟨_,q,_⟩:=hit; exact Heap.lt_size q
  refine wpAny_pyNext_enum_item he hit p.isList (x:=u) (by simpa using hu) hne fun h' ho hit' hT hsz hk=>?_
  have fr:H s.heap.objs.size=none:=I.hok.fresh (Nat.le_refl _)
  have I1:Inv X pins σ H { s with heap:=h',toks:=s.toks+1 }:=I.turnedL (ch:=[e,it]) (fun b o hb q=>hk b o (fun z=>hb (by simp [z])) (fun z=>hb (by simp [z])) q) hf
  have I2:Inv X pins σ (upd H s.heap.objs.size (.tup [.int (i:Nat),x])) { s with heap:=h',toks:=s.toks+1 }:=I1.adopt (o:=.tup [.int (i:Nat),x]) fr I.sz (Nat.ne_of_gt I.lt) (fun y c ec z=>by
   obtain ⟨v,q⟩:=I.cell y c ec
   exact absurd q.lt (by rw [z]; exact Nat.lt_irrefl _)) (fun q hq z=>absurd (Heap.lt_size (I.pin q hq).1) (by rw [z]; exact Nat.lt_irrefl _))
   ⟨le_line (by simp),[.int (i:Nat) s.toks,u],.cons ⟨_,rfl⟩ (.cons ru .nil),⟨_,hT,rfl,_,rfl⟩⟩
  have ne:∀ b∈[e,it],b≠s.heap.objs.size:=fun b hb=>by
   rcases (by simpa using hb:b=e∨b=it) with rfl | rfl
   · exact Nat.ne_of_lt helt
   · exact Nat.ne_of_lt hilt
  have hf2:∀ b∈[e,it],FpOk X pins (upd H s.heap.objs.size (.tup [.int (i:Nat),x])) b:=fun b hb=>⟨by rw [a10 (ne b hb)]; exact (hf b hb).1,(hf b hb).2⟩
  refine ⟨_,rfl,wpAny_letOwnedTupleGo_enum ho fun h2 he2 hs2=>⟨.ref s.heap.objs.size,_,I2.turnedL (t':=s.toks+1) (ch:=[e]) (fun b o hb q=>(hs2.2 b (fun z=>hb (by simp [z]))).trans q) (fun b hb=>hf2 b (by simp at hb; simp [hb])),rfl,⟨s.heap.objs.size,x,rfl,fr,Same.new fr,a18,fun ys hy=>by rw [I.list_inj hy hq]; exact hx⟩,⟨⟨_,by simpa using he2⟩,hit'.at fun o q=>(hs2.2 it (Ne.symm hne)).trans q⟩,fun b hb=>(hf2 b hb).1⟩⟩
 done:=by
  intro X hP hw hK hc i pins s σ H E I hf st hg
  subst hP hw hK
  obtain ⟨xs,hq,hx⟩:=hg
  obtain ⟨its,rv,p,hz⟩:=I.list hq
  obtain ⟨⟨old,he⟩,hit⟩:=st
  have hl:=rv.length
  exact wpAny_pyNext_enum_end (I.ok.hd hc) he hit p.isList (by simp; omega) fun h' eb=>⟨rfl,I.turnedL (t':=s.toks) (ch:=[it]) (fun b o hb q=>eb b o (fun z=>hb (by simp [z])) q) (fun b hb=>hf b (by simp at hb; simp [hb]))⟩
 self:=fun A i s Q E st h=>let ⟨old,he⟩:=st.1; wpAny_pyIter_enum he h
section
variable {X:Cx}{elts:List Expr}{x1:Nat}{tpos:Pos}
def bm7 (K:PySem.W.Frag) (ta:TA):TI:=fun σ H R=>ta σ H fun vs H1=>∃ a,vs=[.ref a]∧(∃ xs,SqL K H1 a xs)∧R (Ite K a) H1
theorem bd4 (K:PySem.W.Frag) {a:Expr}{ta:TA}{p pos:Pos}(hg:Gl X "enumerate") (hm:X.mg "enumerate"=none) (ha:PA X [a] ta) (hs:starEach [a] X.env=[(false,eval a X.env)]:=by rfl) (hK:X.K=K:=by rfl):PI X (.Tuple elts x1 tpos) (.Call (.Name "enumerate" p) [a] [] pos) (bm7 K ta):=by
 subst hK
 intro pins s σ H R I h
 refine Call_ (aa1 I hg hm boot_enumerate (PyProof.Rows.callWith_type1 (thn (ha pos pins s σ H _ I h) ?_) hs rfl))
 rintro us s1 ⟨vs,H1,I1,r1,q1⟩
 obtain ⟨l,e,⟨xs,hq⟩,q⟩:=q1
 subst e
 obtain ⟨u,rfl,ru⟩:=am7 r1
 cases ru
 obtain ⟨its,rv,pl,hz⟩:=I1.list hq
 refine call_enumerate_list pl.isList fun h' he hit hsz hk=>?_
 refine wpAny_pyIter_enum he ?_
 refine ⟨s1.heap.objs.size+1,[s1.heap.objs.size+1,s1.heap.objs.size],_,_,H1,rfl,I1.kept (t':=s1.toks) hk,ay1 l _ _ (Nat.succ_ne_self _),⟨⟨_,he⟩,hit⟩,fun b hb=>?_,q⟩
 have hb':s1.heap.objs.size≤b:=by
  rcases (by simpa using hb:b=s1.heap.objs.size+1∨b=s1.heap.objs.size) with rfl | rfl <;> omega
 exact I1.fpOk hb' (I1.hok.fresh hb')
theorem bm8 {K:PySem.W.Frag}{σ:St} {H:Hp}{R:It→Hp→Prop}{ts:TA}(h:ts σ H fun vs H1=>∃ a,vs=[.ref a]∧(∃ xs,SqL K H1 a xs)∧R (Ite K a) H1):bm7 K ts σ H R:=h
theorem bm9 {a:Addr}{p:Addr→Prop}(h:p a):∃ b,[V.ref a]=[V.ref b]∧p b:=⟨a,rfl,h⟩
end
inductive PrK (H:Hp):List V→List (Key×V)→Prop
 | nil:PrK H [] []
 | cons {p:Addr}{k:Key}{v:V}{vs:List V}{kvs:List (Key×V)}:H p=some (.tup [kV k,v])→PrK H vs kvs→PrK H (.ref p::vs) ((k,v)::kvs)
theorem PrK.mono {H H':Hp}(t:Tups H H') {vs:List V}{kvs:List (Key×V)}(h:PrK H vs kvs):PrK H' vs kvs:=by
 induction h with
 | nil=>exact .nil
 | cons e _ ih=>exact .cons (t _ _ e) ih
theorem PrK.snoc {H:Hp}{vs:List V}{kvs:List (Key×V)}{p:Addr}{k:Key}{v:V}(h:PrK H vs kvs) (e:H p=some (.tup [kV k,v])):PrK H (vs++[.ref p]) (kvs++[(k,v)]):=by
 induction h with
 | nil=>exact .cons e .nil
 | cons e' _ ih=>exact .cons e' ih
def b85 (K:PySem.W.Frag):List V→Hp→VK→Prop:=fun xs H Q=>∃ l vs kvs,xs=[.ref l]∧SqL K H l vs∧PrK H vs kvs∧New H (.dK (a63 [] kvs)) Q
section
variable {X:Cx}
theorem PrK.at_ {pins:List (Addr×Obj)}{σ:St} {H:Hp}{s:Shared}(I:Inv X pins σ H s):∀ {vs:List V}{kvs:List (Key×V)}{us:List Value},PrK H vs kvs→Vals vs us →
 ∃ ps:List (Key×Value),KV kvs ps∧ps.length=us.length∧∀ (j:Nat) (x:Value),us[j]?=some x→∃ T k key v,x=.ref T∧T∉([]:List Addr)∧s.heap.IsTuple T #[key,v]∧(a34 X.prog X.w).is k key=true∧ps[j]?=some (k,v)
 | _,_,_,.nil,r=>by
   cases r
   exact ⟨[],.nil,rfl,fun j x e=>by simp at e⟩
 | _,_,_,.cons (p:=p) (k:=k) (v:=v) e h,r=>by
   cases r with
   | cons r1 r2 =>
     cases r1
     obtain ⟨ps,h1,h2,h3⟩:=PrK.at_ I h r2
     obtain ⟨its,q1,q2,_⟩:=I.tuple (SqT.of e)
     obtain ⟨u1,u2,rfl,ra,rb⟩:=bh9 q1
     refine ⟨(k,u2)::ps,.cons ⟨rfl,rb⟩ h1,by simp [h2],fun j x ej=>?_⟩
     cases j with
     | zero =>
       simp at ej
       subst ej
       exact ⟨p,k,u1,u2,rfl,by simp,q2,aw5 ra,rfl⟩
     | succ j=>exact h3 j x (by simpa using ej)
theorem b52 (K:PySem.W.Frag) (hh:X.calm=true:=by rfl) (hK:X.K=K:=by rfl):CallR X (.type "dict") (b85 K):=by
 subst hK
 intro pins s σ H xs us Q I r h
 obtain ⟨l,vs,kvs,rfl,hq,hp,q⟩:=h
 obtain ⟨u,rfl,ru⟩:=am7 r
 cases ru
 obtain ⟨its,rv,⟨o,n,e1,e2,e3,e4⟩,hz⟩:=I.list hq
 obtain ⟨ps,k1,k2,k3⟩:=PrK.at_ I hp rv
 have hl:=rv.length
 refine ac4 (knd:=a34 X.prog X.w) e1 e2 e3 e4 (I.ok.hd hh) ⟨by simpa using k2,fun j x e=>k3 j x (by simpa using e)⟩ (by simpa using hl ▸ hz) fun h' tk hd kk=>?_
 have hz2:(a63 [] kvs).length≤sizeLine:=by
  have h1:=a86 kvs []
  have h2:kvs.length=ps.length:=k1.length
  simp only [List.length_nil] at h1
  omega
 refine ⟨.ref s.heap.objs.size,upd H s.heap.objs.size (.dK (a63 [] kvs)),I.laid (t':=tk) kk (Nat.le_refl _) (b81 hz2 (beq_eq_false_iff_ne.mpr (Ne.symm (Nat.ne_of_lt I.big))) (k1.merge .nil) hd),rfl,New.to q _ (I.hok.fresh (Nat.le_refl _))⟩
theorem bd5 {K:PySem.W.Frag}{H:Hp}{Q:VK}{l:Addr}{vs:List V}{kvs:List (Key×V)}(h1:SqL K H l vs) (h2:PrK H vs kvs) (h:New H (.dK (a63 [] kvs)) Q):b85 K [.ref l] H Q:=⟨l,vs,kvs,rfl,h1,h2,h⟩
def bn0 (K:PySem.W.Frag):V→Option Int→Option Int→Hp→VK→Prop:=fun x lo hi H Q=>∃ a xs,x=.ref a∧SqT K H a xs∧¬ (HT.sIx xs.length 0 lo=0∧HT.sIx xs.length xs.length hi=xs.length)∧New H (.tup (cutV xs lo hi)) Q
theorem ay2 (K:PySem.W.Frag) (hK:X.K=K:=by rfl):SlR X (bn0 K):=by
 subst hK
 intro pins s σ H x v vl vu lo hi sl Q I rx hs pl pu h
 obtain ⟨a,xs,e,h1,h2,h3⟩:=h
 exact bi5 pins s σ H x v vl vu lo hi sl Q I rx hs pl pu ⟨a,xs,e,h1,h2,New.to h3⟩
theorem ag0 (xs:List V) (y:V):cutV (xs++[y]) none (some (-1))=xs∧HT.sIx (xs++[y]).length (xs++[y]).length (some (-1))=xs.length:=by
 have e:HT.sIx (xs++[y]).length (xs++[y]).length (some (-1))=xs.length:=by
  unfold HT.sIx
  simp only []
  rw [if_pos (by decide),List.length_append]
  simp only [List.length_cons,List.length_nil]
  omega
 refine ⟨?_,e⟩
 unfold cutV
 rw [e,HT.sIx_none,List.drop_zero,Nat.sub_zero,List.take_left']
 rfl
def bn1:R2:=fun x y H Q=>y=.non∧Q (.bl (!decide (x=.non))) H
theorem aq1:OpR X (compareOp .IsNot) bn1:=bb1
theorem bn2 {x:V}{H:Hp}{Q:VK}(h:Q (.bl (!decide (x=.non))) H):bn1 x .non H Q:=⟨rfl,h⟩
theorem bn3 {to ti:TE}{t:TSet}{v:V}{σ:St} {H:Hp}{Q:St→Hp→Prop}(h:to σ H fun o H1=>ti σ H1 fun i H2=>t o i v H2 fun H3=>Q σ H3):gSub to ti t v σ H Q:=h
theorem aq2 {H:Hp}{Q:Hp→Prop}{p:Addr}{xs:List V}{k:Int}{j:Nat}{v:V}(h1:H p=some (.lst xs)) (h2:ixN xs.length k=some j) (h:Q (upd H p (.lst (xs.set j v)))):bi7 (.ref p) (.int k) v H Q:=⟨p,xs,k,j,rfl,rfl,h1,h2,h⟩
def bn4 (t u:TS):TS:=fun D σ H=>∃ R:St→Hp→Prop,t { D with nx:=R } σ H∧∀ σ' H',R σ' H'→u D σ' H'
theorem a47 {st:Stmt}{rest:List Stmt}{t u:TS}(h1:PS X st t) (h2:PSs X rest u):PSs X (st::rest) (bn4 t u):=by
 intro pins s σ H D I h
 obtain ⟨R,ha,hb⟩:=h
 refine wpAny_execs_cons (thn (h1 pins s σ H _ I ha) fun f s1 q=>?_)
 cases f with
 | next=>obtain ⟨σ1,H1,I1,q1⟩:=q; exact h2 pins s1 σ1 H1 D I1 (hb σ1 H1 q1)
 | brk=>exact q
 | cont=>exact q
 | ret v=>exact q
theorem ac5 {t u:TS}{nn bb cc:St→Hp→Prop}{rr:VK}{σ:St} {H:Hp}(R:St→Hp→Prop) (h1:t ⟨R,rr,bb,cc⟩ σ H) (h2:∀ σ' H',R σ' H'→u ⟨nn,rr,bb,cc⟩ σ' H'):bn4 t u ⟨nn,rr,bb,cc⟩ σ H:=⟨R,h1,h2⟩
theorem ay3 {c:TT}{tb:TS}{nn bb cc:St→Hp→Prop}{rr:VK}{σ:St} {H:Hp}(W:Nat→St→Hp→Prop) (m:Nat) (h0:W m σ H)
 (hs:∀ m σ H,W m σ H→c σ H fun b H1=>if b=true then ∃ N:St→Hp→Prop,(∀ σ' H',N σ' H'→∃ m',m'<m∧W m' σ' H')∧tb ⟨N,rr,nn,N⟩ σ H1 else nn σ H1):b74 c tb ⟨nn,rr,bb,cc⟩ σ H:=⟨W,⟨m,h0⟩,hs⟩
end
end L2
namespace L2
open PySem
section
variable {H:Hp}{x:Tr}{xs:List Tr}{v:V}{vs ws:List V}
theorem ats_nil0:Tr.Ats H [] vs []↔vs=[]:=by simp [Tr.Ats]
theorem ats_cons0:Tr.Ats H (x::xs) vs []↔∃ v ws,vs=v::ws∧x.At H v []∧Tr.Ats H xs ws []:=by
 simp only [Tr.Ats]
 constructor
 · rintro ⟨v,ws,f,g,h1,h2,h3,h4⟩
   obtain ⟨rfl,rfl⟩:=List.append_eq_nil_iff.mp h2.symm
   exact ⟨v,ws,h1,h3,h4⟩
 · rintro ⟨v,ws,h1,h3,h4⟩
   exact ⟨v,ws,[],[],h1,rfl,h3,h4⟩
theorem at_tup0:(Tr.tup xs).At H v []↔∃ a vs,v=.ref a∧H a=some (.tup vs)∧Tr.Ats H xs vs []:=by simp only [Tr.At]
theorem at_int0 {i:Int}:(Tr.int i).At H v []↔v=.int i:=by simp [Tr.At]
theorem at_str0 {i:Str}:(Tr.str i).At H v []↔v=.str i:=by simp [Tr.At]
end
section
variable {H:Hp}{v:V}{a:Addr}
theorem bd6 {x:Tr}{u:V}(e:H a=some (.tup [u])) (h:x.At H u []):(Tr.tup [x]).At H (.ref a) []:=at_tup0.mpr ⟨a,_,rfl,e,ats_cons0.mpr ⟨_,_,rfl,h,ats_nil0.mpr rfl⟩⟩
theorem ay4 {x y:Tr}{u v:V}(e:H a=some (.tup [u,v])) (h:x.At H u []) (h2:y.At H v []):(Tr.tup [x,y]).At H (.ref a) []:=at_tup0.mpr ⟨a,_,rfl,e,ats_cons0.mpr ⟨_,_,rfl,h,ats_cons0.mpr ⟨_,_,rfl,h2,ats_nil0.mpr rfl⟩⟩⟩
theorem b86 {i:Int}:(Tr.int i).At H (.int i) []:=at_int0.mpr rfl
theorem ag1 {i:Str}:(Tr.str i).At H (.str i) []:=at_str0.mpr rfl
end
theorem an4 (l:List (Key×V)) (p:Key×V):a63 [] (l++[p])=putK (a63 [] l) p.1 p.2:=by
 unfold a63
 rw [List.foldl_append]
 rfl
end L2
namespace L2
open PySem PySem.Spec PyProof.Rows
def b87:TE:=fun _ H Q=>New H (.dK []) Q
theorem b53 {X:Cx}{pos:Pos}:PE X (.Dict [] [] pos) b87:=fun pins s σ H Q I h=>b41 pins s σ H Q I (New.to h)
section
variable {σ:St} {H:Hp}{Q:VK}{QT:Bool→Hp→Prop}{td ty tv te:TE}{nn bb cc:St→Hp→Prop}{rr:VK}
theorem bn5 (h:New H (.dK []) Q):b87 σ H Q:=h
theorem i_tB (h:te σ H fun x H1=>∃ c,x=.bl c∧QT c H1):tB te σ H QT:=h
theorem b54 (h:ty σ H fun y H1=>td σ H1 fun x H2=>∃ a o,x=.ref a∧DGet H2 a y o∧Q (.bl (!o.isSome)) H2):aw9 ty td σ H Q:=h
theorem bn6 (h:tv σ H fun v H1=>td σ H1 fun x H2=>ty σ H2 fun y H3=>∃ a H4,x=.ref a∧DPut H3 a y v H4∧nn σ H4):bj6 td ty tv ⟨nn,rr,bb,cc⟩ σ H:=h
end
end L2
namespace L2
end L2
namespace L2
open PySem PySem.Spec PyProof.Rows
section
variable {X:Cx}{σ:St} {H:Hp}{Q:VK}{QT:Bool→Hp→Prop}{td ty tv te:TE}{nn bb cc:St→Hp→Prop}{rr:VK}
end
section
variable {X:Cx}{elts:List Expr}{x1:Nat}{tpos:Pos}
end
def inB:Option Int→Bool
 | some x=>decide (0≤x) && decide (x≤9)
 | none=>false
end L2
namespace L2
open PySem
end L2
namespace L2
open PySem PySem.Spec PyProof.Rows
def bn7:R2:=fun x y H Q=>∃ t fs gs,(Tr.lst t).At H x fs∧(Tr.lst t).At H y gs∧Tr.hs t≤60∧Q (.bl false) H
theorem aq3 {X:Cx}(hu:X.A.units+64<cLine):OpR X (compareOp .NotEq) bn7:=by
 intro pins s σ H x y v u Q I rx ry h
 obtain ⟨t,fs,gs,h1,h2,hh,q⟩:=h
 simp only [Tr.At] at h1 h2
 obtain ⟨a,vs,_,rfl,e1,c1,_⟩:=h1
 obtain ⟨b,ws,_,rfl,e2,c2,_⟩:=h2
 cases rx
 cases ry
 obtain ⟨is1,q1,p1,_⟩:=I.list (SqL.of e1)
 obtain ⟨is2,q2,p2,_⟩:=I.list (SqL.of e2)
 have hl:is1.length=is2.length:=by rw [← q1.length,←q2.length,c1.len,c2.len]
 have:=SeqAt.RcNeAt.lists (A:=X.A) (s:=s) (e:=fun _=>true) p1.isList p2.isList (by simpa using hl) (by omega) (fun j h1 h2=>by
  have:=Tr.eqAts I (A:=X.A.in1) c1 c2 q1 q2 (by rw [a91]; omega) j (by simpa using h1) (by simpa using h2)
  simpa using this) X.prog X.w X.xe (EP X pins σ Q)
 refine this ⟨.bl false,H,I,?_,q⟩
 rw [show ((List.range is1.toArray.size).all fun _=>true)=true by simp]
 rfl
theorem b88 {H:Hp}{Q:VK}{x y:V}{t:List Tr}{fs gs:List Addr}(h1:(Tr.lst t).At H x fs) (h2:(Tr.lst t).At H y gs) (hh:Tr.hs t≤60) (h:Q (.bl false) H):bn7 x y H Q:=⟨t,fs,gs,h1,h2,hh,h⟩
noncomputable instance trDec:DecidableEq Tr:=fun _ _=>Classical.propDecidable _
section
variable {X:Cx}{pins:List (Addr×Obj)}{σ:St} {H:Hp}{s:Shared}
end
section
variable {s:Shared}
end
section
variable {prog:Program}{w:World}{E:Value→Shared→Prop}
end
section
variable {prog:Program}{w:World}{E:Value→Shared→Prop}
end
section
variable {prog:Program}{w:World}{E:Value→Shared→Prop}{A:Around}{s:Shared}{d:Addr}{o:Obj}{es:Array DictEntry}{ep:Nat}{ts:List Tr}{t:Tr}{u:Value}
end
section
variable {X:Cx}{pins:List (Addr×Obj)}{σ:St} {H:Hp}{s:Shared}{a:Addr}{t:Tr}{y v:V}{u r:Value}{A:Around}{E:Value→Shared→Prop}{kvs:List (Tr×V)}{m:List (Tr×V×V)}
end
section
variable {prog:Program}{w:World}{A:Around}{E:Value→Shared→Prop}{s:Shared}{d it:Addr}{es:Array DictEntry}{ep i:Nat}
end
theorem ay5:∀ {xs:List V}{us:List Value},xs.length=us.length→(∀ (j:Nat) x u,xs[j]?=some x→us[j]?=some u→RelV x u)→Vals xs us
 | [],[],_,_=>.nil
 | x::xs,u::us,hl,h=>.cons (h 0 x u rfl rfl) (ay5 (by simpa using hl) fun j y z hy hz=>h (j+1) y z (by simpa using hy) (by simpa using hz))
 | [],_::_,hl,_=>by simp at hl
 | _::_,[],hl,_=>by simp at hl
section
variable {X:Cx}{pins:List (Addr×Obj)}{σ:St} {H:Hp}{s:Shared}{a:Addr}{t:Tr}{y v z:V}{u r:Value}{A:Around}{E:Value→Shared→Prop}{kvs:List (Tr×V)}{m:List (Tr×V×V)}
end
theorem bd7 {H H':Hp}{t:Tr}{v:V}(h:t.At H v []) (k:Tups H H'):t.At H' v []:=h.mono ⟨k,fun _ m=>absurd m (by simp)⟩
section
variable {X:Cx}{o i e f value:Expr}{pos pos' apos cpos:Pos}{td ty tv tx:TE}{P:Params}
end
section
variable {X:Cx}
end
section
variable {P:Params}{σ:St} {H:Hp}{Q:VK}{td ty tx tv:TE}{nn bb cc:St→Hp→Prop}{rr:VK}
end
def b89 (K:PySem.W.Frag):R2:=fun x y H Q=>∃ a b xs,x=.ref a∧y=.ref b∧SqL K H a xs∧SqL K H b []∧Q (.bl xs.isEmpty) H
def b90 (K:PySem.W.Frag):R2:=fun x y H Q=>∃ a b xs,x=.ref a∧y=.ref b∧SqL K H a xs∧SqL K H b []∧Q (.bl (!xs.isEmpty)) H
section
variable {X:Cx}
theorem ay6 (K:PySem.W.Frag) (hu:X.A.units+64<cLine) (hK:X.K=K:=by rfl):OpR X (compareOp .Eq) (b89 K):=by
 subst hK
 intro pins s σ H x y v u Q I rx ry h
 obtain ⟨a,b,xs,rfl,rfl,h1,h2,q⟩:=h
 cases rx
 cases ry
 obtain ⟨is1,q1,p1,_⟩:=I.list h1
 obtain ⟨is2,q2,p2,_⟩:=I.list h2
 cases q2
 cases q1 with
 | nil =>
   have:=SeqAt.RcAt.lists (A:=X.A) (s:=s) (e:=fun _=>true) p1.isList p2.isList rfl (by omega) (fun j h1 _=>absurd h1 (by simp))
   exact this X.prog X.w X.xe (EP X pins σ Q) ⟨.bl true,H,I,rfl,q⟩
 | cons r1 r2 =>
   have:=SeqAt.RcAt.lists_lengths (A:=X.A) (s:=s) p1.isList p2.isList (by simp) (by omega)
   exact this X.prog X.w X.xe (EP X pins σ Q) ⟨.bl false,H,I,rfl,q⟩
theorem ac6 (K:PySem.W.Frag) (hu:X.A.units+64<cLine) (hK:X.K=K:=by rfl):OpR X (compareOp .NotEq) (b90 K):=by
 subst hK
 intro pins s σ H x y v u Q I rx ry h
 obtain ⟨a,b,xs,rfl,rfl,h1,h2,q⟩:=h
 cases rx
 cases ry
 obtain ⟨is1,q1,p1,_⟩:=I.list h1
 obtain ⟨is2,q2,p2,_⟩:=I.list h2
 cases q2
 cases q1 with
 | nil =>
   have:=SeqAt.RcNeAt.lists (A:=X.A) (s:=s) (e:=fun _=>true) p1.isList p2.isList rfl (by omega) (fun j h1 _=>absurd h1 (by simp))
   exact this X.prog X.w X.xe (EP X pins σ Q) ⟨.bl false,H,I,rfl,q⟩
 | cons r1 r2 =>
   have:=SeqAt.RcNeAt.lists_lengths (A:=X.A) (s:=s) p1.isList p2.isList (by simp) (by omega)
   exact this X.prog X.w X.xe (EP X pins σ Q) ⟨.bl true,H,I,rfl,q⟩
end
section
variable {K:PySem.W.Frag}{H:Hp}{Q:VK}
theorem bd8 {a b:Addr}{xs:List V}(h1:SqL K H a xs) (h2:SqL K H b []) (h:Q (.bl xs.isEmpty) H):b89 K (.ref a) (.ref b) H Q:=⟨a,b,xs,rfl,rfl,h1,h2,h⟩
theorem an5 {a b:Addr}{xs:List V}(h1:SqL K H a xs) (h2:SqL K H b []) (h:Q (.bl (!xs.isEmpty)) H):b90 K (.ref a) (.ref b) H Q:=⟨a,b,xs,rfl,rfl,h1,h2,h⟩
end
section
variable {X:Cx}{o e value:Expr}{f:Str}{pos pos':Pos}{ta tv:TE}
end
section
variable {K:PySem.W.Frag}{σ:St} {H:Hp}{Q:VK}{ta tv:TE}{t:TA}{f m:Str}{C:Addr}{sp:Sp}{dvs:List V}{E:XK}{nn bb cc:St→Hp→Prop}{rr:VK}
end
inductive Tw where
 | sc (v:V)
 | tup (xs:List Tw)
 | lst (xs:List Tw)
def Scal:V→Prop
 | .non | .int _ | .str _ | .bl _=>True
 | _=>False
mutual
def Tw.At (H:Hp):Tw→V→List Addr→Prop
 | .sc x,v,fs=>v=x∧Scal x∧fs=[]
 | .tup xs,v,fs=>∃ a vs,v=.ref a∧H a=some (.tup vs)∧Tw.Ats H xs vs fs
 | .lst xs,v,fs=>∃ a vs gs,v=.ref a∧H a=some (.lst vs)∧Tw.Ats H xs vs gs∧fs=a::gs
def Tw.Ats (H:Hp):List Tw→List V→List Addr→Prop
 | [],vs,fs=>vs=[]∧fs=[]
 | x::xs,vs,fs=>∃ v ws f g,vs=v::ws∧fs=f++g∧Tw.At H x v f∧Tw.Ats H xs ws g
end
section
variable {X:Cx}{pins:List (Addr×Obj)}{σ:St} {H:Hp}{s:Shared}
end
section
variable {X:Cx}
end
theorem b55 {K:PySem.W.Frag}{a:Addr}{xs:List V}{g:TG}{tb:TS}{D:Ends}{σ:St} {H:Hp}(Pv:Nat→St→Hp→Prop) (h0:Pv 0 σ H) (hl:∀ i σ H,i≤xs.length→Pv i σ H→SqL K H a xs)
 (hs:∀ i x σ H q H2,xs[i]?=some x→Pv i σ H→Same H H2→H2 q=some (.tup [.int (i:Nat),x])→g (.ref q) σ H2 fun σ1 H1=>tb { D with nx:=Pv (i+1),ct:=Pv (i+1),bk:=D.nx } σ1 H1)
 (hd:∀ σ H,Pv xs.length σ H→D.nx σ H):ax5 (Ite K a) g tb D σ H:=by
 refine ⟨fun i m σ H=>m=xs.length - i∧i≤xs.length∧Pv i σ H,⟨xs.length,by simp,Nat.zero_le _,h0⟩,?_⟩
 rintro i m σ' H' ⟨rfl,hi,p⟩
 have hq:=hl i σ' H' hi p
 by_cases hlt:i<xs.length
 · refine .inr ⟨⟨xs,xs[i],hq,by simp [hlt]⟩,Pv (i+1),fun σ2 H2 p'=>⟨xs.length - (i+1),by omega,rfl,hlt,p'⟩,fun v H2 y=>?_⟩
   obtain ⟨q,x,rfl,hn,sm,hT,hx⟩:=y
   exact hs i x σ' H' q H2 (hx xs hq) p sm hT
 · have e:i=xs.length:=by omega
   subst e
   exact .inl ⟨⟨xs,hq,Nat.le_refl _⟩,hd σ' H' p⟩
section
variable {K:PySem.W.Frag}{H:Hp}{Q:VK}
end
section
variable {X:Cx}{tg:Expr}
end
section
variable {σ:St} {H:Hp}{R:It→Hp→Prop}{ts:TA}
end
section
variable {X:Cx}
end
section
variable {K:PySem.W.Frag}{H:Hp}{Q:VK}
end
section
variable {X:Cx}{e st:Expr}{te ts:TE}{p2 pos:Pos}
end
section
variable {prog:Program}{w:World}{z TI TO i1 i2 i3 l1 l2 l3:Addr}{xs ys us:Array Value}{st1 st2 st3:Nat→Heap→Prop}
end
section
variable {X:Cx}{elts:List Expr}{x1:Nat}{tpos:Pos}
end
section
variable {X:Cx}{k v:Expr}{pos:Pos}{tk tv:TE}{P:Params}
end
def Each {α β:Type}(R:α→β→Prop) (vs:List α) (xs:List β):Prop:=vs.length=xs.length∧∀ (j:Nat) (v:α) (x:β),vs[j]?=some v→xs[j]?=some x→R v x
section
variable {α β:Type}{R:α→β→Prop}{vs:List α}{xs:List β}
theorem Each.nil:Each R ([]:List α) ([]:List β):=⟨rfl,fun j v x h=>by simp at h⟩
theorem Each.mono {R':α→β→Prop}(h:Each R vs xs) (k:∀ v x,R v x→R' v x):Each R' vs xs:=⟨h.1,fun j v x h1 h2=>k v x (h.2 j v x h1 h2)⟩
theorem Each.append {ws:List α}{ys:List β}(h:Each R vs xs) (k:Each R ws ys):Each R (vs++ws) (xs++ys):=by
 refine ⟨by simp [h.1,k.1],fun j v x h1 h2=>?_⟩
 by_cases hj:j<vs.length
 · rw [List.getElem?_append_left hj] at h1
   rw [List.getElem?_append_left (by rw [← h.1]; exact hj)] at h2
   exact h.2 j v x h1 h2
 · rw [List.getElem?_append_right (by omega)] at h1
   rw [List.getElem?_append_right (by rw [← h.1]; omega),←h.1] at h2
   exact k.2 _ v x h1 h2
theorem Each.snoc {v:α}{x:β}(h:Each R vs xs) (k:R v x):Each R (vs++[v]) (xs++[x]):=h.append ⟨rfl,fun j w y h1 h2=>by
 cases j with
 | zero=>cases h1; cases h2; exact k
 | succ j=>simp at h1⟩
theorem Each.get {j:Nat}{x:β}(h:Each R vs xs) (k:xs[j]?=some x):∃ v,vs[j]?=some v∧R v x:=by
 have hj:j<vs.length:=by rw [h.1]; exact (List.getElem?_eq_some_iff.mp k).1
 exact ⟨vs[j],List.getElem?_eq_getElem hj,h.2 j _ x (List.getElem?_eq_getElem hj) k⟩
end
abbrev RRow:=List Str×Nat
abbrev bv7:=Bool×List RRow
section
variable {f:Nat→Option Nat}{rep rk:Nat→Nat}
end
def hF (d:Addr):List (Str×V):=putF "heads" (.ref d) []
abbrev Pr:=Nat×Nat
section
variable {X:Cx}
end
section
variable {H:Hp}{Q:VK}
end
def TupK (K:PySem.W.Frag) (a:Addr) (xs:List V):Prop:=∃ (o:Obj) (its:Array Value) (n:Nat),K.lookup a=some o∧o.cls=.type "tuple"∧o.data=.seq its n∧its.size≤sizeLine∧Vals xs its.toList
theorem TupK.sq {K:PySem.W.Frag}{a:Addr}{xs:List V}(h:TupK K a xs) (H:Hp):SqT K H a xs:=.inr h
section
variable {X:Cx}{pins:List (Addr×Obj)}{σ:St} {H:Hp}{s:Shared}
end
section
variable {X:Cx}{pins:List (Addr×Obj)}{σ:St} {H:Hp}{s:Shared}{a:Addr}{t:Tr}{y v z:V}{u r:Value}{A:Around}{E:Value→Shared→Prop}{kvs:List (Tr×V)}{m:List (Tr×V×V)}
end
section
variable {X:Cx}{o i e f value:Expr}{pos pos' apos cpos:Pos}{td ty tv tx:TE}{P:Params}
end
section
variable {K:PySem.W.Frag}{P:Params}{σ:St} {H:Hp}{Q:VK}{td ty tx tv:TE}
end
section
variable {prog:Program}{w:World}{A:Around}{E:Value→Shared→Prop}{s:Shared}
end
section
variable {X:Cx}{elts:List Expr}{x1:Nat}{tpos:Pos}
end
def rNeO:R2:=fun x y H Q=>∃ (a b:Addr) (ms:List Addr),x=.ref a∧y=.ref b∧H a=some (.lst (ms.map V.ref))∧H b=some (.lst (ms.map V.ref))∧Q (.bl false) H
theorem ac7:∀ {ms:List Addr}{us:List Value},Vals (ms.map V.ref) us→us=ms.map Value.ref
 | [],us,h=>by cases h; rfl
 | m::ms,us,h=>by
   cases h with
   | cons h1 h2 =>
     cases h1
     rw [ac7 h2]
     rfl
theorem bd9 {X:Cx}(hu:X.A.units+64<cLine):OpR X (compareOp .NotEq) rNeO:=by
 intro pins s σ H x y v u Q I rx ry h
 obtain ⟨a,b,ms,rfl,rfl,e1,e2,q⟩:=h
 cases rx
 cases ry
 obtain ⟨is1,q1,p1,_⟩:=I.list (SqL.of e1)
 obtain ⟨is2,q2,p2,_⟩:=I.list (SqL.of e2)
 cases ac7 q1
 cases ac7 q2
 have:=SeqAt.RcNeAt.lists (A:=X.A) (s:=s) (e:=fun _=>true) p1.isList p2.isList rfl (by omega) (fun j h1 h2=>SeqAt.EqAt.same _) X.prog X.w X.xe (EP X pins σ Q)
 refine this ⟨.bl false,H,I,?_,q⟩
 rw [show ((List.range (ms.map Value.ref).toArray.size).all fun _=>true)=true by simp]
 rfl
theorem bv8 {H:Hp}{Q:VK}{a b:Addr}{ms:List Addr}(h1:H a=some (.lst (ms.map V.ref))) (h2:H b=some (.lst (ms.map V.ref))) (h:Q (.bl false) H):rNeO (.ref a) (.ref b) H Q:=⟨a,b,ms,rfl,rfl,h1,h2,h⟩
section
variable {prog:Program}{w:World}{A:Around}{E:Value→Shared→Prop}{s:Shared}{d:Addr}{es:Array DictEntry}{ep:Nat}
end
section
variable {prog:Program}{w:World}{A:Around}{E:Value→Shared→Prop}{s:Shared}{d it:Addr}{es:Array DictEntry}{ep i:Nat}
end
section
variable {X:Cx}{P:Params}{o:Expr}{td:TE}{apos cpos:Pos}
end
section
variable {prog:Program}{w:World}{A:Around}{E:Value→Shared→Prop}{s:Shared}{d v:Addr}{es:Array DictEntry}{ep:Nat}
end
section
variable {X:Cx}{P:Params}
end
open AutoSeq1 (wpAny_loadPart')
section
variable {X:Cx}{elts:List Expr}{x1:Nat}{tpos:Pos}
end
section
variable {prog:Program}{w:World}
variable {A:Around}{E:Value→Shared→Prop}{s:Shared}
end
section
variable {prog:Program}{w:World}{A:Around}{R:Result→Shared→Prop}{I:Addr}{fp wr:List Addr}{G:Array GenState→Array GenState→Prop}{n:Nat}{P:Nat→Value→Prop}{St:Nat→Shared→Prop}
end
section
variable {prog:Program}{w:World}{A:Around}{E:Value→Shared→Prop}{s:Shared}
end
section
variable {M:Model}{A:Around}{E:Value→Shared→Prop}{s:Shared}
end
section
variable {prog:Program}{w:World}{A:Around}{E:Value→Shared→Prop}{s:Shared}{S it:Addr}{o:Obj}{es:Array (Int×Value)}{ep:Nat}{t:SetTable}
end
section
variable {prog:Program}{w:World}{A:Around}{E:Value→Shared→Prop}{s:Shared}{S it tp:Addr}{o:Obj}{es:Array (Int×Value)}{ep i:Nat}{t:SetTable}{first:Value}
end
section
variable {prog:Program}{w:World}{A:Around}{E:Value→Shared→Prop}{s:Shared}{S it tp:Addr}{o:Obj}{es:Array (Int×Value)}{ep i:Nat}{t:SetTable}{first:Value}
end
section
variable {prog:Program}{w:World}{A:Around}{E:Value→Shared→Prop}{s:Shared}{S it tp:Addr}{o:Obj}{es:Array (Int×Value)}{ep i:Nat}{t:SetTable}{first:Value}
end
section
variable {prog:Program}{w:World}{A:Around}{E:Value→Shared→Prop}{s:Shared}{S:Addr}{es:Array (Int×Value)}
end
section
variable {prog:Program}{w:World}{A:Around}{E:Value→Shared→Prop}{s:Shared}{S:Addr}{es:Array (Int×Value)}
end
section
variable {X:Cx}{P:Program}{w:World}
end
section
variable {X:Cx}
end
section
variable {rs:List bv7}{many:Nat}{p:Pr}
variable {N k:Nat}{dv:Pr→Option Nat}
end
section
variable {prog:Program}{w:World}{A:Around}{E:Value→Shared→Prop}{s:Shared}
end
section
variable {X:Cx}{P:Params}
end
section
variable {prog:Program}{w:World}{A:Around}{R:Result→Shared→Prop}{J:Addr}{fp wr:List Addr}{n:Nat}{P:Nat→Value→Prop}{St:Nat→Heap→Prop}
end
section
variable {prog:Program}{w:World}{A:Around}{E:Value→Shared→Prop}{s:Shared}
end
section
variable {X:Cx}{e d:Expr}{t tk:TA}{p kp pos:Pos}
end
section
variable {X:Cx}
end
mutual
def toW:Tr→Tw
 | .non=>.sc .non
 | .int i=>.sc (.int i)
 | .str s=>.sc (.str s)
 | .tup ts=>.tup (toWs ts)
 | .lst ts=>.lst (toWs ts)
def toWs:List Tr→List Tw
 | []=>[]
 | t::ts=>toW t::toWs ts
end
mutual
theorem ak4 {H:Hp}:∀ {t:Tr}{v:V}{fs:List Addr},t.At H v fs→(toW t).At H v fs
 | .non,v,fs,h=>by
   simp only [Tr.At] at h
   simp only [toW,Tw.At]
   exact ⟨h.1,True.intro,h.2⟩
 | .int i,v,fs,h=>by
   simp only [Tr.At] at h
   simp only [toW,Tw.At]
   exact ⟨h.1,True.intro,h.2⟩
 | .str s,v,fs,h=>by
   simp only [Tr.At] at h
   simp only [toW,Tw.At]
   exact ⟨h.1,True.intro,h.2⟩
 | .tup ts,v,fs,h=>by
   simp only [Tr.At] at h
   simp only [toW,Tw.At]
   obtain ⟨a,vs,e,g,r⟩:=h
   exact ⟨a,vs,e,g,an6 r⟩
 | .lst ts,v,fs,h=>by
   simp only [Tr.At] at h
   simp only [toW,Tw.At]
   obtain ⟨a,vs,gs,e,g,r,f⟩:=h
   exact ⟨a,vs,gs,e,g,an6 r,f⟩
theorem an6 {H:Hp}:∀ {ts:List Tr}{vs:List V}{fs:List Addr},Tr.Ats H ts vs fs→Tw.Ats H (toWs ts) vs fs
 | [],vs,fs,h=>by
   simp only [Tr.Ats] at h
   simp only [toWs,Tw.Ats]
   exact h
 | t::ts,vs,fs,h=>by
   simp only [Tr.Ats] at h
   simp only [toWs,Tw.Ats]
   obtain ⟨v,ws,f,g,e1,e2,a,b⟩:=h
   exact ⟨v,ws,f,g,e1,e2,ak4 a,an6 b⟩
end
section
variable {P:Program}{w:World}{K:PySem.W.Frag}{mg:Str→Option Value}{base:Heap}
end
section
variable {σ:St} {H:Hp}{D:Ends}{C:Addr}{E:XK}{t:TA}{n:Nat}{tb:XK→TS}{ts:TS}
end
section
variable {X:Cx}{k k':Nat}{f f' C C':Addr}{fd fd':FuncData}{ps ps':List Str}{sp sp':Sp}{m:Str}{pos apos:Pos}{e o:Expr}{es:List Expr}{ta:TE}{t:TA}
end
section
variable {σ:St} {H:Hp}{Q:VK}{ta:TE}{t:TA}{m:Str}{C1 C2:Addr}{sp1 sp2:Sp}
end
section
variable {X:Cx}{tg:Expr}
end
section
variable {σ:St} {H:Hp}{R:It→Hp→Prop}{ts:TA}
end
end L2
namespace L2
end L2
namespace L2
open PySem PySem.Spec PyProof.Rows
section
variable {prog:Program}{w:World}{z TI TO i1 i2 l1 l2:Addr}{xs ys:Array Value}{st1 st2:Nat→Heap→Prop}
end
section
variable {X:Cx}{elts:List Expr}{x1:Nat}{tpos:Pos}
end
section
variable {prog:Program}{w:World}
variable {A:Around}{E:Value→Shared→Prop}{s:Shared}
end
section
variable {prog:Program}{w:World}{A:Around}{R:Result→Shared→Prop}{I:Addr}{fp wr:List Addr}{G:Array GenState→Array GenState→Prop}{n:Nat}{P:Nat→Value→Prop}{St:Nat→Shared→Prop}
end
section
variable {prog:Program}{w:World}{A:Around}{E:Value→Shared→Prop}{s:Shared}
end
section
variable {prog:Program}{w:World}{A:Around}{E:Value→Shared→Prop}{s:Shared}{S it tp:Addr}{o:Obj}{es:Array (Int×Value)}{ep i:Nat}{t:SetTable}{first:Value}
end
section
variable {prog:Program}{w:World}{A:Around}{E:Value→Shared→Prop}{s:Shared}{S:Addr}{es:Array (Int×Value)}
end
section
variable {prog:Program}{w:World}{A:Around}{E:Value→Shared→Prop}{s:Shared}{S:Addr}{es:Array (Int×Value)}
end
section
variable {X:Cx}{P:Program}{w:World}
end
section
variable {X:Cx}
end
def PAt (H:Hp) (v:V) (p:List Pt):Prop:=(Tr.tup (p.map Pt.tr)).At H v []
def SAt (H:Hp) (v:V) (s:Stm):Prop:=∃ fs,s.tr.At H v fs
def BAt (H:Hp) (v:V) (b:List Stm):Prop:=∃ fs,(Tr.lst (Stm.trs b)).At H v fs
theorem PAt.same {H H':Hp}{v:V}{p:List Pt}(h:PAt H v p) (s:Same H H'):PAt H' v p:=bd7 h s.tups
theorem SAt.same {H H':Hp}{v:V}{x:Stm}(h:SAt H v x) (s:Same H H'):SAt H' v x:=by
 obtain ⟨fs,h⟩:=h
 exact ⟨fs,h.mono (s.keep _)⟩
theorem BAt.same {H H':Hp}{v:V}{b:List Stm}(h:BAt H v b) (s:Same H H'):BAt H' v b:=by
 obtain ⟨fs,h⟩:=h
 exact ⟨fs,h.mono (s.keep _)⟩
theorem ag2 {H:Hp}{α:Type}{f:α→Tr}{R:V→α→Prop}(hR:∀ v x fs,(f x).At H v fs→R v x):∀ {xs:List α}{ts:List Tr}{vs:List V}{fs:List Addr},ts=xs.map f→Tr.Ats H ts vs fs→Each R vs xs
 | [],_,vs,fs,rfl,h=>by
   simp only [List.map_nil,Tr.Ats] at h
   rw [h.1]
   exact Each.nil
 | x::xs,_,vs,fs,rfl,h=>by
   simp only [List.map_cons,Tr.Ats] at h
   obtain ⟨v,ws,f1,g1,rfl,_,h1,h2⟩:=h
   have:=ag2 hR (xs:=xs) rfl h2
   refine ⟨by simp [this.1],fun j a b e1 e2=>?_⟩
   cases j with
   | zero =>
     simp at e1 e2
     subst e1 e2
     exact hR _ _ _ h1
   | succ j=>exact this.2 j a b (by simpa using e1) (by simpa using e2)
theorem ag3 {H:Hp}{α:Type}{f:α→Tr}{R:V→α→Prop}(hR:∀ v x,R v x→∃ fs,(f x).At H v fs):∀ {xs:List α}{vs:List V},Each R vs xs→∃ fs,Tr.Ats H (xs.map f) vs fs
 | [],[],_=>⟨[],by simp [Tr.Ats]⟩
 | x::xs,v::vs,h=>by
   obtain ⟨f1,h1⟩:=hR v x (h.2 0 v x rfl rfl)
   obtain ⟨f2,h2⟩:=ag3 hR (xs:=xs) (vs:=vs) ⟨by simpa using h.1,fun j a b e1 e2=>h.2 (j+1) a b (by simpa using e1) (by simpa using e2)⟩
   refine ⟨f1++f2,?_⟩
   simp only [List.map_cons,Tr.Ats]
   exact ⟨v,vs,f1,f2,rfl,rfl,h1,h2⟩
 | [],v::vs,h=>absurd h.1 (by simp)
 | x::xs,[],h=>absurd h.1 (by simp)
theorem ag4:∀ b:List Stm,Stm.trs b=b.map Stm.tr
 | []=>rfl
 | s::r=>by rw [Stm.trs,ag4 r]; rfl
theorem ag5:∀ b:List Br,Br.trs b=b.map Br.tr
 | []=>rfl
 | s::r=>by rw [Br.trs,ag5 r]; rfl
theorem bat_iff {H:Hp}{v:V}{b:List Stm}:BAt H v b↔∃ l us,v=.ref l∧H l=some (.lst us)∧Each (SAt H) us b:=by
 constructor
 · rintro ⟨fs,h⟩
   simp only [Tr.At] at h
   obtain ⟨l,us,gs,rfl,e,h,_⟩:=h
   exact ⟨l,us,rfl,e,ag2 (f:=Stm.tr) (fun v x fs h=>⟨fs,h⟩) (ag4 b) h⟩
 · rintro ⟨l,us,rfl,e,h⟩
   obtain ⟨fs,h⟩:=ag3 (f:=Stm.tr) (fun v x h=>h) h
   refine ⟨l::fs,?_⟩
   simp only [Tr.At]
   exact ⟨l,us,fs,rfl,e,by rw [ag4]; exact h,rfl⟩
def BrAt (H:Hp) (v:V) (x:Br):Prop:=match x with | .mk p b=>∃ q pv bv,v=.ref q∧H q=some (.tup [pv,bv])∧PAt H pv p∧BAt H bv b
theorem aq4 {H:Hp}:∀ {p:List Pt}{vs:List V}{fs:List Addr},Tr.Ats H (p.map Pt.tr) vs fs→fs=[]
 | [],vs,fs,h=>by
   simp only [List.map_nil,Tr.Ats] at h
   exact h.2
 | x::p,vs,fs,h=>by
   simp only [List.map_cons,Tr.Ats] at h
   obtain ⟨v,ws,f,g,_,rfl,h1,h2⟩:=h
   rw [aq4 h2]
   cases x with
   | s z=>simp only [Pt.tr,Tr.At] at h1; simp [h1.2]
   | i z=>simp only [Pt.tr,Tr.At] at h1; simp [h1.2]
theorem bn8 {H:Hp}{v:V}{x:Br}{fs:List Addr}(h:x.tr.At H v fs):BrAt H v x:=by
 cases x with
 | mk p b =>
   simp only [Br.tr,Tr.At,Tr.Ats] at h
   obtain ⟨q,vs,rfl,e,v1,w1,f1,g1,rfl,rfl,⟨a,us,rfl,e1,h1⟩,v2,w2,f2,g2,rfl,rfl,⟨l,ws,gs,rfl,e2,h2,rfl⟩,rfl,rfl⟩:=h
   have:=aq4 h1
   subst this
   refine ⟨q,_,_,rfl,e,?_,⟨l::gs,?_⟩⟩
   · unfold PAt
     simp only [Tr.At]
     exact ⟨a,us,rfl,e1,h1⟩
   · simp only [Tr.At]
     exact ⟨l,ws,gs,rfl,e2,h2,rfl⟩
theorem bv9 {H:Hp}{v:V}{x:Br}(h:BrAt H v x):∃ fs,x.tr.At H v fs:=by
 cases x with
 | mk p b =>
   obtain ⟨q,pv,bv,rfl,e,h1,⟨fs,h2⟩⟩:=h
   refine ⟨[]++(fs++[]),?_⟩
   simp only [Br.tr,Tr.At,Tr.Ats] at h2 ⊢
   exact ⟨q,_,rfl,e,pv,_,[],_,rfl,rfl,by unfold PAt at h1; simp only [Tr.At] at h1; exact h1,bv,_,fs,[],rfl,rfl,h2,rfl,rfl⟩
theorem sat_loop {H:Hp}{v:V}{b:List Stm}:SAt H v (.loop b)↔∃ a u,v=.ref a∧H a=some (.tup [.str "loop",u])∧BAt H u b:=by
 constructor
 · rintro ⟨fs,h⟩
   simp only [Stm.tr,Tr.At,Tr.Ats] at h
   obtain ⟨a,vs,rfl,e,v1,w1,f1,g1,rfl,rfl,⟨rfl,rfl⟩,v2,w2,f2,g2,rfl,rfl,h2,rfl,rfl⟩:=h
   exact ⟨a,v2,rfl,e,f2,by simp only [Tr.At]; exact h2⟩
 · rintro ⟨a,u,rfl,e,fs,h⟩
   refine ⟨[]++(fs++[]),?_⟩
   simp only [Stm.tr,Tr.At,Tr.Ats] at h ⊢
   exact ⟨a,_,rfl,e,_,_,[],_,rfl,rfl,⟨rfl,rfl⟩,u,_,fs,[],rfl,rfl,h,rfl,rfl⟩
theorem sat_wait {H:Hp}{v:V}{n:Int}{bs:List Br}:SAt H v (.wait n bs)↔∃ a l ws,v=.ref a∧H a=some (.tup [.str "wait",.int n,.ref l])∧H l=some (.lst ws)∧Each (BrAt H) ws bs:=by
 constructor
 · rintro ⟨fs,h⟩
   simp only [Stm.tr,Tr.At,Tr.Ats] at h
   obtain ⟨a,vs,rfl,e,v1,w1,f1,g1,rfl,rfl,⟨rfl,rfl⟩,v2,w2,f2,g2,rfl,rfl,⟨rfl,rfl⟩,v3,w3,f3,g3,rfl,rfl,⟨l,ws,gs,rfl,e2,h2,_⟩,rfl,rfl⟩:=h
   exact ⟨a,l,ws,rfl,e,e2,ag2 (f:=Br.tr) (fun v x fs h=>bn8 h) (ag5 bs) h2⟩
 · rintro ⟨a,l,ws,rfl,e,e2,h⟩
   obtain ⟨gs,h⟩:=ag3 (f:=Br.tr) (fun v x h=>bv9 h) h
   refine ⟨[]++([]++((l::gs)++[])),?_⟩
   simp only [Stm.tr,Tr.At,Tr.Ats]
   exact ⟨a,_,rfl,e,_,_,[],_,rfl,rfl,⟨rfl,rfl⟩,_,_,[],_,rfl,rfl,⟨rfl,rfl⟩,_,_,l::gs,[],rfl,rfl,⟨l,ws,gs,rfl,e2,by rw [ag5]; exact h,rfl⟩,rfl,rfl⟩
theorem ag6 {H:Hp}{v:V}{c:Cd}{x y:List Stm}(h:SAt H v (.test c x y)):∃ a u1 u2 u3,v=.ref a∧H a=some (.tup [.str "test",u1,u2,u3])∧BAt H u2 x∧BAt H u3 y:=by
 obtain ⟨fs,h⟩:=h
 simp only [Stm.tr,Tr.At,Tr.Ats] at h
 obtain ⟨a,vs,rfl,e,v1,w1,f1,g1,rfl,rfl,⟨rfl,rfl⟩,v2,w2,f2,g2,rfl,rfl,_,v3,w3,f3,g3,rfl,rfl,h3,v4,w4,f4,g4,rfl,rfl,h4,rfl,rfl⟩:=h
 exact ⟨a,v2,v3,v4,rfl,e,⟨f3,by simp only [Tr.At]; exact h3⟩,f4,by simp only [Tr.At]; exact h4⟩
section
variable {X:Cx}
end
section
variable {σ:St} {H:Hp}{nn bb cc:St→Hp→Prop}{rr:VK}{t u:TS}
theorem b91 (h:∀ N:St→Hp→Prop,(∀ σ H,u ⟨nn,rr,bb,cc⟩ σ H→N σ H)→t ⟨N,rr,bb,cc⟩ σ H):tSeq t u ⟨nn,rr,bb,cc⟩ σ H:=h _ fun _ _ x=>x
theorem b92 {P N:St→Hp→Prop}(e:∀ σ H,P σ H→N σ H) (h:P σ H):N σ H:=e σ H h
end
abbrev Pl:=Nat×Nat
inductive KS where
 | say (w:Str)
 | hand (l:Int) (w:Str)
 | put (n:Str) (e:Ex)
 | test (c:Cd) (a b:Nat)
 | loop (n:Nat)
 | call (n:Nat)
 | wait (l:Int) (br:List (List Pt×Pl)) (w:Pl)
 | again
 | leave
 | back
 | stop
def Itv (K:PySem.W.Frag) (a:Addr) (n:Nat):It :=
 ⟨fun i H=>i<n∧∃ xs,SqL K H a xs∧xs.length=n,fun i H x H'=>H'=H∧∀ xs,SqL K H a xs→xs[n - 1 - i]?=some x,fun i _=>n=i⟩
theorem b56 {P:Program}{w:World}{K:PySem.W.Frag}{tg:Expr}(a it:Addr) (n:Nat):Turn P w K tg (Itv K a n) [it] it (fun i h=>h.IsRevIter it a ((n:Int) - 1 - (i:Int))) where
 mem:=by simp
 obj:=fun i h st b hb=>by
  have e:b=it:=by simpa using hb
  subst e
  obtain ⟨o,e,c,d⟩:=st
  exact ⟨o,e,fun v z=>by rw [d] at z; cases z⟩
 keep:=fun i h h' st k=>st.at fun o e=>k it (by simp) o e
 item:=by
  intro X hP hw hK hc i pins s σ H E I hf st hg
  subst hP hw hK
  obtain ⟨hin,xs,hq,hxl⟩:=hg
  obtain ⟨x,hx⟩:∃ x,xs[n - 1 - i]?=some x:=⟨_,List.getElem?_eq_getElem (by omega)⟩
  obtain ⟨its,rv,p,hz⟩:=I.list hq
  obtain ⟨u,hu,ru⟩:=rv.get hx
  obtain ⟨f0,f1,f2,f3,f4,f5⟩:=hf it (by simp)
  have e0:(n:Int) - 1 - (i:Int)=((n - 1 - i:Nat):Int):=by omega
  rw [e0] at st
  refine wpAny_pyNext_rev_item st p.isList (x:=u) (by simpa using hu) fun h' st' sb=>?_
  have I1:Inv X pins σ H { s with heap:=h' }:=I.turned (t':=s.toks) (fun b o hb e=>(sb.2 b hb).trans e) f0 f1 f3 f4 f5
  have st2:=st'
  rw [show ((n - 1 - i:Nat):Int) - 1=(n:Int) - 1 - ((i+1:Nat):Int) by omega] at st2
  obtain ⟨o,e,c,d⟩:=id st'
  exact ⟨u,rfl,b29 (s:={ s with heap:=h' }) e c d (by decide) ⟨x,H,I1,ru,⟨rfl,fun ys hy=>by rw [I.list_inj hy hq]; exact hx⟩,st2,fun b hb=>(hf b hb).1⟩⟩
 done:=by
  intro X hP hw hK hc i pins s σ H E I hf st hg
  subst hP hw hK
  have hn:n=i:=hg
  subst hn
  obtain ⟨f0,f1,f2,f3,f4,f5⟩:=hf it (by simp)
  rw [show (n:Int) - 1 - (n:Int)=-1 by omega] at st
  exact wpAny_pyNext_rev_end (I.ok.hd hc) st fun h' eb=>⟨rfl,I.turned (t':=s.toks) (fun b o hb e=>eb b o hb e) f0 f1 f3 f4 f5⟩
 self:=fun _ _ _ _ _ st h=>wpAny_pyIter_revIter st h
section
variable {X:Cx}{tg:Expr}
def bn9 (K:PySem.W.Frag) (ta:TA):TI:=fun σ H R=>ta σ H fun vs H1=>∃ a xs,vs=[.ref a]∧SqL K H1 a xs∧R (Itv K a xs.length) H1
theorem bo0 (K:PySem.W.Frag) {a:Expr}{ta:TA}{p pos:Pos}(hg:Gl X "reversed") (hm:X.mg "reversed"=none) (ha:PA X [a] ta) (hs:starEach [a] X.env=[(false,eval a X.env)]:=by rfl) (hK:X.K=K:=by rfl):PI X tg (.Call (.Name "reversed" p) [a] [] pos) (bn9 K ta):=by
 subst hK
 intro pins s σ H R I h
 refine Call_ (aa1 I hg hm boot_reversed (PyProof.Rows.callWith_type1 (thn (ha pos pins s σ H _ I h) ?_) hs rfl))
 rintro us s1 ⟨vs,H1,I1,r1,q1⟩
 obtain ⟨l,xs,e,hq,q⟩:=q1
 subst e
 obtain ⟨u,rfl,ru⟩:=am7 r1
 cases ru
 obtain ⟨its,rv,pl,hz⟩:=I1.list hq
 have hl:=rv.length
 refine call_reversed_list pl.isList ?_
 have hit:(s1.heap.push (revObj l ((its.toArray.size:Int) - 1))).IsRevIter s1.heap.objs.size l ((xs.length:Int) - 1 - ((0:Nat):Int)):=⟨_,Heap.get?_push_size _ rfl,rfl,by
  have:(its.toArray.size:Int) - 1=(xs.length:Int) - 1 - ((0:Nat):Int):=by simp; omega
  show Data.fields #[.ref l,rawInt ((its.toArray.size:Int) - 1)]=_
  rw [this]⟩
 refine wpAny_pyIter_revIter hit ?_
 refine ⟨s1.heap.objs.size,[s1.heap.objs.size],_,_,H1,rfl,I1.kept (t':=s1.toks) fun b o e=>Heap.get?_push_of_some _ e,b56 l _ xs.length,hit,fun b hb=>?_,q⟩
 have e:b=s1.heap.objs.size:=by simpa using hb
 subst e
 exact I1.fpOk (Nat.le_refl _) (I1.hok.fresh (Nat.le_refl _))
theorem bo1 {K:PySem.W.Frag}{σ:St} {H:Hp}{R:It→Hp→Prop}{ts:TA}(h:ts σ H fun vs H1=>∃ a xs,vs=[.ref a]∧SqL K H1 a xs∧R (Itv K a xs.length) H1):bn9 K ts σ H R:=h
theorem be0 {K:PySem.W.Frag}{a:Addr}{xs:List V}{g:TG}{tb:TS}{D:Ends}{σ:St} {H:Hp}(Pv:Nat→St→Hp→Prop) (h0:Pv 0 σ H) (hl:∀ i σ H,i≤xs.length→Pv i σ H→SqL K H a xs)
 (hs:∀ i x σ H,i<xs.length→xs[xs.length - 1 - i]?=some x→Pv i σ H→g x σ H fun σ2 H2=>tb { D with nx:=Pv (i+1),ct:=Pv (i+1),bk:=D.nx } σ2 H2) (hd:∀ σ H,Pv xs.length σ H→D.nx σ H):ax5 (Itv K a xs.length) g tb D σ H:=by
 refine ⟨fun i m σ H=>m=xs.length - i∧i≤xs.length∧Pv i σ H,⟨xs.length,by simp,Nat.zero_le _,h0⟩,?_⟩
 rintro i m σ H ⟨rfl,hi,p⟩
 have q:=hl i σ H hi p
 by_cases hlt:i<xs.length
 · refine .inr ⟨⟨hlt,xs,q,rfl⟩,Pv (i+1),fun σ' H' p'=>⟨xs.length - (i+1),by omega,rfl,hlt,p'⟩,fun x H' y=>?_⟩
   obtain ⟨e,y⟩:=y
   subst e
   exact hs i x σ _ hlt (y xs q) p
 · have e:i=xs.length:=by omega
   subst e
   exact .inl ⟨rfl,hd σ H p⟩
end
def scD:V→PyData
 | .int i=>.int i
 | .str s=>.str s
 | .bl b=>.bool b
 | _=>.none
mutual
def Tw.dat:Tw→PyData
 | .sc v=>scD v
 | .tup xs=>.tuple (Tw.dats xs)
 | .lst xs=>.list (Tw.dats xs)
def Tw.dats:List Tw→List PyData
 | []=>[]
 | x::xs=>x.dat::Tw.dats xs
end
section
variable {X:Cx}{pins:List (Addr×Obj)}{σ:St} {H:Hp}{s:Shared}
theorem b57 {v:V}{u:Value}(h:Scal v) (r:RelV v u):Reads s.heap u (scD v) []:=by
 cases v with
 | int i=>obtain ⟨t,rfl⟩:=r; exact .int i t
 | str x=>obtain ⟨t,rfl⟩:=r; exact .str x t
 | bl b=>cases r; exact .bool b
 | non=>cases r; exact .none
 | _=>simp [Scal] at h
mutual
theorem Tw.reads (I:Inv X pins σ H s):∀ {t:Tw}{v:V}{fs:List Addr}{u:Value},t.At H v fs→RelV v u→∃ as,Reads s.heap u t.dat as
 | .sc x,v,fs,u,h,r=>by
   simp only [Tw.At] at h
   obtain ⟨rfl,hs,_⟩:=h
   exact ⟨[],b57 hs r⟩
 | .tup xs,v,fs,u,h,r=>by
   simp only [Tw.At] at h
   obtain ⟨a,vs,rfl,e,q⟩:=h
   cases r
   obtain ⟨is,w,⟨o,h1,h2,n,h3⟩,_⟩:=I.tuple (SqT.of e)
   obtain ⟨as,ha⟩:=Tw.readsAll I q w
   exact ⟨as,.tuple h1 h2 h3 (by simpa using ha)⟩
 | .lst xs,v,fs,u,h,r=>by
   simp only [Tw.At] at h
   obtain ⟨a,vs,gs,rfl,e,q,_⟩:=h
   cases r
   obtain ⟨is,w,p,_⟩:=I.list (SqL.of e)
   obtain ⟨o,h1,h2,n,h3⟩:=p.isList
   obtain ⟨as,ha⟩:=Tw.readsAll I q w
   exact ⟨_,.list h1 h2 h3 (by simpa using ha)⟩
theorem Tw.readsAll (I:Inv X pins σ H s):∀ {ts:List Tw}{vs:List V}{fs:List Addr}{us:List Value},Tw.Ats H ts vs fs→Vals vs us→∃ as,ReadsAll s.heap us (Tw.dats ts) as
 | [],vs,fs,us,h,w=>by
   simp only [Tw.Ats] at h
   obtain ⟨rfl,_⟩:=h
   cases w
   exact ⟨[],.nil⟩
 | t::ts,vs,fs,us,h,w=>by
   simp only [Tw.Ats] at h
   obtain ⟨v,ws,f,g,rfl,_,a,b⟩:=h
   cases w with
   | cons r w =>
     obtain ⟨as,h1⟩:=Tw.reads I a r
     obtain ⟨bs,h2⟩:=Tw.readsAll I b w
     exact ⟨_,.cons h1 h2⟩
end
end
def nbV:V→Prop
 | .int _=>True
 | .str _=>True
 | .non=>True
 | _=>False
mutual
def Tw.nb:Tw→Prop
 | .sc v=>nbV v
 | .tup xs=>Tw.nbs xs
 | .lst xs=>Tw.nbs xs
def Tw.nbs:List Tw→Prop
 | []=>True
 | x::xs=>x.nb∧Tw.nbs xs
end
theorem bo2 {a b:V}(ha:nbV a) (hb:nbV b):PyData.eqv (scD a) (scD b)=true↔a=b:=by
 cases a <;> simp only [nbV] at ha <;> cases b <;> simp only [nbV] at hb <;> simp [scD,PyData.eqv]
mutual
theorem Tw.eqv_iff:∀ {t u:Tw},t.nb→u.nb→(PyData.eqv t.dat u.dat=true↔t=u)
 | .sc a,.sc b,h1,h2=>by
   simp only [Tw.nb] at h1 h2
   simp only [Tw.dat,bo2 h1 h2,Tw.sc.injEq]
 | .tup xs,.tup ys,h1,h2=>by
   simp only [Tw.nb] at h1 h2
   simp only [Tw.dat,PyData.eqv,Tw.eqvs_iff h1 h2,Tw.tup.injEq]
 | .lst xs,.lst ys,h1,h2=>by
   simp only [Tw.nb] at h1 h2
   simp only [Tw.dat,PyData.eqv,Tw.eqvs_iff h1 h2,Tw.lst.injEq]
 | .sc a,.tup ys,h1,_=>by cases a <;> simp [Tw.nb,nbV] at h1 <;> simp [Tw.dat,scD,PyData.eqv]
 | .sc a,.lst ys,h1,_=>by cases a <;> simp [Tw.nb,nbV] at h1 <;> simp [Tw.dat,scD,PyData.eqv]
 | .tup xs,.sc b,_,h2=>by cases b <;> simp [Tw.nb,nbV] at h2 <;> simp [Tw.dat,scD,PyData.eqv]
 | .lst xs,.sc b,_,h2=>by cases b <;> simp [Tw.nb,nbV] at h2 <;> simp [Tw.dat,scD,PyData.eqv]
 | .tup xs,.lst ys,_,_=>by simp [Tw.dat,PyData.eqv]
 | .lst xs,.tup ys,_,_=>by simp [Tw.dat,PyData.eqv]
theorem Tw.eqvs_iff:∀ {ts us:List Tw},Tw.nbs ts→Tw.nbs us→(PyData.eqvAll (Tw.dats ts) (Tw.dats us)=true↔ts=us)
 | [],[],_,_=>by simp [Tw.dats,PyData.eqvAll]
 | [],u::us,_,_=>by simp [Tw.dats,PyData.eqvAll]
 | t::ts,[],_,_=>by simp [Tw.dats,PyData.eqvAll]
 | t::ts,u::us,h1,h2=>by
   simp only [Tw.nbs] at h1 h2
   simp only [Tw.dats,PyData.eqvAll,Bool.and_eq_true,Tw.eqv_iff h1.1 h2.1,Tw.eqvs_iff h1.2 h2.2,List.cons.injEq]
end
theorem at3:typeLookup (.type "list_reverseiterator") "__len__"=pure none:=by rw [typeLookup_type,builtinLookup_eq_fast]; kernel_rfl
theorem ag7:typeLookup (.type "list_reverseiterator") "__length_hint__"=pure (some (.builtin "list_reverseiterator.__length_hint__")):=by rw [typeLookup_type,builtinLookup_eq_fast]; kernel_rfl
section
variable {prog:Program}{w:World}{A:Around}{E:Value→Shared→Prop}{s:Shared}
theorem b58 {r:Addr}{Q:Bool→Shared→Prop}(hT:s.TypeIs (.ref r) "list_reverseiterator") (h:Q false s):wpAny (model prog w) A (Builtin.List.listLengthHint (.ref r)) Q E s:=by
 unfold Builtin.List.listLengthHint
 refine wpAny_bind (wpAny_specialOf hT at3 ?_)
 show wpAny _ _ (specialOf (Value.ref r) (Str.ofString "__length_hint__") >>= _) _ _ _
 refine wpAny_bind (wpAny_specialOf hT ag7 ?_)
 generalize hid:("list_reverseiterator.__length_hint__":String)=id0
 wp_delta
 rw [show splitId id0=some ("list_reverseiterator","__length_hint__") from by subst hid; decide +kernel]
 subst hid
 refine wpAny_bind (wpAny_isInstance (T:="list_reverseiterator") (b:=true) hT (by rw [isSubtype_type]; kernel_rfl) ?_)
 refine wpAny_ite_split (fun hab=>absurd hab (by decide)) (fun _=>?_)
 refine wpAny_ite_split (fun _=>?_) (fun hab=>absurd (by decide +kernel) hab)
 refine wpAny_ite_split (fun hab=>absurd hab (by decide)) (fun _=>?_)
 exact wpAny_pure h
theorem ak5 {l it:Addr}{items:Array Value}{Q:Value→Shared→Prop}(hh:A.handled=none) (hit:s.heap.IsRevIter it l ((items.size:Int) - 1)) (hl:s.heap.IsList l items) (hn:items.size≤sizeLine) (hne:l≠it)
 (hQ:∀ h' tk acc' c',(∀ b o,b≠it→s.heap.get? b=some o→h'.get? b=some o)→h'.get? s.heap.objs.size=some { cls:=.type "list",dict:=none,data:=.seq acc' c',slots:=#[] }→ItemsOf (fun i v=>items[items.size - 1 - i]?=some v) acc' items.size→Q (.ref s.heap.objs.size) { s with heap:=h',toks:=tk }) :
 wpAny (model prog w) A (call (.type "list") [.ref it]) Q E s:=by
 refine callType_codes (Q₁:=fun obj s₁=>obj=.ref s.heap.objs.size∧s₁={ s with heap:=s.heap.push { cls:=.type "list",data:=.seq #[] } }) F.called_list (F.typeCall_list_1 _) F.entry_list_init
  (code_list_new _ ⟨rfl,rfl⟩) fun obj s₁ h₁=>?_
 obtain ⟨rfl,rfl⟩:=h₁
 have hS:(s.heap.push { cls:=.type "list",data:=.seq #[] }).get? s.heap.objs.size=some { cls:=.type "list",data:=.seq #[] }:=Heap.get?_push_size _ rfl
 have ltI:it<s.heap.objs.size:=by obtain ⟨o,e,_⟩:=hit; exact Heap.lt_size e
 have ltL:l<s.heap.objs.size:=by obtain ⟨o,e,_⟩:=hl; exact Heap.lt_size e
 refine ⟨⟨_,hS,rfl⟩,F.args_list_init_2 _ _,?_⟩
 show wpAny _ _ (do let old←Builtin.List.listItems (.ref s.heap.objs.size); Builtin.List.listUpdate (.ref s.heap.objs.size) (fun _=>#[]); letGo old.toList.reverse; Builtin.List.listExtendWith (.ref s.heap.objs.size) (.ref it) .none) _ _ _
 refine wpAny_bind ?_
 unfold Builtin.List.listItems
 refine wpAny_bind (wpAny_seqItems hS rfl (wpAny_pure ?_))
 show wpAny _ _ (updateSeq s.heap.objs.size (fun _=>#[]) >>= fun _=>letGo (#[]:Array Value).toList.reverse >>= fun _=>Builtin.List.listExtendWith (.ref s.heap.objs.size) (.ref it) .none) _ _ _
 refine wpAny_bind (wpAny_updateSeq hS rfl ?_)
 have hS₂:=Heap.get?_update_self (Obj.mapSeq (fun _=>(#[]:Array Value))) hS rfl
 refine wpAny_bind (wpAny_letGo ?_)
 have oth:∀ b o,b≠s.heap.objs.size→s.heap.get? b=some o→((s.heap.push { cls:=.type "list",data:=.seq #[] }).update s.heap.objs.size (Obj.mapSeq (fun _=>(#[]:Array Value)))).get? b=some o :=
  fun b o hb e=>(Heap.get?_update_other _ _ (Ne.symm hb)).trans (Heap.get?_push_of_some _ e)
 generalize (s.heap.push { cls:=.type "list",data:=.seq #[] }).update s.heap.objs.size (Obj.mapSeq (fun _=>(#[]:Array Value)))=h2' at hS₂ oth ⊢
 have hit2:h2'.IsRevIter it l ((items.size:Int) - 1):=hit.at fun o e=>oth it o (Nat.ne_of_lt ltI) e
 have hl2:h2'.IsList l items:=hl.at fun o e=>oth l o (Nat.ne_of_lt ltL) e
 have hT2:({ s with heap:=h2' }:Shared).TypeIs (.ref it) "list_reverseiterator":=hit2.typeIs
 unfold Builtin.List.listExtendWith
 refine wpAny_bind (wpAny_typeOf hT2 ?_)
 have e1:Builtin.List.listSameRef (.ref s.heap.objs.size) (.ref it)=false:=by
  have:=Nat.ne_of_gt ltI
  simp [Builtin.List.listSameRef,this]
 have e2:(Value.type "list_reverseiterator" == Value.type "list")=false:=by decide
 have e3:(Value.type "list_reverseiterator" == Value.type "tuple")=false:=by decide
 simp only [e1,e2,e3,Bool.or_false,Bool.false_eq_true,if_false]
 refine wpAny_bind (wpAny_pyIter_revIter hit2 ?_)
 refine wpAny_bind (wpAny_holding (b58 hT2 ?_))
 refine wpAny_ite_split (fun hab=>absurd hab (by decide)) (fun _=>?_)
 have W:=Walks.listRev (prog:=prog) (w:=w) (A:=A.in1.in1) hh it l hne items
 have st0:(0:Nat)≤items.size∧h2'.IsRevIter it l ((items.size:Int) - 1 - ((0:Nat):Int))∧h2'.IsList l items:=⟨Nat.zero_le _,by simpa using hit2,hl2⟩
 have hSf:s.heap.objs.size∉[it,l]:=by
  simp only [List.mem_cons,List.not_mem_nil,or_false,not_or]
  exact ⟨Nat.ne_of_gt ltI,Nat.ne_of_gt ltL⟩
 refine wpAny_pure ⟨plainId_quiet F.plain_extend_loop _,codeAny_extend_loopS W.toS hn _ hSf _ items.size 0 _ _ _ rfl (Nat.zero_le _) st0 hS₂ (ItemsOf.nil _) fun s' acc' c' hm hS' hacc=>?_⟩
 rw [Moved.eq_with hm]
 refine ⟨rfl,hQ s'.heap s'.toks acc' c' (fun b o hb e=>hm.heap b o (fun hmem=>?_) (oth b o (Nat.ne_of_lt (Heap.lt_size e)) e)) hS' hacc⟩
 rcases List.mem_cons.mp hmem with e' | hmem
 · exact absurd (Heap.lt_size e) (by rw [e']; exact Nat.lt_irrefl _)
 · exact hb (List.mem_singleton.mp hmem)
end
def tLR (K:PySem.W.Frag) (ta:TA):TE:=fun σ H Q=>ta σ H fun vs H1=>∃ a xs,vs=[.ref a]∧SqL K H1 a xs∧New H1 (.lst xs.reverse) Q
section
variable {X:Cx}
theorem a53 (K:PySem.W.Frag) {a:Expr}{ta:TA}{p1 p2 pos1 pos2:Pos}(hc:X.calm=true) (hgl:Gl X "list") (hml:X.mg "list"=none) (hg:Gl X "reversed") (hm:X.mg "reversed"=none) (ha:PA X [a] ta) (hs:starEach [a] X.env=[(false,eval a X.env)]:=by rfl) (hs2:starEach [Expr.Call (.Name "reversed" p2) [a] [] pos2] X.env=[(false,eval (.Call (.Name "reversed" p2) [a] [] pos2) X.env)]:=by rfl) (hK:X.K=K:=by rfl):PE X (.Call (.Name "list" p1) [.Call (.Name "reversed" p2) [a] [] pos2] [] pos1) (tLR K ta):=by
 subst hK
 intro pins s σ H Q I h
 refine Call_ (aa1 I hgl hml boot_list ?_)
 refine PyProof.Rows.callWith_type1 ?_ hs2 rfl
 refine Calls.spliced_cons ?_
 refine Call_ (aa1 I hg hm boot_reversed (PyProof.Rows.callWith_type1 (thn (ha pos2 pins s σ H _ I h) ?_) hs rfl))
 rintro us s1 ⟨vs,H1,I1,r1,q1⟩
 obtain ⟨l,xs,e,hq,q⟩:=q1
 subst e
 obtain ⟨u,rfl,ru⟩:=am7 r1
 cases ru
 obtain ⟨its,rv,pl,hz⟩:=I1.list hq
 refine call_reversed_list pl.isList ?_
 refine Calls.spliced_nil ?_
 have hl:l<s1.heap.objs.size:=by obtain ⟨_,e,_⟩:=pl.isList; exact Heap.lt_size e
 have pk:∀ b o,s1.heap.get? b=some o→(s1.heap.push (revObj l ((its.toArray.size:Int) - 1))).get? b=some o:=fun b o e=>Heap.get?_push_of_some _ e
 have hit:(s1.heap.push (revObj l ((its.toArray.size:Int) - 1))).IsRevIter s1.heap.objs.size l ((its.toArray.size:Int) - 1):=⟨_,Heap.get?_push_size _ rfl,rfl,rfl⟩
 refine ak5 (I1.ok.hd hc) hit (pl.isList.at fun o e=>pk l o e) (by rw [List.size_toArray,←rv.length]; exact hz) (Nat.ne_of_lt hl) fun h' tk acc' c' hk hS hacc=>?_
 have fr:=I1.hok.fresh (Nat.le_succ s1.heap.objs.size)
 have hsz:(s1.heap.push (revObj l ((its.toArray.size:Int) - 1))).objs.size=s1.heap.objs.size+1:=by rw [Heap.size_push]
 rw [hsz] at hS ⊢
 refine ⟨.ref _,_,I1.laid (a:=s1.heap.objs.size+1) (o:=.lst xs.reverse) (t':=tk) (fun b o e=>hk b o (Nat.ne_of_lt (Heap.lt_size e)) (pk b o e)) (Nat.le_succ _) ?_,rfl,New.to q _ fr⟩
 refine ⟨by rw [List.length_reverse]; exact hz,acc'.toList,c',?_,by simpa using hS⟩
 have hxl:=rv.length
 have hal:acc'.size=its.length:=by have:=hacc.1; simpa using this
 refine ay5 (by simp [hal,hxl]) fun j x1 x2 hx1 hx2=>?_
 have hj:=(List.getElem?_eq_some_iff.mp hx1).1
 rw [List.length_reverse] at hj
 rw [List.getElem?_reverse hj] at hx1
 have hv:=hacc.2 j x2 (by rw [← Array.getElem?_toList]; exact hx2)
 simp only [List.size_toArray,List.getElem?_toArray,←hxl] at hv
 obtain ⟨u,hu,ru⟩:=rv.get hx1
 rw [hv] at hu
 obtain rfl:=Option.some.inj hu
 exact ru
end
theorem ay7 {K:PySem.W.Frag}{σ:St} {H:Hp}{Q:VK}{ts:TA}(h:ts σ H fun vs H1=>∃ a xs,vs=[.ref a]∧SqL K H1 a xs∧New H1 (.lst xs.reverse) Q):tLR K ts σ H Q:=h
theorem an7 (n:Nat):sliceBounds none (some 0) (some (-1)) n=((n:Int) - 1,min 0 ((n:Int) - 1),-1):=by
 unfold sliceBounds
 simp
 try omega
theorem at4 (m:Nat):sliceRange (((m+1:Nat):Int) - 1) 0 (-1)=(List.range m).map fun k=>m - k:=by
 unfold sliceRange
 have hc:(if ((-1:Int) > 0) then (if (((m+1:Nat):Int) - 1<0) then ((0:Int) - (((m+1:Nat):Int) - 1)+-1 - 1) / -1 else 0) else (if (((m+1:Nat):Int) - 1 > 0) then (((m+1:Nat):Int) - 1 - 0 - -1 - 1) / - -1 else 0)).toNat=m:=by
  rw [if_neg (by decide)]
  split
  · rw [show (- -1:Int)=1 from rfl,Int.ediv_one]
    omega
  · omega
 simp only [hc]
 refine List.map_congr_left fun k hk=>?_
 have:=List.mem_range.mp hk
 omega
theorem aq5 {α β:Type}{f g:α→Option β}:∀ {l:List α},(∀ x∈l,f x=g x)→l.filterMap f=l.filterMap g
 | [],_=>rfl
 | x::l,h=>by
   rw [List.filterMap_cons,List.filterMap_cons,h x (by simp),aq5 fun y hy=>h y (by simp [hy])]
theorem ay8 (items:List Value):slicePick items.toArray none (some 0) (some (-1))=(items.drop 1).reverse.toArray:=by
 unfold slicePick
 rw [an7]
 simp only [List.size_toArray]
 cases items with
 | nil=>rfl
 | cons x items =>
   rw [show min (0:Int) (((x::items).length:Int) - 1)=0 by simp; omega,List.length_cons,at4,List.drop_succ_cons,List.drop_zero]
   congr 1
   refine List.ext_getElem? fun k=>?_
   have e:((List.range items.length).map fun k=>items.length - k).filterMap (fun i=>(x::items).toArray[i]?)=(List.range items.length).filterMap fun k=>items[items.length - 1 - k]?:=by
    rw [List.filterMap_map]
    refine aq5 fun k hk=>?_
    have hk:=List.mem_range.mp hk
    show (x::items).toArray[items.length - k]?=_
    rw [List.getElem?_toArray,show items.length - k=(items.length - 1 - k)+1 by omega,List.getElem?_cons_succ]
   rw [e]
   have h:∀ n,n≤items.length→(List.range n).filterMap (fun k=>items[items.length - 1 - k]?)=items.reverse.take n:=fun n=>by
    induction n with
    | zero=>intro _; simp
    | succ n ih =>
      intro hn
      rw [List.range_succ,List.filterMap_append,ih (by omega),List.take_add_one,List.getElem?_reverse (by omega)]
      have:items[items.length - 1 - n]?=some items[items.length - 1 - n]:=List.getElem?_eq_getElem (by omega)
      simp [this]
   rw [h _ (Nat.le_refl _),List.take_of_length_le (by simp)]
def bo3 (K:PySem.W.Frag) (te tu ts:TE):TE:=fun σ H Q=>te σ H fun x H1=>tu σ H1 fun z H2=>ts σ H2 fun y H3=>z=.int 0∧y=.int (-1)∧∃ a xs,x=.ref a∧SqL K H3 a xs∧New H3 (.lst (xs.drop 1).reverse) Q
section
variable {X:Cx}{e st up:Expr}{te ts tu:TE}{p2 pos:Pos}
theorem be1 (K:PySem.W.Frag) (he:PE X e te) (hu:PE X up tu) (hs:PE X st ts) (ht:∀ (o r:Value),letTemporaryGo e o r=pure ():=by intro _ _; rfl) (hK:X.K=K:=by rfl):PE X (.Subscript e (.Slice none (some up) (some st) p2) pos) (bo3 K te tu ts):=by
 subst hK
 intro pins s σ H Q I h
 refine wpAny_Subscript_Slice_step PySem.F.slot_list_getitem.lookup (thn (he pins s σ H _ I h) ?_) ht
 rintro v s1 ⟨x,H1,I1,r1,q1⟩
 refine wpAny_Slice ?_
 rw [evalPart_none]
 refine wpAny_pure ?_
 rw [evalPart_some]
 refine thn (hu pins s1 σ H1 _ I1 q1) ?_
 rintro w2 s2 ⟨z,H2,I2,r2,q2⟩
 rw [evalPart_some]
 refine thn (hs pins s2 σ H2 _ I2 q2) ?_
 rintro w3 s3 ⟨y,H3,I3,r3,q3⟩
 obtain ⟨rfl,rfl,a,xs,rfl,hS,q⟩:=q3
 cases r1
 obtain ⟨t,rfl⟩:=r2
 obtain ⟨t3,rfl⟩:=r3
 have I4:Inv X pins σ H3 { s3 with heap:=s3.heap.push { cls:=.type "slice",data:=.fields #[.none,.int 0 t,.int (-1) t3] } }:=I3.kept (t':=s3.toks) fun b ob q=>Heap.get?_push_of_some _ q
 obtain ⟨its,v1,p1,hz⟩:=I4.list hS
 refine ⟨p1.isList.typeIs,wpAny_getItem_list_slice (lo:=none) (hi:=some 0) (st:=some (-1)) p1.isList (Heap.IsSliceOf.new ..) .none (.int _ _) (.int _ _) (by decide) ?_ (by rw [List.size_toArray,←v1.length]; exact hz)⟩
 refine ⟨.ref _,_,I4.laid (t':=s3.toks) (o:=.lst (xs.drop 1).reverse) (fun b ob q=>Heap.get?_push_of_some _ q) (Nat.le_refl _) ?_,rfl,New.to q _ (I4.hok.fresh (Nat.le_refl _))⟩
 rw [ay8]
 exact ⟨by rw [List.length_reverse,List.length_drop]; exact Nat.le_trans (Nat.sub_le _ _) hz,(its.drop 1).reverse,0,(v1.drop 1).reverse,Heap.get?_push_size _ rfl⟩
theorem bo4 {K:PySem.W.Frag}{σ:St} {H:Hp}{Q:VK}(h:te σ H fun x H1=>tu σ H1 fun z H2=>ts σ H2 fun y H3=>z=.int 0∧y=.int (-1)∧∃ a xs,x=.ref a∧SqL K H3 a xs∧New H3 (.lst (xs.drop 1).reverse) Q):bo3 K te tu ts σ H Q:=h
end
end L2
namespace L2
open PySem
inductive Wd where
 | on | again | leave | back | stop
deriving DecidableEq
def Wd.txt:Wd→Str
 | .on=>"on"
 | .again=>"again"
 | .leave=>"leave"
 | .back=>"back"
 | .stop=>"stop"
theorem ag8 {a b:Wd}(h:a.txt=b.txt):a=b:=by
 cases a <;> cases b <;> first | rfl | exact absurd h (by decide +kernel)
def allW:List Wd:=[.on,.again,.leave,.back,.stop]
theorem ag9 (w:Wd):w∈allW:=by cases w <;> simp [allW]
def ordW (l:List Wd):List Wd:=allW.filter fun w=>decide (w∈l)
theorem ordW_mem {l:List Wd}{w:Wd}:w∈ordW l↔w∈l:=by
 unfold ordW
 rw [List.mem_filter,decide_eq_true_eq]
 exact ⟨fun h=>h.2,fun h=>⟨ag9 w,h⟩⟩
theorem b59 {l:List Wd}:(ordW l).length≤5:=List.length_filter_le _ _
theorem ay9 {l m:List Wd}(h:∀ w,w∈l↔w∈m):ordW l=ordW m:=by
 unfold ordW
 congr 1
 funext w
 rw [Bool.eq_iff_iff,decide_eq_true_eq,decide_eq_true_eq]
 exact h w
def endW (k:Str):Option Wd:=allW.find? fun w=>decide (w.txt=k)
theorem a93 {k:Str}{w:Wd}(h:endW k=some w):w.txt=k:=by
 have:=List.find?_some h
 simpa using this
theorem ak6 {k:Str}(h:endW k=none) (w:Wd):w.txt≠k:=by
 have:=List.find?_eq_none.mp h w (ag9 w)
 simpa using this
abbrev Tks:=List (Str×List Stm)
def a22 (ts:Tks) (n:Str):Option (List Stm):=(ts.find? fun t=>decide (t.1=n)).map (·.2)
def eL (f:Stm→Option (List Wd)):List Stm→List Wd→Option (List Wd)
 | [],e=>some e
 | s::b,e=>if .on∈e then (f s).bind fun r=>eL f b (e.filter (fun w=>decide (w≠.on))++r) else some e
def eBf (f:Stm→Option (List Wd)) (b:List Stm):Option (List Wd):=if b.length≤1000 then (eL f b [.on]).map ordW else none
def ak7 (e:List Wd):List Wd:=(if .leave∈e then [.on] else [])++e.filter (fun w=>decide (w=.back∨w=.stop))
def ac8 (e:List Wd):List Wd:=(if .on∈e∨.back∈e then [.on] else [])++e.filter (fun w=>decide (w=.stop))
def eS (ts:Tks):Nat→Stm→Option (List Wd)
 | 0,_=>none
 | n+1,.wait _ _=>some []
 | n+1,.test _ x y=>(eBf (eS ts n) x).bind fun a=>(eBf (eS ts n) y).map fun b=>a++b
 | n+1,.loop x=>(eBf (eS ts n) x).map ak7
 | n+1,.put _ _=>some [.on]
 | n+1,.plain ps=>match ps with
   | [.s k,.s nm]=>if k="call" then (a22 ts nm).bind fun b=>(eBf (eS ts n) b).map ac8 else if k="say" then some [.on] else none
   | [.s k]=>(endW k).map fun w=>[w]
   | [.s k,.i _,.s _]=>if k="hand" then some [.on] else none
   | _=>none
theorem az0 {f g:Stm→Option (List Wd)}(h:∀ s r,f s=some r→g s=some r):∀ {b:List Stm}{e r:List Wd},eL f b e=some r→eL g b e=some r
 | [],e,r,h1=>h1
 | s::b,e,r,h1=>by
   unfold eL at h1 ⊢
   split at h1
   · rename_i ho
     rw [if_pos ho]
     obtain ⟨z,h2,h3⟩:=Option.bind_eq_some_iff.mp h1
     exact Option.bind_eq_some_iff.mpr ⟨z,h s z h2,az0 h h3⟩
   · rename_i ho
     rw [if_neg ho]
     exact h1
theorem a94 {f g:Stm→Option (List Wd)}(h:∀ s r,f s=some r→g s=some r) {b:List Stm}{r:List Wd}(h1:eBf f b=some r):eBf g b=some r:=by
 unfold eBf at h1 ⊢
 split at h1
 · rename_i hl
   rw [if_pos hl]
   obtain ⟨z,h2,h3⟩:=Option.map_eq_some_iff.mp h1
   exact Option.map_eq_some_iff.mpr ⟨z,az0 h h2,h3⟩
 · cases h1
theorem a99 (ts:Tks):∀ n s r,eS ts n s=some r→eS ts (n+1) s=some r
 | 0,s,r,h=>by simp [eS] at h
 | n+1,.wait _ _,r,h=>h
 | n+1,.put _ _,r,h=>h
 | n+1,.test c x y,r,h=>by
   obtain ⟨a,h1,h2⟩:=Option.bind_eq_some_iff.mp h
   obtain ⟨b,h3,h4⟩:=Option.map_eq_some_iff.mp h2
   exact Option.bind_eq_some_iff.mpr ⟨a,a94 (a99 ts n) h1,Option.map_eq_some_iff.mpr ⟨b,a94 (a99 ts n) h3,h4⟩⟩
 | n+1,.loop x,r,h=>by
   obtain ⟨a,h1,h2⟩:=Option.map_eq_some_iff.mp h
   exact Option.map_eq_some_iff.mpr ⟨a,a94 (a99 ts n) h1,h2⟩
 | n+1,.plain ps,r,h=>by
   unfold eS at h ⊢
   split at h
   · rename_i k nm
     split at h
     · rename_i hk
       rw [if_pos hk]
       obtain ⟨b,h1,h2⟩:=Option.bind_eq_some_iff.mp h
       obtain ⟨a,h3,h4⟩:=Option.map_eq_some_iff.mp h2
       exact Option.bind_eq_some_iff.mpr ⟨b,h1,Option.map_eq_some_iff.mpr ⟨a,a94 (a99 ts n) h3,h4⟩⟩
     · rename_i hk
       rw [if_neg hk]
       exact h
   · exact h
   · exact h
   · cases h
theorem be2 {ts:Tks}{n m:Nat}(hnm:n≤m) {s:Stm}{r:List Wd}(h:eS ts n s=some r):eS ts m s=some r:=by
 obtain ⟨k,rfl⟩:=Nat.exists_eq_add_of_le hnm
 induction k with
 | zero=>exact h
 | succ k ih=>exact a99 ts _ _ _ (ih (Nat.le_add_right _ _))
theorem ak8 {ts:Tks}{n m:Nat}(hnm:n≤m) {b:List Stm}{r:List Wd}(h:eBf (eS ts n) b=some r):eBf (eS ts m) b=some r:=a94 (fun _ _ z=>be2 hnm z) h
theorem bo5 {ts:Tks}{n m:Nat}{b:List Stm}{r q:List Wd}(h1:eBf (eS ts n) b=some r) (h2:eBf (eS ts m) b=some q):r=q:=by
 have a:=ak8 (Nat.le_max_left n m) h1
 have c:=ak8 (Nat.le_max_right n m) h2
 rw [a] at c
 exact Option.some.inj c
theorem aa4 {f:Stm→Option (List Wd)}{b:List Stm}{r:List Wd}(h:eBf f b=some r):ordW r=r∧r.length≤5:=by
 unfold eBf at h
 split at h
 · obtain ⟨z,_,rfl⟩:=Option.map_eq_some_iff.mp h
   exact ⟨ay9 fun w=>ordW_mem,b59⟩
 · cases h
theorem az1 {e:List Wd}(h:e.length≤5):(ak7 e).length≤6:=by
 unfold ak7
 have:=List.length_filter_le (fun w=>decide (w=Wd.back∨w=Wd.stop)) e
 rw [List.length_append]
 split <;> simp only [List.length_cons,List.length_nil] <;> omega
theorem az2 {e:List Wd}(h:e.length≤5):(ac8 e).length≤6:=by
 unfold ac8
 have:=List.length_filter_le (fun w=>decide (w=Wd.stop)) e
 rw [List.length_append]
 split <;> simp only [List.length_cons,List.length_nil] <;> omega
theorem bo6 {ts:Tks}{n:Nat}{s:Stm}{r:List Wd}(h:eS ts n s=some r):r.length≤10:=by
 cases n with
 | zero=>simp [eS] at h
 | succ n =>
   cases s with
   | wait _ _=>obtain rfl:=Option.some.inj h; simp
   | put _ _=>obtain rfl:=Option.some.inj h; simp
   | test c x y =>
     obtain ⟨a,h1,h2⟩:=Option.bind_eq_some_iff.mp h
     obtain ⟨b,h3,rfl⟩:=Option.map_eq_some_iff.mp h2
     have:=(aa4 h1).2
     have:=(aa4 h3).2
     rw [List.length_append]
     omega
   | loop x =>
     obtain ⟨a,h1,rfl⟩:=Option.map_eq_some_iff.mp h
     have:=az1 (aa4 h1).2
     omega
   | plain ps =>
     unfold eS at h
     split at h
     · split at h
       · obtain ⟨b,h1,h2⟩:=Option.bind_eq_some_iff.mp h
         obtain ⟨a,h3,rfl⟩:=Option.map_eq_some_iff.mp h2
         have:=az2 (aa4 h3).2
         omega
       · split at h
         · obtain rfl:=Option.some.inj h; simp
         · cases h
     · obtain ⟨w,_,rfl⟩:=Option.map_eq_some_iff.mp h
       simp
     · split at h
       · obtain rfl:=Option.some.inj h; simp
       · cases h
     · cases h
def mkC:Stm:=.plain [.s "called"]
def mkL:Stm:=.plain [.s "looped"]
noncomputable instance stmDec:DecidableEq Stm:=fun _ _=>Classical.propDecidable _
theorem mk_ne:mkL≠mkC:=fun h=>by
 unfold mkL mkC at h
 injection h with h
 exact absurd (Pt.s.inj (List.cons.inj h).1) (by decide +kernel)
noncomputable def bhd (m:Stm):List Stm→Option (List Stm)
 | []=>none
 | s::p=>if s=m then some p else if s=mkC then none else bhd m p
def NoM (b:List Stm):Prop:=∀ s∈b,s≠mkC∧s≠mkL
theorem aa0 {m:Stm}(hm:m=mkC∨m=mkL) {p:List Stm}:∀ {b:List Stm},NoM b→bhd m (b++p)=bhd m p
 | [],_=>rfl
 | s::b,h=>by
   have h1:=h s (by simp)
   have:s≠m:=by rcases hm with rfl | rfl; exact h1.1; exact h1.2
   show (if s=m then _ else _)=_
   rw [if_neg this,if_neg h1.1]
   exact aa0 hm fun x hx=>h x (by simp [hx])
theorem aq6 {p:List Stm}:bhd mkL (mkL::p)=some p:=if_pos rfl
theorem az3 {p:List Stm}:bhd mkC (mkC::p)=some p:=if_pos rfl
theorem bo7 {p:List Stm}:bhd mkL (mkC::p)=none:=by
 show (if mkC=mkL then _ else if mkC=mkC then _ else _)=_
 rw [if_neg mk_ne.symm,if_pos rfl]
theorem az4 {p:List Stm}:bhd mkC (mkL::p)=bhd mkC p:=by
 show (if mkL=mkC then _ else if mkL=mkC then _ else _)=_
 rw [if_neg mk_ne,if_neg mk_ne]
def optL {α:Type}(o:Option α):List α:=match o with | some x=>[x] | none=>[]
noncomputable def plL (ts:Tks) (p:List Stm) (k:Str) (r:List Pt):List (List Stm)×List Str :=
 if k="call" then (optL (match r with | [.s nm]=>(a22 ts nm).map fun b=>b++mkC::p | _=>none),[])
 else if k="say"∨k="hand"∨k="put"∨k="called" then ([p],[])
 else match (if k="leave" then bhd mkL p else if k="back" then bhd mkC p else none) with
  | some q=>([q],[])
  | none=>if k="again"∧(bhd mkL p).isSome=true then ([],[]) else ([],[k])
noncomputable def onLk (ts:Tks) (p:List Stm):Stm→List (List Stm)×List Str
 | .test _ x y=>([x++p,y++p],[])
 | .loop x=>([x++mkL::p],[])
 | .wait _ _=>([],["wait"])
 | .put _ _=>([p],[])
 | .plain (.s k::r)=>plL ts p k r
 | .plain _=>([],[])
inductive Rch (ts:Tks):List Stm→Wd→Prop
 | nil:Rch ts [] .on
 | go {s:Stm}{p c:List Stm}{w:Wd}(hc:c∈(onLk ts p s).1) (h:Rch ts c w):Rch ts (s::p) w
 | fin {s:Stm}{p:List Stm}{w:Wd}(h:w.txt∈(onLk ts p s).2):Rch ts (s::p) w
theorem an8 {ts:Tks}{s:Stm}{p:List Stm}{w:Wd}:Rch ts (s::p) w↔(∃ c∈(onLk ts p s).1,Rch ts c w)∨w.txt∈(onLk ts p s).2:=by
 constructor
 · intro h
   cases h with
   | go hc h=>exact .inl ⟨_,hc,h⟩
   | fin h=>exact .inr h
 · rintro (⟨c,hc,h⟩ | h)
   · exact .go hc h
   · exact .fin h
def Fin (ts:Tks) (p:List Stm):Wd→Wd→Prop
 | .on,w=>Rch ts p w
 | .again,w=>bhd mkL p=none∧w=.again
 | .leave,w=>match bhd mkL p with | some r=>Rch ts r w | none=>w=.leave
 | .back,w=>match bhd mkC p with | some r=>Rch ts r w | none=>w=.back
 | .stop,w=>w=.stop
theorem az5 {ts:Tks}{b p:List Stm}(h:NoM b) {e w:Wd}(he:e≠.on):Fin ts (b++p) e w↔Fin ts p e w:=by
 cases e with
 | on=>exact absurd rfl he
 | again=>simp only [Fin]; rw [aa0 (.inr rfl) h]
 | leave=>simp only [Fin]; rw [aa0 (.inr rfl) h]
 | back=>simp only [Fin]; rw [aa0 (.inl rfl) h]
 | stop=>exact Iff.rfl
structure GoodS (ts:Tks) (G:Bool→Stm→Prop):Prop where
 nm:∀ lp s,G lp s→s≠mkC∧s≠mkL
 t:∀ lp c x y,G lp (.test c x y)→(∀ s∈x,G lp s)∧∀ s∈y,G lp s
 l:∀ lp x,G lp (.loop x)→∀ s∈x,G true s
 c:∀ lp n b,G lp (.plain [.s "call",.s n])→a22 ts n=some b→∀ s∈b,G false s
 a:∀ lp,G lp (.plain [.s "again"])∨G lp (.plain [.s "leave"])→lp=true
 o:∀ lp,¬ G lp (.plain [.s "on"])
variable {ts:Tks}{G:Bool→Stm→Prop}
theorem loopW_mem {e:List Wd}{w:Wd}:w∈ak7 e↔(w=.on∧.leave∈e)∨((w=.back∨w=.stop)∧w∈e):=by
 unfold ak7
 rw [List.mem_append,List.mem_filter,decide_eq_true_eq]
 constructor
 · rintro (h | h)
   · split at h
     · rename_i hl; exact .inl ⟨List.mem_singleton.mp h,hl⟩
     · cases h
   · exact .inr ⟨h.2,h.1⟩
 · rintro (⟨rfl,h⟩ | ⟨h1,h2⟩)
   · rw [if_pos h]; exact .inl (by simp)
   · exact .inr ⟨h2,h1⟩
theorem callW_mem {e:List Wd}{w:Wd}:w∈ac8 e↔(w=.on∧(.on∈e∨.back∈e))∨(w=.stop∧w∈e):=by
 unfold ac8
 rw [List.mem_append,List.mem_filter,decide_eq_true_eq]
 constructor
 · rintro (h | h)
   · split at h
     · rename_i hl; exact .inl ⟨List.mem_singleton.mp h,hl⟩
     · cases h
   · exact .inr ⟨h.2,h.1⟩
 · rintro (⟨rfl,h⟩ | ⟨h1,h2⟩)
   · rw [if_pos h]; exact .inl (by simp)
   · exact .inr ⟨h2,h1⟩
theorem filt_mem {e:List Wd}{w:Wd}:w∈e.filter (fun w=>decide (w≠.on))↔w∈e∧w≠.on:=by rw [List.mem_filter,decide_eq_true_eq]
theorem aq7 {f:Stm→Option (List Wd)}{lp:Bool}(hG:GoodS ts G) (hs:∀ s p w r,G lp s→f s=some r→(Rch ts (s::p) w↔∃ e∈r,Fin ts p e w)):∀ {b:List Stm}{p:List Stm}{w:Wd}{e0 R:List Wd},(∀ s∈b,G lp s)→eL f b e0=some R→((∃ e∈R,Fin ts p e w)↔(∃ e∈e0,e≠.on∧Fin ts p e w)∨(.on∈e0∧Rch ts (b++p) w))
 | [],p,w,e0,R,_,h=>by
   obtain rfl:=Option.some.inj h
   constructor
   · rintro ⟨e,he,hf⟩
     by_cases ho:e=.on
     · subst ho; exact .inr ⟨he,hf⟩
     · exact .inl ⟨e,he,ho,hf⟩
   · rintro (⟨e,he,_,hf⟩ | ⟨he,hf⟩)
     · exact ⟨e,he,hf⟩
     · exact ⟨_,he,hf⟩
 | s::b,p,w,e0,R,hg,h=>by
   have hb:∀ x∈b,G lp x:=fun x hx=>hg x (by simp [hx])
   have nmb:NoM b:=fun x hx=>hG.nm lp x (hb x hx)
   unfold eL at h
   split at h
   · rename_i ho
     obtain ⟨r,h1,h2⟩:=Option.bind_eq_some_iff.mp h
     rw [aq7 hG hs hb h2]
     have st:=hs s (b++p) w r (hg s (by simp)) h1
     rw [List.cons_append,st]
     constructor
     · rintro (⟨e,he,hne,hf⟩ | ⟨he,hr⟩)
       · rcases List.mem_append.mp he with he | he
         · exact .inl ⟨e,(filt_mem.mp he).1,hne,hf⟩
         · exact .inr ⟨ho,e,he,(az5 nmb hne).mpr hf⟩
       · rcases List.mem_append.mp he with he | he
         · exact absurd rfl (filt_mem.mp he).2
         · exact .inr ⟨ho,.on,he,hr⟩
     · rintro (⟨e,he,hne,hf⟩ | ⟨_,e,he,hf⟩)
       · exact .inl ⟨e,List.mem_append_left _ (filt_mem.mpr ⟨he,hne⟩),hne,hf⟩
       · by_cases hne:e=.on
         · subst hne; exact .inr ⟨List.mem_append_right _ he,hf⟩
         · exact .inl ⟨e,List.mem_append_right _ he,hne,(az5 nmb hne).mp hf⟩
   · rename_i ho
     obtain rfl:=Option.some.inj h
     constructor
     · rintro ⟨e,he,hf⟩
       exact .inl ⟨e,he,fun z=>ho (z ▸ he),hf⟩
     · rintro (⟨e,he,_,hf⟩ | ⟨he,_⟩)
       · exact ⟨e,he,hf⟩
       · exact absurd he ho
theorem az6 {f:Stm→Option (List Wd)}{lp:Bool}(hG:GoodS ts G) (hs:∀ s p w r,G lp s→f s=some r→(Rch ts (s::p) w↔∃ e∈r,Fin ts p e w)) {b p:List Stm}{w:Wd}{R:List Wd}(hg:∀ s∈b,G lp s) (h:eBf f b=some R):Rch ts (b++p) w↔∃ e∈R,Fin ts p e w:=by
 unfold eBf at h
 split at h
 · obtain ⟨z,h1,rfl⟩:=Option.map_eq_some_iff.mp h
   have:=aq7 hG hs (p:=p) (w:=w) hg h1
   constructor
   · intro hr
     obtain ⟨e,he,hf⟩:=this.mpr (.inr ⟨by simp,hr⟩)
     exact ⟨e,ordW_mem.mpr he,hf⟩
   · rintro ⟨e,he,hf⟩
     rcases this.mp ⟨e,ordW_mem.mp he,hf⟩ with ⟨e',he',hne,_⟩ | ⟨_,hr⟩
     · exact absurd (by simpa using he') hne
     · exact hr
 · cases h
theorem b60 {n:Nat}(hG:GoodS ts G):∀ {s:Stm}{lp:Bool}{r:List Wd},G lp s→eS ts n s=some r→(.again∈r∨.leave∈r)→lp=true:=by
 induction n with
 | zero=>intro s lp r _ h; simp [eS] at h
 | succ n ih =>
   have body:∀ {b:List Stm}{lp:Bool}{e0 R:List Wd},(∀ s∈b,G lp s)→eL (eS ts n) b e0=some R→(.again∈R∨.leave∈R)→(.again∈e0∨.leave∈e0)∨lp=true:=fun {b}=>by
    induction b with
    | nil=>intro lp e0 R _ h hm; obtain rfl:=Option.some.inj h; exact .inl hm
    | cons s b ihb =>
      intro lp e0 R hg h hm
      unfold eL at h
      split at h
      · obtain ⟨r,h1,h2⟩:=Option.bind_eq_some_iff.mp h
        rcases ihb (fun x hx=>hg x (by simp [hx])) h2 hm with z | z
        · have cs:∀ w:Wd,w∈e0.filter (fun w=>decide (w≠.on))++r→w∈e0∨w∈r:=fun w hw=>by
           rcases List.mem_append.mp hw with hw | hw
           · exact .inl (filt_mem.mp hw).1
           · exact .inr hw
          rcases z with z | z
          · rcases cs _ z with z | z
            · exact .inl (.inl z)
            · exact .inr (ih (hg s (by simp)) h1 (.inl z))
          · rcases cs _ z with z | z
            · exact .inl (.inr z)
            · exact .inr (ih (hg s (by simp)) h1 (.inr z))
        · exact .inr z
      · obtain rfl:=Option.some.inj h
        exact .inl hm
   have bodyB:∀ {b:List Stm}{lp:Bool}{R:List Wd},(∀ s∈b,G lp s)→eBf (eS ts n) b=some R→(.again∈R∨.leave∈R)→lp=true:=fun {b lp R} hg h hm=>by
    unfold eBf at h
    split at h
    · obtain ⟨z,h1,rfl⟩:=Option.map_eq_some_iff.mp h
      rcases body hg h1 (by simpa only [ordW_mem] using hm) with z | z
      · simp at z
      · exact z
    · cases h
   intro s lp r hg h hm
   cases s with
   | wait _ _=>obtain rfl:=Option.some.inj h; simp at hm
   | put _ _=>obtain rfl:=Option.some.inj h; simp at hm
   | test c x y =>
     obtain ⟨a,h1,h2⟩:=Option.bind_eq_some_iff.mp h
     obtain ⟨b,h3,rfl⟩:=Option.map_eq_some_iff.mp h2
     obtain ⟨g1,g2⟩:=hG.t lp c x y hg
     rcases hm with z | z
     · rcases List.mem_append.mp z with z | z
       · exact bodyB g1 h1 (.inl z)
       · exact bodyB g2 h3 (.inl z)
     · rcases List.mem_append.mp z with z | z
       · exact bodyB g1 h1 (.inr z)
       · exact bodyB g2 h3 (.inr z)
   | loop x =>
     obtain ⟨a,h1,rfl⟩:=Option.map_eq_some_iff.mp h
     rcases hm with z | z <;> rcases loopW_mem.mp z with ⟨z,_⟩ | ⟨z | z,_⟩ <;> cases z
   | plain ps =>
     unfold eS at h
     split at h
     · split at h
       · obtain ⟨b,h1,h2⟩:=Option.bind_eq_some_iff.mp h
         obtain ⟨a,h3,rfl⟩:=Option.map_eq_some_iff.mp h2
         rcases hm with z | z <;> rcases callW_mem.mp z with ⟨z,_⟩ | ⟨z,_⟩ <;> cases z
       · split at h
         · obtain rfl:=Option.some.inj h; simp at hm
         · cases h
     · obtain ⟨w,hw,rfl⟩:=Option.map_eq_some_iff.mp h
       have:=a93 hw
       rcases hm with z | z
       · rw [← List.mem_singleton.mp z] at this
         exact hG.a lp (.inl (by rw [← this] at hg; exact hg))
       · rw [← List.mem_singleton.mp z] at this
         exact hG.a lp (.inr (by rw [← this] at hg; exact hg))
     · split at h
       · obtain rfl:=Option.some.inj h; simp at hm
       · cases h
     · cases h
variable {ts:Tks}{G:Bool→Stm→Prop}
theorem be3 (w:Wd):w.txt≠"wait":=by cases w <;> decide +kernel
theorem az7 (w:Wd):w.txt≠"looped":=by cases w <;> decide +kernel
theorem ak9 {p:List Stm}:onLk ts p mkL=([],[Str.ofString "looped"]):=by
 show plL ts p (Str.ofString "looped") []=_
 unfold plL
 rw [if_neg (by decide +kernel),if_neg (by decide +kernel),if_neg (by decide +kernel),if_neg (by decide +kernel)]
 dsimp only
 rw [if_neg (fun z=>absurd z.1 (by decide +kernel))]
theorem al0 {p:List Stm}:onLk ts p mkC=([p],[]):=by
 show plL ts p (Str.ofString "called") []=_
 unfold plL
 rw [if_neg (by decide +kernel),if_pos (.inr (.inr (.inr rfl)))]
theorem at5 {p:List Stm}{w:Wd}:¬ Rch ts (mkL::p) w:=fun h=>by
 rw [an8,ak9] at h
 rcases h with ⟨c,hc,_⟩ | h
 · cases hc
 · exact az7 w (List.mem_singleton.mp h)
theorem rch_called {p:List Stm}{w:Wd}:Rch ts (mkC::p) w↔Rch ts p w:=by
 rw [an8,al0]
 constructor
 · rintro (⟨c,hc,h⟩ | h)
   · rw [List.mem_singleton.mp hc] at h; exact h
   · cases h
 · intro h; exact .inl ⟨p,by simp,h⟩
theorem b61 {p:List Stm}:onLk ts p (.plain [.s "again"])=if (bhd mkL p).isSome=true then ([],[]) else ([],[Str.ofString "again"]):=by
 show plL ts p (Str.ofString "again") []=_
 unfold plL
 rw [if_neg (by decide +kernel),if_neg (by decide +kernel),if_neg (by decide +kernel),if_neg (by decide +kernel)]
 dsimp only
 by_cases hb:(bhd mkL p).isSome=true
 · rw [if_pos hb,if_pos ⟨rfl,hb⟩]
 · rw [if_neg hb,if_neg (fun z=>hb z.2)]
theorem az8 {p q:List Stm}(h:bhd mkL p=some q):onLk ts p (.plain [.s "leave"])=([q],[]):=by
 show plL ts p (Str.ofString "leave") []=_
 unfold plL
 rw [if_neg (by decide +kernel),if_neg (by decide +kernel),if_pos rfl,h]
theorem az9 {p:List Stm}(h:bhd mkL p=none):onLk ts p (.plain [.s "leave"])=([],[Str.ofString "leave"]):=by
 show plL ts p (Str.ofString "leave") []=_
 unfold plL
 rw [if_neg (by decide +kernel),if_neg (by decide +kernel),if_pos rfl,h]
 dsimp only
 rw [if_neg (fun z=>absurd z.1 (by decide +kernel))]
theorem b62 {p q:List Stm}(h:bhd mkC p=some q):onLk ts p (.plain [.s "back"])=([q],[]):=by
 show plL ts p (Str.ofString "back") []=_
 unfold plL
 rw [if_neg (by decide +kernel),if_neg (by decide +kernel),if_neg (by decide +kernel),if_pos rfl,h]
theorem b63 {p:List Stm}(h:bhd mkC p=none):onLk ts p (.plain [.s "back"])=([],[Str.ofString "back"]):=by
 show plL ts p (Str.ofString "back") []=_
 unfold plL
 rw [if_neg (by decide +kernel),if_neg (by decide +kernel),if_neg (by decide +kernel),if_pos rfl,h]
 dsimp only
 rw [if_neg (fun z=>absurd z.1 (by decide +kernel))]
theorem be4 {p:List Stm}:onLk ts p (.plain [.s "stop"])=([],[Str.ofString "stop"]):=by
 show plL ts p (Str.ofString "stop") []=_
 unfold plL
 rw [if_neg (by decide +kernel),if_neg (by decide +kernel),if_neg (by decide +kernel),if_neg (by decide +kernel)]
 dsimp only
 rw [if_neg (fun z=>absurd z.1 (by decide +kernel))]
theorem bo8 {p:List Stm}{x:Str}:onLk ts p (.plain [.s "say",.s x])=([p],[]):=by
 show plL ts p (Str.ofString "say") [.s x]=_
 unfold plL
 rw [if_neg (by decide +kernel),if_pos (.inl rfl)]
theorem be5 {p:List Stm}{i:Int}{x:Str}:onLk ts p (.plain [.s "hand",.i i,.s x])=([p],[]):=by
 show plL ts p (Str.ofString "hand") [.i i,.s x]=_
 unfold plL
 rw [if_neg (by decide +kernel),if_pos (.inr (.inl rfl))]
theorem b00 {p:List Stm}{x:Str}{b:List Stm}(h:a22 ts x=some b):onLk ts p (.plain [.s "call",.s x])=([b++mkC::p],[]):=by
 show plL ts p (Str.ofString "call") [.s x]=_
 unfold plL
 rw [if_pos rfl]
 dsimp only
 rw [h]
 rfl
theorem a60 {w v:Wd}(l:Str) (e:v.txt=l):w.txt∈[l]↔w=v:=by
 subst e
 rw [List.mem_singleton]
 exact ⟨ag8,fun h=>by rw [h]⟩
theorem b01 (hG:GoodS ts G):∀ (n:Nat) (lp:Bool) (s:Stm) (p:List Stm) (w:Wd) (r:List Wd),G lp s→eS ts n s=some r→(Rch ts (s::p) w↔∃ e∈r,Fin ts p e w)
 | 0,lp,s,p,w,r,_,h=>by simp [eS] at h
 | n+1,lp,s,p,w,r,hg,h=>by
   have bd:∀ (lp:Bool) {b p:List Stm}{w:Wd}{R:List Wd},(∀ s∈b,G lp s)→eBf (eS ts n) b=some R→(Rch ts (b++p) w↔∃ e∈R,Fin ts p e w):=fun lp b p w R hg' h'=>az6 hG (fun s p w r g e=>b01 hG n lp s p w r g e) hg' h'
   rw [an8]
   cases s with
   | wait k bs =>
     obtain rfl:=Option.some.inj h
     constructor
     · rintro (⟨c,hc,_⟩ | z)
       · cases hc
       · exact absurd (List.mem_singleton.mp z) (be3 w)
     · rintro ⟨e,he,_⟩; cases he
   | put k e =>
     obtain rfl:=Option.some.inj h
     constructor
     · rintro (⟨c,hc,z⟩ | z)
       · rw [List.mem_singleton.mp hc] at z; exact ⟨.on,by simp,z⟩
       · cases z
     · rintro ⟨e,he,z⟩
       rw [List.mem_singleton.mp he] at z
       exact .inl ⟨p,by simp [onLk],z⟩
   | test c x y =>
     obtain ⟨a,h1,h2⟩:=Option.bind_eq_some_iff.mp h
     obtain ⟨b,h3,rfl⟩:=Option.map_eq_some_iff.mp h2
     obtain ⟨g1,g2⟩:=hG.t lp c x y hg
     have b1:=bd lp (p:=p) (w:=w) g1 h1
     have b2:=bd lp (p:=p) (w:=w) g2 h3
     simp only [onLk,List.mem_cons,List.not_mem_nil,or_false,exists_eq_or_imp,exists_eq_left,List.mem_append,or_and_right,exists_or]
     rw [b1,b2]
   | loop x =>
     obtain ⟨a,h1,rfl⟩:=Option.map_eq_some_iff.mp h
     have b1:=bd true (p:=mkL::p) (w:=w) (hG.l lp x hg) h1
     simp only [onLk,List.mem_cons,List.not_mem_nil,or_false,exists_eq_left]
     rw [b1]
     constructor
     · rintro ⟨e,he,hf⟩
       cases e with
       | on=>exact absurd hf at5
       | again=>simp only [Fin,aq6] at hf; cases hf.1
       | leave=>simp only [Fin,aq6] at hf; exact ⟨.on,loopW_mem.mpr (.inl ⟨rfl,he⟩),hf⟩
       | back=>simp only [Fin,az4] at hf; exact ⟨.back,loopW_mem.mpr (.inr ⟨.inl rfl,he⟩),hf⟩
       | stop=>exact ⟨.stop,loopW_mem.mpr (.inr ⟨.inr rfl,he⟩),hf⟩
     · rintro ⟨e,he,hf⟩
       rcases loopW_mem.mp he with ⟨rfl,hl⟩ | ⟨rfl | rfl,hm⟩
       · exact ⟨.leave,hl,by simp only [Fin,aq6]; exact hf⟩
       · exact ⟨.back,hm,by simp only [Fin,az4]; exact hf⟩
       · exact ⟨.stop,hm,hf⟩
   | plain ps =>
     unfold eS at h
     split at h
     · rename_i k nm
       split at h
       · rename_i hk
         subst hk
         obtain ⟨b,hb,h2⟩:=Option.bind_eq_some_iff.mp h
         obtain ⟨a,h3,rfl⟩:=Option.map_eq_some_iff.mp h2
         have hgb:=hG.c lp nm b hg hb
         have b1:=bd false (p:=mkC::p) (w:=w) hgb h3
         have na:.again∉a∧.leave∉a:=by
          have key:∀ v:Wd,v=.again∨v=.leave→v∉a:=fun v hv hm=>by
           have:(false:Bool)=true:=by
            unfold eBf at h3
            split at h3
            · obtain ⟨z,h4,rfl⟩:=Option.map_eq_some_iff.mp h3
              have body:∀ {b:List Stm}{e0 R:List Wd},(∀ s∈b,G false s)→eL (eS ts n) b e0=some R→v∈R→v∈e0∨(false:Bool)=true:=fun {b}=>by
               induction b with
               | nil=>intro e0 R _ h hm; obtain rfl:=Option.some.inj h; exact .inl hm
               | cons s b ihb =>
                 intro e0 R hg h hm
                 unfold eL at h
                 split at h
                 · obtain ⟨r,h1,h2⟩:=Option.bind_eq_some_iff.mp h
                   rcases ihb (fun x hx=>hg x (by simp [hx])) h2 hm with z | z
                   · rcases List.mem_append.mp z with z | z
                     · exact .inl (filt_mem.mp z).1
                     · exact .inr (b60 hG (hg s (by simp)) h1 (by rcases hv with rfl | rfl; exact .inl z; exact .inr z))
                   · exact .inr z
                 · obtain rfl:=Option.some.inj h
                   exact .inl hm
              rcases body hgb h4 (ordW_mem.mp hm) with z | z
              · rcases hv with rfl | rfl <;> simp at z
              · exact z
            · cases h3
           cases this
          exact ⟨key _ (.inl rfl),key _ (.inr rfl)⟩
         rw [b00 hb]
         simp only [List.mem_cons,List.not_mem_nil,or_false,exists_eq_left]
         rw [b1]
         constructor
         · rintro ⟨e,he,hf⟩
           cases e with
           | on=>exact ⟨.on,callW_mem.mpr (.inl ⟨rfl,.inl he⟩),rch_called.mp hf⟩
           | again=>exact absurd he na.1
           | leave=>exact absurd he na.2
           | back=>simp only [Fin,az3] at hf; exact ⟨.on,callW_mem.mpr (.inl ⟨rfl,.inr he⟩),hf⟩
           | stop=>exact ⟨.stop,callW_mem.mpr (.inr ⟨rfl,he⟩),hf⟩
         · rintro ⟨e,he,hf⟩
           rcases callW_mem.mp he with ⟨rfl,ho | hb⟩ | ⟨rfl,hm⟩
           · exact ⟨.on,ho,rch_called.mpr hf⟩
           · exact ⟨.back,hb,by simp only [Fin,az3]; exact hf⟩
           · exact ⟨.stop,hm,hf⟩
       · split at h
         · rename_i hk
           subst hk
           obtain rfl:=Option.some.inj h
           rw [bo8]
           simp [Fin]
         · cases h
     · rename_i k
       obtain ⟨v,hv,rfl⟩:=Option.map_eq_some_iff.mp h
       have ek:=a93 hv
       subst ek
       cases v with
       | on=>exact absurd hg (hG.o lp)
       | again =>
         rw [show onLk ts p (.plain [.s Wd.again.txt])=_ from b61]
         simp only [List.mem_singleton,exists_eq_left,Fin]
         by_cases hb:(bhd mkL p).isSome=true
         · rw [if_pos hb]
           constructor
           · rintro (⟨c,hc,_⟩ | z)
             · cases hc
             · cases z
           · rintro ⟨z,_⟩; rw [z] at hb; cases hb
         · rw [if_neg hb]
           have hn:bhd mkL p=none:=by
            cases h:bhd mkL p with
            | none=>rfl
            | some q=>rw [h] at hb; exact absurd rfl hb
           constructor
           · rintro (⟨c,hc,_⟩ | z)
             · cases hc
             · exact ⟨hn,(a60 _ rfl).mp z⟩
           · rintro ⟨_,z⟩; exact .inr ((a60 _ rfl).mpr z)
       | leave =>
         simp only [List.mem_singleton,exists_eq_left,Fin]
         cases hb:bhd mkL p with
         | some q =>
           rw [show onLk ts p (.plain [.s Wd.leave.txt])=_ from az8 hb]
           simp
         | none =>
           rw [show onLk ts p (.plain [.s Wd.leave.txt])=_ from az9 hb]
           constructor
           · rintro (⟨c,hc,_⟩ | z)
             · cases hc
             · exact (a60 _ rfl).mp z
           · intro z; exact .inr ((a60 _ rfl).mpr z)
       | back =>
         simp only [List.mem_singleton,exists_eq_left,Fin]
         cases hb:bhd mkC p with
         | some q =>
           rw [show onLk ts p (.plain [.s Wd.back.txt])=_ from b62 hb]
           simp
         | none =>
           rw [show onLk ts p (.plain [.s Wd.back.txt])=_ from b63 hb]
           constructor
           · rintro (⟨c,hc,_⟩ | z)
             · cases hc
             · exact (a60 _ rfl).mp z
           · intro z; exact .inr ((a60 _ rfl).mpr z)
       | stop =>
         rw [show onLk ts p (.plain [.s Wd.stop.txt])=_ from be4]
         simp only [exists_eq_left,Fin]
         constructor
         · rintro (⟨c,hc,_⟩ | z)
           · cases hc
           · exact ⟨.stop,by simp,(a60 _ rfl).mp z⟩
         · rintro ⟨e,he,z⟩
           rw [List.mem_singleton.mp he] at z
           exact .inr ((a60 _ rfl).mpr z)
     · rename_i k i x
       split at h
       · rename_i hk
         subst hk
         obtain rfl:=Option.some.inj h
         rw [be5]
         simp [Fin]
       · cases h
     · cases h
variable {ts:Tks}{G:Bool→Stm→Prop}
def InP (met todo:List (List Stm)) (found:List Str) (c:List Stm):Prop:=c∈met∨c∈todo∨(c=[]∧Str.ofString "on"∈found)
structure DfJ (ts:Tks) (S:List (List Stm)) (st:List Stm) (found:List Str) (met todo:List (List Stm)):Prop where
 a:InP met todo found st
 b:∀ s p,(s::p)∈met→(∀ f∈(onLk ts p s).2,f∈found)∧∀ c∈(onLk ts p s).1,InP met todo found c
 c:∀ p,p∈met∨p∈todo→∀ w,Rch ts p w→Rch ts st w
 d:∀ w:Wd,w.txt∈found→Rch ts st w
 e:∀ p,p∈met∨p∈todo→p∈S
 nd:met.Nodup
 nn:[]∉met
 q:found.length+(3*(S.length - met.length)+todo.length)≤3*S.length+1
theorem aq8 {p:List Stm}{s:Stm}:(onLk ts p s).1.length≤2∧(onLk ts p s).2.length≤1:=by
 cases s with
 | test c x y=>exact ⟨Nat.le_refl 2,Nat.zero_le _⟩
 | loop x=>exact ⟨(by decide:1≤2),Nat.zero_le _⟩
 | wait n bs=>exact ⟨Nat.zero_le _,Nat.le_refl 1⟩
 | put n e=>exact ⟨(by decide:1≤2),Nat.zero_le _⟩
 | plain ps =>
   cases ps with
   | nil=>exact ⟨Nat.zero_le _,Nat.zero_le _⟩
   | cons x r =>
     cases x with
     | i n=>exact ⟨Nat.zero_le _,Nat.zero_le _⟩
     | s k =>
       show (plL ts p k r).1.length≤2∧(plL ts p k r).2.length≤1
       unfold plL
       split
       · constructor
         · unfold optL
           split <;> simp
         · simp
       · split
         · simp
         · split
           · simp
           · split <;> simp
theorem DfJ.start {S:List (List Stm)}{st:List Stm}(h:st∈S):DfJ ts S st [] [] [st]:=by
 refine ⟨.inr (.inl (by simp)),fun s p h=>(by cases h),fun p hp w hr=>?_,fun w h=>(by cases h),fun p hp=>?_,by simp,by simp,by simp⟩
 · rcases hp with hp | hp
   · cases hp
   · rw [List.mem_singleton.mp hp] at hr; exact hr
 · rcases hp with hp | hp
   · cases hp
   · rw [List.mem_singleton.mp hp]; exact h
theorem DfJ.empty {S:List (List Stm)}{st:List Stm}{found:List Str}{met todo:List (List Stm)}(h:DfJ ts S st found met (todo++[[]])):DfJ ts S st (found++[Str.ofString "on"]) met todo:=by
 have mv:∀ {c},InP met (todo++[[]]) found c→InP met todo (found++[Str.ofString "on"]) c:=fun {c} z=>by
  rcases z with z | z | ⟨z,z2⟩
  · exact .inl z
  · rcases List.mem_append.mp z with z | z
    · exact .inr (.inl z)
    · exact .inr (.inr ⟨List.mem_singleton.mp z,by simp⟩)
  · exact .inr (.inr ⟨z,by simp⟩)
 refine ⟨mv h.a,fun s p hm=>?_,fun p hp=>?_,fun w hw=>?_,fun p hp=>?_,h.nd,h.nn,?_⟩
 · obtain ⟨h1,h2⟩:=h.b s p hm
   exact ⟨fun f hf=>List.mem_append_left _ (h1 f hf),fun c hc=>mv (h2 c hc)⟩
 · exact h.c p (hp.imp id fun z=>List.mem_append_left _ z)
 · rcases List.mem_append.mp hw with hw | hw
   · exact h.d w hw
   · have:w=.on:=(a60 (w:=w) (v:=.on) "on" rfl).mp hw
     subst this
     exact h.c [] (.inr (by simp)) _ .nil
 · exact h.e p (hp.imp id fun z=>List.mem_append_left _ z)
 · have:=h.q
   simp only [List.length_append,List.length_singleton] at *
   omega
theorem DfJ.seen {S:List (List Stm)}{st p0:List Stm}{found:List Str}{met todo:List (List Stm)}(h:DfJ ts S st found met (todo++[p0])) (hm:p0∈met):DfJ ts S st found met todo:=by
 have mv:∀ {c},InP met (todo++[p0]) found c→InP met todo found c:=fun {c} z=>by
  rcases z with z | z | z
  · exact .inl z
  · rcases List.mem_append.mp z with z | z
    · exact .inr (.inl z)
    · rw [List.mem_singleton.mp z]; exact .inl hm
  · exact .inr (.inr z)
 refine ⟨mv h.a,fun s p hm=>?_,fun p hp=>h.c p (hp.imp id fun z=>List.mem_append_left _ z),h.d,fun p hp=>h.e p (hp.imp id fun z=>List.mem_append_left _ z),h.nd,h.nn,?_⟩
 · obtain ⟨h1,h2⟩:=h.b s p hm
   exact ⟨h1,fun c hc=>mv (h2 c hc)⟩
 · have:=h.q
   simp only [List.length_append,List.length_singleton] at *
   omega
theorem aq9 {S met:List (List Stm)}{p:List Stm}(hd:met.Nodup) (hr:∀ y∈met,y∈S) (hx:p∈S) (hn:p∉met):met.length<S.length:=by
 have:(p::met).Nodup:=List.nodup_cons.mpr ⟨hn,hd⟩
 have:=List.Nodup.length_le_of_subset this (l₂:=S) (fun y hy=>by
  rcases List.mem_cons.mp hy with rfl | hy
  · exact hx
  · exact hr y hy)
 rw [List.length_cons] at this
 omega
theorem DfJ.new {S:List (List Stm)}{st q:List Stm}{s:Stm}{found:List Str}{met todo:List (List Stm)}(hS:∀ s p,(s::p)∈S→∀ c∈(onLk ts p s).1,c∈S) (h:DfJ ts S st found met (todo++[s::q])) (hm:(s::q)∉met):DfJ ts S st (found++(onLk ts q s).2) (met++[s::q]) (todo++(onLk ts q s).1):=by
 have inS:(s::q)∈S:=h.e _ (.inr (by simp))
 have rc:∀ w,Rch ts (s::q) w→Rch ts st w:=h.c _ (.inr (by simp))
 have mv:∀ {c},InP met (todo++[s::q]) found c→InP (met++[s::q]) (todo++(onLk ts q s).1) (found++(onLk ts q s).2) c:=fun {c} z=>by
  rcases z with z | z | ⟨z,z2⟩
  · exact .inl (List.mem_append_left _ z)
  · rcases List.mem_append.mp z with z | z
    · exact .inr (.inl (List.mem_append_left _ z))
    · exact .inl (List.mem_append_right _ z)
  · exact .inr (.inr ⟨z,List.mem_append_left _ z2⟩)
 refine ⟨mv h.a,fun s' p' hm'=>?_,fun p hp w hr=>?_,fun w hw=>?_,fun p hp=>?_,?_,?_,?_⟩
 · rcases List.mem_append.mp hm' with hm' | hm'
   · obtain ⟨h1,h2⟩:=h.b s' p' hm'
     exact ⟨fun f hf=>List.mem_append_left _ (h1 f hf),fun c hc=>mv (h2 c hc)⟩
   · obtain ⟨rfl,rfl⟩:=List.cons.inj (List.mem_singleton.mp hm')
     exact ⟨fun f hf=>List.mem_append_right _ hf,fun c hc=>.inr (.inl (List.mem_append_right _ hc))⟩
 · rcases hp with hp | hp
   · rcases List.mem_append.mp hp with hp | hp
     · exact h.c p (.inl hp) w hr
     · rw [List.mem_singleton.mp hp] at hr; exact rc w hr
   · rcases List.mem_append.mp hp with hp | hp
     · exact h.c p (.inr (List.mem_append_left _ hp)) w hr
     · exact rc w (.go hp hr)
 · rcases List.mem_append.mp hw with hw | hw
   · exact h.d w hw
   · exact rc w (.fin hw)
 · rcases hp with hp | hp
   · rcases List.mem_append.mp hp with hp | hp
     · exact h.e p (.inl hp)
     · rw [List.mem_singleton.mp hp]; exact inS
   · rcases List.mem_append.mp hp with hp | hp
     · exact h.e p (.inr (List.mem_append_left _ hp))
     · exact hS s q inS p hp
 · rw [List.nodup_append]
   exact ⟨h.nd,by simp,fun a ha b hb z=>hm (by rw [← List.mem_singleton.mp hb,←z]; exact ha)⟩
 · intro hm'
   rcases List.mem_append.mp hm' with hm' | hm'
   · exact h.nn hm'
   · cases List.mem_singleton.mp hm'
 · have:=h.q
   have lt:=aq9 h.nd (fun y hy=>h.e y (.inl hy)) inS hm
   obtain ⟨l1,l2⟩:=aq8 (ts:=ts) (p:=q) (s:=s)
   simp only [List.length_append,List.length_singleton] at *
   omega
theorem DfJ.all {S:List (List Stm)}{st:List Stm}{found:List Str}{met:List (List Stm)}(h:DfJ ts S st found met []) {p:List Stm}{w:Wd}(hr:Rch ts p w):InP met [] found p→w.txt∈found:=by
 induction hr with
 | nil =>
   intro hi
   rcases hi with hi | hi | ⟨_,hi⟩
   · exact absurd hi h.nn
   · cases hi
   · exact hi
 | go hc _ ih =>
   intro hi
   rcases hi with hi | hi | ⟨hi,_⟩
   · exact ih ((h.b _ _ hi).2 _ hc)
   · cases hi
   · cases hi
 | fin hf =>
   intro hi
   rcases hi with hi | hi | ⟨hi,_⟩
   · exact (h.b _ _ hi).1 _ hf
   · cases hi
   · cases hi
theorem DfJ.done {S:List (List Stm)}{st:List Stm}{found:List Str}{met:List (List Stm)}(h:DfJ ts S st found met []) (w:Wd):w.txt∈found↔Rch ts st w:=⟨h.d w,fun hr=>h.all hr h.a⟩
def sufs (f:Stm→List (List Stm)):List Stm→List (List Stm)
 | []=>[]
 | s::b=>(s::b)::((f s).map (·++b)++sufs f b)
def innP (ts:Tks):Nat→Stm→List (List Stm)
 | 0,_=>[]
 | n+1,.test _ x y=>sufs (innP ts n) x++sufs (innP ts n) y
 | n+1,.loop x=>[mkL]::(sufs (innP ts n) x).map (·++[mkL])
 | _+1,.wait _ _=>[]
 | _+1,.put _ _=>[]
 | n+1,.plain ps=>match ps with
   | [.s k,.s nm]=>if k="call" then (match a22 ts nm with | some b=>[mkC]::(sufs (innP ts n) b).map (·++[mkC]) | none=>[]) else []
   | _=>[]
def Dp (ts:Tks):Nat→Stm→Prop
 | 0,_=>False
 | n+1,.test _ x y=>(∀ s∈x,Dp ts n s)∧∀ s∈y,Dp ts n s
 | n+1,.loop x=>∀ s∈x,Dp ts n s
 | _+1,.wait _ _=>True
 | _+1,.put _ _=>True
 | n+1,.plain ps=>match ps with
   | [.s k,.s nm]=>k="call"→∀ b,a22 ts nm=some b→∀ s∈b,Dp ts n s
   | _=>True
theorem a54 {f:Stm→List (List Stm)}{b:List Stm}(h:b≠[]):b∈sufs f b:=by
 cases b with
 | nil=>exact absurd rfl h
 | cons s b=>exact List.mem_cons_self
theorem ah0 {f:Stm→List (List Stm)}(hf:∀ s,[]∉f s):∀ {b:List Stm},[]∉sufs f b
 | [],h=>by cases h
 | s::b,h=>by
   rcases List.mem_cons.mp h with h | h
   · cases h
   · rcases List.mem_append.mp h with h | h
     · obtain ⟨x,hx,e⟩:=List.mem_map.mp h
       have:=List.append_eq_nil_iff.mp e
       rw [this.1] at hx
       exact hf s hx
     · exact ah0 hf h
def Cld (f:List (List Stm)) (p c:List Stm):Prop:=(∃ π∈f,c=π++p)∨c=p∨bhd mkL p=some c∨bhd mkC p=some c
theorem an9 {f:Stm→List (List Stm)}{lp:Bool}(hG:GoodS ts G) (hf:∀ s,[]∉f s) {P:Stm→Prop}
 (h1:∀ s q,G lp s→P s→∀ c∈(onLk ts q s).1,Cld (f s) q c)
 (h2:∀ s q,G lp s→P s→∀ h t,(h::t)∈f s→∀ c∈(onLk ts (t++q) h).1,Cld (f s) q c) :
 ∀ {b p:List Stm},(∀ s∈b,G lp s)→(∀ s∈b,P s)→∀ h t,(h::t)∈sufs f b→∀ c∈(onLk ts (t++p) h).1,Cld (sufs f b) p c
 | [],p,_,_,h,t,hm,_,_=>by cases hm
 | s::b,p,hg,hp,h,t,hm,c,hc=>by
   have hb:∀ x∈b,G lp x:=fun x hx=>hg x (by simp [hx])
   have nmb:NoM b:=fun x hx=>hG.nm lp x (hb x hx)
   have up:∀ {c},Cld (f s) (b++p) c→Cld (sufs f (s::b)) p c:=fun {c} z=>by
    rcases z with ⟨π,hπ,rfl⟩ | rfl | z | z
    · exact .inl ⟨π++b,List.mem_cons_of_mem _ (List.mem_append_left _ (List.mem_map.mpr ⟨π,hπ,rfl⟩)),by rw [List.append_assoc]⟩
    · by_cases hn:b=[]
      · subst hn; exact .inr (.inl rfl)
      · exact .inl ⟨b,List.mem_cons_of_mem _ (List.mem_append_right _ (a54 hn)),rfl⟩
    · rw [aa0 (.inr rfl) nmb] at z; exact .inr (.inr (.inl z))
    · rw [aa0 (.inl rfl) nmb] at z; exact .inr (.inr (.inr z))
   rcases List.mem_cons.mp hm with e | hm
   · obtain ⟨rfl,rfl⟩:=List.cons.inj e
     exact up (h1 h (t++p) (hg h (by simp)) (hp h (by simp)) c hc)
   · rcases List.mem_append.mp hm with hm | hm
     · obtain ⟨π,hπ,e⟩:=List.mem_map.mp hm
       cases π with
       | nil=>exact absurd hπ (hf s)
       | cons h' t' =>
         obtain ⟨rfl,rfl⟩:=List.cons.inj e
         rw [show t'.append b++p=t'++(b++p) from List.append_assoc t' b p] at hc
         exact up (h2 s (b++p) (hg s (by simp)) (hp s (by simp)) _ _ hπ c hc)
     · rcases an9 hG hf h1 h2 hb (fun x hx=>hp x (by simp [hx])) h t hm c hc with ⟨π,hπ,e⟩ | z
       · exact .inl ⟨π,List.mem_cons_of_mem _ (List.mem_append_right _ hπ),e⟩
       · exact .inr z
theorem al1:∀ (n:Nat) (s:Stm),[]∉innP ts n s
 | 0,s,h=>by simp [innP] at h
 | n+1,.test _ x y,h=>by
   rcases List.mem_append.mp h with h | h
   · exact ah0 (al1 n) h
   · exact ah0 (al1 n) h
 | n+1,.loop x,h=>by
   rcases List.mem_cons.mp h with h | h
   · cases h
   · obtain ⟨x,_,e⟩:=List.mem_map.mp h
     simp at e
 | _+1,.wait _ _,h=>by cases h
 | _+1,.put _ _,h=>by cases h
 | n+1,.plain ps,h=>by
   unfold innP at h
   split at h
   · split at h
     · split at h
       · rcases List.mem_cons.mp h with h | h
         · cases h
         · obtain ⟨x,_,e⟩:=List.mem_map.mp h
           simp at e
       · cases h
     · cases h
   · cases h
variable {ts:Tks}{G:Bool→Stm→Prop}
theorem be6 {p:List Stm}{k:Str}{r:List Pt}(h:¬ k="call"):∀ c∈(plL ts p k r).1,c=p∨bhd mkL p=some c∨bhd mkC p=some c:=by
 intro c hc
 unfold plL at hc
 rw [if_neg h] at hc
 split at hc
 · exact .inl (List.mem_singleton.mp hc)
 · split at hc
   · rename_i q hq
     rw [List.mem_singleton.mp hc]
     split at hq
     · exact .inr (.inl hq)
     · split at hq
       · exact .inr (.inr hq)
       · cases hq
   · split at hc <;> cases hc
theorem ar0 (hG:GoodS ts G):∀ (n:Nat) (lp:Bool) (s:Stm),G lp s→Dp ts n s→(∀ q,∀ c∈(onLk ts q s).1,Cld (innP ts n s) q c)∧∀ q h t,(h::t)∈innP ts n s→∀ c∈(onLk ts (t++q) h).1,Cld (innP ts n s) q c
 | 0,_,_,_,h=>absurd h (by simp [Dp])
 | n+1,lp,s,hg,hd=>by
   have bd:∀ (lp:Bool) {b p:List Stm},(∀ s∈b,G lp s)→(∀ s∈b,Dp ts n s)→∀ h t,(h::t)∈sufs (innP ts n) b→∀ c∈(onLk ts (t++p) h).1,Cld (sufs (innP ts n) b) p c:=fun lp b p g d =>
    an9 hG (al1 n) (fun s q g d=>(ar0 hG n lp s g d).1 q) (fun s q g d=>(ar0 hG n lp s g d).2 q) g d
   have mk:∀ {m:Stm}{x:List Stm}{q:List Stm}(hm:m=mkC∨m=mkL) (lp:Bool) (g:∀ s∈x,G lp s) (d:∀ s∈x,Dp ts n s) (F:List (List Stm)),F=[m]::(sufs (innP ts n) x).map (·++[m])→(∀ c∈(onLk ts q m).1,Cld F q c)→∀ h t,(h::t)∈F→∀ c∈(onLk ts (t++q) h).1,Cld F q c:=fun {m x q} hm lp g d F hF h0 h t ht c hc=>by
    subst hF
    rcases List.mem_cons.mp ht with e | ht
    · obtain ⟨rfl,rfl⟩:=List.cons.inj e
      exact h0 c hc
    · obtain ⟨π,hπ,e⟩:=List.mem_map.mp ht
      cases π with
      | nil=>exact absurd hπ (ah0 (al1 n))
      | cons h' t' =>
        obtain ⟨rfl,rfl⟩:=List.cons.inj e
        rw [show t'.append [m]++q=t'++(m::q) from List.append_assoc t' [m] q] at hc
        rcases bd lp g d h' t' hπ c hc with ⟨π,h1,e⟩ | rfl | z | z
        · exact .inl ⟨π++[m],List.mem_cons_of_mem _ (List.mem_map.mpr ⟨π,h1,rfl⟩),by rw [e,List.append_assoc]; rfl⟩
        · exact .inl ⟨[m],List.mem_cons_self,rfl⟩
        · rcases hm with rfl | rfl
          · rw [bo7] at z; cases z
          · rw [aq6] at z; exact .inr (.inl (Option.some.inj z).symm)
        · rcases hm with rfl | rfl
          · rw [az3] at z; exact .inr (.inl (Option.some.inj z).symm)
          · rw [az4] at z; exact .inr (.inr (.inr z))
   cases s with
   | wait k bs=>exact ⟨fun q c hc=>(by cases hc),fun q h t hm=>(by cases hm)⟩
   | put k e=>exact ⟨fun q c hc=>.inr (.inl (List.mem_singleton.mp hc)),fun q h t hm=>(by cases hm)⟩
   | test c0 x y =>
     obtain ⟨g1,g2⟩:=hG.t lp c0 x y hg
     obtain ⟨d1,d2⟩:=hd
     have le:∀ {c p:List Stm},Cld (sufs (innP ts n) x) p c→Cld (innP ts (n+1) (.test c0 x y)) p c:=fun {c p} z=>by
      rcases z with ⟨π,h,e⟩ | z
      · exact .inl ⟨π,List.mem_append_left _ h,e⟩
      · exact .inr z
     have ri:∀ {c p:List Stm},Cld (sufs (innP ts n) y) p c→Cld (innP ts (n+1) (.test c0 x y)) p c:=fun {c p} z=>by
      rcases z with ⟨π,h,e⟩ | z
      · exact .inl ⟨π,List.mem_append_right _ h,e⟩
      · exact .inr z
     refine ⟨fun q c hc=>?_,fun q h t hm c hc=>?_⟩
     · have hc:c=x++q∨c=y++q:=by simpa [onLk] using hc
       rcases hc with rfl | rfl
       · by_cases hn:x=[]
         · subst hn; exact .inr (.inl rfl)
         · exact le (.inl ⟨x,a54 hn,rfl⟩)
       · by_cases hn:y=[]
         · subst hn; exact .inr (.inl rfl)
         · exact ri (.inl ⟨y,a54 hn,rfl⟩)
     · rcases List.mem_append.mp hm with hm | hm
       · exact le (bd lp g1 d1 h t hm c hc)
       · exact ri (bd lp g2 d2 h t hm c hc)
   | loop x =>
     refine ⟨fun q c hc=>?_,fun q h t hm c hc=>mk (.inr rfl) true (hG.l lp x hg) hd _ rfl (fun c hc=>by rw [ak9] at hc; cases hc) h t hm c hc⟩
     have hc:c=x++mkL::q:=by simpa [onLk] using hc
     subst hc
     by_cases hn:x=[]
     · subst hn; exact .inl ⟨[mkL],List.mem_cons_self,rfl⟩
     · exact .inl ⟨x++[mkL],List.mem_cons_of_mem _ (List.mem_map.mpr ⟨x,a54 hn,rfl⟩),by rw [List.append_assoc]; rfl⟩
   | plain ps =>
     have other:∀ {k:Str}{r:List Pt},ps=.s k::r→¬ k="call"→∀ q,∀ c∈(onLk ts q (.plain ps)).1,Cld (innP ts (n+1) (.plain ps)) q c:=fun {k r} e hk q c hc=>by
      subst e
      rcases be6 hk c hc with z | z | z
      · exact .inr (.inl z)
      · exact .inr (.inr (.inl z))
      · exact .inr (.inr (.inr z))
     rcases ps with _ | ⟨a,r⟩
     · exact ⟨fun q c hc=>(by cases hc),fun q h t hm=>(by cases hm)⟩
     rcases a with k | z
     rotate_left
     · exact ⟨fun q c hc=>(by cases hc),fun q h t hm=>(by unfold innP at hm; simp at hm)⟩
     rcases r with _ | ⟨a2,r2⟩
     · refine ⟨fun q c hc=>?_,fun q h t hm=>(by unfold innP at hm; simp at hm)⟩
       by_cases hk:k="call"
       · subst hk
         have e0:(plL ts q (Str.ofString "call") []).1=[]:=by unfold plL; rw [if_pos rfl]; rfl
         have hc:c∈(plL ts q (Str.ofString "call") []).1:=hc
         rw [e0] at hc; cases hc
       · exact other rfl hk q c hc
     rcases a2 with nm | z
     rotate_left
     · refine ⟨fun q c hc=>?_,fun q h t hm=>(by unfold innP at hm; simp at hm)⟩
       by_cases hk:k="call"
       · subst hk
         have e0:(plL ts q (Str.ofString "call") (.i z::r2)).1=[]:=by unfold plL; rw [if_pos rfl]; rfl
         have hc:c∈(plL ts q (Str.ofString "call") (.i z::r2)).1:=hc
         rw [e0] at hc; cases hc
       · exact other rfl hk q c hc
     rcases r2 with _ | ⟨y,r3⟩
     rotate_left
     · refine ⟨fun q c hc=>?_,fun q h t hm=>(by unfold innP at hm; simp at hm)⟩
       by_cases hk:k="call"
       · subst hk
         have e0:(plL ts q (Str.ofString "call") (.s nm::y::r3)).1=[]:=by unfold plL; rw [if_pos rfl]; rfl
         have hc:c∈(plL ts q (Str.ofString "call") (.s nm::y::r3)).1:=hc
         rw [e0] at hc; cases hc
       · exact other rfl hk q c hc
     · by_cases hk:k="call"
       · subst hk
         cases hb:a22 ts nm with
         | none =>
           refine ⟨fun q c hc=>?_,fun q h t hm=>?_⟩
           · have hc:c∈(plL ts q (Str.ofString "call") [.s nm]).1:=hc
             unfold plL at hc
             rw [if_pos rfl] at hc
             dsimp only at hc
             rw [hb] at hc
             cases hc
           · unfold innP at hm
             dsimp only at hm
             rw [if_pos rfl,hb] at hm
             cases hm
         | some b =>
           have eF:innP ts (n+1) (.plain [.s "call",.s nm])=[mkC]::(sufs (innP ts n) b).map (·++[mkC]):=by
            conv=>lhs; unfold innP
            dsimp only
            rw [if_pos rfl,hb]
           have d:∀ s∈b,Dp ts n s:=hd rfl b hb
           have g:∀ s∈b,G false s:=hG.c lp nm b hg hb
           refine ⟨fun q c hc=>?_,fun q h t hm c hc=>mk (.inl rfl) false g d _ eF (fun c hc=>by rw [al0] at hc; exact .inr (.inl (List.mem_singleton.mp hc))) h t hm c hc⟩
           rw [b00 hb] at hc
           have hc:=List.mem_singleton.mp hc
           subst hc
           rw [eF]
           by_cases hn:b=[]
           · subst hn; exact .inl ⟨[mkC],List.mem_cons_self,rfl⟩
           · exact .inl ⟨b++[mkC],List.mem_cons_of_mem _ (List.mem_map.mpr ⟨b,a54 hn,rfl⟩),by rw [List.append_assoc]; rfl⟩
       · refine ⟨other rfl hk,fun q h t hm=>?_⟩
         unfold innP at hm
         dsimp only at hm
         rw [if_neg hk] at hm
         cases hm
def allP (ts:Tks) (n:Nat) (b:List Stm):List (List Stm):=[]::sufs (innP ts n) b
theorem be7 (hG:GoodS ts G) {n:Nat}{lp:Bool}{b:List Stm}(hg:∀ s∈b,G lp s) (hd:∀ s∈b,Dp ts n s):b∈allP ts n b∧∀ s p,(s::p)∈allP ts n b→∀ c∈(onLk ts p s).1,c∈allP ts n b:=by
 refine ⟨?_,fun s p hm c hc=>?_⟩
 · by_cases hn:b=[]
   · subst hn; exact List.mem_cons_self
   · exact List.mem_cons_of_mem _ (a54 hn)
 · rcases List.mem_cons.mp hm with e | hm
   · cases e
   · have:=an9 hG (al1 n) (fun s q g d=>(ar0 hG n lp s g d).1 q) (fun s q g d=>(ar0 hG n lp s g d).2 q) hg hd (p:=[]) s p hm c (by rw [List.append_nil]; exact hc)
     rcases this with ⟨π,hπ,e⟩ | z | z | z
     · rw [List.append_nil] at e
       rw [e]
       exact List.mem_cons_of_mem _ hπ
     · rw [z]; exact List.mem_cons_self
     · cases z
     · cases z
theorem bo9 {p q:Pt}(h:p.tr=q.tr):p=q:=by
 cases p <;> cases q <;> simp [Pt.tr] at h <;> simp [h]
theorem bp0 {p:Pt}{xs:List Tr}:p.tr≠.tup xs:=by cases p <;> simp [Pt.tr]
theorem b02 {p:Pt}{xs:List Tr}:p.tr≠.lst xs:=by cases p <;> simp [Pt.tr]
theorem ao0:∀ {ps qs:List Pt},ps.map Pt.tr=qs.map Pt.tr→ps=qs
 | [],[],_=>rfl
 | [],_::_,h=>by simp at h
 | _::_,[],h=>by simp at h
 | p::ps,q::qs,h=>by
   simp only [List.map_cons,List.cons.injEq] at h
   rw [bo9 h.1,ao0 h.2]
theorem b03 {a b:Bool}(h:bd2 a=bd2 b):a=b:=by
 cases a <;> cases b <;> first | rfl | exact absurd h (by decide +kernel)
theorem b04 {a b:Bool}(h:b51 a=b51 b):a=b:=by
 cases a <;> cases b <;> first | rfl | exact absurd h (by decide +kernel)
theorem al2:∀ {a b:Ex},a.tr=b.tr→a=b
 | .num i,.num j,h=>by simp [Ex.tr] at h; rw [h]
 | .box i,.box j,h=>by simp [Ex.tr] at h; rw [h]
 | .two k a b,.two l c d,h=>by
   simp only [Ex.tr,Tr.tup.injEq,List.cons.injEq,Tr.str.injEq,and_true] at h
   rw [b03 h.1,al2 h.2.1,al2 h.2.2]
 | .num i,.box j,h=>by simp [Ex.tr] at h
 | .box i,.num j,h=>by simp [Ex.tr] at h
 | .num i,.two _ _ _,h=>by simp [Ex.tr] at h
 | .two _ _ _,.num i,h=>by simp [Ex.tr] at h
 | .box i,.two _ _ _,h=>by simp [Ex.tr] at h
 | .two _ _ _,.box i,h=>by simp [Ex.tr] at h
theorem ar1 (k:Bool):b51 k≠Str.ofString "both":=by cases k <;> decide +kernel
theorem ar2:∀ {a b:Cd},a.tr=b.tr→a=b
 | .cmp k a b,.cmp l c d,h=>by
   simp only [Cd.tr,Tr.tup.injEq,List.cons.injEq,Tr.str.injEq,and_true] at h
   rw [b04 h.1,al2 h.2.1,al2 h.2.2]
 | .nt a,.nt b,h=>by
   simp only [Cd.tr,Tr.tup.injEq,List.cons.injEq,and_true,true_and] at h
   rw [ar2 h]
 | .both a b,.both c d,h=>by
   simp only [Cd.tr,Tr.tup.injEq,List.cons.injEq,and_true,true_and] at h
   rw [ar2 h.1,ar2 h.2]
 | .cmp k a b,.nt _,h=>by simp [Cd.tr] at h
 | .nt _,.cmp _ _ _,h=>by simp [Cd.tr] at h
 | .nt _,.both _ _,h=>by simp [Cd.tr] at h
 | .both _ _,.nt _,h=>by simp [Cd.tr] at h
 | .cmp k a b,.both _ _,h=>by
   simp only [Cd.tr,Tr.tup.injEq,List.cons.injEq,Tr.str.injEq] at h
   exact absurd h.1 (ar1 k)
 | .both _ _,.cmp k a b,h=>by
   simp only [Cd.tr,Tr.tup.injEq,List.cons.injEq,Tr.str.injEq] at h
   exact absurd h.1.symm (ar1 k)
theorem bp1 (e:Ex):∃ xs,e.tr=.tup xs:=by cases e <;> exact ⟨_,rfl⟩
theorem b05 {ps:List Pt}{s:Stm}(h:(Stm.plain ps).tr=s.tr):∃ qs,s=.plain qs:=by
 cases s with
 | plain qs=>exact ⟨qs,rfl⟩
 | put n e =>
   exfalso
   obtain ⟨xs,he⟩:=bp1 e
   simp only [Stm.tr,Tr.tup.injEq,he] at h
   have:(Tr.tup xs)∈ps.map Pt.tr:=by rw [h]; simp
   obtain ⟨p,_,hp⟩:=List.mem_map.mp this
   exact bp0 hp
 | test c a b =>
   exfalso
   simp only [Stm.tr,Tr.tup.injEq] at h
   have:(Tr.lst (Stm.trs a))∈ps.map Pt.tr:=by rw [h]; simp
   obtain ⟨p,_,hp⟩:=List.mem_map.mp this
   exact b02 hp
 | loop a =>
   exfalso
   simp only [Stm.tr,Tr.tup.injEq] at h
   have:(Tr.lst (Stm.trs a))∈ps.map Pt.tr:=by rw [h]; simp
   obtain ⟨p,_,hp⟩:=List.mem_map.mp this
   exact b02 hp
 | wait n a =>
   exfalso
   simp only [Stm.tr,Tr.tup.injEq] at h
   have:(Tr.lst (Br.trs a))∈ps.map Pt.tr:=by rw [h]; simp
   obtain ⟨p,_,hp⟩:=List.mem_map.mp this
   exact b02 hp
mutual
theorem b06:∀ {s q:Stm},s.tr=q.tr→s=q
 | .plain ps,q,h=>by
   obtain ⟨qs,rfl⟩:=b05 h
   simp only [Stm.tr,Tr.tup.injEq] at h
   rw [ao0 h]
 | .put n e,q,h=>by
   cases q with
   | plain ps=>obtain ⟨_,hh⟩:=b05 h.symm; cases hh
   | put m f =>
     simp only [Stm.tr,Tr.tup.injEq,List.cons.injEq,Tr.str.injEq,and_true,true_and] at h
     rw [h.1,al2 h.2]
   | loop _=>simp [Stm.tr] at h
   | wait _ _=>simp [Stm.tr] at h
   | test _ _ _=>simp [Stm.tr] at h
 | .loop b,q,h=>by
   cases q with
   | plain ps=>obtain ⟨_,hh⟩:=b05 h.symm; cases hh
   | put m f=>simp [Stm.tr] at h
   | loop c =>
     simp only [Stm.tr,Tr.tup.injEq,List.cons.injEq,Tr.lst.injEq,and_true,true_and] at h
     rw [a73 h]
   | wait _ _=>simp [Stm.tr] at h
   | test _ _ _=>simp [Stm.tr] at h
 | .wait n bs,q,h=>by
   cases q with
   | plain ps=>obtain ⟨_,hh⟩:=b05 h.symm; cases hh
   | put m f=>simp [Stm.tr] at h
   | loop c=>simp [Stm.tr] at h
   | wait m cs =>
     simp only [Stm.tr,Tr.tup.injEq,List.cons.injEq,Tr.lst.injEq,Tr.int.injEq,and_true,true_and] at h
     rw [h.1,b07 h.2]
   | test _ _ _=>simp [Stm.tr] at h
 | .test c a b,q,h=>by
   cases q with
   | plain ps=>obtain ⟨_,hh⟩:=b05 h.symm; cases hh
   | put m f=>simp [Stm.tr] at h
   | loop c=>simp [Stm.tr] at h
   | wait m cs=>simp [Stm.tr] at h
   | test d x y =>
     simp only [Stm.tr,Tr.tup.injEq,List.cons.injEq,Tr.lst.injEq,and_true,true_and] at h
     rw [ar2 h.1,a73 h.2.1,a73 h.2.2]
theorem a73:∀ {s q:List Stm},Stm.trs s=Stm.trs q→s=q
 | [],[],_=>rfl
 | [],_::_,h=>by simp [Stm.trs] at h
 | _::_,[],h=>by simp [Stm.trs] at h
 | s::r,q::t,h=>by
   simp only [Stm.trs,List.cons.injEq] at h
   rw [b06 h.1,a73 h.2]
theorem b07:∀ {s q:List Br},Br.trs s=Br.trs q→s=q
 | [],[],_=>rfl
 | [],_::_,h=>by simp [Br.trs] at h
 | _::_,[],h=>by simp [Br.trs] at h
 | s::r,q::t,h=>by
   simp only [Br.trs,List.cons.injEq] at h
   rw [bp2 h.1,b07 h.2]
theorem bp2:∀ {s q:Br},s.tr=q.tr→s=q
 | .mk p b,.mk q c,h=>by
   simp only [Br.tr,Tr.tup.injEq,List.cons.injEq,Tr.lst.injEq,and_true] at h
   rw [ao0 h.1,a73 h.2]
end
mutual
def Stm.sz:Stm→Nat
 | .plain _=>1
 | .put _ _=>1
 | .loop b=>1+Stm.szs b
 | .wait _ bs=>1+Br.szs bs
 | .test _ a b=>1+Stm.szs a+Stm.szs b
def Br.sz:Br→Nat
 | .mk _ b=>Stm.szs b
def Stm.szs:List Stm→Nat
 | []=>0
 | s::r=>s.sz+Stm.szs r
def Br.szs:List Br→Nat
 | []=>0
 | s::r=>s.sz+Br.szs r
end
def clP:List Pt→Nat
 | [.s k,.s _]=>if k="call" then 1 else 0
 | _=>0
mutual
def Stm.cl:Stm→Nat
 | .plain ps=>clP ps
 | .put _ _=>0
 | .loop b=>Stm.cls b
 | .wait _ bs=>Br.cls bs
 | .test _ a b=>Stm.cls a+Stm.cls b
def Br.cl:Br→Nat
 | .mk _ b=>Stm.cls b
def Stm.cls:List Stm→Nat
 | []=>0
 | s::r=>s.cl+Stm.cls r
def Br.cls:List Br→Nat
 | []=>0
 | s::r=>s.cl+Br.cls r
end
theorem a44 {ts:Tks}{B:Nat}{P:Stm→Prop}{f:Stm→List (List Stm)}(h:∀ s,P s→1+(f s).length≤2*s.sz+s.cl*(B+1)):∀ {b:List Stm},(∀ s∈b,P s)→(sufs f b).length≤2*Stm.szs b+Stm.cls b*(B+1)
 | [],_=>Nat.zero_le _
 | s::b,hp=>by
   have h1:=h s (hp s (by simp))
   have h2:=a44 (ts:=ts) h (b:=b) fun x hx=>hp x (by simp [hx])
   simp only [sufs,List.length_cons,List.length_append,List.length_map,Stm.szs,Stm.cls,Nat.add_mul]
   omega
def plW (nm:List Str) (lp:Bool) (ps:List Pt):Prop:=ps=[.s "say",.s "on"]∨ps=[.s "hand",.i 3,.s "on"]∨(∃ c∈nm,ps=[.s "call",.s c])∨(lp=true∧(ps=[.s "again"]∨ps=[.s "leave"]))∨ps=[.s "back"]∨ps=[.s "stop"]
def wfS (nm:List Str):Nat→Bool→Stm→Prop
 | _,lp,.plain ps=>plW nm lp ps
 | _,_,.put n e=>n="a"∧e=.num 1
 | 0,_,.loop _=>False
 | 0,_,.test _ _ _=>False
 | 0,_,.wait _ _=>False
 | k+1,_,.loop x=>x.length≤6∧∀ s∈x,wfS nm k true s
 | k+1,lp,.test c x y=>c=.cmp true (.num 1) (.num 2)∧(x.length≤6∧∀ s∈x,wfS nm k lp s)∧y.length≤6∧∀ s∈y,wfS nm k lp s
 | k+1,lp,.wait n bs=>n=0∧bs.length≤2∧∀ b∈bs,∃ p x,b=.mk p x∧(x.length≤6∧∀ s∈x,wfS nm k lp s)∧(p=[.s "key",.i 1]∨p=[.s "other"])
def wfB (nm:List Str) (k:Nat) (lp:Bool) (b:List Stm):Prop:=b.length≤6∧∀ s∈b,wfS nm k lp s
structure TkW (ts:Tks) (ns:List Str):Prop where
 t:∀ i n,ns[i]?=some n→∃ b,a22 ts n=some b∧wfB (ns.drop (i+1)) 5 false b∧Stm.szs b≤45∧Stm.cls b≤4
 l:ns.length≤4
variable {ts:Tks}{ns:List Str}
theorem TkW.call (h:TkW ts ns) {j:Nat}{c:Str}(hc:c∈ns.drop j):∃ i b,j≤i∧i<ns.length∧a22 ts c=some b∧wfB (ns.drop (i+1)) 5 false b∧Stm.szs b≤45∧Stm.cls b≤4:=by
 obtain ⟨k,hk⟩:=List.mem_iff_getElem?.mp hc
 rw [List.getElem?_drop] at hk
 obtain ⟨b,h1,h2,h3,h4⟩:=h.t _ _ hk
 exact ⟨j+k,b,Nat.le_add_right _ _,(List.getElem?_eq_some_iff.mp hk).1,h1,h2,h3,h4⟩
def isG (ns:List Str) (lp:Bool) (s:Stm):Prop:=∃ j k,wfS (ns.drop j) k lp s
theorem wf_plain {nm:List Str}{k:Nat}{lp:Bool}{ps:List Pt}:wfS nm k lp (.plain ps)↔plW nm lp ps:=by cases k <;> exact Iff.rfl
theorem bp3 (h:TkW ts ns):GoodS ts (isG ns) where
 nm:=fun lp s ⟨j,k,hw⟩=>by
  constructor
  · rintro rfl
    have:=wf_plain.mp hw
    rcases this with z | z | ⟨c,_,z⟩ | ⟨_,z | z⟩ | z | z <;> simp at z <;> exact absurd z (by decide +kernel)
  · rintro rfl
    have:=wf_plain.mp hw
    rcases this with z | z | ⟨c,_,z⟩ | ⟨_,z | z⟩ | z | z <;> simp at z <;> exact absurd z (by decide +kernel)
 t:=fun lp c x y ⟨j,k,hw⟩=>by
  cases k with
  | zero=>exact hw.elim
  | succ k=>exact ⟨fun s hs=>⟨j,k,hw.2.1.2 s hs⟩,fun s hs=>⟨j,k,hw.2.2.2 s hs⟩⟩
 l:=fun lp x ⟨j,k,hw⟩=>by
  cases k with
  | zero=>exact hw.elim
  | succ k=>exact fun s hs=>⟨j,k,hw.2 s hs⟩
 c:=fun lp n b ⟨j,k,hw⟩ hb s hs=>by
  have:=wf_plain.mp hw
  rcases this with z | z | ⟨c,hc,z⟩ | ⟨_,z | z⟩ | z | z
  · simp at z; exact absurd z.1 (by decide +kernel)
  · simp at z
  · simp at z
    subst z
    obtain ⟨i,b',_,_,h1,h2,_⟩:=h.call hc
    rw [h1] at hb
    obtain rfl:=Option.some.inj hb
    exact ⟨i+1,5,h2.2 s hs⟩
  · simp at z
  · simp at z
  · simp at z
  · simp at z
 a:=fun lp hw=>by
  rcases hw with ⟨j,k,hw⟩ | ⟨j,k,hw⟩
  · rcases wf_plain.mp hw with z | z | ⟨c,_,z⟩ | ⟨z,_⟩ | z | z
    · simp at z
    · simp at z
    · simp at z
    · exact z
    · simp at z; exact absurd z (by decide +kernel)
    · simp at z; exact absurd z (by decide +kernel)
  · rcases wf_plain.mp hw with z | z | ⟨c,_,z⟩ | ⟨z,_⟩ | z | z
    · simp at z
    · simp at z
    · simp at z
    · exact z
    · simp at z; exact absurd z (by decide +kernel)
    · simp at z; exact absurd z (by decide +kernel)
 o:=fun lp ⟨j,k,hw⟩=>by
  rcases wf_plain.mp hw with z | z | ⟨c,_,z⟩ | ⟨_,z | z⟩ | z | z <;> simp at z <;> exact absurd z (by decide +kernel)
theorem bp4 {f:Stm→Option (List Wd)}:∀ {b:List Stm}{e:List Wd},(∀ s∈b,∃ r,f s=some r)→∃ R,eL f b e=some R
 | [],e,_=>⟨e,rfl⟩
 | s::b,e,h=>by
   unfold eL
   by_cases ho:Wd.on∈e
   · rw [if_pos ho]
     obtain ⟨r,hr⟩:=h s (by simp)
     rw [hr]
     exact bp4 fun x hx=>h x (by simp [hx])
   · rw [if_neg ho]
     exact ⟨e,rfl⟩
theorem al3 {f:Stm→Option (List Wd)}{b:List Stm}(hl:b.length≤6) (h:∀ s∈b,∃ r,f s=some r):∃ R,eBf f b=some R:=by
 obtain ⟨R,hR⟩:=bp4 (e:=[.on]) h
 unfold eBf
 rw [if_pos (by omega),hR]
 exact ⟨_,rfl⟩
theorem a64 {n:Nat}(w:Wd):eS ts (n+1) (.plain [.s w.txt])=(endW w.txt).map fun w=>[w]:=rfl
theorem b08 {n:Nat}{x:List Stm}:eS ts (n+1) (.loop x)=(eBf (eS ts n) x).map ak7:=rfl
theorem b09 {n:Nat}{c:Cd}{x y:List Stm}:eS ts (n+1) (.test c x y)=(eBf (eS ts n) x).bind fun a=>(eBf (eS ts n) y).map fun b=>a++b:=rfl
theorem be8 {n:Nat}{c:Str}:eS ts (n+1) (.plain [.s "call",.s c])=(a22 ts c).bind fun b=>(eBf (eS ts n) b).map ac8:=by
 show (if Str.ofString "call"=Str.ofString "call" then (a22 ts c).bind fun b=>(eBf (eS ts n) b).map ac8 else if Str.ofString "call"=Str.ofString "say" then some [Wd.on] else none)=_
 rw [if_pos rfl]
theorem a65 (w:Wd):∃ v,endW w.txt=some v:=by
 cases h:endW w.txt with
 | some v=>exact ⟨v,rfl⟩
 | none=>exact absurd rfl (ak6 h w)
theorem ac9:∀ (n:Nat) (s:Stm),Dp ts n s→Dp ts (n+1) s
 | 0,s,h=>h.elim
 | n+1,.test c x y,h=>⟨fun s hs=>ac9 n s (h.1 s hs),fun s hs=>ac9 n s (h.2 s hs)⟩
 | n+1,.loop x,h=>fun s hs=>ac9 n s (h s hs)
 | n+1,.wait _ _,h=>trivial
 | n+1,.put _ _,h=>trivial
 | n+1,.plain ps,h=>by
   unfold Dp at h ⊢
   split
   · exact fun hk b hb s hs=>ac9 n s (h hk b hb s hs)
   · trivial
theorem bp5 {n m:Nat}(hnm:n≤m) {s:Stm}(h:Dp ts n s):Dp ts m s:=by
 obtain ⟨k,rfl⟩:=Nat.exists_eq_add_of_le hnm
 induction k with
 | zero=>exact h
 | succ k ih=>exact ac9 _ _ (ih (Nat.le_add_right _ _))
theorem bp6 (h:TkW ts ns):∀ (d j:Nat),ns.length≤j+d→∀ (k:Nat),k≤5→∀ (lp:Bool) (s:Stm),wfS (ns.drop j) k lp s→(∃ r,eS ts (6*d+k+1) s=some r)∧Dp ts (6*d+k+1) s:=by
 intro d
 induction d with
 | zero =>
   intro j hj k
   induction k with
   | zero =>
     intro _ lp s hw
     cases s with
     | plain ps =>
       rcases wf_plain.mp hw with rfl | rfl | ⟨c,hc,_⟩ | ⟨_,rfl | rfl⟩ | rfl | rfl
       · exact ⟨⟨[.on],rfl⟩,fun z=>absurd z (by decide +kernel)⟩
       · exact ⟨⟨[.on],rfl⟩,trivial⟩
       · obtain ⟨i,_,h1,h2,_⟩:=h.call hc; omega
       · obtain ⟨v,hv⟩:=a65 .again; exact ⟨⟨[v],by rw [show eS ts _ (.plain [.s "again"])=_ from a64 Wd.again,hv]; rfl⟩,trivial⟩
       · obtain ⟨v,hv⟩:=a65 .leave; exact ⟨⟨[v],by rw [show eS ts _ (.plain [.s "leave"])=_ from a64 Wd.leave,hv]; rfl⟩,trivial⟩
       · obtain ⟨v,hv⟩:=a65 .back; exact ⟨⟨[v],by rw [show eS ts _ (.plain [.s "back"])=_ from a64 Wd.back,hv]; rfl⟩,trivial⟩
       · obtain ⟨v,hv⟩:=a65 .stop; exact ⟨⟨[v],by rw [show eS ts _ (.plain [.s "stop"])=_ from a64 Wd.stop,hv]; rfl⟩,trivial⟩
     | put n e=>exact ⟨⟨_,rfl⟩,trivial⟩
     | loop x=>exact hw.elim
     | wait n bs=>exact hw.elim
     | test c x y=>exact hw.elim
   | succ k ih =>
     intro hk lp s hw
     have ih:=ih (by omega)
     cases s with
     | plain ps =>
       obtain ⟨h1,h2⟩:=ih lp (.plain ps) (wf_plain.mpr (wf_plain.mp hw))
       obtain ⟨r,hr⟩:=h1
       refine ⟨⟨r,a99 ts _ _ _ hr⟩,?_⟩
       rcases wf_plain.mp hw with rfl | rfl | ⟨c,hc,_⟩ | ⟨_,rfl | rfl⟩ | rfl | rfl
       · exact fun z=>absurd z (by decide +kernel)
       · trivial
       · obtain ⟨i,_,h1,h2,_⟩:=h.call hc; omega
       · trivial
       · trivial
       · trivial
       · trivial
     | put n e=>exact ⟨⟨_,rfl⟩,trivial⟩
     | loop x =>
       obtain ⟨R,hR⟩:=al3 hw.1 fun s hs=>(ih true s (hw.2 s hs)).1
       have hR':=ak8 (Nat.le_of_eq (show _=_+(k+1) from by rw [Nat.add_assoc])) hR
       exact ⟨⟨_,by rw [b08,hR']; rfl⟩,fun s hs=>(ih true s (hw.2 s hs)).2⟩
     | wait n bs=>exact ⟨⟨_,rfl⟩,trivial⟩
     | test c x y =>
       obtain ⟨R1,h1⟩:=al3 hw.2.1.1 fun s hs=>(ih lp s (hw.2.1.2 s hs)).1
       obtain ⟨R2,h2⟩:=al3 hw.2.2.1 fun s hs=>(ih lp s (hw.2.2.2 s hs)).1
       have h1':=ak8 (Nat.le_of_eq (show _=_+(k+1) from by rw [Nat.add_assoc])) h1
       have h2':=ak8 (Nat.le_of_eq (show _=_+(k+1) from by rw [Nat.add_assoc])) h2
       exact ⟨⟨_,by rw [b09,h1',h2']; rfl⟩,fun s hs=>(ih lp s (hw.2.1.2 s hs)).2,fun s hs=>(ih lp s (hw.2.2.2 s hs)).2⟩
 | succ d ihd =>
   intro j hj k
   have call:∀ {n:Nat}{c:Str},6*d+6≤n→c∈ns.drop j→(∃ r,eS ts (n+1) (.plain [.s "call",.s c])=some r)∧Dp ts (n+1) (.plain [.s "call",.s c]):=fun {n c} hn hc=>by
    obtain ⟨i,b,h1,h2,h3,h4,_,_⟩:=h.call hc
    have ev:∀ s∈b,(∃ r,eS ts n s=some r)∧Dp ts n s:=fun s hs=>by
     obtain ⟨⟨r,hr⟩,hd⟩:=ihd (i+1) (by omega) 5 (Nat.le_refl _) false s (h4.2 s hs)
     exact ⟨⟨r,be2 (by omega) hr⟩,bp5 (by omega) hd⟩
    obtain ⟨R,hR⟩:=al3 h4.1 fun s hs=>(ev s hs).1
    refine ⟨⟨_,by rw [be8,h3]; show (eBf (eS ts n) b).map ac8=_; rw [hR]; rfl⟩,fun _ b' hb' s hs=>?_⟩
    rw [h3] at hb'
    obtain rfl:=Option.some.inj hb'
    exact (ev s hs).2
   induction k with
   | zero =>
     intro _ lp s hw
     cases s with
     | plain ps =>
       rcases wf_plain.mp hw with rfl | rfl | ⟨c,hc,rfl⟩ | ⟨_,rfl | rfl⟩ | rfl | rfl
       · exact ⟨⟨[.on],rfl⟩,fun z=>absurd z (by decide +kernel)⟩
       · exact ⟨⟨[.on],rfl⟩,trivial⟩
       · exact call (by omega) hc
       · obtain ⟨v,hv⟩:=a65 .again; exact ⟨⟨[v],by rw [show eS ts _ (.plain [.s "again"])=_ from a64 Wd.again,hv]; rfl⟩,trivial⟩
       · obtain ⟨v,hv⟩:=a65 .leave; exact ⟨⟨[v],by rw [show eS ts _ (.plain [.s "leave"])=_ from a64 Wd.leave,hv]; rfl⟩,trivial⟩
       · obtain ⟨v,hv⟩:=a65 .back; exact ⟨⟨[v],by rw [show eS ts _ (.plain [.s "back"])=_ from a64 Wd.back,hv]; rfl⟩,trivial⟩
       · obtain ⟨v,hv⟩:=a65 .stop; exact ⟨⟨[v],by rw [show eS ts _ (.plain [.s "stop"])=_ from a64 Wd.stop,hv]; rfl⟩,trivial⟩
     | put n e=>exact ⟨⟨_,rfl⟩,trivial⟩
     | loop x=>exact hw.elim
     | wait n bs=>exact hw.elim
     | test c x y=>exact hw.elim
   | succ k ih =>
     intro hk lp s hw
     have ih:=ih (by omega)
     cases s with
     | plain ps =>
       rcases wf_plain.mp hw with rfl | rfl | ⟨c,hc,rfl⟩ | ⟨_,rfl | rfl⟩ | rfl | rfl
       · exact ⟨⟨[.on],rfl⟩,fun z=>absurd z (by decide +kernel)⟩
       · exact ⟨⟨[.on],rfl⟩,trivial⟩
       · exact call (by omega) hc
       · obtain ⟨v,hv⟩:=a65 .again; exact ⟨⟨[v],by rw [show eS ts _ (.plain [.s "again"])=_ from a64 Wd.again,hv]; rfl⟩,trivial⟩
       · obtain ⟨v,hv⟩:=a65 .leave; exact ⟨⟨[v],by rw [show eS ts _ (.plain [.s "leave"])=_ from a64 Wd.leave,hv]; rfl⟩,trivial⟩
       · obtain ⟨v,hv⟩:=a65 .back; exact ⟨⟨[v],by rw [show eS ts _ (.plain [.s "back"])=_ from a64 Wd.back,hv]; rfl⟩,trivial⟩
       · obtain ⟨v,hv⟩:=a65 .stop; exact ⟨⟨[v],by rw [show eS ts _ (.plain [.s "stop"])=_ from a64 Wd.stop,hv]; rfl⟩,trivial⟩
     | put n e=>exact ⟨⟨_,rfl⟩,trivial⟩
     | loop x =>
       obtain ⟨R,hR⟩:=al3 hw.1 fun s hs=>(ih true s (hw.2 s hs)).1
       have hR':=ak8 (Nat.le_of_eq (show _=_+(k+1) from by rw [Nat.add_assoc])) hR
       exact ⟨⟨_,by rw [b08,hR']; rfl⟩,fun s hs=>(ih true s (hw.2 s hs)).2⟩
     | wait n bs=>exact ⟨⟨_,rfl⟩,trivial⟩
     | test c x y =>
       obtain ⟨R1,h1⟩:=al3 hw.2.1.1 fun s hs=>(ih lp s (hw.2.1.2 s hs)).1
       obtain ⟨R2,h2⟩:=al3 hw.2.2.1 fun s hs=>(ih lp s (hw.2.2.2 s hs)).1
       have h1':=ak8 (Nat.le_of_eq (show _=_+(k+1) from by rw [Nat.add_assoc])) h1
       have h2':=ak8 (Nat.le_of_eq (show _=_+(k+1) from by rw [Nat.add_assoc])) h2
       exact ⟨⟨_,by rw [b09,h1',h2']; rfl⟩,fun s hs=>(ih lp s (hw.2.1.2 s hs)).2,fun s hs=>(ih lp s (hw.2.2.2 s hs)).2⟩
def bnd:Nat→Nat
 | 0=>0
 | d+1=>94+4*bnd d
theorem bp7 (h:TkW ts ns):∀ (d j:Nat),ns.length≤j+d→∀ (n k:Nat) (lp:Bool) (s:Stm),wfS (ns.drop j) k lp s→1+(innP ts n s).length≤2*s.sz+s.cl*(bnd d+1):=by
 intro d
 induction d with
 | zero =>
   intro j hj n
   induction n with
   | zero=>intro k lp s _; have:1≤s.sz:=by { cases s <;> simp [Stm.sz] <;> omega }; simp [innP]; omega
   | succ n ih =>
     intro k lp s hw
     cases s with
     | plain ps =>
       rcases wf_plain.mp hw with rfl | rfl | ⟨c,hc,_⟩ | ⟨_,rfl | rfl⟩ | rfl | rfl
       · have e:innP ts (n+1) (.plain [.s "say",.s "on"])=[]:=by unfold innP; dsimp only; rw [if_neg (by decide +kernel)]
         rw [e]; simp [Stm.sz]; omega
       · simp [innP,Stm.sz]; omega
       · obtain ⟨i,_,h1,h2,_⟩:=h.call hc; omega
       · simp [innP,Stm.sz]; omega
       · simp [innP,Stm.sz]; omega
       · simp [innP,Stm.sz]; omega
       · simp [innP,Stm.sz]; omega
     | put _ _=>simp [innP,Stm.sz]; omega
     | wait _ _=>simp [innP,Stm.sz]; omega
     | loop x =>
       cases k with
       | zero=>exact hw.elim
       | succ k =>
         have:=a44 (ts:=ts) (B:=bnd 0) (P:=fun s=>wfS (ns.drop j) k true s) (fun s hs=>ih k true s hs) hw.2
         simp only [innP,List.length_cons,List.length_map,Stm.sz,Stm.cl]
         omega
     | test c x y =>
       cases k with
       | zero=>exact hw.elim
       | succ k =>
         have h1:=a44 (ts:=ts) (B:=bnd 0) (P:=fun s=>wfS (ns.drop j) k lp s) (fun s hs=>ih k lp s hs) hw.2.1.2
         have h2:=a44 (ts:=ts) (B:=bnd 0) (P:=fun s=>wfS (ns.drop j) k lp s) (fun s hs=>ih k lp s hs) hw.2.2.2
         simp only [innP,List.length_append,Stm.sz,Stm.cl,Nat.add_mul]
         omega
 | succ d ihd =>
   intro j hj n
   induction n with
   | zero=>intro k lp s _; have:1≤s.sz:=by { cases s <;> simp [Stm.sz] <;> omega }; simp [innP]; omega
   | succ n ih =>
     intro k lp s hw
     cases s with
     | plain ps =>
       rcases wf_plain.mp hw with rfl | rfl | ⟨c,hc,rfl⟩ | ⟨_,rfl | rfl⟩ | rfl | rfl
       · have e:innP ts (n+1) (.plain [.s "say",.s "on"])=[]:=by unfold innP; dsimp only; rw [if_neg (by decide +kernel)]
         rw [e]; simp [Stm.sz]; omega
       · simp [innP,Stm.sz]; omega
       · obtain ⟨i,b,h1,h2,h3,h4,h5,h6⟩:=h.call hc
         have e:innP ts (n+1) (.plain [.s "call",.s c])=[mkC]::(sufs (innP ts n) b).map (·++[mkC]):=by
          conv=>lhs; unfold innP
          dsimp only
          rw [if_pos rfl,h3]
         have e2:Stm.cl (.plain [.s "call",.s c])=1:=by
          show (if Str.ofString "call"=Str.ofString "call" then 1 else 0)=1
          rw [if_pos rfl]
         have:=a44 (ts:=ts) (B:=bnd d) (P:=fun s=>wfS (ns.drop (i+1)) 5 false s) (fun s hs=>ihd (i+1) (by omega) n 5 false s hs) h4.2
         have hm:Stm.cls b*(bnd d+1)≤4*(bnd d+1):=Nat.mul_le_mul_right _ h6
         rw [e,e2]
         simp only [List.length_cons,List.length_map,Stm.sz,bnd]
         omega
       · simp [innP,Stm.sz]; omega
       · simp [innP,Stm.sz]; omega
       · simp [innP,Stm.sz]; omega
       · simp [innP,Stm.sz]; omega
     | put _ _=>simp [innP,Stm.sz]; omega
     | wait _ _=>simp [innP,Stm.sz]; omega
     | loop x =>
       cases k with
       | zero=>exact hw.elim
       | succ k =>
         have:=a44 (ts:=ts) (B:=bnd (d+1)) (P:=fun s=>wfS (ns.drop j) k true s) (fun s hs=>ih k true s hs) hw.2
         simp only [innP,List.length_cons,List.length_map,Stm.sz,Stm.cl]
         omega
     | test c x y =>
       cases k with
       | zero=>exact hw.elim
       | succ k =>
         have h1:=a44 (ts:=ts) (B:=bnd (d+1)) (P:=fun s=>wfS (ns.drop j) k lp s) (fun s hs=>ih k lp s hs) hw.2.1.2
         have h2:=a44 (ts:=ts) (B:=bnd (d+1)) (P:=fun s=>wfS (ns.drop j) k lp s) (fun s hs=>ih k lp s hs) hw.2.2.2
         simp only [innP,List.length_append,Stm.sz,Stm.cl,Nat.add_mul]
         omega
structure BdW (ts:Tks) (ns:List Str) (b:List Stm) (E:List Wd) (S:List (List Stm)):Prop where
 e:eBf (eS ts 30) b=some E
 s:b∈S∧∀ s p,(s::p)∈S→∀ c∈(onLk ts p s).1,c∈S
 l:S.length≤40000
 w:∀ w:Wd,Rch ts b w↔w∈E
theorem bp8 (h:TkW ts ns) {j k:Nat}{lp:Bool}{b:List Stm}(hk:k≤5) (hb:wfB (ns.drop j) k lp b) (h1:Stm.szs b≤45) (h2:Stm.cls b≤4):∃ E,BdW ts ns b E (allP ts 30 b):=by
 have hl:=h.l
 have all:=bp6 h 4 j (by omega) k hk lp
 have hG:=bp3 h
 have g:∀ s∈b,isG ns lp s:=fun s hs=>⟨j,k,hb.2 s hs⟩
 obtain ⟨E,hE⟩:=al3 (f:=eS ts 30) hb.1 fun s hs=>by
  obtain ⟨⟨r,hr⟩,_⟩:=all s (hb.2 s hs)
  exact ⟨r,be2 (by omega) hr⟩
 have dp:∀ s∈b,Dp ts 30 s:=fun s hs=>bp5 (by omega) (all s (hb.2 s hs)).2
 refine ⟨E,hE,be7 hG g dp,?_,fun w=>?_⟩
 · have:=a44 (ts:=ts) (B:=bnd 4) (P:=fun s=>wfS (ns.drop j) k lp s) (fun s hs=>bp7 h 4 j (by omega) 30 k lp s hs) hb.2
   have hm:Stm.cls b*(bnd 4+1)≤4*(bnd 4+1):=Nat.mul_le_mul_right _ h2
   have hb4:bnd 4=7990:=rfl
   rw [hb4] at this hm
   simp only [allP,List.length_cons]
   omega
 · have:=az6 hG (fun s p w r g e=>b01 hG 30 lp s p w r g e) (p:=[]) (w:=w) g hE
   rw [List.append_nil] at this
   rw [this]
   constructor
   · rintro ⟨e,he,hf⟩
     cases e with
     | on=>simp only [Fin] at hf; cases hf; exact he
     | again=>rw [hf.2]; exact he
     | leave=>simp only [Fin,bhd] at hf; rw [hf]; exact he
     | back=>simp only [Fin,bhd] at hf; rw [hf]; exact he
     | stop=>simp only [Fin] at hf; rw [hf]; exact he
   · intro he
     refine ⟨w,he,?_⟩
     cases w with
     | on=>exact .nil
     | again=>exact ⟨rfl,rfl⟩
     | leave=>rfl
     | back=>rfl
     | stop=>rfl
end L2
namespace L2
open PySem PySem.Spec PyProof.Rows
mutual
def Tr.lay:Tr→Bool
 | .non=>true
 | .int _=>true
 | .str s=>(PyData.str s).canLay0
 | .tup xs=>Tr.lays xs
 | .lst xs=>Tr.lays xs
def Tr.lays:List Tr→Bool
 | []=>true
 | x::xs=>x.lay && Tr.lays xs
end
mutual
theorem ad0:∀ t:Tr,(toW t).dat.canLay0=t.lay
 | .non=>rfl
 | .int _=>rfl
 | .str s=>rfl
 | .tup xs=>by simp only [toW,Tw.dat,Tr.lay,PyData.canLay0,ah1 xs]
 | .lst xs=>by simp only [toW,Tw.dat,Tr.lay,PyData.canLay0,ah1 xs]
theorem ah1:∀ ts:List Tr,PyData.canLayAll0 (Tw.dats (toWs ts))=Tr.lays ts
 | []=>rfl
 | t::ts=>by simp only [toWs,Tw.dats,Tr.lays,PyData.canLayAll0,ad0 t,ah1 ts]
end
mutual
theorem ao1:∀ t:Tr,(toW t).dat.depth≤t.h+1
 | .non=>by decide
 | .int _=>by simp [toW,Tw.dat,scD,PyData.depth]
 | .str s=>by simp [toW,Tw.dat,scD,PyData.depth]
 | .tup xs=>by
   have:=ah2 xs
   simp only [toW,Tw.dat,Tr.h,PyData.depth]
   omega
 | .lst xs=>by
   have:=ah2 xs
   simp only [toW,Tw.dat,Tr.h,PyData.depth]
   omega
theorem ah2:∀ ts:List Tr,PyData.depthAll (Tw.dats (toWs ts))≤Tr.hs ts+1
 | []=>by simp [toWs,Tw.dats,PyData.depthAll]
 | t::ts=>by
   have h1:=ao1 t
   have h2:=ah2 ts
   simp only [toWs,Tw.dats,Tr.hs,PyData.depthAll]
   omega
end
mutual
theorem b11:∀ t:Tr,(toW t).nb
 | .non=>trivial
 | .int _=>trivial
 | .str _=>trivial
 | .tup xs=>by simp only [toW,Tw.nb]; exact ao2 xs
 | .lst xs=>by simp only [toW,Tw.nb]; exact ao2 xs
theorem ao2:∀ ts:List Tr,Tw.nbs (toWs ts)
 | []=>trivial
 | t::ts=>⟨b11 t,ao2 ts⟩
end
mutual
theorem b12:∀ {t u:Tr},toW t=toW u→t=u
 | .non,u,h=>by cases u <;> simp [toW] at h; rfl
 | .int _,u,h=>by cases u <;> simp [toW] at h; rw [h]
 | .str _,u,h=>by cases u <;> simp [toW] at h; rw [h]
 | .tup xs,u,h=>by
   cases u with
   | tup ys=>simp only [toW,Tw.tup.injEq] at h; rw [ah3 h]
   | _=>simp [toW] at h
 | .lst xs,u,h=>by
   cases u with
   | lst ys=>simp only [toW,Tw.lst.injEq] at h; rw [ah3 h]
   | _=>simp [toW] at h
theorem ah3:∀ {t u:List Tr},toWs t=toWs u→t=u
 | [],[],_=>rfl
 | [],_::_,h=>by simp [toWs] at h
 | _::_,[],h=>by simp [toWs] at h
 | x::xs,y::ys,h=>by
   simp only [toWs,List.cons.injEq] at h
   rw [b12 h.1,ah3 h.2]
end
theorem eqv_tr {t u:Tr}:PyData.eqv (toW t).dat (toW u).dat=true↔t=u:=by
 rw [Tw.eqv_iff (b11 t) (b11 u)]
 exact ⟨b12,fun h=>by rw [h]⟩
def LdT (t:Tr):Prop:=t.lay=true∧t.h≤35
def LdS (s:Stm):Prop:=LdT s.tr
def LdB (b:List Stm):Prop:=LdT (.lst (Stm.trs b))
def b13 (K:PySem.W.Frag):R2:=fun x y H Q=>∃ (t:List Stm) (ts:List (List Stm)) (a:Addr) (vs:List V),BAt H x t∧y=.ref a∧SqL K H a vs∧Each (BAt H) vs ts∧LdB t∧(∀ p∈ts,LdB p)∧Q (.bl (!decide (t∈ts))) H
section
variable {X:Cx}
theorem bw0 {pins:List (Addr×Obj)}{σ:St} {H:Hp}{s:Shared}(I:Inv X pins σ H s) {A:Around}{t u:Tr}{v w:V}{fs gs:List Addr}{x y:Value}(h1:t.At H v fs) (h2:u.At H w gs) (r1:RelV v x) (r2:RelV w y) (l1:LdT t) (l2:LdT u) (hu:A.units+60<cLine):SeqAt.EqAt A s x y (PyData.eqv (toW t).dat (toW u).dat):=by
 obtain ⟨as,q1⟩:=Tw.reads I (ak4 h1) r1
 obtain ⟨bs,q2⟩:=Tw.reads I (ak4 h2) r2
 have d1:=ao1 t
 have:=l1.2
 exact SeqAt.eqAt_reads _ _ A s x y as bs q1 q2 (by rw [ad0]; exact l1.1) (by rw [ad0]; exact l2.1) (by omega)
theorem b14 {α:Type}{R:V→α→Prop}{vs:List V}{us:List Value}{ts:List α}(h:Each R vs ts) (q:Vals vs us):us.length=ts.length∧∀ (j:Nat) (u:Value) (t:α),us[j]?=some u→ts[j]?=some t→∃ v,R v t∧RelV v u:=by
 have hl:=q.length
 refine ⟨by rw [← hl]; exact h.1,fun j u t hu ht=>?_⟩
 have hj:=(List.getElem?_eq_some_iff.mp hu).1
 obtain ⟨v,hv⟩:∃ v,vs[j]?=some v:=⟨_,List.getElem?_eq_getElem (by omega)⟩
 obtain ⟨u',e1,e2⟩:=q.get hv
 rw [hu] at e1
 obtain rfl:=Option.some.inj e1
 exact ⟨v,h.2 j v t hv ht,e2⟩
open Classical in
theorem at6 (K:PySem.W.Frag) (hu:X.A.units+64<cLine) (hK:X.K=K:=by rfl):OpR X (compareOp .NotIn) (b13 K):=by
 subst hK
 intro pins s σ H x y v u Q I rx ry h
 obtain ⟨t,ts,a,vs,⟨fs,h1⟩,rfl,h2,h3,l1,l2,q⟩:=h
 cases ry
 obtain ⟨its,v1,p1,_⟩:=I.list h2
 obtain ⟨hl,hit⟩:=b14 h3 v1
 refine SeqAt.notIn_listAt (fun z=>decide (∃ j:Nat,its[j]?=some z∧ts[j]?=some t)) p1.isList (fun y hy=>?_) ?_
 · obtain ⟨j,hj,rfl⟩:=List.mem_iff_getElem.mp (show y∈its by simpa using hy)
   have e1:its[j]?=some its[j]:=List.getElem?_eq_getElem hj
   have get:∀ (k:Nat) (z:Value),its[k]?=some z→∃ p,ts[k]?=some p∧SeqAt.EqAt X.A.in1 s z v (PyData.eqv (toW (.lst (Stm.trs p))).dat (toW (.lst (Stm.trs t))).dat):=fun k z hz=>by
    have hk:=(List.getElem?_eq_some_iff.mp hz).1
    obtain ⟨p,hp⟩:∃ p,ts[k]?=some p:=⟨_,List.getElem?_eq_getElem (by omega)⟩
    obtain ⟨w,⟨gs,hw⟩,rw_⟩:=hit k z p hz hp
    exact ⟨p,hp,bw0 I hw h1 rw_ rx (l2 p (List.mem_of_getElem? hp)) l1 (by rw [a91]; omega)⟩
   by_cases hex:∃ k:Nat,its[k]?=some its[j]∧ts[k]?=some t
   · rw [decide_eq_true hex]
     obtain ⟨k,k1,k2⟩:=hex
     obtain ⟨p,hp,he⟩:=get k _ k1
     rw [k2] at hp
     obtain rfl:=Option.some.inj hp
     rw [show PyData.eqv (toW (.lst (Stm.trs t))).dat (toW (.lst (Stm.trs t))).dat=true from eqv_tr.mpr rfl] at he
     exact he
   · rw [decide_eq_false hex]
     obtain ⟨p,hp,he⟩:=get j _ e1
     have:PyData.eqv (toW (.lst (Stm.trs p))).dat (toW (.lst (Stm.trs t))).dat=false:=by
      rw [Bool.eq_false_iff]
      intro z
      have:=eqv_tr.mp z
      simp only [Tr.lst.injEq] at this
      exact hex ⟨j,e1,by rw [hp,a73 this]⟩
     rw [this] at he
     exact he
 · refine ⟨.bl (!decide (t∈ts)),H,I,?_,q⟩
   have e:its.toArray.any (fun z=>decide (∃ j:Nat,its[j]?=some z∧ts[j]?=some t))=decide (t∈ts):=by
    rw [Bool.eq_iff_iff,←Array.any_toList,show its.toArray.toList=its from rfl,List.any_eq_true,decide_eq_true_iff]
    constructor
    · rintro ⟨z,_,hz⟩
      obtain ⟨j,_,h2⟩:=of_decide_eq_true hz
      exact List.mem_of_getElem? h2
    · intro hm
      obtain ⟨j,hj⟩:=List.mem_iff_getElem?.mp hm
      have hjl:=(List.getElem?_eq_some_iff.mp hj).1
      exact ⟨its[j]'(by omega),List.getElem_mem _,decide_eq_true ⟨j,List.getElem?_eq_getElem _,hj⟩⟩
   rw [e]
   rfl
def bp9:R2:=fun x y H Q=>∃ (s m:Stm),SAt H x s∧SAt H y m∧LdS s∧LdS m∧Q (.bl (@decide (s=m) (Classical.propDecidable _))) H
theorem ar3 (hu:X.A.units+64<cLine):OpR X (compareOp .Eq) bp9:=by
 intro pins s σ H x y v u Q I rx ry h
 obtain ⟨t,m,⟨fs,h1⟩,⟨gs,h2⟩,l1,l2,q⟩:=h
 obtain ⟨as,r1⟩:=Tw.reads I (ak4 h1) rx
 obtain ⟨bs,r2⟩:=Tw.reads I (ak4 h2) ry
 have d1:=ao1 t.tr
 have:=l1.2
 refine SeqAt.rcAt_reads (A:=X.A) r1 r2 (by rw [ad0]; exact l1.1) (by rw [ad0]; exact l2.1) (by omega) X.prog X.w X.xe (EP X pins σ Q) ⟨.bl _,H,I,rfl,?_⟩
 have e:PyData.eqv (toW t.tr).dat (toW m.tr).dat=@decide (t=m) (Classical.propDecidable _):=by
  rw [Bool.eq_iff_iff,eqv_tr,@decide_eq_true_iff _ (Classical.propDecidable _)]
  exact ⟨b06,fun h=>by rw [h]⟩
 rw [e]
 exact q
end
theorem b64 {K:PySem.W.Frag}{H:Hp}{Q:VK}{x:V}{a:Addr}{t:List Stm}{ts:List (List Stm)}{vs:List V}(h1:BAt H x t) (h2:SqL K H a vs) (h3:Each (BAt H) vs ts) (l1:LdB t) (l2:∀ p∈ts,LdB p) (h:Q (.bl (!decide (t∈ts))) H):b13 K x (.ref a) H Q:=⟨t,ts,a,vs,h1,rfl,h2,h3,l1,l2,h⟩
theorem b93 {H:Hp}{Q:VK}{x y:V}{s m:Stm}(h1:SAt H x s) (h2:SAt H y m) (l1:LdS s) (l2:LdS m) (h:Q (.bl (@decide (s=m) (Classical.propDecidable _))) H):bp9 x y H Q:=⟨s,m,h1,h2,l1,l2,h⟩
theorem ah4 {ts:List Tr}:Tr.lays ts=true↔∀ t∈ts,t.lay=true:=by
 induction ts with
 | nil=>simp [Tr.lays]
 | cons t ts ih=>simp only [Tr.lays,Bool.and_eq_true,ih,List.mem_cons,forall_eq_or_imp]
theorem af2 {n:Nat}:∀ {b:List Stm},(∀ s∈b,s.tr.h≤n)→Tr.hs (Stm.trs b)≤n
 | [],_=>by simp [Stm.trs,Tr.hs]
 | s::b,h=>by
   simp only [Stm.trs,Tr.hs]
   exact Nat.max_le.mpr ⟨h s (by simp),af2 fun x hx=>h x (by simp [hx])⟩
theorem b94 {n:Nat}:∀ {b:List Br},(∀ s∈b,s.tr.h≤n)→Tr.hs (Br.trs b)≤n
 | [],_=>by simp [Br.trs,Tr.hs]
 | s::b,h=>by
   simp only [Br.trs,Tr.hs]
   exact Nat.max_le.mpr ⟨h s (by simp),b94 fun x hx=>h x (by simp [hx])⟩
theorem ad1 {b:List Stm}(h:∀ s∈b,s.tr.lay=true):Tr.lays (Stm.trs b)=true:=by
 rw [ah4,ag4]
 intro t ht
 obtain ⟨s,hs,rfl⟩:=List.mem_map.mp ht
 exact h s hs
theorem be9 {b:List Br}(h:∀ s∈b,s.tr.lay=true):Tr.lays (Br.trs b)=true:=by
 rw [ah4,ag5]
 intro t ht
 obtain ⟨s,hs,rfl⟩:=List.mem_map.mp ht
 exact h s hs
theorem bq0 {n:Nat}{b:List Stm}(h:∀ s∈b,s.tr.lay=true∧s.tr.h≤n) (hn:n≤34):LdB b:=by
 refine ⟨ad1 fun s hs=>(h s hs).1,?_⟩
 have:=af2 fun s hs=>(h s hs).2
 simp only [Tr.h]
 omega
def GM (ns:List Str) (s:Stm):Prop:=(∃ j k lp,k≤5∧wfS (ns.drop j) k lp s)∨s=mkC∨s=mkL
theorem ar4:(Tr.tup [.str (Str.ofString "number"),.int 1]).lay=true∧(Cd.cmp true (.num 1) (.num 2)).tr.lay=true∧(Cd.cmp true (.num 1) (.num 2)).tr.h≤5∧(Ex.num 1).tr.lay=true∧(Ex.num 1).tr.h≤5:=by decide +kernel
theorem ad2:∀ w∈["say","on","hand","again","leave","back","stop","call","put","a","loop","test","wait","key","other","called","looped"],(PyData.str (Str.ofString w)).canLay0=true:=by decide +kernel
theorem ab0 {ps:List Pt}(h:∀ p∈ps,p.tr.lay=true∧p.tr.h=0):(Stm.plain ps).tr.lay=true∧(Stm.plain ps).tr.h≤1:=by
 constructor
 · simp only [Stm.tr,Tr.lay]
   rw [ah4]
   intro t ht
   obtain ⟨p,hp,rfl⟩:=List.mem_map.mp ht
   exact (h p hp).1
 · simp only [Stm.tr,Tr.h]
   have:∀ ps:List Pt,(∀ p∈ps,p.tr.lay=true∧p.tr.h=0)→Tr.hs (ps.map Pt.tr)=0:=fun ps=>by
    induction ps with
    | nil=>intro _; rfl
    | cons p ps ih =>
      intro h
      simp only [List.map_cons,Tr.hs]
      rw [(h p (by simp)).2,ih fun q hq=>h q (by simp [hq])]
      rfl
   rw [this ps h]
   exact Nat.le_refl _
theorem bw1 {nm:List Str}(hn:∀ c∈nm,(PyData.str c).canLay0=true):∀ (k:Nat) (lp:Bool) (s:Stm),wfS nm k lp s→s.tr.lay=true∧s.tr.h≤7+4*k:=by
 have W:∀ w∈["say","on","hand","again","leave","back","stop","call","put","a","loop","test","wait","key","other","called","looped"],(PyData.str (Str.ofString w)).canLay0=true:=ad2
 have pl:∀ {ps:List Pt}{k:Nat},(∀ p∈ps,p.tr.lay=true∧p.tr.h=0)→(Stm.plain ps).tr.lay=true∧(Stm.plain ps).tr.h≤7+4*k:=fun {ps k} h=>⟨(ab0 h).1,by have:=(ab0 h).2; omega⟩
 have S:∀ w∈["say","on","hand","again","leave","back","stop","call","put","a","loop","test","wait","key","other","called","looped"],(Pt.s (Str.ofString w)).tr.lay=true∧(Pt.s (Str.ofString w)).tr.h=0:=fun w h=>⟨W w h,rfl⟩
 have pls:∀ {lp:Bool}{k:Nat}{ps:List Pt},plW nm lp ps→(Stm.plain ps).tr.lay=true∧(Stm.plain ps).tr.h≤7+4*k:=fun {lp k ps} hw=>by
  rcases hw with rfl | rfl | ⟨c,hc,rfl⟩ | ⟨_,rfl | rfl⟩ | rfl | rfl
  · refine pl fun p hp=>?_
    simp only [List.mem_cons,List.not_mem_nil,or_false] at hp
    rcases hp with rfl | rfl
    · exact S "say" (by decide)
    · exact S "on" (by decide)
  · refine pl fun p hp=>?_
    simp only [List.mem_cons,List.not_mem_nil,or_false] at hp
    rcases hp with rfl | rfl | rfl
    · exact S "hand" (by decide)
    · exact ⟨rfl,rfl⟩
    · exact S "on" (by decide)
  · refine pl fun p hp=>?_
    simp only [List.mem_cons,List.not_mem_nil,or_false] at hp
    rcases hp with rfl | rfl
    · exact S "call" (by decide)
    · exact ⟨hn c hc,rfl⟩
  · exact pl fun p hp=>by rw [List.mem_singleton.mp hp]; exact S "again" (by decide)
  · exact pl fun p hp=>by rw [List.mem_singleton.mp hp]; exact S "leave" (by decide)
  · exact pl fun p hp=>by rw [List.mem_singleton.mp hp]; exact S "back" (by decide)
  · exact pl fun p hp=>by rw [List.mem_singleton.mp hp]; exact S "stop" (by decide)
 have pt:∀ {k:Nat}{lp:Bool}{n:Str}{e:Ex},wfS nm k lp (.put n e)→(Stm.put n e).tr.lay=true∧(Stm.put n e).tr.h≤7+4*k:=fun {k lp n e} hw=>by
  have hw:n="a"∧e=.num 1:=by cases k <;> exact hw
  obtain ⟨rfl,rfl⟩:=hw
  obtain ⟨_,_,_,h1,h2⟩:=ar4
  refine ⟨?_,?_⟩
  · simp only [Stm.tr,Tr.lay,Tr.lays,Bool.and_eq_true]
    exact ⟨W "put" (by decide),W "a" (by decide),h1,trivial⟩
  · simp only [Stm.tr,Tr.h,Tr.hs]
    have:max 0 (max 0 (max (Ex.num 1).tr.h 0))≤5:=by omega
    omega
 intro k
 induction k with
 | zero =>
   intro lp s hw
   cases s with
   | plain ps=>exact pls (wf_plain.mp hw)
   | put n e=>exact pt hw
   | loop x=>exact hw.elim
   | wait n bs=>exact hw.elim
   | test c x y=>exact hw.elim
 | succ k ih =>
   intro lp s hw
   cases s with
   | plain ps=>exact pls (wf_plain.mp hw)
   | put n e=>exact pt hw
   | loop x =>
     have h1:=ad1 fun s hs=>(ih true s (hw.2 s hs)).1
     have h2:=af2 fun s hs=>(ih true s (hw.2 s hs)).2
     refine ⟨?_,?_⟩
     · simp only [Stm.tr,Tr.lay,Tr.lays,Bool.and_eq_true]
       exact ⟨W "loop" (by decide),h1,trivial⟩
     · simp only [Stm.tr,Tr.h,Tr.hs]
       omega
   | wait n bs =>
     obtain ⟨_,_,hb⟩:=hw
     have brs:∀ b∈bs,b.tr.lay=true∧b.tr.h≤7+4*k+2:=fun b hb'=>by
      obtain ⟨p,x,rfl,hx,hp⟩:=hb b hb'
      have h1:=ad1 fun s hs=>(ih lp s (hx.2 s hs)).1
      have h2:=af2 fun s hs=>(ih lp s (hx.2 s hs)).2
      rcases hp with rfl | rfl
      · refine ⟨?_,?_⟩
        · simp only [Br.tr,Tr.lay,Tr.lays,List.map,Pt.tr,Bool.and_eq_true]
          exact ⟨⟨W "key" (by decide),trivial,trivial⟩,h1,trivial⟩
        · simp only [Br.tr,Tr.h,Tr.hs,List.map,Pt.tr]
          omega
      · refine ⟨?_,?_⟩
        · simp only [Br.tr,Tr.lay,Tr.lays,List.map,Pt.tr,Bool.and_eq_true]
          exact ⟨⟨W "other" (by decide),trivial⟩,h1,trivial⟩
        · simp only [Br.tr,Tr.h,Tr.hs,List.map,Pt.tr]
          omega
     have h1:=be9 fun b hb=>(brs b hb).1
     have h2:=b94 fun b hb=>(brs b hb).2
     refine ⟨?_,?_⟩
     · simp only [Stm.tr,Tr.lay,Tr.lays,Bool.and_eq_true]
       exact ⟨W "wait" (by decide),trivial,h1,trivial⟩
     · simp only [Stm.tr,Tr.h,Tr.hs]
       omega
   | test c x y =>
     obtain ⟨rfl,hx,hy⟩:=hw
     obtain ⟨_,c1,c2,_⟩:=ar4
     have h1:=ad1 fun s hs=>(ih lp s (hx.2 s hs)).1
     have h2:=af2 fun s hs=>(ih lp s (hx.2 s hs)).2
     have h3:=ad1 fun s hs=>(ih lp s (hy.2 s hs)).1
     have h4:=af2 fun s hs=>(ih lp s (hy.2 s hs)).2
     refine ⟨?_,?_⟩
     · simp only [Stm.tr,Tr.lay,Tr.lays,Bool.and_eq_true]
       exact ⟨W "test" (by decide),c1,h1,h3,trivial⟩
     · simp only [Stm.tr,Tr.h,Tr.hs]
       omega
theorem bf0 {ns:List Str}(hn:∀ c∈ns,(PyData.str c).canLay0=true) {s:Stm}(h:GM ns s):s.tr.lay=true∧s.tr.h≤27:=by
 rcases h with ⟨j,k,lp,hk,hw⟩ | rfl | rfl
 · obtain ⟨h1,h2⟩:=bw1 (fun c hc=>hn c (List.mem_of_mem_drop hc)) k lp s hw
   exact ⟨h1,by omega⟩
 · obtain ⟨h1,h2⟩:=ab0 (ps:=[.s "called"]) fun p hp=>by rw [List.mem_singleton.mp hp]; exact ⟨ad2 "called" (by decide),rfl⟩
   exact ⟨h1,Nat.le_trans h2 (by decide)⟩
 · obtain ⟨h1,h2⟩:=ab0 (ps:=[.s "looped"]) fun p hp=>by rw [List.mem_singleton.mp hp]; exact ⟨ad2 "looped" (by decide),rfl⟩
   exact ⟨h1,Nat.le_trans h2 (by decide)⟩
theorem bq1 {ns:List Str}(hn:∀ c∈ns,(PyData.str c).canLay0=true) {s:Stm}(h:GM ns s):LdS s:=⟨(bf0 hn h).1,Nat.le_trans (bf0 hn h).2 (by decide)⟩
theorem b95 {ns:List Str}(hn:∀ c∈ns,(PyData.str c).canLay0=true) {b:List Stm}(h:∀ s∈b,GM ns s):LdB b:=bq0 (fun s hs=>bf0 hn (h s hs)) (by decide)
theorem ad3 {f:Stm→List (List Stm)}{ns:List Str}{L:Nat}:∀ {b:List Stm},(∀ s∈b,GM ns s)→(∀ s∈b,∀ π∈f s,π.length≤L∧∀ x∈π,GM ns x)→∀ π∈sufs f b,π.length≤L+b.length∧∀ x∈π,GM ns x
 | [],_,_,π,h=>by cases h
 | s::b,hg,hf,π,h=>by
   rcases List.mem_cons.mp h with rfl | h
   · exact ⟨Nat.le_add_left _ _,hg⟩
   · rcases List.mem_append.mp h with h | h
     · obtain ⟨x,hx,rfl⟩:=List.mem_map.mp h
       obtain ⟨h1,h2⟩:=hf s (by simp) x hx
       refine ⟨by rw [List.length_append,List.length_cons]; omega,fun y hy=>?_⟩
       rcases List.mem_append.mp hy with hy | hy
       · exact h2 y hy
       · exact hg y (by simp [hy])
     · obtain ⟨h1,h2⟩:=ad3 (fun x hx=>hg x (by simp [hx])) (fun x hx=>hf x (by simp [hx])) π h
       exact ⟨by rw [List.length_cons]; omega,h2⟩
theorem bq2 {ts:Tks}{ns:List Str}(hT:TkW ts ns):∀ (n j k:Nat) (lp:Bool) (s:Stm),k≤5→wfS (ns.drop j) k lp s→∀ π∈innP ts n s,π.length≤7*n∧∀ x∈π,GM ns x:=by
 intro n
 induction n with
 | zero=>intro j k lp s _ _ π h; simp [innP] at h
 | succ n ih =>
   intro j k lp s hk hw π h
   have mk:∀ {j k:Nat}{lp:Bool}{x:List Stm}{m:Stm},k≤5→x.length≤6→(∀ s∈x,wfS (ns.drop j) k lp s)→(m=mkC∨m=mkL)→∀ π,(π=[m]∨π∈(sufs (innP ts n) x).map (·++[m]))→π.length≤7*(n+1)∧∀ x∈π,GM ns x:=fun {j k lp x m} hk hx hw hm π h=>by
    rcases h with rfl | h
    · exact ⟨by simp; omega,fun y hy=>by rw [List.mem_singleton.mp hy]; exact .inr hm⟩
    · obtain ⟨z,hz,rfl⟩:=List.mem_map.mp h
      obtain ⟨h1,h2⟩:=ad3 (fun s hs=>.inl ⟨j,k,lp,hk,hw s hs⟩) (fun s hs=>ih j k lp s hk (hw s hs)) z hz
      refine ⟨by rw [List.length_append,List.length_singleton]; omega,fun y hy=>?_⟩
      rcases List.mem_append.mp hy with hy | hy
      · exact h2 y hy
      · rw [List.mem_singleton.mp hy]; exact .inr hm
   cases s with
   | put _ _=>simp [innP] at h
   | wait _ _=>simp [innP] at h
   | loop x =>
     cases k with
     | zero=>exact hw.elim
     | succ k=>exact mk (by omega) hw.1 hw.2 (.inr rfl) π (List.mem_cons.mp h)
   | test c x y =>
     cases k with
     | zero=>exact hw.elim
     | succ k =>
       rcases List.mem_append.mp h with h | h
       · obtain ⟨h1,h2⟩:=ad3 (fun s hs=>.inl ⟨j,k,lp,by omega,hw.2.1.2 s hs⟩) (fun s hs=>ih j k lp s (by omega) (hw.2.1.2 s hs)) π h
         have:=hw.2.1.1
         exact ⟨by omega,h2⟩
       · obtain ⟨h1,h2⟩:=ad3 (fun s hs=>.inl ⟨j,k,lp,by omega,hw.2.2.2 s hs⟩) (fun s hs=>ih j k lp s (by omega) (hw.2.2.2 s hs)) π h
         have:=hw.2.2.1
         exact ⟨by omega,h2⟩
   | plain ps =>
     rcases wf_plain.mp hw with rfl | rfl | ⟨c,hc,rfl⟩ | ⟨_,rfl | rfl⟩ | rfl | rfl
     · have e:innP ts (n+1) (.plain [.s "say",.s "on"])=[]:=by unfold innP; dsimp only; rw [if_neg (by decide +kernel)]
       rw [e] at h; cases h
     · simp [innP] at h
     · obtain ⟨i,b,h1,h2,h3,h4,_⟩:=hT.call hc
       have e:innP ts (n+1) (.plain [.s "call",.s c])=[mkC]::(sufs (innP ts n) b).map (·++[mkC]):=by
        conv=>lhs; unfold innP
        dsimp only
        rw [if_pos rfl,h3]
       rw [e] at h
       exact mk (Nat.le_refl 5) h4.1 h4.2 (.inl rfl) π (List.mem_cons.mp h)
     all_goals simp [innP] at h
theorem bq3 {ts:Tks}{ns:List Str}(hT:TkW ts ns) {j k:Nat}{lp:Bool}{b:List Stm}(hk:k≤5) (hb:wfB (ns.drop j) k lp b):∀ π∈allP ts 30 b,π.length≤1000∧∀ x∈π,GM ns x:=fun π h=>by
 rcases List.mem_cons.mp h with rfl | h
 · exact ⟨Nat.zero_le _,fun x hx=>by cases hx⟩
 · obtain ⟨h1,h2⟩:=ad3 (fun s hs=>.inl ⟨j,k,lp,hk,hb.2 s hs⟩) (fun s hs=>bq2 hT 30 j k lp s hk (hb.2 s hs)) π h
   have:=hb.1
   exact ⟨by omega,h2⟩
end L2
local macro_rules | `(tactic| walk_at "side") => `(tactic| first | exact ⟨by decide, by decide, by decide⟩ | exact ⟨by decide, by decide⟩ | exact .inr (.inr ⟨by decide, by decide⟩) | exact .inr (.inl ⟨by decide, by decide⟩) | decide | omega | exact L2.le_line (by simp only [List.length_cons, List.length_nil]; omega))
local macro_rules | `(tactic| walk_at "o") => `(tactic| first | exact Or.inl rfl | exact Or.inr rfl)
local macro_rules | `(tactic| walk_at "step") => do
  let mut acc ← `(tactic| ((with_reducible refine L2.i_rgA ?k ?l ?_); (case k => walk_at "side"); (case l => walk_at "side")))
  for s in ("i_rI af7 b91 bt6 i_c i_op i_un i_rU bt7 bc9 bt8 bt9 bu0 bk9 i_bl bu1 i_if bu2 bl0 bl1 ax8 bl3 bu3 i_cb bl4 bu4 bu5 bu6 bl6 bu7 i_or bu8 i_lc bl7 bd0 bl8 bu9 bv0 i_bm bv1 i_sl b49 bl9 bv2 bv3 bv4 bm0 bm4 bm2 bd1 bv5 bn2 bm8 bm9 bm6 bn3 i_tB b54 bn6 bn5 bo1 ay7 bo4 bl5 b92".splitOn " ").reverse do
    let n := Lean.mkIdent (Lean.Name.str `L2 s)
    if s == "i_rI" || s == "af7" || s == "bl5" then acc ← `(tactic| first | ((with_reducible refine $n ?k ?_); (case k => walk_at "side")) | $acc:tactic)
    else if s == "b91" then acc ← `(tactic| first | ((with_reducible refine $n ?_); intro _ _) | $acc:tactic)
    else if s == "b92" then acc ← `(tactic| first | ((with_reducible refine' $n ?k ?_); (case k => assumption)) | $acc:tactic)
    else acc ← `(tactic| first | with_reducible refine $n ?_ | $acc:tactic)
  `(tactic| first | ((with_reducible refine L2.i_name ?_); dsimp only [List.set_cons_zero, List.set_cons_succ]) | ((with_reducible refine' L2.i_var ?k ?_); (case k => rfl)) | $acc:tactic)
local macro_rules | `(tactic| walk_at "run") => `(tactic| (repeat walk_at "step"))
local macro_rules | `(tactic| walk_at "go") => do
  let ids := (("L2.start List.map_cons List.map_nil List.length_cons List.length_nil List.replicate List.cons_append List.nil_append Nat.reduceSub Nat.reduceAdd L2.nox_K L2.wish_K L2.cxOf_K L2.cxC_K".splitOn " ").map fun s => Lean.mkIdent s.toName).toArray
  `(tactic| (simp only [$[$ids:term],*]; walk_at "run"))
namespace K14
open PySem L2
theorem ao3:FnScope ["script","body"] ["script","body"] (a07 ae6):=⟨rfl,rfl,rfl,by decide +kernel,rfl,by decide +kernel,by decide +kernel⟩
theorem sc_first_talk:FnScope ["talks","name","place","talk"] ["talks","name"] (a07 aa2):=⟨rfl,rfl,rfl,by decide +kernel,rfl,by decide +kernel,by decide +kernel⟩
theorem sc_ends_of_body:FnScope ["body","talks","known","ends","statement"] ["body","talks","known"] (a07 a39):=⟨rfl,rfl,rfl,by decide +kernel,rfl,by decide +kernel,by decide +kernel⟩
theorem sc_ends_of_statement:FnScope ["statement","talks","known","kind","ends"] ["statement","talks","known"] (a07 a45):=⟨rfl,rfl,rfl,by decide +kernel,rfl,by decide +kernel,by decide +kernel⟩
theorem al4:FnScope ["ends","kept"] ["ends","kept"] (a07 a77):=⟨rfl,rfl,rfl,by decide +kernel,rfl,by decide +kernel,by decide +kernel⟩
theorem ad4:FnScope ["name","talks","known"] ["name","talks","known"] (a07 a75):=⟨rfl,rfl,rfl,by decide +kernel,rfl,by decide +kernel,by decide +kernel⟩
theorem ae0:FnScope ["script","k"] ["script","k"] (a07 a85):=⟨rfl,rfl,rfl,by decide +kernel,rfl,by decide +kernel,by decide +kernel⟩
theorem sc_law_mixed:FnScope ["cell","k","number"] ["cell","k"] (a07 ab9):=⟨rfl,rfl,rfl,by decide +kernel,rfl,by decide +kernel,by decide +kernel⟩
theorem sc_law_deck:FnScope ["script","numbers","cell","number","k"] ["script"] (a07 ae7):=⟨rfl,rfl,rfl,by decide +kernel,rfl,by decide +kernel,by decide +kernel⟩
theorem sc_law_digit:FnScope ["deck","many","digit"] ["deck","many"] (a07 ac0):=⟨rfl,rfl,rfl,by decide +kernel,rfl,by decide +kernel,by decide +kernel⟩
theorem sc_law_block:FnScope ["deck","later","looped","deep","kind","one","other"] ["deck","later","looped","deep"] (a07 ac1):=⟨rfl,rfl,rfl,by decide +kernel,rfl,by decide +kernel,by decide +kernel⟩
theorem sc_law_one:FnScope ["deck","later","looped","deep","kind"] ["deck","later","looped","deep"] (a07 aj6):=⟨rfl,rfl,rfl,by decide +kernel,rfl,by decide +kernel,by decide +kernel⟩
theorem sc_law_some:FnScope ["deck","later","looped","deep","body","k"] ["deck","later","looped","deep"] (a07 ae8):=⟨rfl,rfl,rfl,by decide +kernel,rfl,by decide +kernel,by decide +kernel⟩
theorem sc_law_talks:FnScope ["deck","names","talks"] ["deck"] (a07 a78):=⟨rfl,rfl,rfl,by decide +kernel,rfl,by decide +kernel,by decide +kernel⟩
theorem sc_law_bodies:FnScope ["body","found","statement","inner","other"] ["body"] (a07 a68):=⟨rfl,rfl,rfl,by decide +kernel,rfl,by decide +kernel,by decide +kernel⟩
theorem sc_law_behind:FnScope ["pile","mark"] ["pile","mark"] (a07 aa3):=⟨rfl,rfl,rfl,by decide +kernel,rfl,by decide +kernel,by decide +kernel⟩
theorem sc_law_on:FnScope ["talks","pile","statement","found","kind","rest"] ["talks","pile","statement","found"] (a07 ap5):=⟨rfl,rfl,rfl,by decide +kernel,rfl,by decide +kernel,by decide +kernel⟩
theorem sc_law_due:FnScope ["talks","body","found","met","some","pile"] ["talks","body"] (a07 ac2):=⟨rfl,rfl,rfl,by decide +kernel,rfl,by decide +kernel,by decide +kernel⟩
theorem sc_law:FnScope ["script","talks","bodies","name","body","given","due","found"] ["script"] (a07 bj1):=⟨rfl,rfl,rfl,by decide +kernel,rfl,by decide +kernel,by decide +kernel⟩
theorem Txt.d_ENDS {K:PySem.W.Frag}{mg:Str→Option Value}{t:Adr}(T:Txt K mg t):TupK K t.ad_ENDS [.str "on",.str "again",.str "leave",.str "back",.str "stop"]:=by obtain ⟨_,its,nn,_,h1,h2,h3⟩:=T.dd_ENDS; exact ⟨_,its,nn,h1,rfl,rfl,h2,h3⟩
section
variable {P:Program}{w:World}{K:PySem.W.Frag}{mg:Str→Option Value}{base:Heap}{t:Adr}
def woO (d:Option Addr) (H:Hp):Hp:=fun a=>if d=some a then none else H a
theorem woG {d:Option Addr}{H:Hp}{a:Addr}(h:d≠some a):woO d H a=H a:=if_neg h
theorem woU {x:Addr}{H:Hp}{o:HO}:woO (some x) (upd H x o)=woO (some x) H:=funext fun a=>by
 unfold woO
 by_cases h:some x=some a
 · rw [if_pos h,if_pos h]
 · rw [if_neg h,if_neg h,a10 (fun z=>h (by rw [z]))]
theorem woS {d:Option Addr}{H H':Hp}(s:Same H H'):Same (woO d H) (woO d H'):=fun a o e=>by
 unfold woO at e ⊢
 by_cases h:d=some a
 · rw [if_pos h] at e; cases e
 · rw [if_neg h] at e ⊢
   exact s _ _ e
theorem woL {d:Option Addr}{H:Hp}:Same (woO d H) H:=fun a o e=>by
 unfold woO at e
 by_cases h:d=some a
 · rw [if_pos h] at e; cases e
 · rw [if_neg h] at e
   exact e
theorem woX {k:Addr}{H:Hp}(h:H k=none):woO (some k) H=H:=funext fun a=>by
 unfold woO
 by_cases e:some k=some a
 · rw [if_pos e,←Option.some.inj e,h]
 · rw [if_neg e]
def wdsV (E:List Wd):List V:=a16 (E.map Wd.txt)
def KS (kd:Addr) (H H':Hp):Prop:=Same (woO (some kd) H) (woO (some kd) H')
theorem KS.of {kd:Addr}{H H':Hp}(s:Same H H'):KS kd H H':=woS s
theorem KS.trans {kd:Addr}{H H' H2:Hp}(a:KS kd H H') (b:KS kd H' H2):KS kd H H2:=Same.trans a b
theorem KS.at {kd:Addr}{H H':Hp}(s:KS kd H H') {a:Addr}{o:HO}(h:a≠kd) (e:H a=some o):H' a=some o:=by
 have:=s a o (by rw [woG (fun z=>h (Option.some.inj z).symm)]; exact e)
 rw [woG (fun z=>h (Option.some.inj z).symm)] at this
 exact this
def TkN (H:Hp) (v:V) (x:Str×List Stm):Prop:=∃ a u,v=.ref a∧H a=some (.tup [.str x.1,u])∧BAt H u x.2
theorem TkN.same {H H':Hp}{v:V}{x:Str×List Stm}(h:TkN H v x) (s:Same H H'):TkN H' v x:=by
 obtain ⟨a,u,z1,z2,z3⟩:=h
 exact ⟨a,u,z1,s _ _ z2,z3.same s⟩
def TksAt (H:Hp) (v:V) (ts:Tks):Prop:=∃ lt tvs,v=.ref lt∧H lt=some (.lst tvs)∧Each (TkN H) tvs ts∧ts.length≤100
theorem TksAt.same {H H':Hp}{v:V}{ts:Tks}(h:TksAt H v ts) (s:Same H H'):TksAt H' v ts:=by
 obtain ⟨lt,tvs,z1,z2,z3,z4⟩:=h
 exact ⟨lt,tvs,z1,s _ _ z2,z3.mono fun _ _ z=>z.same s,z4⟩
structure KnAt (ts:Tks) (H:Hp) (kd:Addr) (kvs:List (Key×V)):Prop where
 h:H kd=some (.dK kvs)
 n:(kvs.map (·.1)).Nodup
 k:∀ k∈kvs.map (·.1),∃ nm∈ts.map (·.1),k=Sum.inr nm
 v:∀ nm v,valV kvs (Sum.inr nm)=some v→∃ l b n E,v=.ref l∧l≠kd∧a22 ts nm=some b∧eBf (eS ts n) b=some E∧H l=some (.lst (wdsV E))
theorem KnAt.len {ts:Tks}{H:Hp}{kd:Addr}{kvs:List (Key×V)}(h:KnAt ts H kd kvs):kvs.length≤ts.length:=by
 have:=List.Nodup.length_le_of_subset h.n (l₂:=(ts.map (·.1)).map (fun n=>(Sum.inr n:Key))) (fun k hk=>by
  obtain ⟨nm,h1,rfl⟩:=h.k k hk
  exact List.mem_map.mpr ⟨nm,h1,rfl⟩)
 simpa using this
theorem KnAt.same {ts:Tks}{H H':Hp}{kd:Addr}{kvs:List (Key×V)}(h:KnAt ts H kd kvs) (s:Same H H'):KnAt ts H' kd kvs :=
 ⟨s _ _ h.h,h.n,h.k,fun nm v hv=>by
  obtain ⟨l,b,n,E,z1,z2,z3,z4,z5⟩:=h.v nm v hv
  exact ⟨l,b,n,E,z1,z2,z3,z4,s _ _ z5⟩⟩
def bf1 (K:PySem.W.Frag):Sp:=fun vs H Q _=>∃ (a k:Addr) (E M:List Wd),vs=[.ref a,.ref k]∧H a=some (.lst (wdsV E))∧H k=some (.tup (wdsV M))∧E.length≤100∧∀ l H',H l=none→Same H H'→H' l=some (.lst (wdsV (E.filter fun w=>decide (w∈M))))→Q (.ref l) H'
theorem strs_at {ys:List Str}{i:Nat}{v:V}(h:(a16 ys)[i]?=some v):∃ y,ys[i]?=some y∧v=.str y:=by
 unfold a16 at h
 rw [List.getElem?_map] at h
 obtain ⟨w,h1,h2⟩:=Option.map_eq_some_iff.mp h
 exact ⟨w,h1,h2.symm⟩
theorem b15 {E:List Wd}{i:Nat}{v:V}(h:(wdsV E)[i]?=some v):∃ w,E[i]?=some w∧v=.str w.txt:=by
 obtain ⟨y,h1,rfl⟩:=strs_at h
 rw [List.getElem?_map] at h1
 obtain ⟨w,h2,rfl⟩:=Option.map_eq_some_iff.mp h1
 exact ⟨w,h2,rfl⟩
theorem b16 (E:List Wd) (w:Wd):inV (.str w.txt) (wdsV E)=decide (w∈E):=by
 unfold wdsV
 rw [af9,decide_eq_decide,List.mem_map]
 exact ⟨fun ⟨x,h1,h2⟩=>by rw [← ag8 h2]; exact h1,fun h=>⟨w,h,rfl⟩⟩
theorem a28 (E:List Wd):(wdsV E).length=E.length:=by simp [wdsV,a16]
theorem ab1 (E:List Wd):(wdsV E).all aa6=true:=by simp [wdsV,a16,aa6]
theorem al5 (T:Txt K mg t):FnOk P w K mg base CX0 1 t.a_kept_ends t.fd_kept_ends ["ends","kept"] (bf1 K):=by
 refine T.f_kept_ends.F.ok al4 (fun vs H Q E h=>?_) (fun cdv A outer s H vs Q E hr h=>?_)
 · obtain ⟨a,k,E,M,rfl,_⟩:=h
   rfl
 · obtain ⟨a,k,E,M,rfl,ha,hk,hl,q⟩:=h
   refine ⟨_,(@a04 _ _ _ (@a13 _ _ _ _ (b42 (Nt:=["word"]) (Nf:=["kept"]) (caps:=[1]) rfl (a97 (sc:=a07 a77) rfl rfl (by decide +kernel) (by decide +kernel) (by decide +kernel) rfl (by decide +kernel)) (a43 K (pv 0)) (fun _ _ _ _ _=>(a26 (i:=0) (show (["word","kept"]:List Str).Nodup by decide +kernel) rfl (by walk_at "o"))) (fun _ _ _ _ _=>(@af4 _ _ _ (@a05 _ _ _ _ _ _ _ _ (a90 K) (pv 0) (pv 1) (by with_unfolding_all rfl)))) (fun _ _ _ _ _=>(pv 0))))),?_⟩
   have sl:(1000000:Nat)≤sizeLine:=le_line (Nat.le_refl _)
   walk_at "go"
   refine ⟨⟨_,SqL.of ha⟩,am9 (xs:=wdsV E) (le_line (by rw [a28]; omega)) (fun i acc H'=>H=H'∧acc=wdsV ((E.take i).filter fun w=>decide (w∈M))∧i≤E.length) ⟨rfl,rfl,Nat.zero_le _⟩ (fun i acc H' zz=>by
    obtain ⟨rfl,rfl,hi⟩:=zz
    have:=List.length_filter_le (fun w=>decide (w∈M)) (E.take i)
    rw [List.length_take] at this
    exact ⟨by rw [a28]; omega,SqL.of ha⟩) ?_ ?_⟩
   · rintro i x acc H' hx ⟨rfl,rfl,hi⟩
     obtain ⟨w,hw,rfl⟩:=b15 hx
     have hil:=(List.getElem?_eq_some_iff.mp hw).1
     walk_at "run"
     refine ⟨k,wdsV M,rfl,.inr (SqT.of hk),rfl,ab1 M,?_⟩
     rw [b16]
     walk_at "run"
     rw [if_neg Bool.false_ne_true]
     have e:(E.take (i+1)).filter (fun w=>decide (w∈M))=(E.take i).filter (fun w=>decide (w∈M))++(if w∈M then [w] else []):=by
      rw [List.take_add_one,hw,Option.toList_some,List.filter_append]
      by_cases h:w∈M
      · rw [if_pos h]; simp [h]
      · rw [if_neg h]; simp [h]
     rw [e]
     by_cases h:w∈M
     · rw [if_pos (decide_eq_true h),if_pos h]
       walk_at "run"
       exact ⟨rfl,by simp [wdsV,a16],hil⟩
     · rw [if_neg (by simp [h]),if_neg h,List.append_nil]
       exact ⟨rfl,rfl,hil⟩
   · rintro acc H' ⟨rfl,rfl,_⟩ p H1 f1 s1 e1
     rw [a28,List.take_length] at e1
     exact q p H1 f1 s1 e1
theorem b17 {ts:Tks}{nm:Str}:∀ {i:Nat}{x:Str×List Stm},ts[i]?=some x→x.1=nm→(∀ j x,j<i→ts[j]?=some x→x.1≠nm)→a22 ts nm=some x.2:=by
 induction ts with
 | nil=>intro i x h; simp at h
 | cons y ts ih =>
   intro i x h hn hj
   cases i with
   | zero =>
     simp at h
     subst h
     unfold a22
     rw [List.find?_cons_of_pos (by simpa using hn)]
     rfl
   | succ i =>
     have h0:=hj 0 y (by omega) rfl
     have:=ih (i:=i) (x:=x) (by simpa using h) hn fun j z hj' hz=>hj (j+1) z (by omega) (by simpa using hz)
     unfold a22 at this ⊢
     rw [List.find?_cons_of_neg (by simpa using h0)]
     exact this
def b65 (K:PySem.W.Frag):Sp:=fun vs H Q _=>∃ (tv:V) (nm:Str) (ts:Tks) (b:List Stm),vs=[tv,.str nm]∧TksAt H tv ts∧a22 ts nm=some b∧∀ (i:Nat) (x:Str×List Stm) (H':Hp),Same H H'→ts[i]?=some x→x.2=b→x.1=nm→Q (.int (i:Nat)) H'
theorem ah5 (T:Txt K mg t):FnOk P w K mg base CX0 1 t.a_first_talk t.fd_first_talk ["talks","name"] (b65 K):=by
 refine T.f_first_talk.F.ok sc_first_talk (fun vs H Q E h=>?_) (fun cdv A outer s H vs Q E hr h=>?_)
 · obtain ⟨tv,nm,ts,b,rfl,_⟩:=h
   rfl
 · obtain ⟨tv,nm,ts,b,rfl,⟨lt,tvs,rfl,ht,hE,hl⟩,hf,q⟩:=h
   refine ⟨_,(@a02 _ _ _ _ _ (@a82 _ _ _ _ _ _ _ _ PassesOwn.never rfl (bd4 K rfl T.z_enumerate (@a00 _ _ _ _ _ (pv 0) (@a01 _) (by rfl))) (an1 K (n:=2) rfl (a69 (a26 (i:=2) sc_first_talk.nd rfl (by walk_at "o")) (a69 (a26 (i:=3) sc_first_talk.nd rfl (by walk_at "o")) (@am5 _)))) (@a04 _ _ _ (@a25 _ _ _ _ _ _ _ _ (@a05 _ _ _ _ _ _ _ _ a40 (@a31 _ _ _ _ _ _ _ (a29 K) (pv 3) (@a03 _ _ _ _) (fun _ _=>rfl)) (pv 1) (nomark _)) (@a04 _ _ _ (@a13 _ _ _ _ (pv 2))) (@a11 _))) (by intro _; rfl))
    (@a04 _ _ _ (@a13 _ _ _ _ (@ae2 _ _ _)))),?_⟩
   have sl:(1000000:Nat)≤sizeLine:=le_line (Nat.le_refl _)
   walk_at "go"
   refine ⟨⟨_,SqL.of ht⟩,b55 (K:=K) (a:=lt) (xs:=tvs) (fun i σ H'=>Same H H'∧i≤ts.length∧(∀ j x,j<i→ts[j]?=some x→x.1≠nm)∧∃ y1 y2,σ=[some (.ref lt),some (.str nm),y1,y2]) ⟨Same.refl _,Nat.zero_le _,fun j x h=>absurd h (Nat.not_lt_zero _),_,_,rfl⟩ (fun i σ H' _ zz=>by obtain ⟨z,_⟩:=zz; exact SqL.of (z _ _ ht)) ?_ ?_⟩
   · rintro i v σ H2 pq H3 hv ⟨s2,hi,hno,y1,y2,rfl⟩ s3 e3
     have hil:i<ts.length:=by rw [← hE.1]; exact (List.getElem?_eq_some_iff.mp hv).1
     obtain ⟨x,hx⟩:∃ x,ts[i]?=some x:=⟨_,List.getElem?_eq_getElem hil⟩
     obtain ⟨a,u,rfl,ea,_⟩:=hE.2 i v x hv hx
     refine ⟨_,_,rfl,SqT.of e3,rfl,?_⟩
     walk_at "run"
     have s23:=s2.trans s3
     refine a46 (SqT.of (s23 _ _ ea)) (a09 (j:=0) rfl) ?_
     walk_at "run"
     by_cases h:x.1=nm
     · refine a32 h ?_
       walk_at "run"
       have:=b17 hx h hno
       rw [hf] at this
       exact q i x H3 s23 hx (Option.some.inj this).symm h
     · refine a33 h ?_
       walk_at "run"
       refine ⟨s23,hil,fun j y hj hy=>?_,_,_,rfl⟩
       by_cases hji:j=i
       · subst hji
         rw [hx] at hy
         rw [← Option.some.inj hy]
         exact h
       · exact hno j y (by omega) hy
   · rintro σ H2 ⟨s2,_,hno,y1,y2,rfl⟩
     exfalso
     unfold a22 at hf
     obtain ⟨x,hx,rfl⟩:=Option.map_eq_some_iff.mp hf
     have hm:=List.mem_of_find?_eq_some hx
     have hp:=List.find?_some hx
     obtain ⟨j,hj⟩:=List.mem_iff_getElem?.mp hm
     exact hno j x (by rw [hE.1]; exact (List.getElem?_eq_some_iff.mp hj).1) hj (by simpa using hp)
theorem b96 {H:Hp}:∀ {ps:List Pt}{vs:List V}{fs:List Addr},Tr.Ats H (ps.map Pt.tr) vs fs→vs=ps.map Pt.v
 | [],vs,fs,h=>by
   simp only [List.map_nil,Tr.Ats] at h
   exact h.1
 | p::ps,vs,fs,h=>by
   simp only [List.map_cons,Tr.Ats] at h
   obtain ⟨v,ws,f,g,rfl,_,h1,h2⟩:=h
   rw [b96 h2]
   cases p with
   | s z=>simp only [Pt.tr,Tr.At] at h1; rw [h1.1]; rfl
   | i z=>simp only [Pt.tr,Tr.At] at h1; rw [h1.1]; rfl
theorem al6 {H:Hp}{v:V}{ps:List Pt}(h:SAt H v (.plain ps)):∃ a,v=.ref a∧H a=some (.tup (ps.map Pt.v)):=by
 obtain ⟨fs,h⟩:=h
 simp only [Stm.tr,Tr.At] at h
 obtain ⟨a,vs,rfl,e,h2⟩:=h
 rw [b96 h2] at e
 exact ⟨a,rfl,e⟩
theorem ar5 {H:Hp}{a:Addr}{ps:List Pt}(e:H a=some (.tup (ps.map Pt.v))):SAt H (.ref a) (.plain ps):=by
 have:∀ ps:List Pt,Tr.Ats H (ps.map Pt.tr) (ps.map Pt.v) []:=fun ps=>by
  induction ps with
  | nil=>simp [Tr.Ats]
  | cons p ps ih =>
    simp only [List.map_cons,Tr.Ats]
    refine ⟨_,_,[],[],rfl,rfl,?_,ih⟩
    cases p with
    | s z=>simp [Pt.tr,Pt.v,Tr.At]
    | i z=>simp [Pt.tr,Pt.v,Tr.At]
 refine ⟨[],?_⟩
 simp only [Stm.tr,Tr.At]
 exact ⟨a,_,rfl,e,this ps⟩
theorem ah6 {H:Hp}{v:V}{n:Str}{e:Ex}(h:SAt H v (.put n e)):∃ a u,v=.ref a∧H a=some (.tup [.str "put",.str n,u]):=by
 obtain ⟨fs,h⟩:=h
 simp only [Stm.tr,Tr.At,Tr.Ats] at h
 obtain ⟨a,vs,rfl,e1,v1,w1,f1,g1,rfl,rfl,⟨rfl,rfl⟩,v2,w2,f2,g2,rfl,rfl,⟨rfl,rfl⟩,v3,w3,f3,g3,rfl,rfl,_,rfl,rfl⟩:=h
 exact ⟨a,v3,rfl,e1⟩
theorem al7 {κ:Type} [DecidableEq κ] {kvs:List (κ×V)}{k:κ}{v:V}:(putK kvs k v).map (·.1)=if k∈kvs.map (·.1) then kvs.map (·.1) else kvs.map (·.1)++[k]:=by
 unfold putK
 by_cases h:k∈kvs.map (·.1)
 · rw [if_pos h,if_pos ?_]
   · rw [List.map_map]
     refine List.map_congr_left fun x _=>?_
     simp only [Function.comp]
     split
     · rfl
     · rfl
   · rw [List.any_eq_true]
     obtain ⟨x,hx,e⟩:=List.mem_map.mp h
     exact ⟨x,hx,decide_eq_true e⟩
 · rw [if_neg h,if_neg ?_]
   · simp
   · rw [List.any_eq_true]
     rintro ⟨x,hx,e⟩
     exact h (List.mem_map.mpr ⟨x,hx,of_decide_eq_true e⟩)
theorem KnAt.put {ts:Tks}{H:Hp}{kd l:Addr}{kvs:List (Key×V)}{nm:Str}{b:List Stm}{n:Nat}{E:List Wd}(h:KnAt ts H kd kvs) (hn:nm∈ts.map (·.1)) (hl:l≠kd) (hf:a22 ts nm=some b) (he:eBf (eS ts n) b=some E) (e:H l=some (.lst (wdsV E))):KnAt ts (upd H kd (.dK (putK kvs (Sum.inr nm) (.ref l)))) kd (putK kvs (Sum.inr nm) (.ref l)):=by
 refine ⟨a18,?_,fun k hk=>?_,fun nm' v hv=>?_⟩
 · rw [al7]
   split
   · exact h.n
   · rename_i hm
     rw [List.nodup_append]
     exact ⟨h.n,by simp,fun a ha b hb z=>hm (by rw [← List.mem_singleton.mp hb,←z]; exact ha)⟩
 · rw [al7] at hk
   split at hk
   · exact h.k k hk
   · rcases List.mem_append.mp hk with hk | hk
     · exact h.k k hk
     · exact ⟨nm,hn,List.mem_singleton.mp hk⟩
 · rw [aa9] at hv
   split at hv
   · rename_i hh
     obtain rfl:=Sum.inr.inj hh
     obtain rfl:=Option.some.inj hv
     exact ⟨l,b,n,E,rfl,hl,hf,he,by rw [a10 hl]; exact e⟩
   · obtain ⟨l',b',n',E',z1,z2,z3,z4,z5⟩:=h.v nm' v hv
     exact ⟨l',b',n',E',z1,z2,z3,z4,by rw [a10 z2]; exact z5⟩
theorem at7 {ts:Tks}{nm:Str}{b:List Stm}(h:a22 ts nm=some b):nm∈ts.map (·.1):=by
 unfold a22 at h
 obtain ⟨x,hx,_⟩:=Option.map_eq_some_iff.mp h
 have:=List.find?_some hx
 exact List.mem_map.mpr ⟨x,List.mem_of_find?_eq_some hx,by simpa using this⟩
theorem a80 (a b:List Wd):wdsV a++wdsV b=wdsV (a++b):=by simp [wdsV,a16]
theorem bf2 (k:Str):inV (.str k) (wdsV allW)=(endW k).isSome:=by
 unfold wdsV
 rw [af9,Bool.eq_iff_iff,decide_eq_true_iff,List.mem_map]
 constructor
 · rintro ⟨w,_,rfl⟩
   cases h:endW w.txt with
   | some v=>rfl
   | none=>exact absurd rfl (ak6 h w)
 · intro h
   obtain ⟨w,hw⟩:=Option.isSome_iff_exists.mp h
   exact ⟨w,ag9 w,a93 hw⟩
theorem b66 {K:PySem.W.Frag}{p:Addr}{H:Hp}{Q:VK}{k:Str}(h1:SqT K H p (wdsV allW)) (h:Q (.bl (endW k).isSome) H):rIn K false (.str k) (.ref p) H Q:=⟨p,wdsV allW,rfl,.inr h1,rfl,ab1 _,by rw [if_neg Bool.false_ne_true,bf2]; exact h⟩
theorem ar6 {K:PySem.W.Frag}{p:Addr}{H:Hp}{Q:VK}{E:List Wd}(w:Wd) (h1:H p=some (.lst (wdsV E))) (h:Q (.bl (decide (w∈E))) H):rIn K false (.str w.txt) (.ref p) H Q:=⟨p,wdsV E,rfl,.inl (SqL.of h1),rfl,ab1 _,by rw [if_neg Bool.false_ne_true,b16]; exact h⟩
theorem bq4 {K:PySem.W.Frag}{p:Addr}{H:Hp}{Q:VK}{E:List Wd}(w:Wd) (h1:H p=some (.lst (wdsV E))) (h:Q (.bl (!decide (w∈E))) H):rIn K true (.str w.txt) (.ref p) H Q:=⟨p,wdsV E,rfl,.inl (SqL.of h1),rfl,ab1 _,by rw [if_pos rfl,b16]; exact h⟩
theorem a61 {kd l:Addr}{H H2:Hp}{o:HO}(hk:H2 kd=some o) (s:KS kd H H2) (f:H2 l=none):H l=none:=by
 cases h:H l with
 | none=>rfl
 | some o' =>
   exfalso
   by_cases hz:l=kd
   · rw [hz,hk] at f; cases f
   · rw [s.at hz h] at f; cases f
theorem ar7 (E:List Wd):E.filter (fun w=>decide (w∈[Wd.back,Wd.stop]))=E.filter (fun w=>decide (w=.back∨w=.stop)):=by
 congr 1
 funext w
 simp
theorem ah7 (E:List Wd):E.filter (fun w=>decide (w∈[Wd.stop]))=E.filter (fun w=>decide (w=.stop)):=by
 congr 1
 funext w
 simp
def b67 (K:PySem.W.Frag) (d:Nat):Sp:=fun vs H Q _=>∃ (bv tv:V) (kd:Addr) (kvs:List (Key×V)) (b:List Stm) (ts:Tks) (n:Nat) (E:List Wd),vs=[bv,tv,.ref kd]∧BAt (woO (some kd) H) bv b∧TksAt (woO (some kd) H) tv ts∧KnAt ts H kd kvs∧n<d∧eBf (eS ts n) b=some E∧∀ l H' kvs',KS kd H H'→KnAt ts H' kd kvs'→H l=none→H' l=some (.lst (wdsV E))→Q (.ref l) H'
def bq5 (K:PySem.W.Frag) (d:Nat):Sp:=fun vs H Q _=>∃ (sv tv:V) (kd:Addr) (kvs:List (Key×V)) (s:Stm) (ts:Tks) (n:Nat) (r:List Wd),vs=[sv,tv,.ref kd]∧SAt (woO (some kd) H) sv s∧TksAt (woO (some kd) H) tv ts∧KnAt ts H kd kvs∧n<d∧eS ts n s=some r∧∀ l H' kvs',KS kd H H'→KnAt ts H' kd kvs'→H l=none→H' l=some (.lst (wdsV r))→Q (.ref l) H'
def bq6 (K:PySem.W.Frag) (d:Nat):Sp:=fun vs H Q _=>∃ (nm:Str) (tv:V) (kd:Addr) (kvs:List (Key×V)) (b:List Stm) (ts:Tks) (n:Nat) (E:List Wd),vs=[.str nm,tv,.ref kd]∧a22 ts nm=some b∧TksAt (woO (some kd) H) tv ts∧KnAt ts H kd kvs∧n<d∧eBf (eS ts n) b=some E∧∀ l H' kvs',KS kd H H'→KnAt ts H' kd kvs'→l≠kd→H' l=some (.lst (wdsV E))→Q (.ref l) H'
theorem ad5 (T:Txt K mg t) {d:Nat}(G_ends_of_body:FnOk P w K mg base CX0 (3*d+1) t.a_ends_of_body t.fd_ends_of_body ["body","talks","known"] (b67 K d)):FnOk P w K mg base CX0 (3*d+2) t.a_ends_of_talk t.fd_ends_of_talk ["name","talks","known"] (bq6 K d):=by
 have G_first_talk:=ah5 (P:=P) (w:=w) (base:=base) T
 refine T.f_ends_of_talk.F.ok ad4 (fun vs H Q E h=>?_) (fun cdv A outer s H vs Q E hr h=>?_)
 · obtain ⟨nm,tv,kd,kvs,b,ts,n,E0,rfl,_⟩:=h
   rfl
 · obtain ⟨nm,tv,kd,kvs,b,ts,n,E0,rfl,hf,ht,hk,hn,he,q⟩:=h
   refine ⟨_,(@a47 _ _ _ _ _ (@a25 _ _ _ _ _ _ _ _ (bg7 (ax1 (by exact b37 hr) (pv 0) (pv 2))) (@a04 _ _ _ (bc0 (by exact b37 hr) (pv 2) (pv 0) (@a08 _ _ _ _ _ _ _ _ _ _ _ _ _ _ _ _ G_ends_of_body (hr.mono (by omega)) rfl T.f_ends_of_body.m T.f_ends_of_body.F.kp T.f_ends_of_body.b .nil a24 (@a00 _ _ _ _ _ (@a31 _ _ _ _ _ _ _ (a29 K) (@a31 _ _ _ _ _ _ _ (a21 K) (pv 1) (@a08 _ _ _ _ _ _ _ _ _ _ _ _ _ _ _ _ G_first_talk (hr.mono (by omega)) rfl T.f_first_talk.m T.f_first_talk.F.kp T.f_first_talk.b .nil a24 (@a00 _ _ _ _ _ (pv 1) (@a00 _ _ _ _ _ (pv 0) (@a01 _) (by rfl)) (by rfl)) (by decide) (by rfl) (by rfl)) (fun _ _=>rfl)) (@a03 _ _ _ _) (fun _ _=>rfl)) (@a00 _ _ _ _ _ (pv 1) (@a00 _ _ _ _ _ (pv 2) (@a01 _) (by rfl)) (by rfl)) (by rfl)) (by decide) (by rfl) (by rfl)) rfl)) (@a11 _))
    (@a04 _ _ _ (@a13 _ _ _ _ (@ax0 _ _ _ _ _ _ (by exact b37 hr) (pv 2) (pv 0) (fun _ _=>rfl))))),?_⟩
   have sl:(1000000:Nat)≤sizeLine:=le_line (Nat.le_refl _)
   walk_at "go"
   refine ac5 (fun σ' H'=>σ'=[some (.str nm),some tv,some (.ref kd)]∧∃ kvs',KS kd H H'∧KnAt ts H' kd kvs'∧(valV kvs' (Sum.inr nm)).isSome=true) ?_ ?_
   · walk_at "run"
     refine ⟨kd,_,rfl,DGet.k (k:=Sum.inr nm) hk.h,?_⟩
     walk_at "run"
     cases hv0:valV kvs (Sum.inr nm) with
     | some v =>
       rw [if_neg (by simp)]
       walk_at "run"
       exact ⟨rfl,kvs,Same.refl _,hk,by rw [hv0]; rfl⟩
     | none =>
       rw [if_pos (by simp)]
       walk_at "run"
       refine ⟨tv,nm,ts,b,rfl,ht.same woL,hf,fun i x H1 s1 hx e1 e2=>?_⟩
       obtain ⟨lt,tvs,htv,h1,h2,h3⟩:=id ht
       subst htv
       have hil:=(List.getElem?_eq_some_iff.mp hx).1
       obtain ⟨v,hv⟩:∃ v,tvs[i]?=some v:=⟨_,List.getElem?_eq_getElem (by rw [h2.1]; exact hil)⟩
       obtain ⟨a,u,rfl,ea,hb⟩:=h2.2 i v x hv hx
       refine a59 (SqL.of (s1 _ _ (woL _ _ h1))) (a09 (j:=i) hv) ?_
       walk_at "run"
       refine a46 (SqT.of (s1 _ _ (woL _ _ ea))) (a09 (j:=1) rfl) ?_
       walk_at "run"
       rw [e1] at hb
       refine ⟨u,.ref lt,kd,kvs,b,ts,n,E0,rfl,hb.same (woS s1),ht.same (woS s1),hk.same s1,hn,he,fun l H2 kvs2 s2 k2 hl0 e3=>?_⟩
       walk_at "run"
       have hlk:l≠kd:=fun z=>by rw [z,s1 _ _ hk.h] at hl0; cases hl0
       have:=k2.len
       have:=h3
       refine ⟨kd,_,rfl,DPut.k (k:=Sum.inr nm) k2.h (by omega),?_⟩
       have k3:=k2.put (at7 hf) hlk hf he e3
       have s3:KS kd H (upd H2 kd (.dK (putK kvs2 (Sum.inr nm) (.ref l)))):=by
        have:=(KS.of s1).trans s2
        unfold KS at this ⊢
        rw [woU]
        exact this
       refine ⟨rfl,_,s3,k3,?_⟩
       rw [aa9,if_pos rfl]
       rfl
   rintro σ' H1 ⟨rfl,kvs1,s1,k1,hv⟩
   walk_at "run"
   obtain ⟨v,hv⟩:=Option.isSome_iff_exists.mp hv
   obtain ⟨l,b',n',E',rfl,z2,z3,z4,z5⟩:=k1.v nm v hv
   rw [hf] at z3
   obtain rfl:=Option.some.inj z3
   obtain rfl:=bo5 he z4
   have hD:=DGet.k (k:=Sum.inr nm) k1.h
   rw [hv] at hD
   exact ⟨kd,_,rfl,hD,q l H1 kvs1 s1 k1 z2 z5⟩
theorem a74 (T:Txt K mg t) {d:Nat}(G_ends_of_body:FnOk P w K mg base CX0 (3*d+1) t.a_ends_of_body t.fd_ends_of_body ["body","talks","known"] (b67 K d)) (G_ends_of_talk:FnOk P w K mg base CX0 (3*d+2) t.a_ends_of_talk t.fd_ends_of_talk ["name","talks","known"] (bq6 K d)):FnOk P w K mg base CX0 (3*d+3) t.a_ends_of_statement t.fd_ends_of_statement ["statement","talks","known"] (bq5 K (d+1)):=by
 have G_kept_ends:=al5 (P:=P) (w:=w) (base:=base) T
 refine T.f_ends_of_statement.F.ok sc_ends_of_statement (fun vs H Q E h=>?_) (fun cdv A outer s H vs Q E hr h=>?_)
 · obtain ⟨sv,tv,kd,kvs,s0,ts,n,r,rfl,_⟩:=h
   rfl
 · obtain ⟨sv,tv,kd,kvs,s0,ts,n,r,rfl,hs,ht,hk,hn,he,q⟩:=h
   refine ⟨_,(@a02 _ _ _ _ _ (@a15 _ _ 3 _ _ _ _ sc_ends_of_statement.nd rfl (by walk_at "o") (@a31 _ _ _ _ _ _ _ (a29 K) (pv 0) (@a03 _ _ _ _) (fun _ _=>rfl)) (by rfl) (by walk_at "o"))
    (@a02 _ _ _ _ _ (@a25 _ _ _ _ _ _ _ _ (@a05 _ _ _ _ _ _ _ _ a40 (pv 3) (@a06 _ _ _ _) (nomark _)) (@a04 _ _ _ (@a13 _ _ _ _ (@a12 _ _ _ _ (@a01 _)))) (@a11 _))
    (@a02 _ _ _ _ _ (@a25 _ _ _ _ _ _ _ _ (@a05 _ _ _ _ _ _ _ _ a40 (pv 3) (@a06 _ _ _ _) (nomark _)) (@a04 _ _ _ (@a13 _ _ _ _ (@a27 _ _ _ _ _ _ _ _ a19 (@a08 _ _ _ _ _ _ _ _ _ _ _ _ _ _ _ _ G_ends_of_body (hr.mono (by omega)) rfl T.f_ends_of_body.m T.f_ends_of_body.F.kp T.f_ends_of_body.b .nil a24 (@a00 _ _ _ _ _ (@a31 _ _ _ _ _ _ _ (a29 K) (pv 0) (@a03 _ _ _ _) (fun _ _=>rfl)) (@a00 _ _ _ _ _ (pv 1) (@a00 _ _ _ _ _ (pv 2) (@a01 _) (by rfl)) (by rfl)) (by rfl)) (by decide) (by rfl) (by rfl)) (@a08 _ _ _ _ _ _ _ _ _ _ _ _ _ _ _ _ G_ends_of_body (hr.mono (by omega)) rfl T.f_ends_of_body.m T.f_ends_of_body.F.kp T.f_ends_of_body.b .nil a24 (@a00 _ _ _ _ _ (@a31 _ _ _ _ _ _ _ (a29 K) (pv 0) (@a03 _ _ _ _) (fun _ _=>rfl)) (@a00 _ _ _ _ _ (pv 1) (@a00 _ _ _ _ _ (pv 2) (@a01 _) (by rfl)) (by rfl)) (by rfl)) (by decide) (by rfl) (by rfl))))) (@a11 _))
    (@a02 _ _ _ _ _ (@a25 _ _ _ _ _ _ _ _ (@a05 _ _ _ _ _ _ _ _ a40 (pv 3) (@a06 _ _ _ _) (nomark _)) (@a02 _ _ _ _ _ (@a15 _ _ 4 _ _ _ _ sc_ends_of_statement.nd rfl (by walk_at "o") (@a08 _ _ _ _ _ _ _ _ _ _ _ _ _ _ _ _ G_ends_of_body (hr.mono (by omega)) rfl T.f_ends_of_body.m T.f_ends_of_body.F.kp T.f_ends_of_body.b .nil a24 (@a00 _ _ _ _ _ (@a31 _ _ _ _ _ _ _ (a29 K) (pv 0) (@a03 _ _ _ _) (fun _ _=>rfl)) (@a00 _ _ _ _ _ (pv 1) (@a00 _ _ _ _ _ (pv 2) (@a01 _) (by rfl)) (by rfl)) (by rfl)) (by decide) (by rfl) (by rfl)) (by rfl) (by walk_at "o"))
     (@a04 _ _ _ (@a13 _ _ _ _ (@a27 _ _ _ _ _ _ _ _ a19 (@ap0 _ _ _ _ _ _ _ _ (@a05 _ _ _ _ _ _ _ _ (a90 K) (@a06 _ _ _ _) (pv 4) (by with_unfolding_all rfl)) (@a12 _ _ _ _ (@a00 _ _ _ _ _ (@a06 _ _ _ _) (@a01 _) (by rfl))) (@a12 _ _ _ _ (@a01 _))) (@a08 _ _ _ _ _ _ _ _ _ _ _ _ _ _ _ _ G_kept_ends (hr.mono (by omega)) rfl T.f_kept_ends.m T.f_kept_ends.F.kp T.f_kept_ends.b .nil a24 (@a00 _ _ _ _ _ (pv 4) (@a00 _ _ _ _ _ (@a14 _ _ _ _ _ (@a00 _ _ _ _ _ (@a06 _ _ _ _) (@a00 _ _ _ _ _ (@a06 _ _ _ _) (@a01 _) (by rfl)) (by rfl))) (@a01 _) (by rfl)) (by rfl)) (by decide) (by rfl) (by rfl)))))) (@a11 _))
    (@a02 _ _ _ _ _ (@a25 _ _ _ _ _ _ _ _ (@a05 _ _ _ _ _ _ _ _ a40 (pv 3) (@a06 _ _ _ _) (nomark _)) (@a02 _ _ _ _ _ (@a15 _ _ 4 _ _ _ _ sc_ends_of_statement.nd rfl (by walk_at "o") (@a08 _ _ _ _ _ _ _ _ _ _ _ _ _ _ _ _ G_ends_of_talk (hr.mono (by omega)) rfl T.f_ends_of_talk.m T.f_ends_of_talk.F.kp T.f_ends_of_talk.b .nil a24 (@a00 _ _ _ _ _ (@a31 _ _ _ _ _ _ _ (a29 K) (pv 0) (@a03 _ _ _ _) (fun _ _=>rfl)) (@a00 _ _ _ _ _ (pv 1) (@a00 _ _ _ _ _ (pv 2) (@a01 _) (by rfl)) (by rfl)) (by rfl)) (by decide) (by rfl) (by rfl)) (by rfl) (by walk_at "o"))
     (@a04 _ _ _ (@a13 _ _ _ _ (@a27 _ _ _ _ _ _ _ _ a19 (@ap0 _ _ _ _ _ _ _ _ (@PW.pt _ _ _ (@ba7 _ _ _ _ _ _ _ (@a05 _ _ _ _ _ _ _ _ (a90 K) (@a06 _ _ _ _) (pv 4) (by with_unfolding_all rfl)) (@b72 _ _ _ _ (@a05 _ _ _ _ _ _ _ _ (a90 K) (@a06 _ _ _ _) (pv 4) (by with_unfolding_all rfl))))) (@a12 _ _ _ _ (@a00 _ _ _ _ _ (@a06 _ _ _ _) (@a01 _) (by rfl))) (@a12 _ _ _ _ (@a01 _))) (@a08 _ _ _ _ _ _ _ _ _ _ _ _ _ _ _ _ G_kept_ends (hr.mono (by omega)) rfl T.f_kept_ends.m T.f_kept_ends.F.kp T.f_kept_ends.b .nil a24 (@a00 _ _ _ _ _ (pv 4) (@a00 _ _ _ _ _ (@a14 _ _ _ _ _ (@a00 _ _ _ _ _ (@a06 _ _ _ _) (@a01 _) (by rfl))) (@a01 _) (by rfl)) (by rfl)) (by decide) (by rfl) (by rfl)))))) (@a11 _))
    (@a02 _ _ _ _ _ (@a25 _ _ _ _ _ _ _ _ (@a05 _ _ _ _ _ _ _ _ (a90 K) (pv 3) (au5 (by rfl) T.m_ENDS (by exact T.r_ENDS)) (by with_unfolding_all rfl)) (@a04 _ _ _ (@a13 _ _ _ _ (@a12 _ _ _ _ (@a00 _ _ _ _ _ (pv 3) (@a01 _) (by rfl))))) (@a11 _))
    (@a04 _ _ _ (@a13 _ _ _ _ (@a12 _ _ _ _ (@a00 _ _ _ _ _ (@a06 _ _ _ _) (@a01 _) (by rfl))))))))))),?_⟩
   have sl:(1000000:Nat)≤sizeLine:=le_line (Nat.le_refl _)
   walk_at "go"
   have hs':=hs.same woL
   have fin:∀ l H',Same H H'→H l=none→H' l=some (.lst (wdsV r))→Q (.ref l) H':=fun l H' s e1 e2=>q l H' kvs (KS.of s) (hk.same s) e1 e2
   have kinds:∀ {k:Str}{w:Str},¬ w=k→w≠k:=fun h=>h
   cases n with
   | zero=>simp [eS] at he
   | succ m =>
   cases s0 with
   | wait k bs =>
     obtain ⟨a,l,ws,rfl,e,_,_⟩:=sat_wait.mp hs'
     obtain rfl:=Option.some.inj he
     refine a46 (SqT.of e) (a09 (j:=0) rfl) ?_
     walk_at "run"
     rw [if_pos (by simp)]
     walk_at "run"
     intro l H1 f1 s1 e1
     exact fin l H1 s1 f1 e1
   | put k x =>
     obtain ⟨a,u,rfl,e⟩:=ah6 hs'
     obtain rfl:=Option.some.inj he
     refine a46 (SqT.of e) (a09 (j:=0) rfl) ?_
     walk_at "run"
     rw [if_neg (by decide +kernel)]
     walk_at "run"
     rw [if_neg (by decide +kernel)]
     walk_at "run"
     rw [if_neg (by decide +kernel)]
     walk_at "run"
     rw [if_neg (by decide +kernel)]
     walk_at "run"
     refine b66 (T.d_ENDS.sq _) ?_
     walk_at "run"
     rw [if_neg (by decide +kernel)]
     walk_at "run"
     intro l H1 f1 s1 e1
     exact fin l H1 s1 f1 e1
   | test c x y =>
     obtain ⟨a,u1,u2,u3,rfl,e,h1,h2⟩:=ag6 hs
     have e':=woL _ _ e
     obtain ⟨E1,g1,g2⟩:=Option.bind_eq_some_iff.mp he
     obtain ⟨E2,g3,rfl⟩:=Option.map_eq_some_iff.mp g2
     refine a46 (SqT.of e') (a09 (j:=0) rfl) ?_
     walk_at "run"
     rw [if_neg (by decide +kernel)]
     walk_at "run"
     rw [if_pos (by simp)]
     walk_at "run"
     refine a46 (SqT.of e') (a09 (j:=2) rfl) ?_
     walk_at "run"
     refine ⟨u2,tv,kd,kvs,x,ts,m,E1,rfl,h1,ht,hk,by omega,g1,fun l1 H1 kvs1 s1 k1 f1 e1=>?_⟩
     have n1:l1≠kd:=fun z=>by rw [z,hk.h] at f1; cases f1
     walk_at "run"
     refine a46 (SqT.of (woL _ _ (s1 _ _ e))) (a09 (j:=3) rfl) ?_
     walk_at "run"
     refine ⟨u3,tv,kd,kvs1,y,ts,m,E2,rfl,h2.same s1,ht.same s1,k1,by omega,g3,fun l2 H2 kvs2 s2 k2 f2 e2=>?_⟩
     walk_at "run"
     have b1:=(aa4 g1).2
     have b2:=(aa4 g3).2
     refine a30 (s2.at n1 e1) e2 (by rw [a28,a28]; omega) ?_
     intro l3 H3 f3 s3 e3
     rw [a80] at e3
     have f0:H l3=none:=a61 k2.h (s1.trans s2) f3
     exact q l3 H3 kvs2 ((s1.trans s2).trans (KS.of s3)) (k2.same s3) f0 e3
   | loop x =>
     obtain ⟨a,u,rfl,e,h1⟩:=sat_loop.mp hs
     have e':=woL _ _ e
     obtain ⟨E1,g1,rfl⟩:=Option.map_eq_some_iff.mp he
     refine a46 (SqT.of e') (a09 (j:=0) rfl) ?_
     walk_at "run"
     rw [if_neg (by decide +kernel)]
     walk_at "run"
     rw [if_neg (by decide +kernel)]
     walk_at "run"
     rw [if_pos (by simp)]
     walk_at "run"
     refine a46 (SqT.of e') (a09 (j:=1) rfl) ?_
     walk_at "run"
     refine ⟨u,tv,kd,kvs,x,ts,m,E1,rfl,h1,ht,hk,by omega,g1,fun l1 H1 kvs1 s1 k1 f1 e1=>?_⟩
     walk_at "run"
     have b1:=(aa4 g1).2
     refine ar6 .leave e1 ?_
     walk_at "run"
     by_cases hl:Wd.leave∈E1
     · rw [if_pos (decide_eq_true hl)]
       walk_at "run"
       intro l2 H2 f2 s2 e2
       walk_at "run"
       intro tp H3 f3 s3 e3
       walk_at "run"
       refine ⟨l1,tp,E1,[.back,.stop],rfl,(s2.trans s3) _ _ e1,e3,by omega,fun l4 H4 f4 s4 e4=>?_⟩
       walk_at "run"
       have s14:=s2.trans (s3.trans s4)
       refine a30 ((s3.trans s4) _ _ e2) e4 (by rw [a28]; have:=List.length_filter_le (fun w=>decide (w∈[Wd.back,.stop])) E1; simp only [List.length_cons,List.length_nil]; omega) ?_
       intro l5 H5 f5 s5 e5
       refine q l5 H5 kvs1 (s1.trans (KS.of (s14.trans s5))) (k1.same (s14.trans s5)) (a61 (s14 _ _ k1.h) (s1.trans (KS.of s14)) f5) ?_
       rw [e5,ar7]
       unfold ak7
       rw [if_pos hl,←a80]
       rfl
     · rw [if_neg (by simp [hl])]
       walk_at "run"
       intro l2 H2 f2 s2 e2
       walk_at "run"
       intro tp H3 f3 s3 e3
       walk_at "run"
       refine ⟨l1,tp,E1,[.back,.stop],rfl,(s2.trans s3) _ _ e1,e3,by omega,fun l4 H4 f4 s4 e4=>?_⟩
       walk_at "run"
       have s14:=s2.trans (s3.trans s4)
       refine a30 ((s3.trans s4) _ _ e2) e4 (by rw [a28]; have:=List.length_filter_le (fun w=>decide (w∈[Wd.back,.stop])) E1; simp only [List.length_cons,List.length_nil]; omega) ?_
       intro l5 H5 f5 s5 e5
       refine q l5 H5 kvs1 (s1.trans (KS.of (s14.trans s5))) (k1.same (s14.trans s5)) (a61 (s14 _ _ k1.h) (s1.trans (KS.of s14)) f5) ?_
       rw [e5,ar7]
       unfold ak7
       rw [if_neg hl,←a80]
       rfl
   | plain ps =>
     obtain ⟨a,rfl,e⟩:=al6 hs'
     unfold eS at he
     split at he
     · rename_i k nm
       have e:H a=some (.tup [.str k,.str nm]):=e
       refine a46 (SqT.of e) (a09 (j:=0) rfl) ?_
       walk_at "run"
       split at he
       · rename_i hk'
         subst hk'
         obtain ⟨b,g1,g2⟩:=Option.bind_eq_some_iff.mp he
         obtain ⟨E1,g3,rfl⟩:=Option.map_eq_some_iff.mp g2
         have b1:=(aa4 g3).2
         rw [if_neg (by decide +kernel)]
         walk_at "run"
         rw [if_neg (by decide +kernel)]
         walk_at "run"
         rw [if_neg (by decide +kernel)]
         walk_at "run"
         rw [if_pos (by simp)]
         walk_at "run"
         refine a46 (SqT.of e) (a09 (j:=1) rfl) ?_
         walk_at "run"
         refine ⟨nm,tv,kd,kvs,b,ts,m,E1,rfl,g1,ht,hk,by omega,g3,fun l1 H1 kvs1 s1 k1 n1 e1=>?_⟩
         walk_at "run"
         refine ar6 .on e1 ?_
         walk_at "run"
         by_cases ho:Wd.on∈E1
         · rw [if_pos (decide_eq_true ho),if_pos rfl]
           walk_at "run"
           intro l2 H2 f2 s2 e2
           walk_at "run"
           intro tp H3 f3 s3 e3
           walk_at "run"
           refine ⟨l1,tp,E1,[.stop],rfl,(s2.trans s3) _ _ e1,e3,by omega,fun l4 H4 f4 s4 e4=>?_⟩
           walk_at "run"
           have s14:=s2.trans (s3.trans s4)
           refine a30 ((s3.trans s4) _ _ e2) e4 (by rw [a28]; have:=List.length_filter_le (fun w=>decide (w∈[Wd.stop])) E1; simp only [List.length_cons,List.length_nil]; omega) ?_
           intro l5 H5 f5 s5 e5
           refine q l5 H5 kvs1 (s1.trans (KS.of (s14.trans s5))) (k1.same (s14.trans s5)) (a61 (s14 _ _ k1.h) (s1.trans (KS.of s14)) f5) ?_
           rw [e5,ah7]
           unfold ac8
           rw [if_pos (.inl ho),←a80]
           rfl
         · rw [if_neg (by simp [ho])]
           walk_at "run"
           refine ar6 .back e1 ?_
           walk_at "run"
           by_cases hb:Wd.back∈E1
           · rw [if_pos (decide_eq_true hb)]
             walk_at "run"
             intro l2 H2 f2 s2 e2
             walk_at "run"
             intro tp H3 f3 s3 e3
             walk_at "run"
             refine ⟨l1,tp,E1,[.stop],rfl,(s2.trans s3) _ _ e1,e3,by omega,fun l4 H4 f4 s4 e4=>?_⟩
             walk_at "run"
             have s14:=s2.trans (s3.trans s4)
             refine a30 ((s3.trans s4) _ _ e2) e4 (by rw [a28]; have:=List.length_filter_le (fun w=>decide (w∈[Wd.stop])) E1; simp only [List.length_cons,List.length_nil]; omega) ?_
             intro l5 H5 f5 s5 e5
             refine q l5 H5 kvs1 (s1.trans (KS.of (s14.trans s5))) (k1.same (s14.trans s5)) (a61 (s14 _ _ k1.h) (s1.trans (KS.of s14)) f5) ?_
             rw [e5,ah7]
             unfold ac8
             rw [if_pos (.inr hb),←a80]
             rfl
           · rw [if_neg (by simp [hb])]
             walk_at "run"
             intro l2 H2 f2 s2 e2
             walk_at "run"
             intro tp H3 f3 s3 e3
             walk_at "run"
             refine ⟨l1,tp,E1,[.stop],rfl,(s2.trans s3) _ _ e1,e3,by omega,fun l4 H4 f4 s4 e4=>?_⟩
             walk_at "run"
             have s14:=s2.trans (s3.trans s4)
             refine a30 ((s3.trans s4) _ _ e2) e4 (by rw [a28]; have:=List.length_filter_le (fun w=>decide (w∈[Wd.stop])) E1; simp only [List.length_cons,List.length_nil]; omega) ?_
             intro l5 H5 f5 s5 e5
             refine q l5 H5 kvs1 (s1.trans (KS.of (s14.trans s5))) (k1.same (s14.trans s5)) (a61 (s14 _ _ k1.h) (s1.trans (KS.of s14)) f5) ?_
             rw [e5,ah7]
             unfold ac8
             rw [if_neg (fun z=>z.elim ho hb),←a80]
             rfl
       · rename_i hk'
         split at he
         · rename_i hk2
           subst hk2
           obtain rfl:=Option.some.inj he
           rw [if_neg (by decide +kernel)]
           walk_at "run"
           rw [if_neg (by decide +kernel)]
           walk_at "run"
           rw [if_neg (by decide +kernel)]
           walk_at "run"
           rw [if_neg (by decide +kernel)]
           walk_at "run"
           refine b66 (T.d_ENDS.sq _) ?_
           walk_at "run"
           rw [if_neg (by decide +kernel)]
           walk_at "run"
           intro l H1 f1 s1 e1
           exact fin l H1 s1 f1 e1
         · cases he
     · rename_i k
       obtain ⟨v,hv,rfl⟩:=Option.map_eq_some_iff.mp he
       have hkv:=a93 hv
       subst hkv
       have e:H a=some (.tup [.str v.txt]):=e
       refine a46 (SqT.of e) (a09 (j:=0) rfl) ?_
       walk_at "run"
       have hno:v.txt≠"wait"∧v.txt≠"test"∧v.txt≠"loop"∧v.txt≠"call":=by cases v <;> decide +kernel
       rw [if_neg (by simpa using hno.1)]
       walk_at "run"
       rw [if_neg (by simpa using hno.2.1)]
       walk_at "run"
       rw [if_neg (by simpa using hno.2.2.1)]
       walk_at "run"
       rw [if_neg (by simpa using hno.2.2.2)]
       walk_at "run"
       refine b66 (T.d_ENDS.sq _) ?_
       walk_at "run"
       rw [if_pos (by rw [hv]; rfl)]
       walk_at "run"
       intro l H1 f1 s1 e1
       exact fin l H1 s1 f1 e1
     · rename_i k i z
       split at he
       · rename_i hk2
         subst hk2
         obtain rfl:=Option.some.inj he
         have e:H a=some (.tup [.str "hand",.int i,.str z]):=e
         refine a46 (SqT.of e) (a09 (j:=0) rfl) ?_
         walk_at "run"
         rw [if_neg (by decide +kernel)]
         walk_at "run"
         rw [if_neg (by decide +kernel)]
         walk_at "run"
         rw [if_neg (by decide +kernel)]
         walk_at "run"
         rw [if_neg (by decide +kernel)]
         walk_at "run"
         refine b66 (T.d_ENDS.sq _) ?_
         walk_at "run"
         rw [if_neg (by decide +kernel)]
         walk_at "run"
         intro l H1 f1 s1 e1
         exact fin l H1 s1 f1 e1
       · cases he
     · cases he
theorem ad6 (T:Txt K mg t) {d:Nat}(G_ends_of_statement:FnOk P w K mg base CX0 (3*d+3) t.a_ends_of_statement t.fd_ends_of_statement ["statement","talks","known"] (bq5 K (d+1))):FnOk P w K mg base CX0 (3*d+4) t.a_ends_of_body t.fd_ends_of_body ["body","talks","known"] (b67 K (d+1)):=by
 refine T.f_ends_of_body.F.ok sc_ends_of_body (fun vs H Q E h=>?_) (fun cdv A outer s H vs Q E hr h=>?_)
 · obtain ⟨bv,tv,kd,kvs,b,ts,n,E0,rfl,_⟩:=h
   rfl
 · obtain ⟨bv,tv,kd,kvs,b,ts,n,E0,rfl,hb,ht,hk,hn,he,q⟩:=h
   refine ⟨_,(@a02 _ _ _ _ _ (@a15 _ _ 3 _ _ _ _ sc_ends_of_body.nd rfl (by walk_at "o") (@a12 _ _ _ _ (@a00 _ _ _ _ _ (@a06 _ _ _ _) (@a01 _) (by rfl))) (by rfl) (by walk_at "o"))
    (@a02 _ _ _ _ _ (@a82 _ _ _ _ _ _ _ _ PassesOwn.never rfl (a43 K (pv 0)) (a26 (i:=4) sc_ends_of_body.nd rfl (by walk_at "o")) (@a02 _ _ _ _ _ (@a25 _ _ _ _ _ _ _ _ (@a05 _ _ _ _ _ _ _ _ (ax6 K) (@a06 _ _ _ _) (pv 3) (by with_unfolding_all rfl)) (@a04 _ _ _ (@b27 _ _)) (@a11 _))
     (@a04 _ _ _ (@a15 _ _ 3 _ _ _ _ sc_ends_of_body.nd rfl (by walk_at "o") (@a27 _ _ _ _ _ _ _ _ a19 (b42 (Nt:=["word"]) (Nf:=[]) (caps:=[]) rfl (a97 (sc:=a07 a39) rfl rfl (by decide +kernel) (by decide +kernel) (by decide +kernel) rfl (by decide +kernel)) (a43 K (pv 3)) (fun _ _ _ _ _=>(a26 (i:=0) (show (["word"]:List Str).Nodup by decide +kernel) rfl (by walk_at "o"))) (fun _ _ _ _ _=>(@af4 _ _ _ (@a05 _ _ _ _ _ _ _ _ bs3 (pv 0) (@a06 _ _ _ _) (nomark _)))) (fun _ _ _ _ _=>(pv 0))) (@a08 _ _ _ _ _ _ _ _ _ _ _ _ _ _ _ _ G_ends_of_statement (hr.mono (by omega)) rfl T.f_ends_of_statement.m T.f_ends_of_statement.F.kp T.f_ends_of_statement.b .nil a24 (@a00 _ _ _ _ _ (pv 4) (@a00 _ _ _ _ _ (pv 1) (@a00 _ _ _ _ _ (pv 2) (@a01 _) (by rfl)) (by rfl)) (by rfl)) (by decide) (by rfl) (by rfl))) (by rfl) (by walk_at "o")))) (by intro _; rfl))
    (@a04 _ _ _ (@a13 _ _ _ _ (b42 (Nt:=["word"]) (Nf:=["ends"]) (caps:=[3]) rfl (a97 (sc:=a07 a39) rfl rfl (by decide +kernel) (by decide +kernel) (by decide +kernel) rfl (by decide +kernel)) (bc7 K (au5 (by rfl) T.m_ENDS (by exact T.r_ENDS))) (fun _ _ _ _ _=>(a26 (i:=0) (show (["word","ends"]:List Str).Nodup by decide +kernel) rfl (by walk_at "o"))) (fun _ _ _ _ _=>(@af4 _ _ _ (@a05 _ _ _ _ _ _ _ _ (a90 K) (pv 0) (pv 1) (by with_unfolding_all rfl)))) (fun _ _ _ _ _=>(pv 0))))))),?_⟩
   have sl:(1000000:Nat)≤sizeLine:=le_line (Nat.le_refl _)
   obtain ⟨bl,us,rfl,eb,hE⟩:=bat_iff.mp hb
   have hbl:b.length≤1000∧∃ R,eL (eS ts n) b [.on]=some R∧E0=ordW R:=by
    unfold eBf at he
    split at he
    · rename_i h
      obtain ⟨R,h1,h2⟩:=Option.map_eq_some_iff.mp he
      exact ⟨h,R,h1,h2.symm⟩
    · cases he
   obtain ⟨hbl,R,hR,rfl⟩:=hbl
   have hlt:=ht
   walk_at "go"
   intro le1 H1 f1 s1 e1
   walk_at "run"
   rename_i Nx hNx
   have fin:∀ (le:Addr) (kvs':List (Key×V)) (y:Option V) (H':Hp),KS kd H H'→KnAt ts H' kd kvs'→le≠kd→H' le=some (.lst (wdsV R))→Nx [some (.ref bl),some tv,some (.ref kd),some (.ref le),y] H':=fun le kvs' y H' s k nl e=>by
    refine hNx _ _ ?_
    walk_at "run"
    refine ⟨⟨_,T.d_ENDS.sq _⟩,bk7 (xs:=wdsV allW) (le_line (by rw [a28]; decide)) (fun i acc H2=>H'=H2∧i≤allW.length∧acc=wdsV ((allW.take i).filter fun w=>decide (w∈R))) ⟨rfl,Nat.zero_le _,rfl⟩ (fun i acc H2 zz=>by
     obtain ⟨rfl,hi,rfl⟩:=zz
     have:=List.length_filter_le (fun w=>decide (w∈R)) (allW.take i)
     rw [List.length_take] at this
     exact ⟨by rw [a28]; omega,T.d_ENDS.sq _⟩) ?_ ?_⟩
    · rintro i x acc H2 hx ⟨rfl,hi,rfl⟩
      obtain ⟨v,hv,rfl⟩:=b15 hx
      have hil:=(List.getElem?_eq_some_iff.mp hv).1
      walk_at "run"
      refine ar6 v e ?_
      walk_at "run"
      have e3:(allW.take (i+1)).filter (fun w=>decide (w∈R))=(allW.take i).filter (fun w=>decide (w∈R))++(if v∈R then [v] else []):=by
       rw [List.take_add_one,hv,Option.toList_some,List.filter_append]
       by_cases h:v∈R
       · rw [if_pos h]; simp [h]
       · rw [if_neg h]; simp [h]
      rw [e3]
      by_cases h:v∈R
      · rw [if_pos (decide_eq_true h),if_pos h]
        walk_at "run"
        exact ⟨rfl,hil,by simp [wdsV,a16]⟩
      · rw [if_neg (by simp [h]),if_neg h,List.append_nil]
        exact ⟨rfl,hil,rfl⟩
    · rintro acc H2 ⟨rfl,_,rfl⟩ p9 H9 f9 s9 e9
      rw [a28,List.take_length] at e9
      exact q p9 H9 kvs' (s.trans (KS.of s9)) (k.same s9) (a61 k.h s f9) e9
   have hnk:∀ {H2:Hp}{kvs2:List (Key×V)}{l:Addr},KnAt ts H2 kd kvs2→H2 l=none→l≠kd:=fun k f z=>by rw [z,k.h] at f; cases f
   refine ⟨⟨_,SqL.of (s1 _ _ (woL _ _ eb))⟩,a83 (K:=K) (a:=bl) (xs:=us) (fun i σ H'=>i≤b.length∧∃ (e:List Wd) (le:Addr) (kvs':List (Key×V)),KS kd H H'∧KnAt ts H' kd kvs'∧le≠kd∧H' le=some (.lst (wdsV e))∧e.length≤1+10*i∧eL (eS ts n) (b.drop i) e=some R∧∃ y,σ=[some (.ref bl),some tv,some (.ref kd),some (.ref le),y]) ⟨Nat.zero_le _,[.on],le1,kvs,KS.of s1,hk.same s1,hnk hk f1,e1,by simp,hR,_,rfl⟩ (fun i σ H' _ zz=>by obtain ⟨_,e,le,kvs',z,_⟩:=zz; exact SqL.of (woL _ _ (z _ _ eb))) ?_ ?_⟩
   · rintro i sv σ H2 hsv ⟨hi,e,le,kvs2,s2,k2,nl,e2,hel,heL,y,rfl⟩
     have hil:i<b.length:=by rw [← hE.1]; exact (List.getElem?_eq_some_iff.mp hsv).1
     obtain ⟨st,hst⟩:∃ st,b[i]?=some st:=⟨_,List.getElem?_eq_getElem hil⟩
     have hsat:=hE.2 i sv st hsv hst
     have hdr:b.drop i=st::b.drop (i+1):=by
      obtain ⟨h1,h2⟩:=List.getElem?_eq_some_iff.mp hst
      rw [← h2]
      exact List.drop_eq_getElem_cons h1
     rw [hdr] at heL
     unfold eL at heL
     walk_at "run"
     refine bq4 .on e2 ?_
     walk_at "run"
     by_cases ho:Wd.on∈e
     · rw [if_neg (by simp [ho])]
       rw [if_pos ho] at heL
       obtain ⟨r,g1,g2⟩:=Option.bind_eq_some_iff.mp heL
       have hrl:=bo6 g1
       walk_at "run"
       refine ⟨⟨_,SqL.of e2⟩,am9 (xs:=wdsV e) (le_line (by rw [a28]; omega)) (fun i acc H3=>H2=H3∧i≤e.length∧acc=wdsV ((e.take i).filter fun w=>decide (w≠.on))) ⟨rfl,Nat.zero_le _,rfl⟩ (fun i acc H3 zz=>by
        obtain ⟨rfl,hi,rfl⟩:=zz
        have:=List.length_filter_le (fun w=>decide (w≠Wd.on)) (e.take i)
        rw [List.length_take] at this
        exact ⟨by rw [a28]; omega,SqL.of e2⟩) ?_ ?_⟩
       · rintro j x acc H3 hx ⟨rfl,hj,rfl⟩
         obtain ⟨v,hv,rfl⟩:=b15 hx
         have hil:=(List.getElem?_eq_some_iff.mp hv).1
         walk_at "run"
         have e3:(e.take (j+1)).filter (fun w=>decide (w≠Wd.on))=(e.take j).filter (fun w=>decide (w≠Wd.on))++(if v=Wd.on then [] else [v]):=by
          rw [List.take_add_one,hv,Option.toList_some,List.filter_append]
          by_cases h:v=Wd.on
          · rw [if_pos h]; simp [h]
          · rw [if_neg h]; simp [h]
         rw [e3]
         by_cases h:v=Wd.on
         · subst h
           rw [if_neg (by simp [Wd.txt]),if_pos rfl,List.append_nil]
           exact ⟨rfl,hil,rfl⟩
         · rw [if_pos (by simpa using fun z:v.txt=Str.ofString "on"=>h (ag8 (b:=.on) z)),if_neg h]
           walk_at "run"
           exact ⟨rfl,hil,by simp [wdsV,a16]⟩
       · rintro acc H3 ⟨rfl,_,rfl⟩ p9 H9 f9 s9 e9
         rw [a28,List.take_length] at e9
         walk_at "run"
         refine ⟨sv,tv,kd,kvs2,st,ts,n,r,rfl,hsat.same (s2.trans (KS.of s9)),ht.same (s2.trans (KS.of s9)),k2.same s9,hn,g1,fun l4 H4 kvs4 s4 k4 f4 e4=>?_⟩
         walk_at "run"
         have n9:p9≠kd:=hnk k2 f9
         have fl:=List.length_filter_le (fun w=>decide (w≠Wd.on)) e
         refine a30 (s4.at n9 e9) e4 (by rw [a28,a28]; omega) ?_
         intro l5 H5 f5 s5 e5
         walk_at "run"
         rw [a80] at e5
         exact ⟨hil,_,l5,kvs4,s2.trans ((KS.of s9).trans (s4.trans (KS.of s5))),k4.same s5,hnk k4 f5,e5,by rw [List.length_append]; omega,g2,_,rfl⟩
     · rw [if_pos (by simp [ho])]
       rw [if_neg ho] at heL
       obtain rfl:=Option.some.inj heL
       refine ax8 ?_
       exact fin le kvs2 _ H2 s2 k2 nl e2
   · rintro σ H2 ⟨_,e,le,kvs2,s2,k2,nl,e2,_,heL,y,rfl⟩
     rw [hE.1,List.drop_length] at heL
     obtain rfl:=Option.some.inj heL
     exact fin le kvs2 y H2 s2 k2 nl e2
theorem a48 (T:Txt K mg t):∀ d:Nat,FnOk P w K mg base CX0 (3*d+1) t.a_ends_of_body t.fd_ends_of_body ["body","talks","known"] (b67 K d)
 | 0=>vac fun vs H Q E ⟨_,_,_,_,_,_,_,_,_,_,_,_,h,_⟩=>Nat.not_lt_zero _ h
 | d+1=>ad6 T (a74 T (a48 T d) (ad5 T (a48 T d)))
def bq7 (K:PySem.W.Frag):Sp:=fun vs H Q _=>∃ (sp:Addr) (x tv bv:V) (b:List Stm) (ts:Tks) (E:List Wd),vs=[.ref sp,bv]∧H sp=some (.tup [x,tv])∧TksAt H tv ts∧BAt H bv b∧eBf (eS ts 30) b=some E∧∀ l H',Same H H'→H l=none→H' l=some (.lst (wdsV E))→Q (.ref l) H'
theorem ao4 (T:Txt K mg t):FnOk P w K mg base CX0 95 t.a_dry_ends t.fd_dry_ends ["script","body"] (bq7 K):=by
 have G_ends_of_body:=a48 (P:=P) (w:=w) (base:=base) T
 refine T.f_dry_ends.F.ok ao3 (fun vs H Q E h=>?_) (fun cdv A outer s H vs Q E hr h=>?_)
 · obtain ⟨sp,x,tv,bv,b,ts,E0,rfl,_⟩:=h
   rfl
 · obtain ⟨sp,x,tv,bv,b,ts,E0,rfl,h1,h2,h3,h4,q⟩:=h
   replace G_ends_of_body:=G_ends_of_body 31
   refine ⟨_,(@a04 _ _ _ (@a13 _ _ _ _ (@a08 _ _ _ _ _ _ _ _ _ _ _ _ _ _ _ _ G_ends_of_body (hr.mono (by omega)) rfl T.f_ends_of_body.m T.f_ends_of_body.F.kp T.f_ends_of_body.b .nil a24 (@a00 _ _ _ _ _ (pv 1) (@a00 _ _ _ _ _ (@a31 _ _ _ _ _ _ _ (a29 K) (pv 0) (@a03 _ _ _ _) (fun _ _=>rfl)) (@a00 _ _ _ _ _ (@b53 _ _) (@a01 _) (by rfl)) (by rfl)) (by rfl)) (by decide) (by rfl) (by rfl)))),?_⟩
   walk_at "go"
   refine a46 (SqT.of h1) (a09 (j:=1) rfl) ?_
   walk_at "run"
   intro kd H1 f1 s1 e1
   walk_at "run"
   have w1:Same H (woO (some kd) H1):=by
    have:=woS (d:=some kd) s1
    rw [woX f1] at this
    exact this
   refine ⟨bv,tv,kd,[],b,ts,30,E0,rfl,h3.same w1,h2.same w1,⟨e1,by simp,by simp,fun nm v hv=>by simp [valV] at hv⟩,by omega,h4,fun l H2 kvs2 s2 k2 f2 e2=>?_⟩
   refine q l H2 ((w1.trans s2).trans woL) ?_ e2
   cases h:H l with
   | none=>rfl
   | some o=>rw [s1 _ _ h] at f2; cases f2
open Classical in
noncomputable def woP (p:Addr→Prop) (H:Hp):Hp:=fun a=>if p a then none else H a
theorem wpG {p:Addr→Prop}{H:Hp}{a:Addr}(h:¬ p a):woP p H a=H a:=if_neg h
theorem wpT {p:Addr→Prop}{H:Hp}{a:Addr}{o:HO}(e:woP p H a=some o):¬ p a∧H a=some o:=by
 by_cases h:p a
 · unfold woP at e; rw [if_pos h] at e; cases e
 · rw [wpG h] at e; exact ⟨h,e⟩
theorem wpS {p:Addr→Prop}{H H':Hp}(s:Same H H'):Same (woP p H) (woP p H'):=fun a o e=>by
 obtain ⟨h1,h2⟩:=wpT e
 rw [wpG h1]
 exact s _ _ h2
theorem wpL {p:Addr→Prop}{H:Hp}:Same (woP p H) H:=fun a o e=>(wpT e).2
theorem wpB {p q:Addr→Prop}{H:Hp}(h:∀ a,q a→p a):Same (woP p H) (woP q H):=fun a o e=>by
 obtain ⟨h1,h2⟩:=wpT e
 rw [wpG (fun z=>h1 (h a z))]
 exact h2
theorem wpU {p:Addr→Prop}{H:Hp}{d:Addr}{o:HO}(h:p d):woP p (upd H d o)=woP p H:=funext fun a=>by
 by_cases e:p a
 · unfold woP; rw [if_pos e,if_pos e]
 · rw [wpG e,wpG e,a10 (fun z=>e (by rw [z]; exact h))]
def OfD (d l:Addr) (H H':Hp):Prop:=Same (woP (fun a=>a=d∨a=l) H) (woP (fun a=>a=d∨a=l) H')
theorem OfD.of {d l:Addr}{H H':Hp}(s:Same H H'):OfD d l H H':=wpS s
theorem OfD.trans {d l:Addr}{H H' H2:Hp}(a:OfD d l H H') (b:OfD d l H' H2):OfD d l H H2:=Same.trans a b
theorem OfD.at {d l:Addr}{H H':Hp}(s:OfD d l H H') {a:Addr}{o:HO}(h1:a≠d) (h2:a≠l) (e:H a=some o):H' a=some o :=
 (wpT (s a o (by rw [wpG (fun z=>z.elim h1 h2)]; exact e))).2
theorem OfD.p {d l:Addr}{H H':Hp}(s:OfD d l H H') {p:Addr→Prop}(h1:p d) (h2:p l):Same (woP p H) (woP p H'):=fun a o e=>by
 obtain ⟨h3,h4⟩:=wpT e
 rw [wpG h3]
 exact s.at (fun z=>h3 (by rw [z]; exact h1)) (fun z=>h3 (by rw [z]; exact h2)) h4
theorem OfD.u1 {d l:Addr}{H H':Hp}{o:HO}(s:OfD d l H H'):OfD d l H (upd H' d o):=by
 unfold OfD at *
 rw [wpU (.inl rfl)]
 exact s
theorem OfD.u2 {d l:Addr}{H H':Hp}{o:HO}(s:OfD d l H H'):OfD d l H (upd H' l o):=by
 unfold OfD at *
 rw [wpU (.inr rfl)]
 exact s
structure Dk4 (H:Hp) (d l:Addr) (left calls:Nat):Prop where
 ex:∃ (ms:List Int) (cur:Int),H d=some (.lst [.ref l,.int cur,.int (left:Nat),.int (calls:Nat)])∧H l=some (.lst (ms.map V.int))∧ms.length≤100
 ne:d≠l
theorem Dk4.same {H H':Hp}{d l:Addr}{left calls:Nat}(k:Dk4 H d l left calls) (s:Same H H'):Dk4 H' d l left calls:=by
 obtain ⟨ms,cur,h1,h2,h3⟩:=k.ex
 exact ⟨⟨ms,cur,s _ _ h1,s _ _ h2,h3⟩,k.ne⟩
theorem Dk4.new {H:Hp}{d l a:Addr}{left calls:Nat}(k:Dk4 H d l left calls) (f:H a=none):a≠d∧a≠l:=by
 obtain ⟨ms,cur,h1,h2,h3⟩:=k.ex
 exact ⟨fun z=>(by rw [z,h1] at f; cases f),fun z=>(by rw [z,h2] at f; cases f)⟩
theorem sqS {K:PySem.W.Frag}{H H':Hp}{a:Addr}{xs:List V}(h:SqL K H a xs) (s:Same H H'):SqL K H' a xs:=by
 rcases h with (h | ⟨o,h⟩) | h
 · exact .inl (.inl (s _ _ h))
 · exact .inl (.inr ⟨o,s _ _ h⟩)
 · exact .inr h
def bq8 (K:PySem.W.Frag):Sp:=fun vs H Q _=>∃ (a:Addr) (ns:List Int) (k:Nat),vs=[.ref a,.int (k:Nat)]∧SqL K H a (ns.map V.int)∧∀ z:Int,Q (.int z) H
theorem ae1 (T:Txt K mg t):FnOk P w K mg base CX0 1 t.a__law_cell_at t.fd__law_cell_at ["script","k"] (bq8 K):=by
 refine T.f__law_cell_at.F.ok ae0 (fun vs H Q E h=>?_) (fun cdv A outer s H vs Q E hr h=>?_)
 · obtain ⟨a,ns,k,rfl,_⟩:=h
   rfl
 · obtain ⟨a,ns,k,rfl,hS,q⟩:=h
   refine ⟨_,(@a02 _ _ _ _ _ (@a25 _ _ _ _ _ _ _ _ (@a05 _ _ _ _ _ _ _ _ bh6 (pv 1) (@a71 _ _ _ _ _ _ _ _ _ (af5 K) (by rfl) T.z_len ap9 (@a00 _ _ _ _ _ (pv 0) (@a01 _) (by rfl)) (by decide) (by decide) (by rfl) (by rfl)) (nomark _)) (@a04 _ _ _ (@a13 _ _ _ _ (@a31 _ _ _ _ _ _ _ (a21 K) (pv 0) (pv 1) (fun _ _=>rfl)))) (@a11 _))
    (@a04 _ _ _ (@a13 _ _ _ _ (@a03 _ _ _ _)))),?_⟩
   walk_at "go"
   refine aq0 hS ?_
   walk_at "run"
   rw [List.length_map]
   by_cases hk:k<ns.length
   · refine a32 (by omega) ?_
     walk_at "run"
     exact a59 hS (a09 (j:=k) (v:=.int ns[k]) (by simp [hk])) (q _)
   · refine a33 (by omega) ?_
     walk_at "run"
     exact q 0
def bq9:Sp:=fun vs H Q _=>∃ (c:Int) (k:Nat),vs=[.int c,.int (k:Nat)]∧k≤100∧∀ r:Int,0≤r→r<2305843009213693951→Q (.int r) H
theorem m61 (c:Int):0≤c % 2305843009213693951∧c % 2305843009213693951<2305843009213693951:=⟨Int.emod_nonneg c (by decide),Int.emod_lt_of_pos c (by decide)⟩
theorem m61b {r:Int}(h0:0≤r) (h1:r<2305843009213693951):Bd 61 r:=Bd.of h0 (by rw [show (2:Int) ^ 61=2305843009213693952 by decide]; omega)
theorem al8 (T:Txt K mg t):FnOk P w K mg base CX0 1 t.a__law_mixed t.fd__law_mixed ["cell","k"] bq9:=by
 refine T.f__law_mixed.F.ok sc_law_mixed (fun vs H Q E h=>?_) (fun cdv A outer s H vs Q E hr h=>?_)
 · obtain ⟨c,k,rfl,_⟩:=h
   rfl
 · obtain ⟨c,k,rfl,hk,q⟩:=h
   refine ⟨_,(@a02 _ _ _ _ _ (@a15 _ _ 2 _ _ _ _ sc_law_mixed.nd rfl (by walk_at "o") (@a27 _ _ _ _ _ _ _ _ ae3 (@a27 _ _ _ _ _ _ _ _ a88 (@a27 _ _ _ _ _ _ _ _ a19 (@a27 _ _ _ _ _ _ _ _ a19 (@a27 _ _ _ _ _ _ _ _ ae3 (pv 0) (@a27 _ _ _ _ _ _ _ _ bh5 (@a03 _ _ _ _) (@a03 _ _ _ _))) (@a27 _ _ _ _ _ _ _ _ a88 (@a03 _ _ _ _) (pv 1))) (@a03 _ _ _ _)) (@a03 _ _ _ _)) (@a03 _ _ _ _)) (by rfl) (by walk_at "o"))
    (@a02 _ _ _ _ _ (@a15 _ _ 2 _ _ _ _ sc_law_mixed.nd rfl (by walk_at "o") (@a27 _ _ _ _ _ _ _ _ ae3 (@a27 _ _ _ _ _ _ _ _ a88 (pv 2) (pv 2)) (@a03 _ _ _ _)) (by rfl) (by walk_at "o"))
    (@a04 _ _ _ (@a13 _ _ _ _ (@a27 _ _ _ _ _ _ _ _ ae3 (@a27 _ _ _ _ _ _ _ _ a88 (pv 2) (@a03 _ _ _ _)) (@a03 _ _ _ _)))))),?_⟩
   walk_at "go"
   refine af7 (Bd.big (m61b (m61 _).1 (m61 _).2) (m61b (m61 _).1 (m61 _).2)) ?_
   walk_at "run"
   exact q _ (m61 _).1 (m61 _).2
def bf3 (K:PySem.W.Frag):Sp:=fun vs H Q _=>∃ (a:Addr) (ns:List Int),vs=[.ref a]∧SqL K H a (ns.map V.int)∧ns.length≤63∧∀ d l H',H d=none→H l=none→Same H H'→Dk4 H' d l 45 4→Q (.ref d) H'
theorem b68 (ns:List Int) (a b:Option Int):∃ ms:List Int,cutV (ns.map V.int) a b=ms.map V.int∧ms.length≤ns.length:=by
 unfold cutV
 refine ⟨_,by rw [← List.map_drop,←List.map_take],?_⟩
 rw [List.length_take,List.length_drop]
 omega
theorem ao5 (T:Txt K mg t):FnOk P w K mg base CX0 2 t.a__law_deck t.fd__law_deck ["script"] (bf3 K):=by
 have G__law_cell_at:=ae1 (P:=P) (w:=w) (base:=base) T
 have G__law_mixed:=al8 (P:=P) (w:=w) (base:=base) T
 refine T.f__law_deck.F.ok sc_law_deck (fun vs H Q E h=>?_) (fun cdv A outer s H vs Q E hr h=>?_)
 · obtain ⟨a,ns,rfl,_⟩:=h
   rfl
 · obtain ⟨a,ns,rfl,hS,hl,q⟩:=h
   refine ⟨_,(@a02 _ _ _ _ _ (@a15 _ _ 1 _ _ _ _ sc_law_deck.nd rfl (by walk_at "o") (@a12 _ _ _ _ (@a01 _)) (by rfl) (by walk_at "o"))
    (@a02 _ _ _ _ _ (@a82 _ _ _ _ _ _ _ _ PassesOwn.never rfl (bo0 K rfl T.z_reversed (@a00 _ _ _ _ _ (@a35 _ _ _ _ _ _ _ _ _ _ (a42 K) (pv 0) (@a41 _ _ _ (@a03 _ _ _ _)) (@a41 _ _ _ (@a03 _ _ _ _))) (@a01 _) (by rfl))) (a26 (i:=2) sc_law_deck.nd rfl (by walk_at "o")) (@a02 _ _ _ _ _ (@a15 _ _ 3 _ _ _ _ sc_law_deck.nd rfl (by walk_at "o") (@a71 _ _ _ _ _ _ _ _ _ b33 (by rfl) T.z_abs bk8 (@a00 _ _ _ _ _ (pv 2) (@a01 _) (by rfl)) (by decide) (by decide) (by rfl) (by rfl)) (by rfl) (by walk_at "o"))
     (@a47 _ _ _ _ _ (@a25 _ _ _ _ _ _ _ _ (@a05 _ _ _ _ _ _ _ _ a40 (@a27 _ _ _ _ _ _ _ _ ae3 (@a08 _ _ _ _ _ _ _ _ _ _ _ _ _ _ _ _ G__law_cell_at (hr.mono (by omega)) rfl T.f__law_cell_at.m T.f__law_cell_at.F.kp T.f__law_cell_at.b .nil a24 (@a00 _ _ _ _ _ (pv 0) (@a00 _ _ _ _ _ (@a03 _ _ _ _) (@a01 _) (by rfl)) (by rfl)) (by decide) (by rfl) (by rfl)) (@a03 _ _ _ _)) (@a03 _ _ _ _) (nomark _)) (@a02 _ _ _ _ _ (@a15 _ _ 3 _ _ _ _ sc_law_deck.nd rfl (by walk_at "o") (@a03 _ _ _ _) (by rfl) (by walk_at "o"))
      (@a04 _ _ _ (@a82 _ _ _ _ _ _ _ _ PassesOwn.never rfl (ab4 rfl T.z_range (@a00 _ _ _ _ _ (@a03 _ _ _ _) (@a01 _) (by rfl))) (a26 (i:=4) sc_law_deck.nd rfl (by walk_at "o")) (@a04 _ _ _ (@a15 _ _ 3 _ _ _ _ sc_law_deck.nd rfl (by walk_at "o") (@a27 _ _ _ _ _ _ _ _ a19 (@a27 _ _ _ _ _ _ _ _ a88 (pv 3) (@a03 _ _ _ _)) (@a08 _ _ _ _ _ _ _ _ _ _ _ _ _ _ _ _ G__law_mixed (hr.mono (by omega)) rfl T.f__law_mixed.m T.f__law_mixed.F.kp T.f__law_mixed.b .nil a24 (@a00 _ _ _ _ _ (pv 2) (@a00 _ _ _ _ _ (pv 4) (@a01 _) (by rfl)) (by rfl)) (by decide) (by rfl) (by rfl))) (by rfl) (by walk_at "o"))) (by intro _; rfl)))) (@a11 _))
     (@a04 _ _ _ (@a95 _ _ _ _ (@af1 _ K _ _ _ _ _ _ _ _ _ _ _ PySem.F.plainAttrs_list PySem.F.slot_list_append PySem.F.type_list_append a52 (pv 1) (@a00 _ _ _ _ _ (pv 3) (@a01 _) (by rfl)) (by rfl) (by rfl) (by rfl) (by rfl) (by rfl) (by rfl)) (by rfl))))) (by intro _; rfl))
    (@a04 _ _ _ (@a13 _ _ _ _ (@a12 _ _ _ _ (@a00 _ _ _ _ _ (pv 1) (@a00 _ _ _ _ _ (@a03 _ _ _ _) (@a00 _ _ _ _ _ (@a03 _ _ _ _) (@a00 _ _ _ _ _ (@a03 _ _ _ _) (@a01 _) (by rfl)) (by rfl)) (by rfl)) (by rfl))))))),?_⟩
   have sl:(1000000:Nat)≤sizeLine:=le_line (Nat.le_refl _)
   walk_at "go"
   intro ln H1 f1 s1 e1
   walk_at "run"
   have hS1:SqL K H1 a (ns.map V.int):=sqS hS s1
   refine af8 hS1 ?_
   obtain ⟨ms,hms,hml⟩:=b68 ns (some 1) (some 60)
   rw [hms]
   intro pc H2 f2 s2 e2
   walk_at "run"
   have hS2:=sqS hS1 s2
   have hmv:(ms.map V.int).length=ms.length:=List.length_map _
   refine ⟨pc,ms.map V.int,rfl,SqL.of e2,be0 (K:=K) (a:=pc) (xs:=ms.map V.int) (fun i σ H'=>Same H H'∧i≤ms.length∧H' pc=some (.lst (ms.map V.int))∧(∃ zs:List Int,zs.length=i∧H' ln=some (.lst (zs.map V.int)))∧∃ y1 y2 y3,σ=[some (.ref a),some (.ref ln),y1,y2,y3]) ⟨s1.trans s2,Nat.zero_le _,e2,⟨[],rfl,s2 _ _ e1⟩,_,_,_,rfl⟩ (fun i σ H' _ zz=>by obtain ⟨_,_,z,_⟩:=zz; exact SqL.of z) ?_ ?_⟩
   · rintro i x σ H3 hi hx ⟨s3,_,e3,⟨zs,hz,e4⟩,y1,y2,y3,rfl⟩
     obtain ⟨c,_,rfl⟩:∃ c,ms[(ms.map V.int).length - 1 - i]?=some c∧x=.int c:=by
      rw [List.getElem?_map] at hx
      obtain ⟨c,z1,z2⟩:=Option.map_eq_some_iff.mp hx
      exact ⟨c,z1,z2.symm⟩
     walk_at "run"
     refine ac5 (fun σ' H'=>H3=H'∧∃ (z:Int) (y:Option V),σ'=[some (.ref a),some (.ref ln),some (.int c),some (.int z),y]) ?_ ?_
     · walk_at "run"
       refine ⟨a,ns,0,rfl,sqS hS s3,fun z=>?_⟩
       walk_at "run"
       by_cases hz1:z % 2=1
       · refine a32 hz1 ?_
         walk_at "run"
         refine ai6 (lo:=0) (n:=5) (fun k σ' H'=>H3=H'∧k≤5∧∃ (z:Int) (y:Option V),σ'=[some (.ref a),some (.ref ln),some (.int c),some (.int z),y]∧Bd (64*k+64) z) ⟨rfl,by omega,1,_,rfl,by unfold Bd; decide⟩ ?_ ?_
         · rintro k σ' H' hk ⟨rfl,_,z,y,rfl,hb⟩
           walk_at "run"
           rw [Int.zero_add]
           refine ⟨c,k,rfl,by omega,fun r r0 r1=>?_⟩
           walk_at "run"
           refine ⟨rfl,by omega,_,_,rfl,?_⟩
           have b1:=hb.mul (show Bd 62 2305843009213693951 by unfold Bd; decide)
           exact ((b1.mono (show 64*k+64+62≤64*k+127 by omega)).add ((m61b r0 r1).mono (show 61≤64*k+127 by omega))).mono (by omega)
         · rintro σ' H' ⟨rfl,_,z,y,rfl,_⟩
           exact ⟨rfl,z,y,rfl⟩
       · refine a33 hz1 ?_
         walk_at "run"
         exact ⟨rfl,_,_,rfl⟩
     rintro σ' H' ⟨rfl,z,y,rfl⟩
     walk_at "run"
     refine ak2 (SqL.of e4) ?_
     walk_at "run"
     refine a72 e4 (by rw [List.length_map]; omega) ?_
     have hne:pc≠ln:=fun z=>by rw [z,e1] at f2; cases f2
     refine ⟨s3.updNew f1,by omega,by rw [a10 hne]; exact e3,⟨zs++[z],by simp [hz],?_⟩,_,_,_,rfl⟩
     rw [a18]
     simp
   · rintro σ H3 ⟨s3,_,_,⟨zs,hz,e4⟩,y1,y2,y3,rfl⟩
     walk_at "run"
     intro dk H4 f4 s4 e5
     have hne:dk≠ln:=fun z=>by rw [z,e4] at f4; cases f4
     refine q dk ln H4 ?_ f1 (s3.trans s4) ⟨⟨zs,0,e5,s4 _ _ e4,by omega⟩,hne⟩
     cases h:H dk with
     | none=>rfl
     | some o=>rw [s3 _ _ h] at f4; cases f4
def b97 (K:PySem.W.Frag):Sp:=fun vs H Q _=>∃ (d l:Addr) (left calls m:Nat),vs=[.ref d,.int (m:Nat)]∧Dk4 H d l left calls∧0<m∧m≤1000∧∀ (r:Nat) (H':Hp),r<m→OfD d l H H'→Dk4 H' d l left calls→Q (.int (r:Nat)) H'
theorem a49 (T:Txt K mg t):FnOk P w K mg base CX0 1 t.a__law_digit t.fd__law_digit ["deck","many"] (b97 K):=by
 refine T.f__law_digit.F.ok sc_law_digit (fun vs H Q E h=>?_) (fun cdv A outer s H vs Q E hr h=>?_)
 · obtain ⟨d,l,left,calls,m,rfl,_⟩:=h
   rfl
 · obtain ⟨d,l,left,calls,m,rfl,k,hm0,hm,q⟩:=h
   refine ⟨_,(@a47 _ _ _ _ _ (@a25 _ _ _ _ _ _ _ _ (@PW.pt _ _ _ (@a81 _ _ _ _ _ _ _ (@a05 _ _ _ _ _ _ _ _ a40 (@a31 _ _ _ _ _ _ _ (a21 K) (pv 0) (@a03 _ _ _ _) (fun _ _=>rfl)) (@a03 _ _ _ _) (nomark _)) (@a66 _ _ _ _ (@a05 _ _ _ _ _ _ _ _ b31 (@a71 _ _ _ _ _ _ _ _ _ (af5 K) (by rfl) T.z_len ap9 (@a00 _ _ _ _ _ (@a31 _ _ _ _ _ _ _ (a21 K) (pv 0) (@a03 _ _ _ _) (fun _ _=>rfl)) (@a01 _) (by rfl)) (by decide) (by decide) (by rfl) (by rfl)) (@a03 _ _ _ _) (nomark _))))) (@a04 _ _ _ (@ap2 _ _ _ _ _ _ (ax7 K PySem.F.plainAttrs_list PySem.F.slot_list_pop PySem.F.type_list_pop b79 (@a31 _ _ _ _ _ _ _ (a21 K) (pv 0) (@a03 _ _ _ _) (fun _ _=>rfl))) (ap1 (pv 0) (@a03 _ _ _ _) aa7) (by rfl) (by rfl) (by rfl))) (@a11 _))
    (@a02 _ _ _ _ _ (@a15 _ _ 2 _ _ _ _ sc_law_digit.nd rfl (by walk_at "o") (@a27 _ _ _ _ _ _ _ _ ae3 (@a31 _ _ _ _ _ _ _ (a21 K) (pv 0) (@a03 _ _ _ _) (fun _ _=>rfl)) (pv 1)) (by rfl) (by walk_at "o"))
    (@a02 _ _ _ _ _ (@ap2 _ _ _ _ _ _ (@a27 _ _ _ _ _ _ _ _ bb0 (@a31 _ _ _ _ _ _ _ (a21 K) (pv 0) (@a03 _ _ _ _) (fun _ _=>rfl)) (pv 1)) (ap1 (pv 0) (@a03 _ _ _ _) aa7) (by rfl) (by rfl) (by rfl))
    (@a04 _ _ _ (@a13 _ _ _ _ (pv 2)))))),?_⟩
   have sl:(1000000:Nat)≤sizeLine:=le_line (Nat.le_refl _)
   obtain ⟨ms,cur,h1,h2,hml⟩:=k.ex
   have ne:=k.ne
   walk_at "go"
   refine ac5 (fun σ' H'=>σ'=[some (.ref d),some (.int (m:Nat)),none]∧OfD d l H H'∧Dk4 H' d l left calls) ?_ ?_
   · walk_at "run"
     refine a59 (SqL.of h1) (a09 (j:=1) rfl) ?_
     walk_at "run"
     by_cases hc:cur=0
     · refine a32 hc ?_
       walk_at "run"
       refine a59 (SqL.of h1) (a09 (j:=0) rfl) ?_
       walk_at "run"
       refine aq0 (SqL.of h2) ?_
       walk_at "run"
       rcases List.eq_nil_or_concat ms with rfl | ⟨zs,z,rfl⟩
       · rw [if_neg (by simp)]
         walk_at "run"
         exact ⟨rfl,OfD.of (Same.refl _),k⟩
       · rw [if_pos (by simp)]
         walk_at "run"
         refine a59 (SqL.of h1) (a09 (j:=0) rfl) ?_
         walk_at "run"
         refine ak2 (SqL.of h2) ?_
         walk_at "run"
         rw [List.concat_eq_append,List.map_append] at h2
         refine bm5 h2 ?_
         walk_at "run"
         have h1':upd H l (.lst (zs.map V.int)) d=some (.lst [.ref l,.int cur,.int (left:Nat),.int (calls:Nat)]):=by rw [a10 ne]; exact h1
         refine aq2 h1' (j:=1) rfl ?_
         refine ⟨rfl,((OfD.of (Same.refl _)).u2).u1,⟨⟨zs,z,a18,?_,by simp at hml; omega⟩,ne⟩⟩
         rw [a10 ne.symm,a18]
     · refine a33 hc ?_
       walk_at "run"
       exact ⟨rfl,OfD.of (Same.refl _),k⟩
   rintro σ' H1 ⟨rfl,s1,k1⟩
   obtain ⟨ms1,cur1,g1,g2,gml⟩:=k1.ex
   walk_at "run"
   refine a59 (SqL.of g1) (a09 (j:=1) rfl) ?_
   walk_at "run"
   refine a59 (SqL.of g1) (a09 (j:=1) rfl) ?_
   walk_at "run"
   refine i_rI (show CDiv _ _ from ⟨by omega,by omega⟩) ?_
   walk_at "run"
   refine aq2 g1 (j:=1) rfl ?_
   walk_at "run"
   have r0:=Int.emod_nonneg cur1 (show (m:Int)≠0 by omega)
   have r1:=Int.emod_lt_of_pos cur1 (show (0:Int)<(m:Int) by omega)
   obtain ⟨r,hr⟩:∃ r:Nat,cur1 % (m:Int)=(r:Int):=⟨(cur1 % (m:Int)).toNat,by omega⟩
   rw [hr]
   exact q r _ (by omega) s1.u1 ⟨⟨ms1,_,a18,by rw [a10 ne.symm]; exact g2,gml⟩,ne⟩
structure BPre (H:Hp) (dk l ln:Addr) (left calls:Nat) (nm:List Str) (p:Addr→Prop):Prop where
 k:Dk4 H dk l left calls
 n:woP p H ln=some (.lst (a16 nm))
 hn:nm.length≤4
 pd:p dk
 pl:p l
 ex:∀ a,p a→H a≠none
theorem BPre.go {H H':Hp}{dk l ln:Addr}{left calls left' calls':Nat}{nm:List Str}{p:Addr→Prop}(h:BPre H dk l ln left calls nm p) (o:OfD dk l H H') (k:Dk4 H' dk l left' calls'):BPre H' dk l ln left' calls' nm p :=
 ⟨k,(o.p h.pd h.pl) _ _ h.n,h.hn,h.pd,h.pl,fun a ha=>by
  obtain ⟨ms,cur,h1,h2,_⟩:=k.ex
  by_cases e1:a=dk
  · rw [e1,h1]; exact fun z=>by cases z
  by_cases e2:a=l
  · rw [e2,h2]; exact fun z=>by cases z
  cases e:H a with
  | none=>exact absurd e (h.ex a ha)
  | some x=>rw [o.at e1 e2 e]; exact fun z=>by cases z⟩
theorem BPre.same {H H':Hp}{dk l ln:Addr}{left calls:Nat}{nm:List Str}{p:Addr→Prop}(h:BPre H dk l ln left calls nm p) (s:Same H H'):BPre H' dk l ln left calls nm p:=h.go (OfD.of s) (h.k.same s)
theorem BPre.fr {H:Hp}{dk l ln a:Addr}{left calls:Nat}{nm:List Str}{p:Addr→Prop}(h:BPre H dk l ln left calls nm p) (f:H a=none):¬ p a:=fun z=>h.ex a z f
theorem b18 {H H':Hp}{v:V}{x:Br}(h:BrAt H v x) (s:Same H H'):BrAt H' v x:=by
 cases x with
 | mk p b =>
   obtain ⟨q,pv,bv,rfl,e,h1,h2⟩:=h
   exact ⟨q,pv,bv,rfl,s _ _ e,h1.same s,h2.same s⟩
theorem ah8 {us:List V}{k:Nat}:cutV us none (some (k:Int))=us.take k:=by
 unfold cutV
 have h0:HT.sIx us.length 0 (none:Option Int)=0:=rfl
 have h1:HT.sIx us.length us.length (some (k:Int))=min k us.length:=by
  unfold HT.sIx
  simp only
  split <;> omega
 rw [h0,h1,List.drop_zero,Nat.sub_zero]
 rcases Nat.le_total k us.length with h | h
 · rw [Nat.min_eq_left h]
 · rw [Nat.min_eq_right h,List.take_of_length_le (Nat.le_refl _),List.take_of_length_le h]
theorem ad7 {α β:Type}{R:α→β→Prop}{vs:List α}{xs:List β}(h:Each R vs xs) (k:Nat):Each R (vs.take k) (xs.take k):=by
 refine ⟨by rw [List.length_take,List.length_take,h.1],fun j v x h1 h2=>?_⟩
 rw [List.getElem?_take] at h1 h2
 split at h1
 · rename_i hj
   rw [if_pos hj] at h2
   exact h.2 j v x h1 h2
 · cases h1
theorem OfD.un {d l bd:Addr}{H H':Hp}{o:HO}(s:OfD d l H H') (f:H bd=none):OfD d l H (upd H' bd o):=fun a x e=>by
 obtain ⟨h1,h2⟩:=wpT e
 rw [wpG h1,a10 (fun z=>by rw [z,f] at h2; cases h2)]
 have:=s a x e
 exact (wpT this).2
def ao6 (K:PySem.W.Frag) (d:Nat):Sp:=fun vs H Q _=>∃ (dk l ln:Addr) (left calls deep e:Nat) (lp:Bool) (nm:List Str) (p:Addr→Prop),vs=[.ref dk,.ref ln,.bl lp,.int (deep:Nat)]∧BPre H dk l ln left calls nm p∧e<d∧deep+e=5∧1≤e∧∀ v b left' calls' H',OfD dk l H H'→Dk4 H' dk l left' calls'→BAt (woP p H') v b→wfB nm e lp b→Stm.szs b+left'≤left→Stm.cls b+calls'≤calls→Q v H'
def b98 (K:PySem.W.Frag) (d:Nat):Sp:=fun vs H Q _=>∃ (dk l ln:Addr) (left calls deep e:Nat) (lp:Bool) (nm:List Str) (p:Addr→Prop),vs=[.ref dk,.ref ln,.bl lp,.int (deep:Nat)]∧BPre H dk l ln left calls nm p∧e<d∧deep+e=5∧2≤e∧∀ v s left' calls' H',OfD dk l H H'→Dk4 H' dk l left' calls'→SAt (woP p H') v s→wfS nm e lp s→s.sz+left'≤left+1→s.cl+calls'≤calls→Q v H'
def b99 (K:PySem.W.Frag) (d:Nat):Sp:=fun vs H Q _=>∃ (dk l ln:Addr) (left calls deep e:Nat) (lp:Bool) (nm:List Str) (p:Addr→Prop),vs=[.ref dk,.ref ln,.bl lp,.int (deep:Nat)]∧BPre H dk l ln (left+1) calls nm p∧e<d∧deep+e=5∧1≤e∧∀ v s left' calls' H',OfD dk l H H'→Dk4 H' dk l left' calls'→SAt (woP p H') v s→wfS nm e lp s→s.sz+left'≤left+1→s.cl+calls'≤calls→Q v H'
theorem bf4 {p:Addr→Prop}{H:Hp}{a:Addr}{v:V}{b:List Stm}(f:¬ p a) (h:H a=some (.tup [.str "loop",v])) (hb:BAt (woP p H) v b):SAt (woP p H) (.ref a) (.loop b):=sat_loop.mpr ⟨a,v,rfl,by rw [wpG f]; exact h,hb⟩
theorem b19 {H:Hp}{a:Addr}{n:Int}(h:H a=some (.tup [.str "number",.int n])):(Ex.num n).tr.At H (.ref a) []:=ay4 h ag1 b86
theorem b69 {H:Hp}{a p1 p2:Addr}(h1:H p1=some (.tup [.str "number",.int 1])) (h2:H p2=some (.tup [.str "number",.int 2])) (h:H a=some (.tup [.str "same",.ref p1,.ref p2])):(Cd.cmp true (.num 1) (.num 2)).tr.At H (.ref a) []:=by
 have a1:=b19 h1
 have a2:=b19 h2
 simp only [Cd.tr,Tr.At,Tr.Ats]
 exact ⟨a,_,rfl,h,_,_,[],[],rfl,rfl,⟨rfl,rfl⟩,_,_,[],[],rfl,rfl,a1,_,_,[],[],rfl,rfl,a2,rfl,rfl⟩
theorem bf5 {H:Hp}{a:Addr}{c:Cd}{x y:List Stm}{u1 u2 u3:V}(h:H a=some (.tup [.str "test",u1,u2,u3])) (h1:c.tr.At H u1 []) (h2:BAt H u2 x) (h3:BAt H u3 y):SAt H (.ref a) (.test c x y):=by
 obtain ⟨f2,h2⟩:=h2
 obtain ⟨f3,h3⟩:=h3
 refine ⟨[]++([]++(f2++(f3++[]))),?_⟩
 simp only [Stm.tr,Tr.At,Tr.Ats] at h2 h3 ⊢
 exact ⟨a,_,rfl,h,_,_,[],_,rfl,rfl,⟨rfl,rfl⟩,u1,_,[],_,rfl,rfl,h1,u2,_,f2,_,rfl,rfl,h2,u3,_,f3,[],rfl,rfl,h3,rfl,rfl⟩
theorem br0 {H:Hp}{a:Addr}{n:Str}{e:Ex}{u:V}(h:H a=some (.tup [.str "put",.str n,u])) (h1:e.tr.At H u []):SAt H (.ref a) (.put n e):=by
 refine ⟨[],?_⟩
 simp only [Stm.tr,Tr.At,Tr.Ats]
 exact ⟨a,_,rfl,h,_,_,[],[],rfl,rfl,⟨rfl,rfl⟩,_,_,[],[],rfl,rfl,⟨rfl,rfl⟩,u,_,[],[],rfl,rfl,h1,rfl,rfl⟩
theorem wf_put {nm:List Str}{k:Nat}{lp:Bool}{n:Str}{e:Ex}:wfS nm k lp (.put n e)↔n="a"∧e=.num 1:=by cases k <;> exact Iff.rfl
theorem bf6 {H:Hp}{a:Addr}{k:Int}(h:H a=some (.tup [.str "key",.int k])):PAt H (.ref a) [.s "key",.i k]:=by
 unfold PAt
 exact ay4 h ag1 b86
theorem bf7 {H:Hp}{a:Addr}(h:H a=some (.tup [.str "other"])):PAt H (.ref a) [.s "other"]:=by
 unfold PAt
 exact bd6 h ag1
theorem br3 {H:Hp}{a:Addr}{u v:V}{p:List Pt}{b:List Stm}(h:H a=some (.tup [u,v])) (hp:PAt H u p) (hb:BAt H v b):BrAt H (.ref a) (.mk p b):=⟨a,u,v,rfl,h,hp,hb⟩
theorem al9 (T:Txt K mg t) {d:Nat}(G__law_some:FnOk P w K mg base CX0 (3*d+2) t.a__law_some t.fd__law_some ["deck","later","looped","deep"] (ao6 K d)):FnOk P w K mg base CX0 (3*d+3) t.a__law_block t.fd__law_block ["deck","later","looped","deep"] (b98 K (d+1)):=by
 have G__law_digit:=a49 (P:=P) (w:=w) (base:=base) T
 refine T.f__law_block.F.ok sc_law_block (fun vs H Q E h=>?_) (fun cdv A outer s H vs Q E hr h=>?_)
 · obtain ⟨dk,l,ln,left,calls,deep,e,lp,nm,p,rfl,_⟩:=h
   rfl
 · obtain ⟨dk,l,ln,left,calls,deep,e,lp,nm,p,rfl,hB,he,hde,he2,q⟩:=h
   refine ⟨_,(@a02 _ _ _ _ _ (@a15 _ _ 4 _ _ _ _ sc_law_block.nd rfl (by walk_at "o") (@a08 _ _ _ _ _ _ _ _ _ _ _ _ _ _ _ _ G__law_digit (hr.mono (by omega)) rfl T.f__law_digit.m T.f__law_digit.F.kp T.f__law_digit.b .nil a24 (@a00 _ _ _ _ _ (pv 0) (@a00 _ _ _ _ _ (@a03 _ _ _ _) (@a01 _) (by rfl)) (by rfl)) (by decide) (by rfl) (by rfl)) (by rfl) (by walk_at "o"))
    (@a02 _ _ _ _ _ (@a25 _ _ _ _ _ _ _ _ (@a05 _ _ _ _ _ _ _ _ a40 (pv 4) (@a03 _ _ _ _) (nomark _)) (@a04 _ _ _ (@a13 _ _ _ _ (@a14 _ _ _ _ _ (@a00 _ _ _ _ _ (@a06 _ _ _ _) (@a00 _ _ _ _ _ (@a08 _ _ _ _ _ _ _ _ _ _ _ _ _ _ _ _ G__law_some (hr.mono (by omega)) rfl T.f__law_some.m T.f__law_some.F.kp T.f__law_some.b .nil a24 (@a00 _ _ _ _ _ (pv 0) (@a00 _ _ _ _ _ (pv 1) (@a00 _ _ _ _ _ (@au3 _ _ _ _) (@a00 _ _ _ _ _ (@a27 _ _ _ _ _ _ _ _ a19 (pv 3) (@a03 _ _ _ _)) (@a01 _) (by rfl)) (by rfl)) (by rfl)) (by rfl)) (by decide) (by rfl) (by rfl)) (@a01 _) (by rfl)) (by rfl))))) (@a11 _))
    (@a02 _ _ _ _ _ (@a15 _ _ 5 _ _ _ _ sc_law_block.nd rfl (by walk_at "o") (@a08 _ _ _ _ _ _ _ _ _ _ _ _ _ _ _ _ G__law_some (hr.mono (by omega)) rfl T.f__law_some.m T.f__law_some.F.kp T.f__law_some.b .nil a24 (@a00 _ _ _ _ _ (pv 0) (@a00 _ _ _ _ _ (pv 1) (@a00 _ _ _ _ _ (pv 2) (@a00 _ _ _ _ _ (@a27 _ _ _ _ _ _ _ _ a19 (pv 3) (@a03 _ _ _ _)) (@a01 _) (by rfl)) (by rfl)) (by rfl)) (by rfl)) (by decide) (by rfl) (by rfl)) (by rfl) (by walk_at "o"))
    (@a02 _ _ _ _ _ (@a15 _ _ 6 _ _ _ _ sc_law_block.nd rfl (by walk_at "o") (@a08 _ _ _ _ _ _ _ _ _ _ _ _ _ _ _ _ G__law_some (hr.mono (by omega)) rfl T.f__law_some.m T.f__law_some.F.kp T.f__law_some.b .nil a24 (@a00 _ _ _ _ _ (pv 0) (@a00 _ _ _ _ _ (pv 1) (@a00 _ _ _ _ _ (pv 2) (@a00 _ _ _ _ _ (@a27 _ _ _ _ _ _ _ _ a19 (pv 3) (@a03 _ _ _ _)) (@a01 _) (by rfl)) (by rfl)) (by rfl)) (by rfl)) (by decide) (by rfl) (by rfl)) (by rfl) (by walk_at "o"))
    (@a02 _ _ _ _ _ (@a25 _ _ _ _ _ _ _ _ (@a05 _ _ _ _ _ _ _ _ a40 (pv 4) (@a03 _ _ _ _) (nomark _)) (@a04 _ _ _ (@a13 _ _ _ _ (@a14 _ _ _ _ _ (@a00 _ _ _ _ _ (@a06 _ _ _ _) (@a00 _ _ _ _ _ (@a14 _ _ _ _ _ (@a00 _ _ _ _ _ (@a06 _ _ _ _) (@a00 _ _ _ _ _ (@a14 _ _ _ _ _ (@a00 _ _ _ _ _ (@a06 _ _ _ _) (@a00 _ _ _ _ _ (@a03 _ _ _ _) (@a01 _) (by rfl)) (by rfl))) (@a00 _ _ _ _ _ (@a14 _ _ _ _ _ (@a00 _ _ _ _ _ (@a06 _ _ _ _) (@a00 _ _ _ _ _ (@a03 _ _ _ _) (@a01 _) (by rfl)) (by rfl))) (@a01 _) (by rfl)) (by rfl)) (by rfl))) (@a00 _ _ _ _ _ (pv 5) (@a00 _ _ _ _ _ (pv 6) (@a01 _) (by rfl)) (by rfl)) (by rfl)) (by rfl))))) (@a11 _))
    (@a04 _ _ _ (@a13 _ _ _ _ (@a14 _ _ _ _ _ (@a00 _ _ _ _ _ (@a06 _ _ _ _) (@a00 _ _ _ _ _ (@a03 _ _ _ _) (@a00 _ _ _ _ _ (@a35 _ _ _ _ _ _ _ _ _ _ (a42 K) (@a12 _ _ _ _ (@a00 _ _ _ _ _ (@a14 _ _ _ _ _ (@a00 _ _ _ _ _ (@a14 _ _ _ _ _ (@a00 _ _ _ _ _ (@a06 _ _ _ _) (@a00 _ _ _ _ _ (@a03 _ _ _ _) (@a01 _) (by rfl)) (by rfl))) (@a00 _ _ _ _ _ (pv 5) (@a01 _) (by rfl)) (by rfl))) (@a00 _ _ _ _ _ (@a14 _ _ _ _ _ (@a00 _ _ _ _ _ (@a14 _ _ _ _ _ (@a00 _ _ _ _ _ (@a06 _ _ _ _) (@a01 _) (by rfl))) (@a00 _ _ _ _ _ (pv 6) (@a01 _) (by rfl)) (by rfl))) (@a01 _) (by rfl)) (by rfl))) (@a50 _) (@a41 _ _ _ (@a08 _ _ _ _ _ _ _ _ _ _ _ _ _ _ _ _ G__law_digit (hr.mono (by omega)) rfl T.f__law_digit.m T.f__law_digit.F.kp T.f__law_digit.b .nil a24 (@a00 _ _ _ _ _ (pv 0) (@a00 _ _ _ _ _ (@a03 _ _ _ _) (@a01 _) (by rfl)) (by rfl)) (by decide) (by rfl) (by rfl)))) (@a01 _) (by rfl)) (by rfl)) (by rfl)))))))))),?_⟩
   have sl:(1000000:Nat)≤sizeLine:=le_line (Nat.le_refl _)
   obtain ⟨e,rfl⟩:∃ e',e=e'+1:=⟨e - 1,by omega⟩
   walk_at "go"
   refine ⟨dk,l,left,calls,3,rfl,hB.k,by omega,by omega,fun kind H1 hk o1 k1=>?_⟩
   walk_at "run"
   have hB1:=hB.go o1 k1
   by_cases hk0:kind=0
   · refine a32 (show (kind:Int)=0 by omega) ?_
     walk_at "run"
     refine ⟨dk,l,ln,left,calls,deep+1,e,true,nm,p,rfl,hB1,by omega,by omega,by omega,fun v b left' calls' H2 o2 k2 hb hw hs hc=>?_⟩
     walk_at "run"
     intro a H3 f3 s3 e3
     have f:=(hB1.go o2 k2).fr f3
     exact q _ (.loop b) left' calls' H3 ((o1.trans o2).trans (OfD.of s3)) (k2.same s3) (bf4 (fun z=>f (by exact z)) e3 (hb.same (wpS s3))) hw (by simp only [Stm.sz]; omega) (by simp only [Stm.cl]; omega)
   refine a33 (show ¬ (kind:Int)=0 by omega) ?_
   walk_at "run"
   refine ⟨dk,l,ln,left,calls,deep+1,e,lp,nm,p,rfl,hB1,by omega,by omega,by omega,fun v1 b1 left1 calls1 H2 o2 k2 hb1 hw1 hs1 hc1=>?_⟩
   walk_at "run"
   have hB2:=hB1.go o2 k2
   refine ⟨dk,l,ln,left1,calls1,deep+1,e,lp,nm,p,rfl,hB2,by omega,by omega,by omega,fun v2 b2 left2 calls2 H3 o3 k3 hb2 hw2 hs2 hc2=>?_⟩
   walk_at "run"
   have hB3:=hB2.go o3 k3
   have o13:=(o1.trans o2).trans o3
   have hb1:=hb1.same (o3.p hB.pd hB.pl)
   by_cases hk1:kind=1
   · refine a32 (show (kind:Int)=1 by omega) ?_
     walk_at "run"
     intro t1 J1 g1 m1 j1
     walk_at "run"
     intro t2 J2 g2 m2 j2
     walk_at "run"
     intro t3 J3 g3 m3 j3
     walk_at "run"
     intro t4 J4 g4 m4 j4
     have m13:=m1.trans (m2.trans m3)
     have s14:=m13.trans m4
     have w:∀ {Hk:Hp}{a:Addr}{o:HO},Same H3 Hk→Hk a=none→J4 a=some o→woP p J4 a=some o:=fun s f e=>by rw [wpG ((hB3.same s).fr f)]; exact e
     have hc':(Cd.cmp true (.num 1) (.num 2)).tr.At (woP p J4) (.ref t3) []:=b69 (w (Same.refl _) g1 ((m2.trans (m3.trans m4)) _ _ j1)) (w m1 g2 ((m3.trans m4) _ _ j2)) (w (m1.trans m2) g3 (m4 _ _ j3))
     exact q _ (.test (.cmp true (.num 1) (.num 2)) b1 b2) left2 calls2 J4 (o13.trans (OfD.of s14)) (k3.same s14) (bf5 (w m13 g4 j4) hc' (hb1.same (wpS s14)) (hb2.same (wpS s14))) ⟨rfl,hw1,hw2⟩ (by simp only [Stm.sz]; omega) (by simp only [Stm.cl]; omega)
   refine a33 (show ¬ (kind:Int)=1 by omega) ?_
   walk_at "run"
   intro t1 J1 g1 m1 j1
   walk_at "run"
   intro t2 J2 g2 m2 j2
   walk_at "run"
   intro t3 J3 g3 m3 j3
   walk_at "run"
   intro t4 J4 g4 m4 j4
   walk_at "run"
   intro t5 J5 g5 m5 j5
   walk_at "run"
   have m15:=m1.trans (m2.trans (m3.trans (m4.trans m5)))
   refine ⟨dk,l,left2,calls2,3,rfl,k3.same m15,by omega,by omega,fun r J6 hr o6 k6=>?_⟩
   walk_at "run"
   have n5:=(k3.same (m1.trans (m2.trans (m3.trans m4)))).new g5
   refine af8 (SqL.of (o6.at n5.1 n5.2 j5)) ?_
   rw [ah8]
   intro t7 J7 g7 m7 j7
   walk_at "run"
   intro t8 J8 g8 m8 j8
   have w:∀ {Hk:Hp}{a:Addr}{o:HO},Same H3 Hk→Hk a=none→J5 a=some o→woP p J5 a=some o:=fun s f e=>by rw [wpG ((hB3.same s).fr f)]; exact e
   have br1:BrAt (woP p J5) (.ref t2) (.mk [.s "key",.i 1] b1):=br3 (w m1 g2 ((m3.trans (m4.trans m5)) _ _ j2)) (bf6 (w (Same.refl _) g1 ((m2.trans (m3.trans (m4.trans m5))) _ _ j1))) (hb1.same (wpS m15))
   have br2:BrAt (woP p J5) (.ref t4) (.mk [.s "other"] b2):=br3 (w (m1.trans (m2.trans m3)) g4 (m5 _ _ j4)) (bf7 (w (m1.trans m2) g3 ((m4.trans m5) _ _ j3))) (hb2.same (wpS m15))
   have hE:Each (BrAt (woP p J5)) [.ref t2,.ref t4] [.mk [.s "key",.i 1] b1,.mk [.s "other"] b2]:=(Each.nil.snoc br1).snoc br2
   have up:Same (woP p J5) (woP p J8):=(o6.p hB.pd hB.pl).trans (wpS (m7.trans m8))
   have hE2:=(ad7 hE r).mono fun _ _ z=>b18 z up
   have hB6:=(hB3.same m15).go o6 k6
   have f7:=hB6.fr g7
   have f8:=(hB6.same m7).fr g8
   have hlen:([Br.mk [.s "key",.i 1] b1,.mk [.s "other"] b2].take r).length≤2:=by rw [List.length_take]; exact Nat.min_le_right _ _
   have hin:∀ b∈[Br.mk [.s "key",.i 1] b1,.mk [.s "other"] b2].take r,∃ p x,b=.mk p x∧(x.length≤6∧∀ s∈x,wfS nm e lp s)∧(p=[.s "key",.i 1]∨p=[.s "other"]):=fun b hb=>by
    have hb:=List.mem_of_mem_take hb
    simp only [List.mem_cons,List.not_mem_nil,or_false] at hb
    rcases hb with rfl | rfl
    · exact ⟨_,_,rfl,hw1,.inl rfl⟩
    · exact ⟨_,_,rfl,hw2,.inr rfl⟩
   have hsz:Br.szs ([Br.mk [.s "key",.i 1] b1,.mk [.s "other"] b2].take r)≤Stm.szs b1+Stm.szs b2∧Br.cls ([Br.mk [.s "key",.i 1] b1,.mk [.s "other"] b2].take r)≤Stm.cls b1+Stm.cls b2:=by
    have:r=0∨r=1∨r=2:=by omega
    rcases this with rfl | rfl | rfl <;> simp [Br.szs,Br.cls,Br.sz,Br.cl]
   exact q _ (.wait 0 ([Br.mk [.s "key",.i 1] b1,.mk [.s "other"] b2].take r)) left2 calls2 J8 ((o13.trans (OfD.of m15)).trans (o6.trans (OfD.of (m7.trans m8)))) (k6.same (m7.trans m8)) (sat_wait.mpr ⟨t8,t7,_,rfl,by rw [wpG f8]; exact j8,by rw [wpG f7]; exact m8 _ _ j7,hE2⟩) ⟨rfl,hlen,hin⟩ (by simp only [Stm.sz]; omega) (by simp only [Stm.cl]; omega)
theorem at8 (T:Txt K mg t) {d:Nat}(G__law_block:FnOk P w K mg base CX0 (3*d+3) t.a__law_block t.fd__law_block ["deck","later","looped","deep"] (b98 K (d+1))):FnOk P w K mg base CX0 (3*d+4) t.a__law_one t.fd__law_one ["deck","later","looped","deep"] (b99 K (d+1)):=by
 have G__law_digit:=a49 (P:=P) (w:=w) (base:=base) T
 refine T.f__law_one.F.ok sc_law_one (fun vs H Q E h=>?_) (fun cdv A outer s H vs Q E hr h=>?_)
 · obtain ⟨dk,l,ln,left,calls,deep,e,lp,nm,p,rfl,_⟩:=h
   rfl
 · obtain ⟨dk,l,ln,left,calls,deep,e,lp,nm,p,rfl,hB,he,hde,he1,q⟩:=h
   refine ⟨_,(@a02 _ _ _ _ _ (@ap2 _ _ _ _ _ _ (@a27 _ _ _ _ _ _ _ _ b75 (@a31 _ _ _ _ _ _ _ (a21 K) (pv 0) (@a03 _ _ _ _) (fun _ _=>rfl)) (@a03 _ _ _ _)) (ap1 (pv 0) (@a03 _ _ _ _) aa7) (by rfl) (by rfl) (by rfl))
    (@a02 _ _ _ _ _ (@a15 _ _ 4 _ _ _ _ sc_law_one.nd rfl (by walk_at "o") (@a08 _ _ _ _ _ _ _ _ _ _ _ _ _ _ _ _ G__law_digit (hr.mono (by omega)) rfl T.f__law_digit.m T.f__law_digit.F.kp T.f__law_digit.b .nil a24 (@a00 _ _ _ _ _ (pv 0) (@a00 _ _ _ _ _ (@a03 _ _ _ _) (@a01 _) (by rfl)) (by rfl)) (by decide) (by rfl) (by rfl)) (by rfl) (by walk_at "o"))
    (@a02 _ _ _ _ _ (@a25 _ _ _ _ _ _ _ _ (@PW.pt _ _ _ (@a81 _ _ _ _ _ _ _ (@a05 _ _ _ _ _ _ _ _ b31 (pv 4) (@a03 _ _ _ _) (nomark _)) (@a66 _ _ _ _ (@a05 _ _ _ _ _ _ _ _ bh6 (pv 3) (@a03 _ _ _ _) (nomark _))))) (@a04 _ _ _ (@a13 _ _ _ _ (@a08 _ _ _ _ _ _ _ _ _ _ _ _ _ _ _ _ G__law_block (hr.mono (by omega)) rfl T.f__law_block.m T.f__law_block.F.kp T.f__law_block.b .nil a24 (@a00 _ _ _ _ _ (pv 0) (@a00 _ _ _ _ _ (pv 1) (@a00 _ _ _ _ _ (pv 2) (@a00 _ _ _ _ _ (pv 3) (@a01 _) (by rfl)) (by rfl)) (by rfl)) (by rfl)) (by decide) (by rfl) (by rfl)))) (@a11 _))
    (@a02 _ _ _ _ _ (@a25 _ _ _ _ _ _ _ _ (@PW.pt _ _ _ (@a81 _ _ _ _ _ _ _ (@a05 _ _ _ _ _ _ _ _ a40 (pv 4) (@a03 _ _ _ _) (nomark _)) (@a81 _ _ _ _ _ _ _ (@a05 _ _ _ _ _ _ _ _ (ac6 K (by exact hr.units)) (pv 1) (@a12 _ _ _ _ (@a01 _)) (nomark _)) (@a66 _ _ _ _ (@a05 _ _ _ _ _ _ _ _ b31 (@a31 _ _ _ _ _ _ _ (a21 K) (pv 0) (@a03 _ _ _ _) (fun _ _=>rfl)) (@a03 _ _ _ _) (nomark _)))))) (@a02 _ _ _ _ _ (@ap2 _ _ _ _ _ _ (@a27 _ _ _ _ _ _ _ _ b75 (@a31 _ _ _ _ _ _ _ (a21 K) (pv 0) (@a03 _ _ _ _) (fun _ _=>rfl)) (@a03 _ _ _ _)) (ap1 (pv 0) (@a03 _ _ _ _) aa7) (by rfl) (by rfl) (by rfl))
     (@a04 _ _ _ (@a13 _ _ _ _ (@a14 _ _ _ _ _ (@a00 _ _ _ _ _ (@a06 _ _ _ _) (@a00 _ _ _ _ _ (@a31 _ _ _ _ _ _ _ (a21 K) (pv 1) (@a08 _ _ _ _ _ _ _ _ _ _ _ _ _ _ _ _ G__law_digit (hr.mono (by omega)) rfl T.f__law_digit.m T.f__law_digit.F.kp T.f__law_digit.b .nil a24 (@a00 _ _ _ _ _ (pv 0) (@a00 _ _ _ _ _ (@a71 _ _ _ _ _ _ _ _ _ (af5 K) (by rfl) T.z_len ap9 (@a00 _ _ _ _ _ (pv 1) (@a01 _) (by rfl)) (by decide) (by decide) (by rfl) (by rfl)) (@a01 _) (by rfl)) (by rfl)) (by decide) (by rfl) (by rfl)) (fun _ _=>rfl)) (@a01 _) (by rfl)) (by rfl)))))) (@a11 _))
    (@a02 _ _ _ _ _ (@a25 _ _ _ _ _ _ _ _ (@PW.pt _ _ _ (@a81 _ _ _ _ _ _ _ (@a05 _ _ _ _ _ _ _ _ a40 (pv 4) (@a03 _ _ _ _) (nomark _)) (@a66 _ _ _ _ (an0 K (pv 2) (fun _=>rfl))))) (@a04 _ _ _ (@a13 _ _ _ _ (@a14 _ _ _ _ _ (@a00 _ _ _ _ _ (@a06 _ _ _ _) (@a01 _) (by rfl))))) (@a11 _))
    (@a02 _ _ _ _ _ (@a25 _ _ _ _ _ _ _ _ (@PW.pt _ _ _ (@a81 _ _ _ _ _ _ _ (@a05 _ _ _ _ _ _ _ _ a40 (pv 4) (@a03 _ _ _ _) (nomark _)) (@a66 _ _ _ _ (an0 K (pv 2) (fun _=>rfl))))) (@a04 _ _ _ (@a13 _ _ _ _ (@a14 _ _ _ _ _ (@a00 _ _ _ _ _ (@a06 _ _ _ _) (@a01 _) (by rfl))))) (@a11 _))
    (@a02 _ _ _ _ _ (@a25 _ _ _ _ _ _ _ _ (@PW.pt _ _ _ (@a81 _ _ _ _ _ _ _ (@a05 _ _ _ _ _ _ _ _ a40 (pv 4) (@a03 _ _ _ _) (nomark _)) (@a66 _ _ _ _ (@a05 _ _ _ _ _ _ _ _ a40 (@a08 _ _ _ _ _ _ _ _ _ _ _ _ _ _ _ _ G__law_digit (hr.mono (by omega)) rfl T.f__law_digit.m T.f__law_digit.F.kp T.f__law_digit.b .nil a24 (@a00 _ _ _ _ _ (pv 0) (@a00 _ _ _ _ _ (@a03 _ _ _ _) (@a01 _) (by rfl)) (by rfl)) (by decide) (by rfl) (by rfl)) (@a03 _ _ _ _) (nomark _))))) (@a04 _ _ _ (@a13 _ _ _ _ (@a14 _ _ _ _ _ (@a00 _ _ _ _ _ (@a06 _ _ _ _) (@a01 _) (by rfl))))) (@a11 _))
    (@a02 _ _ _ _ _ (@a25 _ _ _ _ _ _ _ _ (@PW.pt _ _ _ (@a81 _ _ _ _ _ _ _ (@a05 _ _ _ _ _ _ _ _ a40 (pv 4) (@a03 _ _ _ _) (nomark _)) (@a66 _ _ _ _ (@a05 _ _ _ _ _ _ _ _ a40 (@a08 _ _ _ _ _ _ _ _ _ _ _ _ _ _ _ _ G__law_digit (hr.mono (by omega)) rfl T.f__law_digit.m T.f__law_digit.F.kp T.f__law_digit.b .nil a24 (@a00 _ _ _ _ _ (pv 0) (@a00 _ _ _ _ _ (@a03 _ _ _ _) (@a01 _) (by rfl)) (by rfl)) (by decide) (by rfl) (by rfl)) (@a03 _ _ _ _) (nomark _))))) (@a04 _ _ _ (@a13 _ _ _ _ (@a14 _ _ _ _ _ (@a00 _ _ _ _ _ (@a06 _ _ _ _) (@a01 _) (by rfl))))) (@a11 _))
    (@a04 _ _ _ (@a13 _ _ _ _ (@a31 _ _ _ _ _ _ _ (a21 K) (@a12 _ _ _ _ (@a00 _ _ _ _ _ (@a14 _ _ _ _ _ (@a00 _ _ _ _ _ (@a06 _ _ _ _) (@a00 _ _ _ _ _ (@a06 _ _ _ _) (@a01 _) (by rfl)) (by rfl))) (@a00 _ _ _ _ _ (@a14 _ _ _ _ _ (@a00 _ _ _ _ _ (@a06 _ _ _ _) (@a00 _ _ _ _ _ (@a03 _ _ _ _) (@a00 _ _ _ _ _ (@a06 _ _ _ _) (@a01 _) (by rfl)) (by rfl)) (by rfl))) (@a00 _ _ _ _ _ (@a14 _ _ _ _ _ (@a00 _ _ _ _ _ (@a06 _ _ _ _) (@a00 _ _ _ _ _ (@a06 _ _ _ _) (@a00 _ _ _ _ _ (@a14 _ _ _ _ _ (@a00 _ _ _ _ _ (@a06 _ _ _ _) (@a00 _ _ _ _ _ (@a03 _ _ _ _) (@a01 _) (by rfl)) (by rfl))) (@a01 _) (by rfl)) (by rfl)) (by rfl))) (@a01 _) (by rfl)) (by rfl)) (by rfl))) (@a08 _ _ _ _ _ _ _ _ _ _ _ _ _ _ _ _ G__law_digit (hr.mono (by omega)) rfl T.f__law_digit.m T.f__law_digit.F.kp T.f__law_digit.b .nil a24 (@a00 _ _ _ _ _ (pv 0) (@a00 _ _ _ _ _ (@a03 _ _ _ _) (@a01 _) (by rfl)) (by rfl)) (by decide) (by rfl) (by rfl)) (fun _ _=>rfl)))))))))))),?_⟩
   have sl:(1000000:Nat)≤sizeLine:=le_line (Nat.le_refl _)
   walk_at "go"
   obtain ⟨ms,cur,d1,d2,d3⟩:=hB.k.ex
   have dne:=hB.k.ne
   refine a59 (SqL.of d1) (a09 (j:=2) rfl) ?_
   walk_at "run"
   refine aq2 d1 (j:=2) rfl ?_
   walk_at "run"
   have e0:(((left+1:Nat):Int) - 1)=(left:Int):=by omega
   have k0:Dk4 (upd H dk (.lst [.ref l,.int cur,.int (((left+1:Nat):Int) - 1),.int (calls:Nat)])) dk l left calls:=⟨⟨ms,cur,by rw [a18,e0],by rw [a10 dne.symm]; exact d2,d3⟩,dne⟩
   have o0:OfD dk l H (upd H dk (.lst [.ref l,.int cur,.int (((left+1:Nat):Int) - 1),.int (calls:Nat)])):=(OfD.of (Same.refl _)).u1
   show b97 K [V.ref dk,V.int 12] (upd H dk (.lst [.ref l,.int cur,.int (((left+1:Nat):Int) - 1),.int (calls:Nat)])) _ _
   generalize upd H dk (.lst [.ref l,.int cur,.int (((left+1:Nat):Int) - 1),.int (calls:Nat)])=H0 at k0 o0 ⊢
   have hB0:=hB.go o0 k0
   refine ⟨dk,l,left,calls,12,rfl,k0,by omega,by omega,fun kind H1 hk o1 k1=>?_⟩
   have hB1:=hB0.go o1 k1
   have o01:=o0.trans o1
   have finP:∀ {H' H2:Hp}{a:Addr}{ps:List Pt},OfD dk l H H'→Dk4 H' dk l left calls→H' a=none→Same H' H2→H2 a=some (.tup (ps.map Pt.v))→plW nm lp ps→clP ps=0→Q (.ref a) H2:=fun {H' H2 a ps} o k f s e hw hc=>by
    have f':=(hB.go o k).fr f
    exact q _ (.plain ps) left calls H2 (o.trans (OfD.of s)) (k.same s) (ar5 (by rw [wpG f']; exact e)) (wf_plain.mpr hw) (by simp only [Stm.sz]; omega) (by simp only [Stm.cl]; omega)
   walk_at "run"
   rename_i N1 hN1
   have r1:N1 [some (.ref dk),some (.ref ln),some (.bl lp),some (.int (deep:Nat)),some (.int (kind:Nat))] H1:=by
    refine hN1 _ _ ?_
    clear hN1
    walk_at "run"
    rename_i N2 hN2
    have r2:∀ H',OfD dk l H H'→Dk4 H' dk l left calls→N2 [some (.ref dk),some (.ref ln),some (.bl lp),some (.int (deep:Nat)),some (.int (kind:Nat))] H':=fun H' o k=>by
     refine hN2 _ _ ?_
     clear hN2
     walk_at "run"
     rename_i N3 hN3
     have r3:N3 [some (.ref dk),some (.ref ln),some (.bl lp),some (.int (deep:Nat)),some (.int (kind:Nat))] H':=by
      refine hN3 _ _ ?_
      clear hN3
      walk_at "run"
      rename_i N4 hN4
      have r4:N4 [some (.ref dk),some (.ref ln),some (.bl lp),some (.int (deep:Nat)),some (.int (kind:Nat))] H':=by
       refine hN4 _ _ ?_
       clear hN4
       walk_at "run"
       rename_i N5 hN5
       have r5:∀ H',OfD dk l H H'→Dk4 H' dk l left calls→N5 [some (.ref dk),some (.ref ln),some (.bl lp),some (.int (deep:Nat)),some (.int (kind:Nat))] H':=fun H' o k=>by
        refine hN5 _ _ ?_
        clear hN5
        walk_at "run"
        rename_i N6 hN6
        have r6:∀ H',OfD dk l H H'→Dk4 H' dk l left calls→N6 [some (.ref dk),some (.ref ln),some (.bl lp),some (.int (deep:Nat)),some (.int (kind:Nat))] H':=fun H' o k=>by
         refine hN6 _ _ ?_
         clear hN6
         walk_at "run"
         intro t1 J1 g1 m1 j1
         walk_at "run"
         intro t2 J2 g2 m2 j2
         walk_at "run"
         intro t3 J3 g3 m3 j3
         walk_at "run"
         intro t4 J4 g4 m4 j4
         walk_at "run"
         intro t5 J5 g5 m5 j5
         walk_at "run"
         have m14:=m1.trans (m2.trans (m3.trans m4))
         have m15:=m14.trans m5
         refine ⟨dk,l,left,calls,3,rfl,k.same m15,by omega,by omega,fun r J6 hr o6 k6=>?_⟩
         walk_at "run"
         have hBk:=hB.go o k
         have n1:=k.new g1
         have n2:=(k.same m1).new g2
         have n4:=(k.same (m1.trans (m2.trans m3))).new g4
         have n3:=(k.same (m1.trans m2)).new g3
         have n5:=(k.same m14).new g5
         have fin3:∀ {a:Addr}{ps:List Pt},¬ p a→J6 a=some (.tup (ps.map Pt.v))→plW nm lp ps→clP ps=0→Q (.ref a) J6:=fun {a ps} f e hw hc =>
          q _ (.plain ps) left calls J6 ((o.trans (OfD.of m15)).trans o6) k6 (ar5 (by rw [wpG f]; exact e)) (wf_plain.mpr hw) (by simp only [Stm.sz]; omega) (by simp only [Stm.cl]; omega)
         have hr3:r=0∨r=1∨r=2:=by omega
         rcases hr3 with rfl | rfl | rfl
         · refine a59 (SqL.of (o6.at n5.1 n5.2 j5)) (a09 (j:=0) rfl) ?_
           exact fin3 (ps:=[.s "say",.s "on"]) (hBk.fr g1) (o6.at n1.1 n1.2 ((m2.trans (m3.trans (m4.trans m5))) _ _ j1)) (.inl rfl) (by decide +kernel)
         · refine a59 (SqL.of (o6.at n5.1 n5.2 j5)) (a09 (j:=1) rfl) ?_
           exact fin3 (ps:=[.s "hand",.i 3,.s "on"]) ((hBk.same m1).fr g2) (o6.at n2.1 n2.2 ((m3.trans (m4.trans m5)) _ _ j2)) (.inr (.inl rfl)) (by decide +kernel)
         · refine a59 (SqL.of (o6.at n5.1 n5.2 j5)) (a09 (j:=2) rfl) ?_
           have a4:=o6.at n4.1 n4.2 (m5 _ _ j4)
           have a3:=o6.at n3.1 n3.2 ((m4.trans m5) _ _ j3)
           exact q _ (.put "a" (.num 1)) left calls J6 ((o.trans (OfD.of m15)).trans o6) k6 (br0 (by rw [wpG ((hBk.same (m1.trans (m2.trans m3))).fr g4)]; exact a4) (b19 (by rw [wpG ((hBk.same (m1.trans m2)).fr g3)]; exact a3))) (wf_put.mpr ⟨rfl,rfl⟩) (by simp only [Stm.sz]; omega) (by simp only [Stm.cl]; omega)
        clear hN6
        by_cases h5:kind=5
        · rw [if_pos (decide_eq_true (by omega))]
          walk_at "run"
          refine ⟨dk,l,left,calls,2,rfl,k,by omega,by omega,fun r J6 hr o6 k6=>?_⟩
          walk_at "run"
          by_cases h1:r=1
          · refine a32 (show (r:Int)=1 by omega) ?_
            walk_at "run"
            intro a J7 g7 m7 j7
            exact finP (ps:=[.s "stop"]) (o.trans o6) k6 g7 m7 j7 (.inr (.inr (.inr (.inr (.inr rfl))))) rfl
          · refine a33 (show ¬ (r:Int)=1 by omega) ?_
            walk_at "run"
            exact r6 J6 (o.trans o6) k6
        · rw [if_neg (by simp; omega),if_neg Bool.false_ne_true]
          walk_at "run"
          exact r6 H' o k
       clear hN5
       by_cases h4:kind=4
       · rw [if_pos (decide_eq_true (by omega))]
         walk_at "run"
         refine ⟨dk,l,left,calls,2,rfl,k,by omega,by omega,fun r J6 hr o6 k6=>?_⟩
         walk_at "run"
         by_cases h1:r=1
         · refine a32 (show (r:Int)=1 by omega) ?_
           walk_at "run"
           intro a J7 g7 m7 j7
           exact finP (ps:=[.s "back"]) (o.trans o6) k6 g7 m7 j7 (.inr (.inr (.inr (.inr (.inl rfl))))) rfl
         · refine a33 (show ¬ (r:Int)=1 by omega) ?_
           walk_at "run"
           exact r5 J6 (o.trans o6) k6
       · rw [if_neg (by simp; omega),if_neg Bool.false_ne_true]
         walk_at "run"
         exact r5 H' o k
      clear hN4
      by_cases h3:kind=3
      · rw [if_pos (decide_eq_true (by omega))]
        walk_at "run"
        cases lp with
        | true =>
          walk_at "run"
          intro a J7 g7 m7 j7
          exact finP (ps:=[.s "leave"]) o k g7 m7 j7 (.inr (.inr (.inr (.inl ⟨rfl,.inr rfl⟩)))) rfl
        | false =>
          walk_at "run"
          exact r4
      · rw [if_neg (by simp; omega),if_neg Bool.false_ne_true]
        walk_at "run"
        exact r4
     clear hN3
     by_cases h3:kind=2
     · rw [if_pos (decide_eq_true (by omega))]
       walk_at "run"
       cases lp with
       | true =>
         walk_at "run"
         intro a J7 g7 m7 j7
         exact finP (ps:=[.s "again"]) o k g7 m7 j7 (.inr (.inr (.inr (.inl ⟨rfl,.inl rfl⟩)))) rfl
       | false =>
         walk_at "run"
         exact r3
     · rw [if_neg (by simp; omega),if_neg Bool.false_ne_true]
       walk_at "run"
       exact r3
    clear hN2
    by_cases h1:kind=1
    · rw [if_pos (decide_eq_true (by omega))]
      walk_at "run"
      intro t1 J1 g1 m1 j1
      have n1:=hB1.same m1
      refine an5 (SqL.of (wpT n1.n).2) (SqL.of j1) ?_
      rcases nm with _ | ⟨n0,nm0⟩
      · refine ⟨false,rfl,?_⟩
        rw [if_neg Bool.false_ne_true,if_neg Bool.false_ne_true]
        walk_at "run"
        exact r2 _ (o01.trans (OfD.of m1)) (k1.same m1)
      · refine ⟨true,rfl,?_⟩
        rw [if_pos rfl]
        walk_at "run"
        have km:=k1.same m1
        obtain ⟨ms,cur,d1,d2,d3⟩:=km.ex
        refine a59 (SqL.of d1) (a09 (j:=3) rfl) ?_
        walk_at "run"
        by_cases hc0:0<calls
        · refine a32 (show (0:Int)<(calls:Int) by omega) ?_
          walk_at "run"
          refine a59 (SqL.of d1) (a09 (j:=3) rfl) ?_
          walk_at "run"
          refine aq2 d1 (j:=3) rfl ?_
          obtain ⟨c,rfl⟩:∃ c,calls=c+1:=⟨calls - 1,by omega⟩
          walk_at "run"
          have e1:(((c+1:Nat):Int) - 1)=(c:Int):=by omega
          have k2:Dk4 (upd J1 dk (.lst [.ref l,.int cur,.int (left:Nat),.int (((c+1:Nat):Int) - 1)])) dk l left c:=⟨⟨ms,cur,by rw [a18,e1],by rw [a10 dne.symm]; exact d2,d3⟩,dne⟩
          have o2:OfD dk l J1 (upd J1 dk (.lst [.ref l,.int cur,.int (left:Nat),.int (((c+1:Nat):Int) - 1)])):=(OfD.of (Same.refl _)).u1
          have hB2:=n1.go o2 k2
          refine aq0 (SqL.of (wpT hB2.n).2) ?_
          walk_at "run"
          refine ⟨dk,l,left,c,(a16 (n0::nm0)).length,rfl,k2,by simp [a16],by have:=hB.hn; simp [a16] at this ⊢; omega,fun r J3 hr o3 k3=>?_⟩
          have hB3:=hB2.go o3 k3
          have hr':r<(n0::nm0).length:=by simpa [a16] using hr
          refine a59 (SqL.of (wpT hB3.n).2) (a09 (j:=r) (v:=.str (n0::nm0)[r]) (by unfold a16; rw [List.getElem?_map,List.getElem?_eq_getElem hr']; rfl)) ?_
          walk_at "run"
          intro a J4 g4 m4 j4
          exact q _ (.plain [.s "call",.s (n0::nm0)[r]]) left c J4 (((o01.trans (OfD.of m1)).trans o2).trans (o3.trans (OfD.of m4))) (k3.same m4) (ar5 (by rw [wpG (hB3.fr g4)]; exact j4)) (wf_plain.mpr (.inr (.inr (.inl ⟨_,List.getElem_mem hr',rfl⟩)))) (by simp only [Stm.sz]; omega) (by simp only [Stm.cl]; rw [show clP [.s "call",.s (n0::nm0)[r]]=1 from rfl]; omega)
        · refine a33 (show ¬ (0:Int)<(calls:Int) by omega) ?_
          walk_at "run"
          exact r2 _ (o01.trans (OfD.of m1)) (k1.same m1)
    · rw [if_neg (by simp; omega),if_neg Bool.false_ne_true]
      walk_at "run"
      exact r2 _ o01 k1
   clear hN1
   by_cases h5:5<kind
   · rw [if_pos (decide_eq_true (by omega))]
     walk_at "run"
     by_cases h4:deep<4
     · rw [if_pos (decide_eq_true (by omega))]
       walk_at "run"
       exact ⟨dk,l,ln,left,calls,deep,e,lp,nm,p,rfl,hB1,he,hde,by omega,fun v s left' calls' H' o k hs hw hz hc=>q v s left' calls' H' (o01.trans o) k hs hw hz hc⟩
     · rw [if_neg (by simp; omega)]
       walk_at "run"
       exact r1
   · rw [if_neg (by simp; omega),if_neg Bool.false_ne_true]
     walk_at "run"
     exact r1
theorem ao7 (T:Txt K mg t) {d:Nat}(G__law_one:FnOk P w K mg base CX0 (3*d+4) t.a__law_one t.fd__law_one ["deck","later","looped","deep"] (b99 K (d+1))):FnOk P w K mg base CX0 (3*d+5) t.a__law_some t.fd__law_some ["deck","later","looped","deep"] (ao6 K (d+1)):=by
 have G__law_digit:=a49 (P:=P) (w:=w) (base:=base) T
 refine T.f__law_some.F.ok sc_law_some (fun vs H Q E h=>?_) (fun cdv A outer s H vs Q E hr h=>?_)
 · obtain ⟨dk,l,ln,left,calls,deep,e,lp,nm,p,rfl,_⟩:=h
   rfl
 · obtain ⟨dk,l,ln,left,calls,deep,e,lp,nm,p,rfl,hB,he,hde,he1,q⟩:=h
   refine ⟨_,(@a02 _ _ _ _ _ (@a15 _ _ 4 _ _ _ _ sc_law_some.nd rfl (by walk_at "o") (@a12 _ _ _ _ (@a01 _)) (by rfl) (by walk_at "o"))
    (@a02 _ _ _ _ _ (@a82 _ _ _ _ _ _ _ _ PassesOwn.never rfl (ab4 rfl T.z_range (@a00 _ _ _ _ _ (@a08 _ _ _ _ _ _ _ _ _ _ _ _ _ _ _ _ G__law_digit (hr.mono (by omega)) rfl T.f__law_digit.m T.f__law_digit.F.kp T.f__law_digit.b .nil a24 (@a00 _ _ _ _ _ (pv 0) (@a00 _ _ _ _ _ (@a03 _ _ _ _) (@a01 _) (by rfl)) (by rfl)) (by decide) (by rfl) (by rfl)) (@a01 _) (by rfl))) (a26 (i:=5) sc_law_some.nd rfl (by walk_at "o")) (@a04 _ _ _ (@a25 _ _ _ _ _ _ _ _ (@a05 _ _ _ _ _ _ _ _ b31 (@a31 _ _ _ _ _ _ _ (a21 K) (pv 0) (@a03 _ _ _ _) (fun _ _=>rfl)) (@a03 _ _ _ _) (nomark _)) (@a04 _ _ _ (@a95 _ _ _ _ (@af1 _ K _ _ _ _ _ _ _ _ _ _ _ PySem.F.plainAttrs_list PySem.F.slot_list_append PySem.F.type_list_append a52 (pv 4) (@a00 _ _ _ _ _ (@a08 _ _ _ _ _ _ _ _ _ _ _ _ _ _ _ _ G__law_one (hr.mono (by omega)) rfl T.f__law_one.m T.f__law_one.F.kp T.f__law_one.b .nil a24 (@a00 _ _ _ _ _ (pv 0) (@a00 _ _ _ _ _ (pv 1) (@a00 _ _ _ _ _ (pv 2) (@a00 _ _ _ _ _ (pv 3) (@a01 _) (by rfl)) (by rfl)) (by rfl)) (by rfl)) (by decide) (by rfl) (by rfl)) (@a01 _) (by rfl)) (by rfl) (by rfl) (by rfl) (by rfl) (by rfl) (by rfl)) (by rfl))) (@a11 _))) (by intro _; rfl))
    (@a04 _ _ _ (@a13 _ _ _ _ (pv 4))))),?_⟩
   have sl:(1000000:Nat)≤sizeLine:=le_line (Nat.le_refl _)
   walk_at "go"
   intro bd H1 f1 s1 e1
   walk_at "run"
   have nb:=hB.k.new f1
   refine ⟨dk,l,left,calls,7,rfl,hB.k.same s1,by omega,by omega,fun r H2 hr o2 k2=>?_⟩
   walk_at "run"
   have hB2:=(hB.same s1).go o2 k2
   have hnb:¬ p bd:=hB.fr f1
   have hln:ln≠bd:=fun z=>by
    have:=(wpT hB.n).2
    rw [z,f1] at this
    cases this
   refine ai6 (lo:=0) (n:=r) (fun i σ' H'=>i≤r∧∃ (left' calls':Nat) (b:List Stm) (us:List V) (y:Option V),σ'=[some (.ref dk),some (.ref ln),some (.bl lp),some (.int (deep:Nat)),some (.ref bd),y]∧OfD dk l H H'∧Dk4 H' dk l left' calls'∧H' bd=some (.lst us)∧Each (SAt (woP (fun a=>p a∨a=bd) H')) us b∧b.length≤i∧(∀ s∈b,wfS nm e lp s)∧Stm.szs b+left'≤left∧Stm.cls b+calls'≤calls) ⟨Nat.zero_le _,left,calls,[],[],_,rfl,(OfD.of s1).trans o2,k2,o2.at nb.1 nb.2 e1,Each.nil,Nat.le_refl _,fun s h=>(by cases h),(by simp [Stm.szs]),(by simp [Stm.cls])⟩ ?_ ?_
   · rintro i σ' H3 hi ⟨_,left',calls',b,us,y,rfl,o3,k3,e3,hE,hbl,hwf,hsz,hcl⟩
     walk_at "run"
     obtain ⟨ms,cur,d1,d2,d3⟩:=k3.ex
     refine a59 (SqL.of d1) (a09 (j:=2) rfl) ?_
     walk_at "run"
     by_cases h0:0<left'
     · refine a32 (show (0:Int)<(left':Int) by omega) ?_
       walk_at "run"
       refine ak2 (SqL.of e3) ?_
       walk_at "run"
       obtain ⟨left',rfl⟩:∃ x,left'=x+1:=⟨left' - 1,by omega⟩
       have hB3:BPre H3 dk l ln (left'+1) calls' nm (fun a=>p a∨a=bd):=⟨k3,by
        have hg:=(hB.go o3 k3).n
        obtain ⟨g1,g2⟩:=wpT hg
        rw [wpG (fun z=>z.elim g1 hln)]
        exact g2,hB.hn,.inl hB.pd,.inl hB.pl,fun a ha=>by
        rcases ha with ha | rfl
        · exact (hB.go o3 k3).ex a ha
        · rw [e3]; exact fun z=>by cases z⟩
       refine ⟨dk,l,ln,left',calls',deep,e,lp,nm,fun a=>p a∨a=bd,rfl,hB3,by omega,by omega,by omega,fun v s left2 calls2 H4 o4 k4 hs hw hz hc=>?_⟩
       have e4:=o4.at nb.1 nb.2 e3
       have hul:us.length≤6:=by rw [hE.1]; omega
       walk_at "run"
       refine a72 e4 (by omega) ?_
       refine ⟨by omega,left2,calls2,b++[s],us++[v],_,rfl,(o3.trans o4).un f1,?_,a18,?_,by simp; omega,?_,?_,?_⟩
       · obtain ⟨ms,cur,q1,q2,q3⟩:=k4.ex
         exact ⟨⟨ms,cur,by rw [a10 nb.1.symm]; exact q1,by rw [a10 nb.2.symm]; exact q2,q3⟩,k4.ne⟩
       · rw [wpU (.inr rfl)]
         exact (hE.mono fun _ _ z=>z.same (o4.p (.inl hB.pd) (.inl hB.pl))).snoc hs
       · intro x hx
         rcases List.mem_append.mp hx with hx | hx
         · exact hwf x hx
         · rw [List.mem_singleton.mp hx]; exact hw
       · have:∀ b:List Stm,Stm.szs (b++[s])=Stm.szs b+s.sz:=fun b=>by
          induction b with
          | nil=>simp [Stm.szs]
          | cons x b ih=>simp only [List.cons_append,Stm.szs,ih]; omega
         rw [this]
         omega
       · have:∀ b:List Stm,Stm.cls (b++[s])=Stm.cls b+s.cl:=fun b=>by
          induction b with
          | nil=>simp [Stm.cls]
          | cons x b ih=>simp only [List.cons_append,Stm.cls,ih]; omega
         rw [this]
         omega
     · refine a33 (show ¬ (0:Int)<(left':Int) by omega) ?_
       walk_at "run"
       exact ⟨by omega,left',calls',b,us,_,rfl,o3,k3,e3,hE,by omega,hwf,hsz,hcl⟩
   · rintro σ' H3 ⟨_,left',calls',b,us,y,rfl,o3,k3,e3,hE,hbl,hwf,hsz,hcl⟩
     walk_at "run"
     exact q (.ref bd) b left' calls' H3 o3 k3 (bat_iff.mpr ⟨bd,us,rfl,by rw [wpG hnb]; exact e3,hE.mono fun _ _ z=>z.same (wpB fun a h=>.inl h)⟩) ⟨by omega,hwf⟩ hsz hcl
theorem ad8 (T:Txt K mg t):∀ d,FnOk P w K mg base CX0 (3*d+2) t.a__law_some t.fd__law_some [Str.ofString "deck",Str.ofString "later",Str.ofString "looped",Str.ofString "deep"] (ao6 K d)
 | 0=>vac fun vs H Q E ⟨_,_,_,_,_,_,_,_,_,_,_,_,h,_⟩=>Nat.not_lt_zero _ h
 | d+1=>ao7 T (at8 T (al9 T (ad8 T d)))
structure TksW (ts:Tks) (ns:List Str):Prop where
 tw:TkW ts ns
 b:∀ x∈ts,∃ j,wfB (ns.drop j) 5 false x.2∧Stm.szs x.2≤45∧Stm.cls x.2≤4
 l:ts.length≤4
 u:(ts.map (·.1)).Nodup
 c:∀ c∈ns,(PyData.str c).canLay0=true
theorem am0 {us:List V}{k:Nat}:cutV us (some (k:Int)) none=us.drop k:=by
 unfold cutV
 rw [HT.sIx_none,HT.sIx_nat]
 by_cases h:k≤us.length
 · rw [Nat.min_eq_left h,List.take_of_length_le (by simp)]
 · rw [Nat.min_eq_right (by omega),List.drop_of_length_le (Nat.le_refl _),List.drop_of_length_le (by omega)]
   simp
theorem b20 {α β:Type}{R:α→β→Prop}{vs:List α}{xs:List β}(h:Each R vs xs) (k:Nat):Each R (vs.drop k) (xs.drop k):=by
 refine ⟨by rw [List.length_drop,List.length_drop,h.1],fun j v x h1 h2=>?_⟩
 rw [List.getElem?_drop] at h1 h2
 exact h.2 _ v x h1 h2
theorem ah9 {α β:Type}{R:α→β→Prop}{vs:List α}{xs:List β}(h:Each R vs xs):Each R vs.reverse xs.reverse:=by
 refine ⟨by rw [List.length_reverse,List.length_reverse,h.1],fun j v x h1 h2=>?_⟩
 have l1:j<vs.length:=by have:=(List.getElem?_eq_some_iff.mp h1).1; simpa using this
 have l2:j<xs.length:=by have:=(List.getElem?_eq_some_iff.mp h2).1; simpa using this
 rw [List.getElem?_reverse l1] at h1
 rw [List.getElem?_reverse l2,←h.1] at h2
 exact h.2 _ v x h1 h2
theorem b21 {ts:Tks}(hu:(ts.map (·.1)).Nodup) {n:Str}{b:List Stm}(h:(n,b)∈ts):a22 ts n=some b:=by
 unfold a22
 induction ts with
 | nil=>cases h
 | cons x ts ih =>
   rw [List.map_cons,List.nodup_cons] at hu
   rcases List.mem_cons.mp h with e | e
   · rw [List.find?_cons_of_pos (by simp [← e])]
     rw [← e]; rfl
   · rw [List.find?_cons_of_neg (by
      have:x.1≠n:=fun z=>hu.1 (List.mem_map.mpr ⟨_,e,z.symm⟩)
      simpa using this)]
     exact ih hu.2 e
structure TksB (ts:Tks) (nm:List Str) (i:Nat):Prop where
 n:ts.map (·.1)=nm.take i
 b:∀ (k:Nat) (x:Str×List Stm),ts[k]?=some x→wfB (nm.drop (k+1)) 5 false x.2∧Stm.szs x.2≤45∧Stm.cls x.2≤4
theorem TksB.gd {ts ts':Tks}{nm:List Str}(h:TksB ts nm nm.length) (hu:nm.Nodup) (hl:nm.length≤4) (hc:∀ c∈nm,(PyData.str c).canLay0=true) (hp:ts.Perm ts'):TksW ts' nm:=by
 have hn:=h.n
 rw [List.take_length] at hn
 have hl2:ts.length=nm.length:=by rw [← hn,List.length_map]
 have hu2:(ts'.map (·.1)).Nodup:=(hp.map (·.1)).nodup_iff.mp (by rw [hn]; exact hu)
 refine ⟨⟨fun i n hn2=>?_,hl⟩,fun x hx=>?_,by rw [← hp.length_eq,hl2]; exact hl,hu2,hc⟩
 · skip
   rw [← hn,List.getElem?_map] at hn2
   obtain ⟨x,hx,rfl⟩:=Option.map_eq_some_iff.mp hn2
   obtain ⟨b1,b2,b3⟩:=h.b i x hx
   exact ⟨x.2,b21 hu2 (hp.mem_iff.mp (List.mem_of_getElem? hx)),b1,b2,b3⟩
 · obtain ⟨k,hk⟩:=List.mem_iff_getElem?.mp (hp.mem_iff.mpr hx)
   exact ⟨k+1,h.b k x hk⟩
def bw2 (K:PySem.W.Frag):Sp:=fun vs H Q _=>∃ (dk l:Addr),vs=[.ref dk]∧Dk4 H dk l 45 4∧∀ (tl:Addr) (us:List V) (ts:Tks) (ns:List Str) (H':Hp),H' tl=some (.lst us)→Each (TkN H') us ts→TksW ts ns→Q (.ref tl) H'
theorem am1 (T:Txt K mg t):FnOk P w K mg base CX0 25 t.a__law_talks t.fd__law_talks ["deck"] (bw2 K):=by
 have G__law_digit:=a49 (P:=P) (w:=w) (base:=base) T
 have G__law_some:=ad8 (P:=P) (w:=w) (base:=base) T
 refine T.f__law_talks.F.ok sc_law_talks (fun vs H Q E h=>?_) (fun cdv A outer s H vs Q E hr h=>?_)
 · obtain ⟨dk,l,rfl,_⟩:=h
   rfl
 · obtain ⟨dk,l,rfl,hk,q⟩:=h
   replace G__law_some:=G__law_some 6
   refine ⟨_,(@a02 _ _ _ _ _ (@a15 _ _ 1 _ _ _ _ sc_law_talks.nd rfl (by walk_at "o") (@a35 _ _ _ _ _ _ _ _ _ _ (a42 K) (@a12 _ _ _ _ (@a00 _ _ _ _ _ (@a06 _ _ _ _) (@a00 _ _ _ _ _ (@a06 _ _ _ _) (@a00 _ _ _ _ _ (@a06 _ _ _ _) (@a00 _ _ _ _ _ (@a06 _ _ _ _) (@a01 _) (by rfl)) (by rfl)) (by rfl)) (by rfl))) (@a50 _) (@a41 _ _ _ (@a27 _ _ _ _ _ _ _ _ a19 (@a03 _ _ _ _) (@a08 _ _ _ _ _ _ _ _ _ _ _ _ _ _ _ _ G__law_digit (hr.mono (by omega)) rfl T.f__law_digit.m T.f__law_digit.F.kp T.f__law_digit.b .nil a24 (@a00 _ _ _ _ _ (pv 0) (@a00 _ _ _ _ _ (@a03 _ _ _ _) (@a01 _) (by rfl)) (by rfl)) (by decide) (by rfl) (by rfl))))) (by rfl) (by walk_at "o"))
    (@a02 _ _ _ _ _ (bj9 (i:=2) (Nt:=["k"]) (Nf:=["names","deck"]) (caps:=[1,0]) rfl (a97 (sc:=a07 a78) rfl rfl (by decide +kernel) (by decide +kernel) (by decide +kernel) rfl (by decide +kernel)) (ab4 rfl T.z_range (@a00 _ _ _ _ _ (@a71 _ _ _ _ _ _ _ _ _ (af5 K) (by rfl) T.z_len ap9 (@a00 _ _ _ _ _ (pv 1) (@a01 _) (by rfl)) (by decide) (by decide) (by rfl) (by rfl)) (@a01 _) (by rfl))) (fun _ _ _ _ _=>(a26 (i:=0) (show (["k","names","deck"]:List Str).Nodup by decide +kernel) rfl (by walk_at "o"))) (fun _ _ _ _ _=>(@ax2 _)) (fun _ _ _ _ _=>(@a14 _ _ _ _ _ (@a00 _ _ _ _ _ (@a31 _ _ _ _ _ _ _ (a21 K) (pv 1) (pv 0) (fun _ _=>rfl)) (@a00 _ _ _ _ _ (@a08 _ _ _ _ _ _ _ _ _ _ _ _ _ _ _ _ G__law_some (hr.mono (by omega)) rfl T.f__law_some.m T.f__law_some.F.kp T.f__law_some.b .nil a24 (@a00 _ _ _ _ _ (pv 2) (@a00 _ _ _ _ _ (@a35 _ _ _ _ _ _ _ _ _ _ (a42 K) (pv 1) (@a41 _ _ _ (@a27 _ _ _ _ _ _ _ _ a19 (pv 0) (@a03 _ _ _ _))) (@a50 _)) (@a00 _ _ _ _ _ (@au3 _ _ _ _) (@a00 _ _ _ _ _ (@a03 _ _ _ _) (@a01 _) (by rfl)) (by rfl)) (by rfl)) (by rfl)) (by decide) (by rfl) (by rfl)) (@a01 _) (by rfl)) (by rfl)))) sc_law_talks.nd rfl (by walk_at "o") rfl)
    (@a02 _ _ _ _ _ (@a25 _ _ _ _ _ _ _ _ (@a05 _ _ _ _ _ _ _ _ a40 (@a08 _ _ _ _ _ _ _ _ _ _ _ _ _ _ _ _ G__law_digit (hr.mono (by omega)) rfl T.f__law_digit.m T.f__law_digit.F.kp T.f__law_digit.b .nil a24 (@a00 _ _ _ _ _ (pv 0) (@a00 _ _ _ _ _ (@a03 _ _ _ _) (@a01 _) (by rfl)) (by rfl)) (by decide) (by rfl) (by rfl)) (@a03 _ _ _ _) (nomark _)) (@a04 _ _ _ (@a13 _ _ _ _ (@a27 _ _ _ _ _ _ _ _ a19 (@a35 _ _ _ _ _ _ _ _ _ _ (a42 K) (pv 2) (@a50 _) (@a41 _ _ _ (@a03 _ _ _ _))) (be1 K (pv 2) (@a03 _ _ _ _) (@am6 _ _ _ _ _ _ ab5 (@a03 _ _ _ _)))))) (@a11 _))
    (@a04 _ _ _ (@a13 _ _ _ _ (pv 2)))))),?_⟩
   have sl:(1000000:Nat)≤sizeLine:=le_line (Nat.le_refl _)
   walk_at "go"
   intro nl0 H1 f1 m1 j1
   walk_at "run"
   have n1:=hk.new f1
   refine ⟨dk,l,45,4,4,rfl,hk.same m1,by omega,by omega,fun r H2 hr o2 k2=>?_⟩
   walk_at "run"
   have hnl:=o2.at n1.1 n1.2 j1
   refine af8 (SqL.of hnl) ?_
   rw [show (1+(r:Nat):Int)=((1+r:Nat):Int) by omega,ah8]
   intro nl J1 g1 q1 p1
   walk_at "run"
   obtain ⟨nm,hnm,hnl4,hnu,hnc⟩:∃ nm:List Str,List.take (1+r) [V.str (Str.ofString "again"),V.str (Str.ofString "b"),V.str (Str.ofString "cc"),V.str (Str.ofString "stop")]=a16 nm∧nm.length≤4∧nm.Nodup∧∀ c∈nm,(PyData.str c).canLay0=true :=
    ⟨List.take (1+r) [Str.ofString "again",Str.ofString "b",Str.ofString "cc",Str.ofString "stop"],by unfold a16; rw [List.map_take]; rfl,by rw [List.length_take]; exact Nat.min_le_right _ _,List.Nodup.sublist (List.take_sublist _ _) (by decide +kernel),fun c hc=>(show ∀ c∈[Str.ofString "again",Str.ofString "b",Str.ofString "cc",Str.ofString "stop"],(PyData.str c).canLay0=true by decide +kernel) c (List.mem_of_mem_take hc)⟩
   rw [hnm] at p1
   refine aq0 (SqL.of p1) ?_
   walk_at "run"
   have hln:(a16 nm).length=nm.length:=List.length_map _
   rw [hln]
   refine ⟨by omega,by omega,?_⟩
   rw [Int.toNat_natCast]
   have k3:=k2.same q1
   have nn:=k2.new g1
   refine b48 (lo:=0) (n:=nm.length) (by omega) (fun i acc H'=>OfD dk l J1 H'∧∃ (left calls:Nat) (ts:Tks),Dk4 H' dk l left calls∧left≤45∧calls≤4∧Each (TkN (woP (fun a=>a=dk∨a=l) H')) acc ts∧acc.length=i∧TksB ts nm i) ⟨OfD.of (Same.refl _),45,4,[],k3,Nat.le_refl _,Nat.le_refl _,Each.nil,rfl,rfl,fun k x h=>by cases h⟩ (fun i acc H' ⟨_,_,_,_,_,_,_,_,e,_⟩=>by omega) ?_ ?_
   · rintro i acc H3 hi ⟨o3,left,calls,ts,k3,hl,hc,hE,ha,hB⟩
     walk_at "run"
     have e3:=o3.at nn.1 nn.2 p1
     rw [show (0+(i:Nat):Int)=(i:Int) by omega]
     refine a59 (SqL.of e3) (a09 (j:=i) (v:=.str nm[i]) (by unfold a16; rw [List.getElem?_map,List.getElem?_eq_getElem hi]; rfl)) ?_
     walk_at "run"
     refine af8 (SqL.of e3) ?_
     rw [show ((i:Nat)+1:Int)=((i+1:Nat):Int) by omega,am0]
     intro sl1 H4 f4 s4 e4
     rw [show (a16 nm).drop (i+1)=a16 (nm.drop (i+1)) from (by unfold a16; rw [List.map_drop])] at e4
     walk_at "run"
     have n4:=k3.new f4
     have hBP:BPre H4 dk l sl1 left calls (nm.drop (i+1)) (fun a=>a=dk∨a=l):=⟨k3.same s4,by rw [wpG (fun z=>z.elim n4.1 n4.2)]; exact e4,by rw [List.length_drop]; omega,.inl rfl,.inr rfl,fun a ha=>by
      obtain ⟨ms,cur,h1,h2,_⟩:=(k3.same s4).ex
      rcases ha with rfl | rfl
      · rw [h1]; exact fun z=>by cases z
      · rw [h2]; exact fun z=>by cases z⟩
     refine ⟨dk,l,sl1,left,calls,0,5,false,nm.drop (i+1),fun a=>a=dk∨a=l,rfl,hBP,by omega,by omega,by omega,fun v b left' calls' H5 o5 k5 hb hw hz hcl=>?_⟩
     walk_at "run"
     intro a H6 f6 s6 e6
     have n6:=k5.new f6
     have up:Same (woP (fun a=>a=dk∨a=l) H3) (woP (fun a=>a=dk∨a=l) H6):=(wpS s4).trans (o5.trans (wpS s6))
     refine ⟨((o3.trans (OfD.of s4)).trans o5).trans (OfD.of s6),left',calls',ts++[(nm[i],b)],k5.same s6,by omega,by omega,(hE.mono fun _ _ z=>z.same up).snoc ⟨a,v,rfl,by rw [wpG (fun z=>z.elim n6.1 n6.2)]; exact e6,hb.same (wpS s6)⟩,by simp [ha],?_,fun k x hx=>?_⟩
     · rw [List.map_append,hB.n,List.take_add_one,List.getElem?_eq_getElem hi]; rfl
     · have hlt:ts.length=i:=by rw [← hE.1,ha]
       by_cases hk':k<ts.length
       · rw [List.getElem?_append_left hk'] at hx
         exact hB.b k x hx
       · rw [List.getElem?_append_right (by omega)] at hx
         have:k - ts.length=0:=by
          have:=(List.getElem?_eq_some_iff.mp hx).1
          simp at this
          omega
         rw [this] at hx
         obtain rfl:=Option.some.inj hx
         rw [show k=i by omega]
         exact ⟨hw,show Stm.szs b≤45 by omega,show Stm.cls b≤4 by omega⟩
   · rintro us H3 ⟨o3,left,calls,ts,k3,hl,hc,hE,ha,hB⟩ tl H4 f4 s4 e4
     walk_at "run"
     have nt:=k3.new f4
     refine ⟨dk,l,left,calls,2,rfl,k3.same s4,by omega,by omega,fun r2 H5 hr2 o5 k5=>?_⟩
     walk_at "run"
     have e5:=o5.at nt.1 nt.2 e4
     have up:Same (woP (fun a=>a=dk∨a=l) H3) (woP (fun a=>a=dk∨a=l) H5):=(wpS s4).trans (o5.p (.inl rfl) (.inr rfl))
     have hE5:=hE.mono fun _ _ z=>z.same (up.trans wpL)
     by_cases h1:r2=1
     · refine a32 (show (r2:Int)=1 by omega) ?_
       walk_at "run"
       refine af8 (SqL.of e5) ?_
       rw [show (1:Int)=((1:Nat):Int) from rfl,ah8]
       intro a6 H6 f6 s6 e6
       walk_at "run"
       refine ⟨rfl,rfl,tl,us,rfl,SqL.of (s6 _ _ e5),?_⟩
       intro a7 H7 f7 s7 e7
       have e67:=s7 _ _ e6
       refine a30 e67 e7 (by
        have:=hE.1
        have:=(hB.gd hnu hnl4 hnc (List.Perm.refl _)).l
        rw [List.length_reverse,List.length_take,List.length_drop]
        omega) ?_
       intro a8 H8 f8 s8 e8
       have s58:=s6.trans (s7.trans s8)
       refine q a8 _ (ts.take 1++(ts.drop 1).reverse) nm H8 e8 (((ad7 hE5 1).append (ah9 (b20 hE5 1))).mono fun _ _ z=>z.same s58) (hB.gd hnu hnl4 hnc ?_)
       exact (List.Perm.of_eq (List.take_append_drop 1 ts).symm).trans (List.Perm.append_left _ (List.reverse_perm _).symm)
     · refine a33 (show ¬ (r2:Int)=1 by omega) ?_
       walk_at "run"
       exact q tl us ts nm H5 e5 hE5 (hB.gd hnu hnl4 hnc (List.Perm.refl _))
def inB:Stm→List (List Stm)
 | .loop x=>[x]
 | .test _ x y=>[x,y]
 | .wait _ bs=>bs.map fun b=>match b with | .mk _ x=>x
 | _=>[]
def ShB (H:Hp) (kd:Str) (r:List V) (s:Stm):Prop :=
 (kd="loop"∧∃ x u,s=.loop x∧r=[u]∧BAt H u x)∨(kd="test"∧∃ c x y u1 u2 u3,s=.test c x y∧r=[u1,u2,u3]∧BAt H u2 x∧BAt H u3 y)∨(kd="wait"∧∃ n bs l ws,s=.wait n bs∧r=[.int n,.ref l]∧H l=some (.lst ws)∧Each (BrAt H) ws bs)∨(kd≠"loop"∧kd≠"test"∧kd≠"wait"∧inB s=[])
theorem shB {H:Hp}{v:V}{nm:List Str}{k:Nat}{lp:Bool}{s:Stm}(hw:wfS nm k lp s) (h:SAt H v s):∃ a kd r,v=.ref a∧H a=some (.tup (.str kd::r))∧ShB H kd r s:=by
 cases s with
 | loop x =>
   obtain ⟨a,u,rfl,e,hb⟩:=sat_loop.mp h
   exact ⟨a,_,_,rfl,e,.inl ⟨rfl,x,u,rfl,rfl,hb⟩⟩
 | test c x y =>
   obtain ⟨a,u1,u2,u3,rfl,e,h2,h3⟩:=ag6 h
   exact ⟨a,_,_,rfl,e,.inr (.inl ⟨rfl,c,x,y,u1,u2,u3,rfl,rfl,h2,h3⟩)⟩
 | wait n bs =>
   obtain ⟨a,l,ws,rfl,e,h2,h3⟩:=sat_wait.mp h
   exact ⟨a,_,_,rfl,e,.inr (.inr (.inl ⟨rfl,n,bs,l,ws,rfl,rfl,h2,h3⟩))⟩
 | put n e =>
   obtain ⟨a,u,rfl,e⟩:=ah6 h
   exact ⟨a,_,_,rfl,e,.inr (.inr (.inr ⟨by decide +kernel,by decide +kernel,by decide +kernel,rfl⟩))⟩
 | plain ps =>
   obtain ⟨a,rfl,e⟩:=al6 h
   rcases wf_plain.mp hw with rfl | rfl | ⟨c,_,rfl⟩ | ⟨_,rfl | rfl⟩ | rfl | rfl <;> exact ⟨a,_,_,rfl,e,.inr (.inr (.inr ⟨by decide +kernel,by decide +kernel,by decide +kernel,rfl⟩))⟩
theorem b22 (a b:List Stm):Stm.szs (a++b)=Stm.szs a+Stm.szs b:=by
 induction a with
 | nil=>simp [Stm.szs]
 | cons x a ih=>simp only [List.cons_append,Stm.szs,ih]; omega
theorem bf8 {b:List Stm}{s:Stm}(h:s∈b):s.sz≤Stm.szs b:=by
 induction b with
 | nil=>cases h
 | cons x b ih =>
   simp only [Stm.szs]
   rcases List.mem_cons.mp h with rfl | h
   · omega
   · have:=ih h; omega
theorem bf9 {b:List Stm}{s:Stm}(h:s∈b):s.cl≤Stm.cls b:=by
 induction b with
 | nil=>cases h
 | cons x b ih =>
   simp only [Stm.cls]
   rcases List.mem_cons.mp h with rfl | h
   · omega
   · have:=ih h; omega
theorem brsz {bs:List Br}{b:Br}(h:b∈bs):b.sz≤Br.szs bs∧b.cl≤Br.cls bs:=by
 induction bs with
 | nil=>cases h
 | cons x bs ih =>
   simp only [Br.szs,Br.cls]
   rcases List.mem_cons.mp h with rfl | h
   · omega
   · have:=ih h; omega
def szI:List (List Stm)→Nat
 | []=>0
 | x::xs=>1+2*Stm.szs x+szI xs
theorem ba0 {nm:List Str}{k:Nat}{lp:Bool}{s:Stm}(hw:wfS nm (k+1) lp s):(∀ x∈inB s,∃ lp',wfB nm k lp' x∧Stm.szs x≤s.sz∧Stm.cls x≤s.cl)∧szI (inB s)≤2*s.sz∧(inB s).length≤2:=by
 cases s with
 | loop x =>
   refine ⟨fun y hy=>?_,?_,?_⟩
   · obtain rfl:=List.mem_singleton.mp hy
     exact ⟨true,hw,by simp only [Stm.sz]; omega,by simp only [Stm.cl]; omega⟩
   · simp only [inB,szI,Stm.sz]; omega
   · simp [inB]
 | test c x y =>
   refine ⟨fun z hz=>?_,?_,?_⟩
   · simp only [inB,List.mem_cons,List.not_mem_nil,or_false] at hz
     rcases hz with rfl | rfl
     · exact ⟨lp,hw.2.1,by simp only [Stm.sz]; omega,by simp only [Stm.cl]; omega⟩
     · exact ⟨lp,hw.2.2,by simp only [Stm.sz]; omega,by simp only [Stm.cl]; omega⟩
   · simp only [inB,szI,Stm.sz]; omega
   · simp [inB]
 | wait n bs =>
   obtain ⟨_,h2,h3⟩:=hw
   refine ⟨fun z hz=>?_,?_,?_⟩
   · obtain ⟨b,hb,rfl⟩:=List.mem_map.mp hz
     obtain ⟨p,x,rfl,hx,_⟩:=h3 b hb
     have:=brsz hb
     exact ⟨lp,hx,by simp only [Stm.sz,Br.sz] at this ⊢; omega,by simp only [Stm.cl,Br.cl] at this ⊢; omega⟩
   · match bs,h2 with
     | [],_=>simp [inB,szI]
     | [b1],_=>cases b1; simp only [inB,List.map,szI,Stm.sz,Br.szs,Br.sz]; omega
     | [b1,b2],_=>cases b1; cases b2; simp only [inB,List.map,szI,Stm.sz,Br.szs,Br.sz]; omega
   · simp only [inB,List.length_map]; exact h2
 | put n e=>exact ⟨fun x h=>(by cases h),Nat.zero_le _,Nat.zero_le _⟩
 | plain ps=>exact ⟨fun x h=>(by cases h),Nat.zero_le _,Nat.zero_le _⟩
theorem ar8 (x:List Stm):∀ l:List (List Stm),szI (l++[x])=szI l+(1+2*Stm.szs x)
 | []=>by simp [szI]
 | y::l=>by simp only [List.cons_append,szI,ar8 x l]; omega
theorem ai0:∀ (l:List (List Stm)) (k:Nat),szI (l.take k)≤szI l
 | [],k=>by simp [szI]
 | y::l,0=>by simp [szI]
 | y::l,k+1=>by
   have:=ai0 l k
   simp only [List.take_succ_cons,szI]
   omega
theorem a38 {H H':Hp}{a:Addr}(s:Same H H') (f:H' a=none):H a=none:=by
 cases h:H a with
 | none=>rfl
 | some o=>rw [s _ _ h] at f; cases f
theorem br4 {nm:List Str}{k:Nat}{lp:Bool}{s:Stm}(hw:wfS nm k lp s):(inB s).length≤2:=by
 cases k with
 | zero =>
   cases s with
   | loop _=>exact hw.elim
   | test _ _ _=>exact hw.elim
   | wait _ _=>exact hw.elim
   | put _ _=>exact Nat.zero_le _
   | plain _=>exact Nat.zero_le _
 | succ k=>exact (ba0 hw).2.2
theorem ar9 {K:PySem.W.Frag}{H:Hp}{Q:VK}{a:Addr}{x:V}{xs:List V}{k:Nat}(h1:SqT K H a (x::xs)) (h:New H (.tup ((x::xs).drop (k+1))) Q):bn0 K (.ref a) (some ((k+1:Nat):Int)) none H Q:=⟨a,_,rfl,h1,fun z=>by
 have:=z.1
 rw [HT.sIx_nat,List.length_cons] at this
 omega,by rw [am0]; exact h⟩
theorem as0 {K:PySem.W.Frag}{p:Addr}{H:Hp}{Q:VK}{ys:List V}(h1:SqT K H p ys) (h:New H (.lst ys) Q):ap8 K [.ref p] H Q:=⟨p,ys,rfl,.inr h1,h⟩
def WfB (ns:List Str) (x:List Stm):Prop:=∃ j k lp,wfB (ns.drop j) k lp x∧k≤5∧Stm.szs x≤45∧Stm.cls x≤4
def br5 (K:PySem.W.Frag) (d:Nat):Sp:=fun vs H Q _=>∃ (bv:V) (b:List Stm) (ns:List Str) (j k:Nat) (lp:Bool),vs=[bv]∧k<d∧BAt H bv b∧wfB (ns.drop j) k lp b∧k≤5∧Stm.szs b≤45∧Stm.cls b≤4∧∀ l us bs H',Same H H'→H l=none→H' l=some (.lst us)→Each (BAt H') us bs→(∀ x∈bs,WfB ns x)→bs.length≤1+2*Stm.szs b→Q (.ref l) H'
theorem ai1 (T:Txt K mg t):∀ d:Nat,FnOk P w K mg base CX0 (d+1) t.a__law_bodies t.fd__law_bodies ["body"] (br5 K d):=by
 intro d
 induction d with
 | zero=>exact vac (fun vs H Q E ⟨_,_,_,_,_,_,_,h,_⟩=>Nat.not_lt_zero _ h)
 | succ d G__law_bodies =>
   refine T.f__law_bodies.F.ok sc_law_bodies (fun vs H Q E h=>?_) (fun cdv A outer s H vs Q E hr h=>?_)
   · obtain ⟨bv,b,ns,j,k,lp,rfl,_⟩:=h
     rfl
   · obtain ⟨bv,b,ns,j,k,lp,rfl,hd,hb,hw,hk5,hz,hc,q⟩:=h
     obtain ⟨bl,us,rfl,e0,hE⟩:=bat_iff.mp hb
     refine ⟨_,(@a02 _ _ _ _ _ (@a15 _ _ 1 _ _ _ _ sc_law_bodies.nd rfl (by walk_at "o") (@a12 _ _ _ _ (@a00 _ _ _ _ _ (pv 0) (@a01 _) (by rfl))) (by rfl) (by walk_at "o"))
     (@a02 _ _ _ _ _ (@a82 _ _ _ _ _ _ _ _ PassesOwn.never rfl (a43 K (pv 0)) (a26 (i:=2) sc_law_bodies.nd rfl (by walk_at "o")) (@a02 _ _ _ _ _ (@a15 _ _ 3 _ _ _ _ sc_law_bodies.nd rfl (by walk_at "o") (@a51 _ _ _ _ _ _ _ _ _ (a89 K) (by rfl) T.z_list a98 (@a00 _ _ _ _ _ (@a35 _ _ _ _ _ _ _ _ _ _ (ay2 K) (pv 2) (@a41 _ _ _ (@a03 _ _ _ _)) (@a50 _)) (@a01 _) (by rfl)) (by decide) (by decide) (by rfl) (by rfl)) (by rfl) (by walk_at "o"))
      (@a47 _ _ _ _ _ (@a25 _ _ _ _ _ _ _ _ (@a05 _ _ _ _ _ _ _ _ a40 (@a31 _ _ _ _ _ _ _ (a29 K) (pv 2) (@a03 _ _ _ _) (fun _ _=>rfl)) (@a06 _ _ _ _) (nomark _)) (@a04 _ _ _ (@a15 _ _ 3 _ _ _ _ sc_law_bodies.nd rfl (by walk_at "o") (@a51 _ _ _ _ _ _ _ _ _ (a89 K) (by rfl) T.z_list a98 (@a00 _ _ _ _ _ (@a35 _ _ _ _ _ _ _ _ _ _ (ay2 K) (pv 2) (@a41 _ _ _ (@a03 _ _ _ _)) (@a50 _)) (@a01 _) (by rfl)) (by decide) (by decide) (by rfl) (by rfl)) (by rfl) (by walk_at "o"))) (@a11 _))
      (@a47 _ _ _ _ _ (@a25 _ _ _ _ _ _ _ _ (@a05 _ _ _ _ _ _ _ _ a40 (@a31 _ _ _ _ _ _ _ (a29 K) (pv 2) (@a03 _ _ _ _) (fun _ _=>rfl)) (@a06 _ _ _ _) (nomark _)) (@a04 _ _ _ (bj9 (i:=3) (Nt:=["pattern","other"]) (Nf:=[]) (caps:=[]) rfl (a97 (sc:=a07 a68) rfl rfl (by decide +kernel) (by decide +kernel) (by decide +kernel) rfl (by decide +kernel)) (a43 K (@a31 _ _ _ _ _ _ _ (a29 K) (pv 2) (@a03 _ _ _ _) (fun _ _=>rfl))) (fun _ _ _ _ _=>(an1 K (n:=2) rfl (a69 (a26 (i:=0) (show (["pattern","other"]:List Str).Nodup by decide +kernel) rfl (by walk_at "o")) (a69 (a26 (i:=1) (show (["pattern","other"]:List Str).Nodup by decide +kernel) rfl (by walk_at "o")) (@am5 _))))) (fun _ _ _ _ _=>(@ax2 _)) (fun _ _ _ _ _=>(pv 1)) sc_law_bodies.nd rfl (by walk_at "o") rfl)) (@a11 _))
      (@a04 _ _ _ (@a25 _ _ _ _ _ _ _ _ (@a05 _ _ _ _ _ _ _ _ (a90 K) (@a31 _ _ _ _ _ _ _ (a29 K) (pv 2) (@a03 _ _ _ _) (fun _ _=>rfl)) (@a12 _ _ _ _ (@a00 _ _ _ _ _ (@a06 _ _ _ _) (@a00 _ _ _ _ _ (@a06 _ _ _ _) (@a00 _ _ _ _ _ (@a06 _ _ _ _) (@a01 _) (by rfl)) (by rfl)) (by rfl))) (by with_unfolding_all rfl)) (@a04 _ _ _ (@a82 _ _ _ _ _ _ _ _ PassesOwn.never rfl (a43 K (pv 3)) (a26 (i:=4) sc_law_bodies.nd rfl (by walk_at "o")) (@a04 _ _ _ (@a15 _ _ 1 _ _ _ _ sc_law_bodies.nd rfl (by walk_at "o") (@a27 _ _ _ _ _ _ _ _ a19 (pv 1) (@a08 _ _ _ _ _ _ _ _ _ _ _ _ _ _ _ _ G__law_bodies (hr.mono (by omega)) rfl T.f__law_bodies.m T.f__law_bodies.F.kp T.f__law_bodies.b .nil a24 (@a00 _ _ _ _ _ (pv 4) (@a01 _) (by rfl)) (by decide) (by rfl) (by rfl))) (by rfl) (by walk_at "o"))) (by intro _; rfl))) (@a11 _)))))) (by intro _; rfl))
     (@a04 _ _ _ (@a13 _ _ _ _ (pv 1))))),?_⟩
     have sl:(1000000:Nat)≤sizeLine:=le_line (Nat.le_refl _)
     walk_at "go"
     intro f0 H1 g1 s1 e1
     walk_at "run"
     refine ⟨⟨us,SqL.of (s1 _ _ e0)⟩,a83 (xs:=us) (fun i σ H'=>i≤b.length∧∃ (fl:Addr) (vs:List V) (bs:List (List Stm)) (y2 y3 y4:Option V),σ=[some (.ref bl),some (.ref fl),y2,y3,y4]∧Same H H'∧H fl=none∧H' fl=some (.lst vs)∧Each (BAt H') vs bs∧(∀ x∈bs,WfB ns x)∧bs.length≤1+2*Stm.szs (b.take i)) ⟨Nat.zero_le _,f0,_,[b],_,_,_,rfl,s1,g1,e1,Each.nil.snoc (hb.same s1),fun x hx=>by rw [List.mem_singleton.mp hx]; exact ⟨j,k,lp,hw,hk5,hz,hc⟩,by simp⟩ (fun i σ H' _ zz=>by obtain ⟨_,_,_,_,_,_,_,_,z,_⟩:=zz; exact SqL.of (z _ _ e0)) ?_ ?_⟩
     · rintro i sv σ' H2 hi ⟨hib,fl,vs,bs,y2,y3,y4,rfl,s2,f2,e2,hE2,hW,hL⟩
       obtain ⟨st,hst⟩:∃ st,b[i]?=some st:=by
        have:i<b.length:=by rw [← hE.1]; exact (List.getElem?_eq_some_iff.mp hi).1
        exact ⟨_,List.getElem?_eq_getElem this⟩
       have hmem:=List.mem_of_getElem? hst
       have hws:=hw.2 st hmem
       obtain ⟨a,kd,r,rfl,ea,hsh⟩:=shB hws ((hE.2 i _ _ hi hst).same s2)
       walk_at "run"
       rename_i N hN
       rw [show (1:Int)=((0+1:Nat):Int) from rfl]
       refine ar9 (SqT.of ea) ?_
       intro p3 H3 f3 s3 e3
       walk_at "run"
       refine as0 (SqT.of e3) ?_
       intro p4 H4 f4 s4 e4
       refine hN _ _ ?_
       clear hN
       refine ac5 (fun σ H'=>∃ il ws,σ=[some (.ref bl),some (.ref fl),some (.ref a),some (.ref il),y4]∧Same H2 H'∧H' il=some (.lst ws)∧(kd="loop"∨kd="test"→Each (BAt H') ws (inB st))) ?_ ?_
       · walk_at "run"
         refine a46 (SqT.of ((s3.trans s4) _ _ ea)) (a09 (j:=0) rfl) ?_
         walk_at "run"
         by_cases hk:kd=Str.ofString "test"
         · refine a32 hk ?_
           walk_at "run"
           obtain ⟨c,x,y,u1,u2,u3,hsx,rfl,hb2,hb3⟩:∃ c x y u1 u2 u3,st=.test c x y∧r=[u1,u2,u3]∧BAt H2 u2 x∧BAt H2 u3 y:=by
            rcases hsh with ⟨h1,_⟩ | ⟨_,h⟩ | ⟨h1,_⟩ | ⟨_,h1,_⟩
            · exact absurd (h1.symm.trans hk) (by decide +kernel)
            · exact h
            · exact absurd (h1.symm.trans hk) (by decide +kernel)
            · exact absurd hk h1
           rw [show (2:Int)=((1+1:Nat):Int) from rfl]
           refine ar9 (SqT.of ((s3.trans s4) _ _ ea)) ?_
           intro p5 H5 f5 s5 e5
           walk_at "run"
           refine as0 (SqT.of e5) ?_
           intro p6 H6 f6 s6 e6
           have s26:=(s3.trans s4).trans (s5.trans s6)
           refine ⟨p6,[u2,u3],rfl,s26,e6,fun _=>?_⟩
           rw [hsx]
           exact (Each.nil.snoc (hb2.same s26)).snoc (hb3.same s26)
         · refine a33 hk ?_
           refine ⟨p4,r,rfl,s3.trans s4,e4,fun h=>?_⟩
           rcases h with h | h
           · rcases hsh with ⟨_,x,u,hsx,rfl,hb⟩ | ⟨h1,_⟩ | ⟨h1,_⟩ | ⟨h1,_⟩
             · rw [hsx]; exact Each.nil.snoc (hb.same (s3.trans s4))
             · exact absurd h1 hk
             · exact absurd (h1.symm.trans h) (by decide +kernel)
             · exact absurd h h1
           · exact absurd h hk
       · rintro σ H5 ⟨il,ws,rfl,s5,e5,hI⟩
         refine ac5 (fun σ H'=>∃ il ws,σ=[some (.ref bl),some (.ref fl),some (.ref a),some (.ref il),y4]∧Same H2 H'∧H' il=some (.lst ws)∧(kd="loop"∨kd="test"∨kd="wait"→Each (BAt H') ws (inB st))) ?_ ?_
         · walk_at "run"
           refine a46 (SqT.of (s5 _ _ ea)) (a09 (j:=0) rfl) ?_
           walk_at "run"
           by_cases hk:kd=Str.ofString "wait"
           · refine a32 hk ?_
             walk_at "run"
             obtain ⟨n,bs',l,ws',hsx,rfl,hl',hw'⟩:∃ n bs l ws,st=.wait n bs∧r=[.int n,.ref l]∧H2 l=some (.lst ws)∧Each (BrAt H2) ws bs:=by
              rcases hsh with ⟨h1,_⟩ | ⟨h1,_⟩ | ⟨_,h⟩ | ⟨_,_,h1,_⟩
              · exact absurd (h1.symm.trans hk) (by decide +kernel)
              · exact absurd (h1.symm.trans hk) (by decide +kernel)
              · exact h
              · exact absurd hk h1
             refine a46 (SqT.of (s5 _ _ ea)) (a09 (j:=2) rfl) ?_
             walk_at "run"
             have hin:inB st=bs'.map fun b=>match b with | .mk _ x=>x:=by rw [hsx]; rfl
             have hlb:=Nat.le_trans (br4 hws) (by decide:2≤1000000)
             refine ⟨⟨ws',SqL.of (s5 _ _ hl')⟩,b50 (xs:=ws') (by rw [hw'.1,←List.length_map (as:=bs'),←hin]; omega) (fun i acc H'=>H'=H5∧Each (BAt H5) acc ((inB st).take i)) ⟨rfl,Each.nil⟩ (fun i acc H' ⟨h1,h2⟩=>⟨by rw [h2.1,List.length_take]; exact Nat.min_le_left _ _,by rw [h1]; exact SqL.of (s5 _ _ hl')⟩) ?_ ?_⟩
             · rintro i x acc H' hx ⟨rfl,hA⟩
               obtain ⟨br,hbr⟩:∃ br,bs'[i]?=some br:=⟨_,List.getElem?_eq_getElem (by rw [← hw'.1]; exact (List.getElem?_eq_some_iff.mp hx).1)⟩
               have hba:=hw'.2 i _ _ hx hbr
               cases br with
               | mk pp xx =>
                 obtain ⟨q',pv,bv,rfl,hq,h1,h2⟩:=hba
                 refine ⟨q',pv,bv,rfl,SqT.of (s5 _ _ hq),?_⟩
                 walk_at "run"
                 refine ⟨rfl,?_⟩
                 rw [List.take_add_one,show (inB st)[i]?=some xx by rw [hin,List.getElem?_map,hbr]; rfl]
                 exact hA.snoc (h2.same s5)
             · rintro acc H' ⟨rfl,hA⟩ p7 H7 f7 s7 e7
               refine ⟨p7,acc,rfl,s5.trans s7,e7,fun _=>?_⟩
               rw [List.take_of_length_le (by rw [hin,List.length_map,hw'.1]; exact Nat.le_refl _)] at hA
               exact hA.mono fun _ _ z=>z.same s7
           · refine a33 hk ?_
             refine ⟨il,ws,rfl,s5,e5,fun h=>hI ?_⟩
             rcases h with h | h | h
             · exact .inl h
             · exact .inr h
             · exact absurd h hk
         · rintro σ H6 ⟨il,ws,rfl,s6,e6,hI⟩
           walk_at "run"
           refine a46 (SqT.of (s6 _ _ ea)) (a09 (j:=0) rfl) ?_
           walk_at "run"
           intro p7 H7 f7 s7 e7
           refine bd3 (ys:=[Str.ofString "test",Str.ofString "wait",Str.ofString "loop"]) (SqL.of e7) ?_
           have s27:=s6.trans s7
           have hil:i<b.length:=(List.getElem?_eq_some_iff.mp hst).1
           have hsz:Stm.szs (b.take (i+1))=Stm.szs (b.take i)+st.sz:=by
            rw [List.take_add_one,hst,b22]; simp [Stm.szs]
           have hbz:Stm.szs (b.take i)+st.sz≤Stm.szs b:=by
            rw [← hsz]
            have:=b22 (b.take (i+1)) (b.drop (i+1))
            rw [List.take_append_drop] at this
            omega
           walk_at "run"
           by_cases hk:kd∈[Str.ofString "test",Str.ofString "wait",Str.ofString "loop"]
           · refine a32 hk ?_
             walk_at "run"
             have hk':kd=Str.ofString "loop"∨kd=Str.ofString "test"∨kd=Str.ofString "wait":=by
              simp only [List.mem_cons,List.not_mem_nil,or_false] at hk
              rcases hk with h | h | h
              · exact .inr (.inl h)
              · exact .inr (.inr h)
              · exact .inl h
             have hI:=(hI hk').mono fun _ _ z=>z.same s7
             obtain ⟨k',rfl⟩:∃ k',k=k'+1:=by
              cases k with
              | succ k=>exact ⟨k,rfl⟩
              | zero =>
                exfalso
                rcases hsh with ⟨_,x,u,rfl,_⟩ | ⟨_,c,x,y,u1,u2,u3,rfl,_⟩ | ⟨_,n,bs,l,ws,rfl,_⟩ | ⟨h1,h2,h3,_⟩
                · exact hws.elim
                · exact hws.elim
                · exact hws.elim
                · rcases hk' with h | h | h
                  · exact h1 h
                  · exact h2 h
                  · exact h3 h
             obtain ⟨hin1,hin2,hin3⟩:=ba0 hws
             have stz:=bf8 hmem
             have stc:=bf9 hmem
             refine ⟨⟨ws,SqL.of (s7 _ _ e6)⟩,a83 (xs:=ws) (fun i2 σ H'=>i2≤(inB st).length∧∃ (fl:Addr) (vs:List V) (bs:List (List Stm)) (y4:Option V),σ=[some (.ref bl),some (.ref fl),some (.ref a),some (.ref il),y4]∧Same H7 H'∧H fl=none∧H' fl=some (.lst vs)∧Each (BAt H') vs bs∧(∀ x∈bs,WfB ns x)∧bs.length≤1+2*Stm.szs (b.take i)+szI ((inB st).take i2)) ⟨Nat.zero_le _,fl,vs,bs,_,rfl,Same.refl _,f2,s27 _ _ e2,hE2.mono fun _ _ z=>z.same s27,hW,by omega⟩ (fun i σ H' _ zz=>by obtain ⟨_,_,_,_,_,_,z,_⟩:=zz; exact SqL.of (z _ _ (s7 _ _ e6))) ?_ ?_⟩
             · rintro i2 bv σ' H8 hi2 ⟨hib2,fl,vs,bs,y4,rfl,s8,f8,e8,hE8,hW8,hL8⟩
               have hi2':i2<(inB st).length:=by rw [← hI.1]; exact (List.getElem?_eq_some_iff.mp hi2).1
               have hx2:(inB st)[i2]?=some (inB st)[i2]:=List.getElem?_eq_getElem hi2'
               obtain ⟨lp',hw1,hw2,hw3⟩:=hin1 _ (List.getElem_mem hi2')
               have hb2:=(hI.2 i2 _ _ hi2 hx2).same s8
               walk_at "run"
               refine ⟨bv,(inB st)[i2],ns,j,k',lp',rfl,by omega,hb2,hw1,by omega,by omega,by omega,fun l2 us2 bs2 H9 s9 f9 e9 hE9 hW9 hL9=>?_⟩
               walk_at "run"
               have e8':=s9 _ _ e8
               have hszi:szI ((inB st).take (i2+1))=szI ((inB st).take i2)+(1+2*Stm.szs (inB st)[i2]):=by
                rw [List.take_add_one,hx2]
                exact ar8 _ _
               have hszl:=ai0 (inB st) (i2+1)
               have hvl:=hE8.1
               have hvl2:=hE9.1
               refine a30 e8' e9 (by omega) ?_
               intro l3 H10 f10 s10 e10
               have s810:=s9.trans s10
               refine ⟨by omega,l3,vs++us2,bs++bs2,_,rfl,s8.trans s810,?_,e10,(hE8.mono fun _ _ z=>z.same s810).append (hE9.mono fun _ _ z=>z.same s10),fun x hx=>?_,by rw [List.length_append,hszi]; omega⟩
               · exact a38 (((s2.trans s27).trans s8).trans s9) f10
               · rcases List.mem_append.mp hx with hx | hx
                 · exact hW8 x hx
                 · exact hW9 x hx
             · rintro σ' H8 ⟨_,fl,vs,bs,y4,rfl,s8,f8,e8,hE8,hW8,hL8⟩
               have hszl:=ai0 (inB st) ws.length
               exact ⟨by omega,fl,vs,bs,_,_,_,rfl,(s2.trans s27).trans s8,f8,e8,hE8,hW8,by omega⟩
           · refine a33 hk ?_
             walk_at "run"
             exact ⟨by omega,fl,vs,bs,_,_,_,rfl,s2.trans s27,f2,s27 _ _ e2,hE2.mono fun _ _ z=>z.same s27,hW,by omega⟩
     · rintro σ' H2 ⟨_,fl,vs,bs,y2,y3,y4,rfl,s2,f2,e2,hE2,hW,hL⟩
       walk_at "run"
       exact q fl vs bs H2 s2 f2 e2 hE2 hW (by rw [List.take_of_length_le (Nat.le_of_eq hE.1.symm)] at hL; exact hL)
theorem atI_last {α:Type}{xs:List α}{y:α}:atI (xs++[y]) (-1)=some y:=by
 have h:ixN (xs++[y]).length (-1)=some xs.length:=by
  unfold ixN
  rw [if_neg (by omega),List.length_append,List.length_singleton]
  rw [if_pos (by omega)]
  congr 1
  omega
 unfold atI
 rw [h]
 simp
theorem a62 {α β:Type}{R:α→β→Prop}{us:List α}{xs:List β}{x:β}(h:Each R us (xs++[x])):∃ us' v,us=us'++[v]∧Each R us' xs∧R v x:=by
 have hl:us.length=xs.length+1:=by rw [h.1,List.length_append]; rfl
 have e:us=us.take xs.length++us.drop xs.length:=(List.take_append_drop _ _).symm
 obtain ⟨v,hv⟩:∃ v,us.drop xs.length=[v]:=List.length_eq_one_iff.mp (by rw [List.length_drop]; omega)
 rw [hv] at e
 refine ⟨_,v,e,⟨by rw [List.length_take]; omega,fun j u y h1 h2=>?_⟩,h.2 xs.length v x (by rw [e,List.getElem?_append_right (by rw [List.length_take]; omega)]; simp [show xs.length - min xs.length us.length=0 by omega]) (by simp)⟩
 rw [List.getElem?_take] at h1
 split at h1
 · exact h.2 j u y h1 (by rw [List.getElem?_append_left (List.getElem?_eq_some_iff.mp h2).1]; exact h2)
 · cases h1
theorem b70 {H:Hp}{a:Addr}{m:Str}(h:H a=some (.tup [.str m])):SAt H (.ref a) (.plain [.s m]):=ar5 (ps:=[.s m]) h
theorem br6 {m:Str}(h:(PyData.str m).canLay0=true):LdS (.plain [.s m]):=⟨by simp [Stm.tr,Pt.tr,Tr.lay,Tr.lays,h],by simp [Stm.tr,Pt.tr,Tr.h,Tr.hs]⟩
def ba1 (K:PySem.W.Frag):Sp:=fun vs H Q _=>∃ (pl:Addr) (us:List V) (p:List Stm) (m:Str) (ms:Stm) (pp:Addr→Prop),vs=[.ref pl,.str m]∧H pl=some (.lst us)∧Each (SAt (woP pp H)) us p.reverse∧(∀ s∈p,LdS s)∧((m=Str.ofString "looped"∧ms=mkL)∨(m=Str.ofString "called"∧ms=mkC))∧(bhd ms p=none→∀ H',Same H H'→Q .non H')∧∀ q,bhd ms p=some q→∀ l us' H',Same H H'→H l=none→H' l=some (.lst us')→Each (SAt (woP pp H')) us' q.reverse→Q (.ref l) H'
theorem ai2 (T:Txt K mg t):FnOk P w K mg base CX0 3 t.a__law_behind t.fd__law_behind ["pile","mark"] (ba1 K):=by
 refine T.f__law_behind.F.ok sc_law_behind (fun vs H Q E h=>?_) (fun cdv A outer s H vs Q E hr h=>?_)
 · obtain ⟨pl,us,p,m,ms,pp,rfl,_⟩:=h
   rfl
 · obtain ⟨pl,us,p,m,ms,pp,rfl,e0,hE,hld,hm,q1,q2⟩:=h
   refine ⟨_,(@a02 _ _ _ _ _ (@ap3 _ _ _ _ _ _ PassesOwn.never (@a05 _ _ _ _ _ _ _ _ (ac6 K (by exact hr.units)) (pv 0) (@a12 _ _ _ _ (@a01 _)) (nomark _)) (@a02 _ _ _ _ _ (@a25 _ _ _ _ _ _ _ _ (@a05 _ _ _ _ _ _ _ _ (ar3 (by exact hr.units)) (@a31 _ _ _ _ _ _ _ (a21 K) (pv 0) (@am6 _ _ _ _ _ _ ab5 (@a03 _ _ _ _)) (fun _ _=>rfl)) (@a14 _ _ _ _ _ (@a00 _ _ _ _ _ (pv 1) (@a01 _) (by rfl))) (nomark _)) (@a04 _ _ _ (@a13 _ _ _ _ (@a35 _ _ _ _ _ _ _ _ _ _ (a42 K) (pv 0) (@a50 _) (@a41 _ _ _ (@am6 _ _ _ _ _ _ ab5 (@a03 _ _ _ _)))))) (@a11 _))
    (@a02 _ _ _ _ _ (@a25 _ _ _ _ _ _ _ _ (@a05 _ _ _ _ _ _ _ _ (ar3 (by exact hr.units)) (@a31 _ _ _ _ _ _ _ (a21 K) (pv 0) (@am6 _ _ _ _ _ _ ab5 (@a03 _ _ _ _)) (fun _ _=>rfl)) (@a14 _ _ _ _ _ (@a00 _ _ _ _ _ (@a06 _ _ _ _) (@a01 _) (by rfl))) (nomark _)) (@a04 _ _ _ (@a13 _ _ _ _ (@ae2 _ _ _))) (@a11 _))
    (@a04 _ _ _ (@a15 _ _ 0 _ _ _ _ sc_law_behind.nd rfl (by walk_at "o") (@a35 _ _ _ _ _ _ _ _ _ _ (a42 K) (pv 0) (@a50 _) (@a41 _ _ _ (@am6 _ _ _ _ _ _ ab5 (@a03 _ _ _ _)))) (by rfl) (by walk_at "o"))))))
    (@a04 _ _ _ (@a13 _ _ _ _ (@ae2 _ _ _)))),?_⟩
   have sl:(1000000:Nat)≤sizeLine:=le_line (Nat.le_refl _)
   walk_at "go"
   have hms:ms=.plain [.s m]:=by rcases hm with ⟨rfl,rfl⟩ | ⟨rfl,rfl⟩ <;> rfl
   have hml:(PyData.str m).canLay0=true:=by rcases hm with ⟨rfl,_⟩ | ⟨rfl,_⟩ <;> decide +kernel
   refine ay3 (fun n σ' H'=>∃ pl us p',n=p'.length∧σ'=[some (.ref pl),some (.str m)]∧Same H H'∧H' pl=some (.lst us)∧Each (SAt (woP pp H')) us p'.reverse∧(∀ s∈p',LdS s)∧bhd ms p'=bhd ms p) p.length ⟨pl,us,p,rfl,rfl,Same.refl _,e0,hE,hld,rfl⟩ ?_
   rintro n σ' H1 ⟨pl,us,p',rfl,rfl,s1,e1,hE1,hld1,hb⟩
   walk_at "run"
   intro a2 H2 f2 s2 e2
   refine an5 (SqL.of (s2 _ _ e1)) (SqL.of e2) ?_
   cases p' with
   | nil =>
     obtain rfl:us=[]:=List.eq_nil_of_length_eq_zero hE1.1
     refine ⟨false,rfl,?_⟩
     rw [if_neg Bool.false_ne_true]
     walk_at "run"
     exact q1 (by rw [← hb]; rfl) _ (s1.trans s2)
   | cons x p' =>
     rw [List.reverse_cons] at hE1
     obtain ⟨us,v,rfl,hE1,hv⟩:=a62 hE1
     refine ⟨true,by simp,?_⟩
     rw [if_pos rfl]
     refine ⟨fun σ' H'=>∃ pl us,σ'=[some (.ref pl),some (.str m)]∧Same H H'∧H' pl=some (.lst us)∧Each (SAt (woP pp H')) us p'.reverse∧bhd ms p'=bhd ms p,fun σ' H' ⟨pl,us,z1,z2,z3,z4,z5⟩=>⟨p'.length,by simp,pl,us,p',rfl,z1,z2,z3,z4,fun s hs=>hld1 s (by simp [hs]),z5⟩,?_⟩
     walk_at "run"
     refine a59 (SqL.of (s2 _ _ e1)) atI_last ?_
     walk_at "run"
     intro a3 H3 f3 s3 e3
     have s13:=s2.trans s3
     refine b93 ((hv.same wpL).same s13) (b70 e3) (hld1 x (by simp)) (br6 hml) ?_
     have hb':bhd ms (x::p')=if x=ms then some p' else if x=mkC then none else bhd ms p':=rfl
     rw [hb',hms] at hb
     walk_at "run"
     by_cases hx:x=.plain [.s m]
     · rw [if_pos (@decide_eq_true _ (Classical.propDecidable _) hx)]
       rw [if_pos hx] at hb
       walk_at "run"
       refine af8 (SqL.of (s13 _ _ e1)) ?_
       rw [(ag0 _ _).1]
       intro l H4 f4 s4 e4
       exact q2 p' (by rw [hms]; exact hb.symm) l us H4 (s1.trans (s13.trans s4)) (a38 (s1.trans s13) f4) e4 (hE1.mono fun _ _ z=>z.same (wpS (s13.trans s4)))
     · rw [if_neg (fun z=>hx (@of_decide_eq_true _ (Classical.propDecidable _) z))]
       rw [if_neg hx] at hb
       walk_at "run"
       refine a59 (SqL.of (s13 _ _ e1)) atI_last ?_
       walk_at "run"
       intro a4 H4 f4 s4 e4
       have s14:=s13.trans s4
       refine b93 ((hv.same wpL).same s14) (b70 e4) (hld1 x (by simp)) (br6 (by decide +kernel)) ?_
       walk_at "run"
       by_cases hx2:x=.plain [.s (Str.ofString "called")]
       · rw [if_pos (@decide_eq_true _ (Classical.propDecidable _) hx2)]
         rw [if_pos (show x=mkC from hx2)] at hb
         walk_at "run"
         exact q1 (by rw [hms]; exact hb.symm) _ (s1.trans s14)
       · rw [if_neg (fun z=>hx2 (@of_decide_eq_true _ (Classical.propDecidable _) z))]
         rw [if_neg (show ¬ x=mkC from hx2)] at hb
         walk_at "run"
         refine af8 (SqL.of (s14 _ _ e1)) ?_
         rw [(ag0 _ _).1]
         intro l H5 f5 s5 e5
         have s15:=s14.trans s5
         exact ⟨l,us,rfl,s1.trans s15,e5,hE1.mono fun _ _ z=>z.same (wpS s15),by rw [hms]; exact hb⟩
noncomputable def plX (p:List Stm) (k:Str):List (List Stm)×List Str :=
 if k=Str.ofString "say"∨k=Str.ofString "hand"∨k=Str.ofString "put"∨k=Str.ofString "called" then ([p],[])
 else match (if k=Str.ofString "leave" then bhd mkL p else if k=Str.ofString "back" then bhd mkC p else none) with
  | some q=>([q],[])
  | none=>if k=Str.ofString "again"∧(bhd mkL p).isSome=true then ([],[]) else ([],[k])
theorem b23 {ts:Tks}{p:List Stm}{k:Str}{r:List Pt}(h:k≠Str.ofString "call"):plL ts p k r=plX p k:=by
 unfold plL plX
 exact if_neg h
theorem onX {ts:Tks}{p:List Stm}{k:Str}{r:List Pt}:onLk ts p (.plain (.s k::r))=plL ts p k r:=rfl
theorem br7 {H:Hp}{ts:Tks}{vs:List V}(h:Each (TkN H) vs ts) (hu:(ts.map (·.1)).Nodup):∀ n,n≤ts.length→∃ kvs:List (Key×V),PrK H (vs.take n) kvs∧∀ x∈ts.take n,∃ v,valV (a63 [] kvs) (Sum.inr x.1)=some v∧BAt H v x.2
 | 0,_=>⟨[],by rw [List.take_zero]; exact .nil,fun x hx=>by cases hx⟩
 | n+1,hn=>by
   obtain ⟨kvs,h1,h2⟩:=br7 h hu n (by omega)
   have hx:ts[n]?=some ts[n]:=List.getElem?_eq_getElem (by omega)
   obtain ⟨v,hv,a,u,rfl,e,hb⟩:=h.get hx
   refine ⟨kvs++[(Sum.inr ts[n].1,u)],by rw [List.take_add_one,hv]; exact h1.snoc e,fun x hm=>?_⟩
   rw [an4]
   rw [List.take_add_one,hx] at hm
   by_cases hx1:x.1=ts[n].1
   · refine ⟨u,by rw [aa9,if_pos (by rw [hx1])],?_⟩
     have:x=ts[n]:=by
      rcases List.mem_append.mp hm with hm | hm
      · exfalso
        obtain ⟨k,hk⟩:=List.mem_iff_getElem?.mp hm
        rw [List.getElem?_take] at hk
        split at hk
        · rename_i hkn
          have hk2:(ts.map (·.1))[k]?=some x.1:=by rw [List.getElem?_map,hk]; rfl
          have hn2:(ts.map (·.1))[n]?=some x.1:=by rw [List.getElem?_map,hx,hx1]; rfl
          have:=(List.getElem?_inj (by rw [List.length_map]; omega) hu).mp (hk2.trans hn2.symm)
          omega
        · cases hk
      · exact List.mem_singleton.mp hm
     rw [this]; exact hb
   · rcases List.mem_append.mp hm with hm | hm
     · obtain ⟨v,hv,hb⟩:=h2 x hm
       exact ⟨v,by rw [aa9,if_neg (fun z=>hx1 (by first | exact Sum.inr.inj z | exact (Sum.inr.inj z).symm))]; exact hv,hb⟩
     · exact absurd (by rw [List.mem_singleton.mp hm]) hx1
def ShO (ts:Tks) (H:Hp) (kd:Str) (r:List V) (s:Stm):Prop :=
 (kd=Str.ofString "test"∧∃ c x y u1 u2 u3,s=.test c x y∧r=[u1,u2,u3]∧BAt H u2 x∧BAt H u3 y∧x.length≤6∧y.length≤6)
 ∨ (kd=Str.ofString "call"∧∃ c b,s=.plain [.s "call",.s c]∧r=[.str c]∧a22 ts c=some b∧b.length≤6)
 ∨ (kd=Str.ofString "loop"∧∃ x u,s=.loop x∧r=[u]∧BAt H u x∧x.length≤6)
 ∨ (kd≠Str.ofString "test"∧kd≠Str.ofString "loop"∧kd≠Str.ofString "call"∧∀ p,onLk ts p s=plX p kd)
theorem ba2 {nm:List Str}{k:Nat}{lp:Bool}{s:Stm}(hw:wfS nm k lp s):(∀ x,s=.loop x→x.length≤6)∧∀ c x y,s=.test c x y→x.length≤6∧y.length≤6:=by
 constructor
 · rintro x rfl
   cases k with
   | zero=>exact hw.elim
   | succ k=>exact hw.1
 · rintro c x y rfl
   cases k with
   | zero=>exact hw.elim
   | succ k=>exact ⟨hw.2.1.1,hw.2.2.1⟩
theorem shO {ts:Tks}{ns:List Str}{H:Hp}{v:V}{s:Stm}(hT:TkW ts ns) (hg:GM ns s) (h:SAt H v s):∃ a kd r,v=.ref a∧H a=some (.tup (.str kd::r))∧ShO ts H kd r s:=by
 rcases hg with ⟨j,k,lp,_,hw⟩ | rfl | rfl
 · cases s with
   | loop x =>
     obtain ⟨a,u,rfl,e,hb⟩:=sat_loop.mp h
     exact ⟨a,_,_,rfl,e,.inr (.inr (.inl ⟨rfl,x,u,rfl,rfl,hb,(ba2 hw).1 _ rfl⟩))⟩
   | test c x y =>
     obtain ⟨a,u1,u2,u3,rfl,e,h2,h3⟩:=ag6 h
     exact ⟨a,_,_,rfl,e,.inl ⟨rfl,c,x,y,u1,u2,u3,rfl,rfl,h2,h3,(ba2 hw).2 _ _ _ rfl⟩⟩
   | wait n bs =>
     obtain ⟨a,l,ws,rfl,e,h2,h3⟩:=sat_wait.mp h
     refine ⟨a,_,_,rfl,e,.inr (.inr (.inr ⟨by decide +kernel,by decide +kernel,by decide +kernel,fun p=>?_⟩))⟩
     unfold plX
     rw [if_neg (by decide +kernel),if_neg (by decide +kernel),if_neg (by decide +kernel)]
     show _=if _ then _ else _
     rw [if_neg (fun z=>absurd z.1 (by decide +kernel))]
     rfl
   | put n e =>
     obtain ⟨a,u,rfl,e⟩:=ah6 h
     refine ⟨a,_,_,rfl,e,.inr (.inr (.inr ⟨by decide +kernel,by decide +kernel,by decide +kernel,fun p=>?_⟩))⟩
     unfold plX
     rw [if_pos (by decide +kernel)]
     rfl
   | plain ps =>
     obtain ⟨a,rfl,e⟩:=al6 h
     rcases wf_plain.mp hw with rfl | rfl | ⟨c,hc,rfl⟩ | ⟨_,rfl | rfl⟩ | rfl | rfl
     · exact ⟨a,_,_,rfl,e,.inr (.inr (.inr ⟨by decide +kernel,by decide +kernel,by decide +kernel,fun p=>by rw [onX]; exact b23 (by decide +kernel)⟩))⟩
     · exact ⟨a,_,_,rfl,e,.inr (.inr (.inr ⟨by decide +kernel,by decide +kernel,by decide +kernel,fun p=>by rw [onX]; exact b23 (by decide +kernel)⟩))⟩
     · obtain ⟨i,b,_,_,h1,h2,_⟩:=hT.call hc
       exact ⟨a,_,_,rfl,e,.inr (.inl ⟨rfl,c,b,rfl,rfl,h1,h2.1⟩)⟩
     all_goals exact ⟨a,_,_,rfl,e,.inr (.inr (.inr ⟨by decide +kernel,by decide +kernel,by decide +kernel,fun p=>by rw [onX]; exact b23 (by decide +kernel)⟩))⟩
 · obtain ⟨a,rfl,e⟩:=al6 (ps:=[.s "called"]) h
   exact ⟨a,_,_,rfl,e,.inr (.inr (.inr ⟨by decide +kernel,by decide +kernel,by decide +kernel,fun p=>by show onLk ts p (.plain [.s _])=_; rw [onX]; exact b23 (by decide +kernel)⟩))⟩
 · obtain ⟨a,rfl,e⟩:=al6 (ps:=[.s "looped"]) h
   exact ⟨a,_,_,rfl,e,.inr (.inr (.inr ⟨by decide +kernel,by decide +kernel,by decide +kernel,fun p=>by show onLk ts p (.plain [.s _])=_; rw [onX]; exact b23 (by decide +kernel)⟩))⟩
theorem ai3 {pp:Addr→Prop}{n:Addr}{H Hk:Hp}{us ws:List V}{p x:List Stm}(hE:Each (SAt (woP pp H)) us p.reverse) (hw:Each (SAt (woP pp H)) ws x) (s:Same H Hk) (e:Hk n=some (.lst (us++ws.reverse))) (ne:¬ pp n):BAt (woP pp Hk) (.ref n) (x++p).reverse:=by
 rw [List.reverse_append]
 exact bat_iff.mpr ⟨n,_,rfl,by rw [wpG ne]; exact e,(hE.append (ah9 hw)).mono fun _ _ z=>z.same (wpS s)⟩
def bg0 (pp:Addr→Prop) (H:Hp) (v:V):Option (List Stm)→Prop
 | none=>v=.non
 | some q=>∃ l us,v=.ref l∧¬ pp l∧H l=some (.lst us)∧Each (SAt (woP pp H)) us q.reverse
def bw3 (K:PySem.W.Frag):Sp:=fun vs H Q _=>∃ (tv:V) (pl fd:Addr) (us:List V) (p:List Stm) (sv:V) (s:Stm) (fs:List Str) (ts:Tks) (ns:List Str) (pp:Addr→Prop),vs=[tv,.ref pl,sv,.ref fd]∧pp fd∧(∀ a,pp a→H a≠none)∧TksAt (woP pp H) tv ts∧TksW ts ns∧woP pp H pl=some (.lst us)∧Each (SAt (woP pp H)) us p.reverse∧SAt (woP pp H) sv s∧GM ns s∧(∀ x∈p,LdS x)∧p.length≤1000∧H fd=some (.lst (a16 fs))∧fs.length≤500000∧∀ l us' H',KS fd H H'→¬ pp l→H' l=some (.lst us')→Each (BAt (woP pp H')) us' ((onLk ts p s).1.map List.reverse)→H' fd=some (.lst (a16 (fs++(onLk ts p s).2)))→Q (.ref l) H'
theorem b24 (T:Txt K mg t):FnOk P w K mg base CX0 6 t.a__law_on t.fd__law_on ["talks","pile","statement","found"] (bw3 K):=by
 have G__law_behind:=ai2 (P:=P) (w:=w) (base:=base) T
 refine T.f__law_on.F.ok sc_law_on (fun vs H Q E h=>?_) (fun cdv A outer s H vs Q E hr h=>?_)
 · obtain ⟨tv,pl,fd,us,p,sv,s,fs,ts,ns,pp,rfl,_⟩:=h
   rfl
 · obtain ⟨tv,pl,fd,us,p,sv,st,fs,ts,ns,pp,rfl,hpf,hpx,hts,hW,hpl,hE,hs,hg,hld,hpn,hfd,hfn,q⟩:=h
   refine ⟨_,(@a02 _ _ _ _ _ (@a15 _ _ 4 _ _ _ _ sc_law_on.nd rfl (by walk_at "o") (@a31 _ _ _ _ _ _ _ (a29 K) (pv 2) (@a03 _ _ _ _) (fun _ _=>rfl)) (by rfl) (by walk_at "o"))
    (@a02 _ _ _ _ _ (@a25 _ _ _ _ _ _ _ _ (@a05 _ _ _ _ _ _ _ _ a40 (pv 4) (@a06 _ _ _ _) (nomark _)) (@a04 _ _ _ (@a13 _ _ _ _ (@a12 _ _ _ _ (@a00 _ _ _ _ _ (@a27 _ _ _ _ _ _ _ _ a19 (pv 1) (a53 K (by rfl) (by rfl) T.z_list (by rfl) T.z_reversed (@a00 _ _ _ _ _ (@a31 _ _ _ _ _ _ _ (a29 K) (pv 2) (@a03 _ _ _ _) (fun _ _=>rfl)) (@a01 _) (by rfl)))) (@a00 _ _ _ _ _ (@a27 _ _ _ _ _ _ _ _ a19 (pv 1) (a53 K (by rfl) (by rfl) T.z_list (by rfl) T.z_reversed (@a00 _ _ _ _ _ (@a31 _ _ _ _ _ _ _ (a29 K) (pv 2) (@a03 _ _ _ _) (fun _ _=>rfl)) (@a01 _) (by rfl)))) (@a01 _) (by rfl)) (by rfl))))) (@a11 _))
    (@a02 _ _ _ _ _ (@a25 _ _ _ _ _ _ _ _ (@a05 _ _ _ _ _ _ _ _ a40 (pv 4) (@a06 _ _ _ _) (nomark _)) (@a04 _ _ _ (@a13 _ _ _ _ (@a12 _ _ _ _ (@a00 _ _ _ _ _ (@a27 _ _ _ _ _ _ _ _ a19 (@a27 _ _ _ _ _ _ _ _ a19 (pv 1) (@a12 _ _ _ _ (@a00 _ _ _ _ _ (@a14 _ _ _ _ _ (@a00 _ _ _ _ _ (@a06 _ _ _ _) (@a01 _) (by rfl))) (@a01 _) (by rfl)))) (a53 K (by rfl) (by rfl) T.z_list (by rfl) T.z_reversed (@a00 _ _ _ _ _ (@ax0 _ _ _ _ _ _ (by exact b37 hr) (@a51 _ _ _ _ _ _ _ _ _ (b52 K) (by rfl) T.z_dict bc8 (@a00 _ _ _ _ _ (pv 0) (@a01 _) (by rfl)) (by decide) (by decide) (by rfl) (by rfl)) (@a31 _ _ _ _ _ _ _ (a29 K) (pv 2) (@a03 _ _ _ _) (fun _ _=>rfl)) (fun _ _=>rfl)) (@a01 _) (by rfl)))) (@a01 _) (by rfl))))) (@a11 _))
    (@a02 _ _ _ _ _ (@a25 _ _ _ _ _ _ _ _ (@a05 _ _ _ _ _ _ _ _ a40 (pv 4) (@a06 _ _ _ _) (nomark _)) (@a04 _ _ _ (@a13 _ _ _ _ (@a12 _ _ _ _ (@a00 _ _ _ _ _ (@a27 _ _ _ _ _ _ _ _ a19 (@a27 _ _ _ _ _ _ _ _ a19 (pv 1) (@a12 _ _ _ _ (@a00 _ _ _ _ _ (@a14 _ _ _ _ _ (@a00 _ _ _ _ _ (@a06 _ _ _ _) (@a01 _) (by rfl))) (@a01 _) (by rfl)))) (a53 K (by rfl) (by rfl) T.z_list (by rfl) T.z_reversed (@a00 _ _ _ _ _ (@a31 _ _ _ _ _ _ _ (a29 K) (pv 2) (@a03 _ _ _ _) (fun _ _=>rfl)) (@a01 _) (by rfl)))) (@a01 _) (by rfl))))) (@a11 _))
    (@a02 _ _ _ _ _ (@a25 _ _ _ _ _ _ _ _ (@a05 _ _ _ _ _ _ _ _ (a90 K) (pv 4) (@a12 _ _ _ _ (@a00 _ _ _ _ _ (@a06 _ _ _ _) (@a00 _ _ _ _ _ (@a06 _ _ _ _) (@a00 _ _ _ _ _ (@a06 _ _ _ _) (@a00 _ _ _ _ _ (@a06 _ _ _ _) (@a01 _) (by rfl)) (by rfl)) (by rfl)) (by rfl))) (by with_unfolding_all rfl)) (@a04 _ _ _ (@a13 _ _ _ _ (@a12 _ _ _ _ (@a00 _ _ _ _ _ (pv 1) (@a01 _) (by rfl))))) (@a11 _))
    (@a02 _ _ _ _ _ (@a15 _ _ 5 _ _ _ _ sc_law_on.nd rfl (by walk_at "o") (@ae2 _ _ _) (by rfl) (by walk_at "o"))
    (@a47 _ _ _ _ _ (@a25 _ _ _ _ _ _ _ _ (@a05 _ _ _ _ _ _ _ _ a40 (pv 4) (@a06 _ _ _ _) (nomark _)) (@a04 _ _ _ (@a15 _ _ 5 _ _ _ _ sc_law_on.nd rfl (by walk_at "o") (@a08 _ _ _ _ _ _ _ _ _ _ _ _ _ _ _ _ G__law_behind (hr.mono (by omega)) rfl T.f__law_behind.m T.f__law_behind.F.kp T.f__law_behind.b .nil a24 (@a00 _ _ _ _ _ (pv 1) (@a00 _ _ _ _ _ (@a06 _ _ _ _) (@a01 _) (by rfl)) (by rfl)) (by decide) (by rfl) (by rfl)) (by rfl) (by walk_at "o"))) (@a11 _))
    (@a47 _ _ _ _ _ (@a25 _ _ _ _ _ _ _ _ (@a05 _ _ _ _ _ _ _ _ a40 (pv 4) (@a06 _ _ _ _) (nomark _)) (@a04 _ _ _ (@a15 _ _ 5 _ _ _ _ sc_law_on.nd rfl (by walk_at "o") (@a08 _ _ _ _ _ _ _ _ _ _ _ _ _ _ _ _ G__law_behind (hr.mono (by omega)) rfl T.f__law_behind.m T.f__law_behind.F.kp T.f__law_behind.b .nil a24 (@a00 _ _ _ _ _ (pv 1) (@a00 _ _ _ _ _ (@a06 _ _ _ _) (@a01 _) (by rfl)) (by rfl)) (by decide) (by rfl) (by rfl)) (by rfl) (by walk_at "o"))) (@a11 _))
    (@a02 _ _ _ _ _ (@a25 _ _ _ _ _ _ _ _ (@a05 _ _ _ _ _ _ _ _ aq1 (pv 5) (@ae2 _ _ _) (nomark _)) (@a04 _ _ _ (@a13 _ _ _ _ (@a12 _ _ _ _ (@a00 _ _ _ _ _ (pv 5) (@a01 _) (by rfl))))) (@a11 _))
    (@a02 _ _ _ _ _ (@a25 _ _ _ _ _ _ _ _ (@PW.pt _ _ _ (@a81 _ _ _ _ _ _ _ (@a05 _ _ _ _ _ _ _ _ a40 (pv 4) (@a06 _ _ _ _) (nomark _)) (@a66 _ _ _ _ (@a05 _ _ _ _ _ _ _ _ aq1 (@a08 _ _ _ _ _ _ _ _ _ _ _ _ _ _ _ _ G__law_behind (hr.mono (by omega)) rfl T.f__law_behind.m T.f__law_behind.F.kp T.f__law_behind.b .nil a24 (@a00 _ _ _ _ _ (pv 1) (@a00 _ _ _ _ _ (@a06 _ _ _ _) (@a01 _) (by rfl)) (by rfl)) (by decide) (by rfl) (by rfl)) (@ae2 _ _ _) (nomark _))))) (@a04 _ _ _ (@a13 _ _ _ _ (@a12 _ _ _ _ (@a01 _)))) (@a11 _))
    (@a02 _ _ _ _ _ (@a95 _ _ _ _ (@af1 _ K _ _ _ _ _ _ _ _ _ _ _ PySem.F.plainAttrs_list PySem.F.slot_list_append PySem.F.type_list_append a52 (pv 3) (@a00 _ _ _ _ _ (pv 4) (@a01 _) (by rfl)) (by rfl) (by rfl) (by rfl) (by rfl) (by rfl) (by rfl)) (by rfl))
    (@a04 _ _ _ (@a13 _ _ _ _ (@a12 _ _ _ _ (@a01 _))))))))))))))),?_⟩
   have sl:(1000000:Nat)≤sizeLine:=le_line (Nat.le_refl _)
   obtain ⟨a,kd,r,rfl,ea,hsh⟩:=shO hW.tw hg hs
   have ea:=wpL _ _ ea
   have ep:=wpL _ _ hpl
   have hul:us.length≤1000:=by rw [hE.1,List.length_reverse]; exact hpn
   have nefd:∀ {Hk:Hp}{n:Addr},Same H Hk→Hk n=none→¬ pp n:=fun s f z=>hpx _ z (a38 s f)
   walk_at "go"
   refine a46 (SqT.of ea) (a09 (j:=0) rfl) ?_
   walk_at "run"
   by_cases k1:kd=Str.ofString "test"
   · refine a32 k1 ?_
     walk_at "run"
     obtain ⟨c,x,y,u1,u2,u3,rfl,rfl,hb2,hb3,lx,ly⟩:∃ c x y u1 u2 u3,st=.test c x y∧r=[u1,u2,u3]∧BAt (woP pp H) u2 x∧BAt (woP pp H) u3 y∧x.length≤6∧y.length≤6:=by
      rcases hsh with ⟨_,h⟩ | ⟨h,_⟩ | ⟨h,_⟩ | ⟨h,_⟩
      · exact h
      · exact absurd (h.symm.trans k1) (by decide +kernel)
      · exact absurd (h.symm.trans k1) (by decide +kernel)
      · exact absurd k1 h
     obtain ⟨l2,w2,rfl,e2,hw2⟩:=bat_iff.mp hb2
     obtain ⟨l3,w3,rfl,e3,hw3⟩:=bat_iff.mp hb3
     have hw2l:=hw2.1
     have hw3l:=hw3.1
     refine a46 (SqT.of ea) (a09 (j:=2) rfl) ?_
     walk_at "run"
     refine ⟨l2,w2,rfl,SqL.of (wpL _ _ e2),?_⟩
     intro n1 H1 f1 s1 j1
     refine a30 (s1 _ _ ep) j1 (by rw [List.length_reverse]; omega) ?_
     intro n2 H2 f2 s2 j2
     walk_at "run"
     have s12:=s1.trans s2
     refine a46 (SqT.of (s12 _ _ ea)) (a09 (j:=3) rfl) ?_
     walk_at "run"
     refine ⟨l3,w3,rfl,SqL.of (s12 _ _ (wpL _ _ e3)),?_⟩
     intro n3 H3 f3 s3 j3
     have s13:=s12.trans s3
     refine a30 (s13 _ _ ep) j3 (by rw [List.length_reverse]; omega) ?_
     intro n4 H4 f4 s4 j4
     walk_at "run"
     intro n5 H5 f5 s5 j5
     have s15:=s13.trans (s4.trans s5)
     refine q n5 _ H5 (KS.of s15) (nefd (s13.trans s4) f5) j5 ?_ (by rw [s15 _ _ hfd]; show _=some (HO.lst (a16 (fs++[]))); rw [List.append_nil])
     exact (Each.nil.snoc (ai3 hE hw2 s15 ((s3.trans (s4.trans s5)) _ _ j2) (nefd s1 f2))).snoc (ai3 hE hw3 s15 (s5 _ _ j4) (nefd s13 f4))
   refine a33 k1 ?_
   walk_at "run"
   by_cases k2:kd=Str.ofString "call"
   · refine a32 k2 ?_
     walk_at "run"
     obtain ⟨c,b,rfl,rfl,hft,lb⟩:∃ c b,st=.plain [.s "call",.s c]∧r=[.str c]∧a22 ts c=some b∧b.length≤6:=by
      rcases hsh with ⟨h,_⟩ | ⟨_,h⟩ | ⟨h,_⟩ | ⟨_,_,h,_⟩
      · exact absurd h k1
      · exact h
      · exact absurd (h.symm.trans k2) (by decide +kernel)
      · exact absurd k2 h
     intro n1 H1 f1 s1 j1
     walk_at "run"
     intro n2 H2 f2 s2 j2
     have s12:=s1.trans s2
     refine a30 (s12 _ _ ep) j2 (by simp; omega) ?_
     intro n3 H3 f3 s3 j3
     have s13:=s12.trans s3
     walk_at "run"
     obtain ⟨lt,tvs,rfl,elt,hEt,_⟩:=hts
     obtain ⟨kvs,hpr,hkv⟩:=br7 hEt hW.u ts.length (Nat.le_refl _)
     rw [List.take_of_length_le (Nat.le_refl _)] at hkv
     rw [List.take_of_length_le (Nat.le_of_eq hEt.1)] at hpr
     obtain ⟨v,hv,hbv⟩:∃ v,valV (a63 [] kvs) (Sum.inr c)=some v∧BAt (woP pp H) v b:=by
      unfold a22 at hft
      obtain ⟨x,hx,rfl⟩:=Option.map_eq_some_iff.mp hft
      have hxm:=List.mem_of_find?_eq_some hx
      have hxc:=List.find?_some hx
      obtain ⟨v,h1,h2⟩:=hkv x hxm
      have:x.1=c:=by simpa using hxc
      rw [this] at h1
      exact ⟨v,h1,h2⟩
     obtain ⟨l2,w2,rfl,e2,hw2⟩:=bat_iff.mp hbv
     have hw2l:=hw2.1
     refine bd5 (SqL.of (s13 _ _ (wpL _ _ elt))) (hpr.mono (Same.trans wpL s13).tups) ?_
     intro n4 H4 f4 s4 j4
     have s14:=s13.trans s4
     walk_at "run"
     refine a46 (SqT.of (s14 _ _ ea)) (a09 (j:=1) rfl) ?_
     refine ⟨n4,.ref l2,rfl,hv ▸ DGet.k (k:=Sum.inr c) j4,?_⟩
     walk_at "run"
     refine ⟨l2,w2,rfl,SqL.of (s14 _ _ (wpL _ _ e2)),?_⟩
     intro n5 H5 f5 s5 j5
     refine a30 ((s4.trans s5) _ _ j3) j5 (by simp; omega) ?_
     intro n6 H6 f6 s6 j6
     walk_at "run"
     intro n7 H7 f7 s7 j7
     have s47:=s4.trans (s5.trans (s6.trans s7))
     have s17:=s13.trans s47
     have eon:onLk ts p (.plain [.s "call",.s c])=([b++mkC::p],[]):=by
      rw [onX]
      unfold plL
      rw [if_pos rfl]
      show (optL ((a22 ts c).map fun b=>b++mkC::p),_)=_
      rw [hft]
      rfl
     rw [eon] at q
     refine q n7 _ H7 (KS.of s17) (nefd (s13.trans (s4.trans (s5.trans s6))) f7) j7 ?_ (by rw [s17 _ _ hfd]; show _=some (HO.lst (a16 (fs++[]))); rw [List.append_nil])
     have mk:SAt (woP pp H3) (.ref n1) mkC:=b70 (by rw [wpG (nefd (Same.refl _) f1)]; exact (s2.trans s3) _ _ j1)
     have hE':Each (SAt (woP pp H3)) (us++[.ref n1]) (mkC::p).reverse:=by
      rw [List.reverse_cons]
      exact (hE.mono fun _ _ z=>z.same (wpS s13)).snoc mk
     exact Each.nil.snoc (ai3 hE' (hw2.mono fun _ _ z=>z.same (wpS s13)) s47 (s7 _ _ j6) (nefd (s14.trans s5) f6))
   refine a33 k2 ?_
   walk_at "run"
   by_cases k3:kd=Str.ofString "loop"
   · refine a32 k3 ?_
     walk_at "run"
     obtain ⟨x,u,rfl,rfl,hb2,lx⟩:∃ x u,st=.loop x∧r=[u]∧BAt (woP pp H) u x∧x.length≤6:=by
      rcases hsh with ⟨h,_⟩ | ⟨h,_⟩ | ⟨_,h⟩ | ⟨_,h,_⟩
      · exact absurd h k1
      · exact absurd h k2
      · exact h
      · exact absurd k3 h
     obtain ⟨l2,w2,rfl,e2,hw2⟩:=bat_iff.mp hb2
     have hw2l:=hw2.1
     intro n1 H1 f1 s1 j1
     walk_at "run"
     intro n2 H2 f2 s2 j2
     have s12:=s1.trans s2
     refine a30 (s12 _ _ ep) j2 (by simp; omega) ?_
     intro n3 H3 f3 s3 j3
     have s13:=s12.trans s3
     walk_at "run"
     refine a46 (SqT.of (s13 _ _ ea)) (a09 (j:=1) rfl) ?_
     walk_at "run"
     refine ⟨l2,w2,rfl,SqL.of (s13 _ _ (wpL _ _ e2)),?_⟩
     intro n4 H4 f4 s4 j4
     refine a30 (s4 _ _ j3) j4 (by simp; omega) ?_
     intro n5 H5 f5 s5 j5
     walk_at "run"
     intro n6 H6 f6 s6 j6
     have s46:=s4.trans (s5.trans s6)
     have s16:=s13.trans s46
     refine q n6 _ H6 (KS.of s16) (nefd (s13.trans (s4.trans s5)) f6) j6 ?_ (by rw [s16 _ _ hfd]; show _=some (HO.lst (a16 (fs++[]))); rw [List.append_nil])
     have mk:SAt (woP pp H3) (.ref n1) mkL:=b70 (by rw [wpG (nefd (Same.refl _) f1)]; exact (s2.trans s3) _ _ j1)
     have hE':Each (SAt (woP pp H3)) (us++[.ref n1]) (mkL::p).reverse:=by
      rw [List.reverse_cons]
      exact (hE.mono fun _ _ z=>z.same (wpS s13)).snoc mk
     exact Each.nil.snoc (ai3 hE' (hw2.mono fun _ _ z=>z.same (wpS s13)) s46 (s6 _ _ j5) (nefd (s13.trans s4) f5))
   refine a33 k3 ?_
   walk_at "run"
   have hon:∀ p,onLk ts p st=plX p kd:=by
    rcases hsh with ⟨h,_⟩ | ⟨h,_⟩ | ⟨h,_⟩ | ⟨_,_,_,h⟩
    · exact absurd h k1
    · exact absurd h k2
    · exact absurd h k3
    · exact h
   rw [hon p] at q
   intro n1 H1 f1 s1 j1
   refine bd3 (ys:=[Str.ofString "say",Str.ofString "hand",Str.ofString "put",Str.ofString "called"]) (SqL.of j1) ?_
   walk_at "run"
   by_cases k4:kd∈[Str.ofString "say",Str.ofString "hand",Str.ofString "put",Str.ofString "called"]
   · refine a32 k4 ?_
     walk_at "run"
     intro n2 H2 f2 s2 j2
     have s12:=s1.trans s2
     have e:plX p kd=([p],[]):=by unfold plX; rw [if_pos (by simpa using k4)]
     rw [e] at q
     refine q n2 _ H2 (KS.of s12) (nefd s1 f2) j2 ?_ (by rw [s12 _ _ hfd]; show _=some (HO.lst (a16 (fs++[]))); rw [List.append_nil])
     exact Each.nil.snoc (bat_iff.mpr ⟨pl,us,rfl,wpS s12 _ _ hpl,hE.mono fun _ _ z=>z.same (wpS s12)⟩)
   refine a33 k4 ?_
   walk_at "run"
   have beh:∀ {Hk:Hp}{m:Str}{ms:Stm}{Q':VK}{E':XK},Same H Hk→((m=Str.ofString "looped"∧ms=mkL)∨(m=Str.ofString "called"∧ms=mkC))→(∀ v H',Same Hk H'→bg0 pp H' v (bhd ms p)→Q' v H')→ba1 K [.ref pl,.str m] Hk Q' E':=fun {Hk m ms Q' E'} s hm k=>by
    refine ⟨pl,us,p,m,ms,pp,rfl,s _ _ ep,hE.mono fun _ _ z=>z.same (wpS s),hld,hm,fun e H' s'=>k _ _ s' (by rw [e]; rfl),fun q e l us' H' s' f e' hE'=>k _ _ s' (by rw [e]; exact ⟨l,us',rfl,nefd s f,e',hE'⟩)⟩
   refine ac5 (fun σ' H'=>∃ v,σ'=[some tv,some (.ref pl),some (.ref a),some (.ref fd),some (.str kd),some v]∧Same H H'∧bg0 pp H' v (if kd=Str.ofString "leave" then bhd mkL p else none)) ?_ ?_
   · walk_at "run"
     by_cases h1:kd=Str.ofString "leave"
     · refine a32 h1 ?_
       walk_at "run"
       refine beh s1 (.inl ⟨rfl,rfl⟩) fun v H2 s2 hv=>?_
       walk_at "run"
       exact ⟨v,rfl,s1.trans s2,by rw [if_pos h1]; exact hv⟩
     · refine a33 h1 ?_
       exact ⟨.non,rfl,s1,by rw [if_neg h1]; rfl⟩
   rintro σ' H2 ⟨v,rfl,s2,hv⟩
   refine ac5 (fun σ' H'=>∃ v,σ'=[some tv,some (.ref pl),some (.ref a),some (.ref fd),some (.str kd),some v]∧Same H H'∧bg0 pp H' v (if kd=Str.ofString "leave" then bhd mkL p else if kd=Str.ofString "back" then bhd mkC p else none)) ?_ ?_
   · walk_at "run"
     by_cases h1:kd=Str.ofString "back"
     · refine a32 h1 ?_
       walk_at "run"
       refine beh s2 (.inr ⟨rfl,rfl⟩) fun v H3 s3 hv=>?_
       walk_at "run"
       exact ⟨v,rfl,s2.trans s3,by rw [if_neg (by rw [h1]; decide +kernel),if_pos h1]; exact hv⟩
     · refine a33 h1 ?_
       exact ⟨v,rfl,s2,by rw [if_neg h1]; exact hv⟩
   rintro σ' H3 ⟨v,rfl,s3,hv⟩
   walk_at "run"
   have ex:plX p kd=match (if kd=Str.ofString "leave" then bhd mkL p else if kd=Str.ofString "back" then bhd mkC p else none) with
    | some q=>([q],[])
    | none=>if kd=Str.ofString "again"∧(bhd mkL p).isSome=true then ([],[]) else ([],[kd]):=by
    unfold plX
    rw [if_neg (by simpa using k4)]
   revert hv ex
   generalize (if kd=Str.ofString "leave" then bhd mkL p else if kd=Str.ofString "back" then bhd mkC p else none)=o
   intro hv ex
   cases o with
   | some q' =>
     obtain ⟨l,us',rfl,nl,el,hE'⟩:=hv
     rw [ex] at q
     rw [if_pos (by simp)]
     walk_at "run"
     intro n4 H4 f4 s4 j4
     have s34:=s3.trans s4
     refine q n4 _ H4 (KS.of s34) (nefd s3 f4) j4 ?_ (by rw [s34 _ _ hfd]; show _=some (HO.lst (a16 (fs++[]))); rw [List.append_nil])
     exact Each.nil.snoc (bat_iff.mpr ⟨l,us',rfl,by rw [wpG nl]; exact s4 _ _ el,hE'.mono fun _ _ z=>z.same (wpS s4)⟩)
   | none =>
     obtain rfl:v=.non:=hv
     replace ex:plX p kd=if kd=Str.ofString "again"∧(bhd mkL p).isSome=true then ([],[]) else ([],[kd]):=ex
     rw [if_neg (by simp)]
     walk_at "run"
     rename_i N1 hN1
     have r1:∀ H',Same H H'→¬ (kd=Str.ofString "again"∧(bhd mkL p).isSome=true)→N1 [some tv,some (.ref pl),some (.ref a),some (.ref fd),some (.str kd),some .non] H':=fun H' s' hno=>by
      refine hN1 _ _ ?_
      clear hN1
      walk_at "run"
      refine ak2 (SqL.of (s' _ _ hfd)) ?_
      walk_at "run"
      refine a72 (s' _ _ hfd) (by simp [a16]; omega) ?_
      walk_at "run"
      intro n5 H5 f5 s5 j5
      rw [if_neg hno] at ex
      rw [ex] at q
      refine q n5 [] H5 ?_ ?_ j5 Each.nil ?_
      · have:KS fd H (upd H' fd (.lst (a16 fs++[.str kd]))):=by
         unfold KS
         rw [woU]
         exact woS s'
        exact this.trans (KS.of s5)
      · intro z
        by_cases e:n5=fd
        · rw [e,a18] at f5; cases f5
        · rw [a10 e] at f5
          exact nefd s' f5 z
      · rw [s5 _ _ a18]
        show _=some (HO.lst (a16 (fs++[kd])))
        unfold a16
        rw [List.map_append]
        rfl
     clear hN1
     by_cases h1:kd=Str.ofString "again"
     · refine a32 h1 ?_
       walk_at "run"
       refine beh s3 (.inl ⟨rfl,rfl⟩) fun v H4 s4 hv=>?_
       walk_at "run"
       cases hb:bhd mkL p with
       | some q' =>
         rw [hb] at hv
         obtain ⟨l,us',rfl,nl,el,hE'⟩:=hv
         rw [if_pos (by simp)]
         walk_at "run"
         intro n5 H5 f5 s5 j5
         have s35:=s3.trans (s4.trans s5)
         rw [if_pos ⟨h1,by rw [hb]; rfl⟩] at ex
         rw [ex] at q
         exact q n5 [] H5 (KS.of s35) (nefd (s3.trans s4) f5) j5 Each.nil (by rw [s35 _ _ hfd]; show _=some (HO.lst (a16 (fs++[]))); rw [List.append_nil])
       | none =>
         rw [hb] at hv
         obtain rfl:v=.non:=hv
         rw [if_neg (by simp)]
         walk_at "run"
         exact r1 _ (s3.trans s4) (fun z=>by rw [hb] at z; exact absurd z.2 (by simp))
     · refine a33 h1 ?_
       walk_at "run"
       exact r1 _ s3 (fun z=>h1 z.1)
def pls (ps:List (List Stm)):List (List Stm):=ps.map List.reverse
theorem pls_mem {p:List Stm}{ps:List (List Stm)}:p.reverse∈pls ps↔p∈ps:=by
 unfold pls
 rw [List.mem_map]
 exact ⟨fun ⟨x,h1,h2⟩=>by rw [← List.reverse_inj.mp h2]; exact h1,fun h=>⟨p,h,rfl⟩⟩
def p3 (fd ml sa:Addr):Addr→Prop:=fun a=>a=fd∨a=ml∨a=sa
structure DuJ (ts:Tks) (ns:List Str) (b:List Stm) (H H':Hp) (fd ml sa:Addr) (found:List Str) (met todo:List (List Stm)) (mv sv:List V):Prop where
 j:DfJ ts (allP ts 30 b) b found met todo
 s:Same H (woP (p3 fd ml sa) H')
 f:H' fd=some (.lst (a16 found))
 m:H' ml=some (.lst mv)
 t:H' sa=some (.lst sv)
 em:Each (BAt (woP (p3 fd ml sa) H')) mv (pls met)
 et:Each (BAt (woP (p3 fd ml sa) H')) sv (pls todo)
 n1:fd≠ml
 n2:fd≠sa
 n3:ml≠sa
 hf:H fd=none
 hm:H ml=none
 hs:H sa=none
variable {ts:Tks}{ns:List Str}{b:List Stm}{H0:Hp}{fd ml sa:Addr}{found:List Str}{met todo:List (List Stm)}{mv sv:List V}
theorem DuJ.same (h:DuJ ts ns b H0 H fd ml sa found met todo mv sv) {H':Hp}(s:Same H H'):DuJ ts ns b H0 H' fd ml sa found met todo mv sv :=
 ⟨h.j,h.s.trans (wpS s),s _ _ h.f,s _ _ h.m,s _ _ h.t,h.em.mono fun _ _ z=>z.same (wpS s),h.et.mono fun _ _ z=>z.same (wpS s),h.n1,h.n2,h.n3,h.hf,h.hm,h.hs⟩
theorem bw4 {H H':Hp}{sa2:Addr}(s:Same H H') (f:H sa2=none):Same (woP (p3 fd ml sa) H) (woP (p3 fd ml sa2) H'):=fun a o e=>by
 obtain ⟨h1,h2⟩:=wpT e
 rw [wpG (fun z=>by
  rcases z with rfl | rfl | rfl
  · exact h1 (.inl rfl)
  · exact h1 (.inr (.inl rfl))
  · rw [f] at h2; cases h2)]
 exact s _ _ h2
theorem bw5 {H H':Hp}(k:KS fd H H'):Same (woP (p3 fd ml sa) H) (woP (p3 fd ml sa) H'):=fun a o e=>by
 obtain ⟨h1,h2⟩:=wpT e
 rw [wpG h1]
 exact k.at (fun z=>h1 (.inl z)) h2
theorem br8 {S met:List (List Stm)}(hd:met.Nodup) (hr:∀ y∈met,y∈S):met.length≤S.length:=List.Nodup.length_le_of_subset hd (fun y hy=>hr y hy)
theorem DuJ.len (h:DuJ ts ns b H0 H fd ml sa found met todo mv sv) (hS:(allP ts 30 b).length≤40000):found.length≤120001∧met.length≤40000∧todo.length≤120001:=by
 have h1:=h.j.q
 have h2:=br8 h.j.nd fun y hy=>h.j.e y (.inl hy)
 omega
def br9 (K:PySem.W.Frag):Sp:=fun vs H Q _=>∃ (tv bv:V) (ts:Tks) (ns:List Str) (b:List Stm) (j k:Nat) (lp:Bool) (E:List Wd),vs=[tv,bv]∧TksAt H tv ts∧TksW ts ns∧BAt H bv b∧k≤5∧wfB (ns.drop j) k lp b∧BdW ts ns b E (allP ts 30 b)∧∀ l H',Same H H'→H l=none→H' l=some (.lst (wdsV ((allW).filter fun w=>decide (w∈E))))→Q (.ref l) H'
theorem at9 (T:Txt K mg t):FnOk P w K mg base CX0 12 t.a__law_due t.fd__law_due ["talks","body"] (br9 K):=by
 have G__law_on:=b24 (P:=P) (w:=w) (base:=base) T
 refine T.f__law_due.F.ok sc_law_due (fun vs H Q E h=>?_) (fun cdv A outer s H vs Q E hr h=>?_)
 · obtain ⟨tv,bv,ts,ns,b,j,k,lp,E,rfl,_⟩:=h
   rfl
 · obtain ⟨tv,bv,ts,ns,b,j,k,lp,E0,rfl,hts,hW,hb,hk,hw,hBd,q⟩:=h
   refine ⟨_,(@a02 _ _ _ _ _ (@a15 _ _ 2 _ _ _ _ sc_law_due.nd rfl (by walk_at "o") (@a12 _ _ _ _ (@a01 _)) (by rfl) (by walk_at "o"))
    (@a02 _ _ _ _ _ (@a15 _ _ 3 _ _ _ _ sc_law_due.nd rfl (by walk_at "o") (@a12 _ _ _ _ (@a01 _)) (by rfl) (by walk_at "o"))
    (@a02 _ _ _ _ _ (@a15 _ _ 4 _ _ _ _ sc_law_due.nd rfl (by walk_at "o") (@a12 _ _ _ _ (@a00 _ _ _ _ _ (a53 K (by rfl) (by rfl) T.z_list (by rfl) T.z_reversed (@a00 _ _ _ _ _ (pv 1) (@a01 _) (by rfl))) (@a01 _) (by rfl))) (by rfl) (by walk_at "o"))
    (@a02 _ _ _ _ _ (@ap3 _ _ _ _ _ _ PassesOwn.never (@a05 _ _ _ _ _ _ _ _ (ac6 K (by exact hr.units)) (pv 4) (@a12 _ _ _ _ (@a01 _)) (nomark _)) (@a02 _ _ _ _ _ (@a15 _ _ 5 _ _ _ _ sc_law_due.nd rfl (by walk_at "o") (ax7 K PySem.F.plainAttrs_list PySem.F.slot_list_pop PySem.F.type_list_pop b79 (pv 4)) (by rfl) (by walk_at "o"))
     (@a04 _ _ _ (@a25 _ _ _ _ _ _ _ _ (@a05 _ _ _ _ _ _ _ _ (ay6 K (by exact hr.units)) (pv 5) (@a12 _ _ _ _ (@a01 _)) (nomark _)) (@a04 _ _ _ (@a95 _ _ _ _ (@af1 _ K _ _ _ _ _ _ _ _ _ _ _ PySem.F.plainAttrs_list PySem.F.slot_list_append PySem.F.type_list_append a52 (pv 2) (@a00 _ _ _ _ _ (@a06 _ _ _ _) (@a01 _) (by rfl)) (by rfl) (by rfl) (by rfl) (by rfl) (by rfl) (by rfl)) (by rfl))) (@a04 _ _ _ (@a25 _ _ _ _ _ _ _ _ (@a05 _ _ _ _ _ _ _ _ (at6 K (by exact hr.units)) (pv 5) (pv 3) (by with_unfolding_all rfl)) (@a02 _ _ _ _ _ (@a95 _ _ _ _ (@af1 _ K _ _ _ _ _ _ _ _ _ _ _ PySem.F.plainAttrs_list PySem.F.slot_list_append PySem.F.type_list_append a52 (pv 3) (@a00 _ _ _ _ _ (pv 5) (@a01 _) (by rfl)) (by rfl) (by rfl) (by rfl) (by rfl) (by rfl) (by rfl)) (by rfl))
      (@a04 _ _ _ (@a15 _ _ 4 _ _ _ _ sc_law_due.nd rfl (by walk_at "o") (@a27 _ _ _ _ _ _ _ _ a19 (pv 4) (@a08 _ _ _ _ _ _ _ _ _ _ _ _ _ _ _ _ G__law_on (hr.mono (by omega)) rfl T.f__law_on.m T.f__law_on.F.kp T.f__law_on.b .nil a24 (@a00 _ _ _ _ _ (pv 0) (@a00 _ _ _ _ _ (@a35 _ _ _ _ _ _ _ _ _ _ (a42 K) (pv 5) (@a50 _) (@a41 _ _ _ (@am6 _ _ _ _ _ _ ab5 (@a03 _ _ _ _)))) (@a00 _ _ _ _ _ (@a31 _ _ _ _ _ _ _ (a21 K) (pv 5) (@am6 _ _ _ _ _ _ ab5 (@a03 _ _ _ _)) (fun _ _=>rfl)) (@a00 _ _ _ _ _ (pv 2) (@a01 _) (by rfl)) (by rfl)) (by rfl)) (by rfl)) (by decide) (by rfl) (by rfl))) (by rfl) (by walk_at "o")))) (@a11 _)))))))
    (@a04 _ _ _ (@a13 _ _ _ _ (b42 (Nt:=["way"]) (Nf:=["found"]) (caps:=[2]) rfl (a97 (sc:=a07 ac2) rfl rfl (by decide +kernel) (by decide +kernel) (by decide +kernel) rfl (by decide +kernel)) (a43 K (@a12 _ _ _ _ (@a00 _ _ _ _ _ (@a06 _ _ _ _) (@a00 _ _ _ _ _ (@a06 _ _ _ _) (@a00 _ _ _ _ _ (@a06 _ _ _ _) (@a00 _ _ _ _ _ (@a06 _ _ _ _) (@a00 _ _ _ _ _ (@a06 _ _ _ _) (@a01 _) (by rfl)) (by rfl)) (by rfl)) (by rfl)) (by rfl)))) (fun _ _ _ _ _=>(a26 (i:=0) (show (["way","found"]:List Str).Nodup by decide +kernel) rfl (by walk_at "o"))) (fun _ _ _ _ _=>(@af4 _ _ _ (@a05 _ _ _ _ _ _ _ _ (a90 K) (pv 0) (pv 1) (by with_unfolding_all rfl)))) (fun _ _ _ _ _=>(pv 0))))))))),?_⟩
   have sl:(1000000:Nat)≤sizeLine:=le_line (Nat.le_refl _)
   obtain ⟨bl,us,rfl,eb,hE⟩:=bat_iff.mp hb
   walk_at "go"
   intro fd H1 f1 s1 e1
   walk_at "run"
   intro ml H2 f2 s2 e2
   walk_at "run"
   refine ⟨bl,us,rfl,SqL.of ((s1.trans s2) _ _ eb),?_⟩
   intro n3 H3 f3 s3 e3
   walk_at "run"
   intro sa H4 f4 s4 e4
   walk_at "run"
   have s14:=s1.trans (s2.trans (s3.trans s4))
   have hne:∀ {Hk:Hp}{x y:Addr}{o:HO},Hk x=some o→Hk y=none→x≠y:=fun h1 h2 z=>by rw [z,h2] at h1; cases h1
   have nfm:fd≠ml:=hne e1 f2
   have nfs:fd≠sa:=hne ((s2.trans s3) _ _ e1) f4
   have nms:ml≠sa:=hne (s3 _ _ e2) f4
   have n3f:n3≠fd:=(hne (s2 _ _ e1) f3).symm
   have n3m:n3≠ml:=(hne e2 f3).symm
   have n3s:n3≠sa:=hne e3 f4
   have hfH:=a38 (Same.refl _) f1
   have hmH:=a38 s1 f2
   have hsH:=a38 (s1.trans (s2.trans s3)) f4
   have base:Same H (woP (p3 fd ml sa) H4):=fun a o e=>by
    have:¬ p3 fd ml sa a:=fun z=>by
     rcases z with rfl | rfl | rfl
     · rw [hfH] at e; cases e
     · rw [hmH] at e; cases e
     · rw [hsH] at e; cases e
    rw [wpG this]
    exact s14 _ _ e
   have J0:DuJ ts ns b H H4 fd ml sa [] [] [b] [] [.ref n3]:=⟨DfJ.start hBd.s.1,base,(s2.trans (s3.trans s4)) _ _ e1,(s3.trans s4) _ _ e2,e4,Each.nil,Each.nil.snoc (bat_iff.mpr ⟨n3,us.reverse,rfl,by rw [wpG (fun z=>z.elim n3f fun z=>z.elim n3m n3s)]; exact s4 _ _ e3,(ah9 hE).mono fun _ _ z=>z.same base⟩),nfm,nfs,nms,hfH,hmH,hsH⟩
   clear hne base
   have hgm:=bq3 hW.tw hk hw
   refine ay3 (fun n σ' H'=>∃ sa found met todo mv sv y5,n=3*((allP ts 30 b).length - met.length)+todo.length∧σ'=[some tv,some (.ref bl),some (.ref fd),some (.ref ml),some (.ref sa),y5]∧DuJ ts ns b H H' fd ml sa found met todo mv sv) _ ⟨sa,_,_,_,_,_,_,rfl,rfl,J0⟩ ?_
   rintro n σ' H5 ⟨sa,found,met,todo,mv,sv,y5,rfl,rfl,J⟩
   obtain ⟨hl1,hl2,hl3⟩:=J.len hBd.l
   walk_at "run"
   intro a6 H6 f6 s6 e6
   refine an5 (SqL.of (s6 _ _ J.t)) (SqL.of e6) ?_
   replace J:=J.same s6
   rcases List.eq_nil_or_concat todo with rfl | ⟨todo,p0,rfl⟩
   · obtain rfl:sv=[]:=List.eq_nil_of_length_eq_zero J.et.1
     refine ⟨false,rfl,?_⟩
     rw [if_neg Bool.false_ne_true]
     walk_at "run"
     intro wl H7 f7 s7 e7
     refine ⟨wl,rfl,⟨_,SqL.of e7⟩,am9 (xs:=wdsV allW) (le_line (by decide)) (fun i acc H'=>H'=H7∧acc=wdsV ((allW.take i).filter fun w=>decide (w∈E0))∧acc.length≤i) ⟨rfl,rfl,Nat.le_refl _⟩ (fun i acc H' ⟨h1,_,h3⟩=>⟨h3,by rw [h1]; exact SqL.of e7⟩) ?_ ?_⟩
     · rintro i x acc H' hx ⟨rfl,rfl,hln⟩
       obtain ⟨wd,hwd,rfl⟩:∃ wd:Wd,allW[i]?=some wd∧x=.str wd.txt:=by
        unfold wdsV a16 at hx
        rw [List.getElem?_map,List.getElem?_map] at hx
        cases e:allW[i]? with
        | none=>rw [e] at hx; cases hx
        | some wd=>rw [e] at hx; exact ⟨wd,rfl,(Option.some.inj hx).symm⟩
       walk_at "run"
       refine bd3 (ys:=found) (SqL.of (s7 _ _ J.f)) ?_
       walk_at "run"
       have hiff:wd.txt∈found↔wd∈E0:=(J.j.done wd).trans (hBd.w wd)
       rw [List.take_add_one,hwd,List.filter_append]
       by_cases hd:wd∈E0
       · refine a32 (hiff.mpr hd) ?_
         walk_at "run"
         refine ⟨rfl,?_,by simp; omega⟩
         rw [show List.filter (fun w=>decide (w∈E0)) (some wd).toList=[wd] by simp [hd]]
         simp [wdsV,a16]
       · refine a33 (fun z=>hd (hiff.mp z)) ?_
         refine ⟨rfl,?_,by omega⟩
         rw [show List.filter (fun w=>decide (w∈E0)) (some wd).toList=[] by simp [hd],List.append_nil]
     · rintro acc H' ⟨rfl,rfl,_⟩ l8 H8 f8 s8 e8
       have s67:=s7.trans s8
       refine q l8 H8 ((J.s.trans wpL).trans s67) (a38 ((J.s.trans wpL).trans s7) f8) ?_
       rw [e8,List.take_of_length_le (by unfold wdsV a16; rw [List.length_map,List.length_map]; exact Nat.le_refl _)]
   · rw [List.concat_eq_append] at *
     have het:=J.et
     unfold pls at het
     rw [List.map_append] at het
     obtain ⟨sv,v,rfl,hE5,hv⟩:=a62 het
     refine ⟨true,by simp,?_⟩
     rw [if_pos rfl]
     refine ⟨fun σ' H'=>∃ m',m'<3*((allP ts 30 b).length - met.length)+(todo++[p0]).length∧∃ sa found met todo mv sv y5,m'=3*((allP ts 30 b).length - met.length)+todo.length∧σ'=[some tv,some (.ref bl),some (.ref fd),some (.ref ml),some (.ref sa),y5]∧DuJ ts ns b H H' fd ml sa found met todo mv sv,fun σ' H' z=>z,?_⟩
     walk_at "run"
     refine ak2 (SqL.of J.t) ?_
     refine bm5 J.t ?_
     walk_at "run"
     obtain ⟨pa,pv,rfl,ep,hEp⟩:=bat_iff.mp hv
     have w7:woP (p3 fd ml sa) (upd H6 sa (.lst sv))=woP (p3 fd ml sa) H6:=wpU (.inr (.inr rfl))
     have f7:upd H6 sa (.lst sv) fd=some (.lst (a16 found)):=by rw [a10 J.n2]; exact J.f
     have m7:upd H6 sa (.lst sv) ml=some (.lst mv):=by rw [a10 J.n3]; exact J.m
     have t7:upd H6 sa (.lst sv) sa=some (.lst sv):=a18
     generalize upd H6 sa (.lst sv)=H7 at w7 f7 m7 t7 ⊢
     rw [← w7] at ep hEp hE5
     have hem:=J.em
     have hsm:=J.s
     rw [← w7] at hem hsm
     obtain ⟨nfm,nfs,nms⟩:=(show fd≠ml∧fd≠sa∧ml≠sa from ⟨J.n1,J.n2,J.n3⟩)
     intro a8 H8 f8 s8 e8
     have hpv:pv.length=p0.length:=by rw [hEp.1,List.length_reverse]
     refine bd8 (SqL.of (s8 _ _ (wpL _ _ ep))) (SqL.of e8) ?_
     have g8:=s8 _ _ f7
     have h8:=s8 _ _ m7
     have i8:=s8 _ _ t7
     have w8:Same (woP (p3 fd ml sa) H7) (woP (p3 fd ml sa) H8):=wpS s8
     cases p0 with
     | nil =>
       obtain rfl:pv=[]:=List.eq_nil_of_length_eq_zero hpv
       refine ⟨true,rfl,?_⟩
       rw [if_pos rfl]
       walk_at "run"
       refine ak2 (SqL.of g8) ?_
       walk_at "run"
       refine a72 g8 (by simp [a16]; omega) ?_
       have w9:woP (p3 fd ml sa) (upd H8 fd (.lst (a16 found++[.str (Str.ofString "on")])))=woP (p3 fd ml sa) H8:=wpU (.inl rfl)
       refine ⟨_,?_,sa,found++[Str.ofString "on"],met,todo,mv,sv,_,rfl,rfl,J.j.empty,?_,?_,?_,?_,?_,?_,nfm,nfs,nms,J.hf,J.hm,J.hs⟩
       · simp
       · rw [w9]; exact hsm.trans w8
       · rw [a18]; unfold a16; rw [List.map_append]; rfl
       · rw [a10 nfm.symm]; exact h8
       · rw [a10 nfs.symm]; exact i8
       · rw [w9]; exact hem.mono fun _ _ z=>z.same w8
       · rw [w9]; exact hE5.mono fun _ _ z=>z.same w8
     | cons s0 q0 =>
       refine ⟨false,by cases pv with
        | nil=>simp at hpv
        | cons _ _=>rfl,?_⟩
       rw [if_neg Bool.false_ne_true]
       walk_at "run"
       have inS:=J.j.e (s0::q0) (.inr (by simp))
       have gmP:=hgm _ inS
       have gmM:∀ p∈pls met,LdB p:=fun p hp=>by
        unfold pls at hp
        obtain ⟨x,hx,rfl⟩:=List.mem_map.mp hp
        exact b95 hW.c fun s hs=>(hgm x (J.j.e x (.inl hx))).2 s (List.mem_reverse.mp hs)
       have bp:BAt (woP (p3 fd ml sa) H8) (.ref pa) (s0::q0).reverse:=bat_iff.mpr ⟨pa,pv,rfl,w8 _ _ ep,hEp.mono fun _ _ z=>z.same w8⟩
       refine b64 (bp.same wpL) (SqL.of h8) (hem.mono fun _ _ z=>z.same (w8.trans wpL)) (b95 hW.c fun s hs=>gmP.2 s (List.mem_reverse.mp hs)) gmM ?_
       walk_at "run"
       by_cases hmm:(s0::q0)∈met
       · rw [show decide ((s0::q0).reverse∈pls met)=true from decide_eq_true (pls_mem.mpr hmm)]
         rw [if_neg (by simp)]
         refine ⟨_,?_,sa,found,met,todo,mv,sv,_,rfl,rfl,J.j.seen hmm,hsm.trans w8,g8,h8,i8,hem.mono fun _ _ z=>z.same w8,hE5.mono fun _ _ z=>z.same w8,nfm,nfs,nms,J.hf,J.hm,J.hs⟩
         simp
       · rw [show decide ((s0::q0).reverse∈pls met)=false from decide_eq_false (fun z=>hmm (pls_mem.mp z))]
         rw [if_pos (by simp)]
         walk_at "run"
         refine ak2 (SqL.of h8) ?_
         walk_at "run"
         refine a72 h8 (by have:=hem.1; unfold pls at this; rw [List.length_map] at this; omega) ?_
         walk_at "run"
         have w9:woP (p3 fd ml sa) (upd H8 ml (.lst (mv++[.ref pa])))=woP (p3 fd ml sa) H8:=wpU (.inr (.inl rfl))
         have f9:upd H8 ml (.lst (mv++[.ref pa])) fd=some (.lst (a16 found)):=by rw [a10 nfm]; exact g8
         have m9:upd H8 ml (.lst (mv++[.ref pa])) ml=some (.lst (mv++[.ref pa])):=a18
         have t9:upd H8 ml (.lst (mv++[.ref pa])) sa=some (.lst sv):=by rw [a10 nms.symm]; exact i8
         generalize upd H8 ml (.lst (mv++[.ref pa]))=H9 at w9 f9 m9 t9 ⊢
         rw [← w9] at w8
         have ep9:=w8 _ _ ep
         have hEp9:=hEp.mono fun _ _ z=>z.same w8
         rw [List.reverse_cons] at hEp9
         obtain ⟨ui,sv0,rfl,hEi,hs0⟩:=a62 hEp9
         refine af8 (SqL.of (wpL _ _ ep9)) ?_
         rw [(ag0 _ _).1]
         intro nl H10 f10 s10 e10
         walk_at "run"
         refine a59 (SqL.of (s10 _ _ (wpL _ _ ep9))) atI_last ?_
         walk_at "run"
         have w10:Same (woP (p3 fd ml sa) H9) (woP (p3 fd ml sa) H10):=wpS s10
         have nl3:¬ p3 fd ml sa nl:=fun z=>by
          rcases z with rfl | rfl | rfl
          · rw [f9] at f10; cases f10
          · rw [m9] at f10; cases f10
          · rw [t9] at f10; cases f10
         have b10:Same H (woP (p3 fd ml sa) H10):=hsm.trans (w8.trans w10)
         refine ⟨tv,nl,fd,ui,q0,sv0,s0,found,ts,ns,p3 fd ml sa,rfl,.inl rfl,fun a ha z=>?_,hts.same b10,hW,by rw [wpG nl3]; exact e10,hEi.mono fun _ _ z=>z.same w10,hs0.same w10,gmP.2 s0 (by simp),fun x hx=>bq1 hW.c (gmP.2 x (by simp [hx])),by have:=gmP.1; rw [List.length_cons] at this; omega,s10 _ _ f9,by omega,fun l' us' H11 ks nl' e' hE' ef'=>?_⟩
         · rcases ha with rfl | rfl | rfl
           · rw [s10 _ _ f9] at z; cases z
           · rw [s10 _ _ m9] at z; cases z
           · rw [s10 _ _ t9] at z; cases z
         have w11:Same (woP (p3 fd ml sa) H10) (woP (p3 fd ml sa) H11):=bw5 ks
         have m11:=ks.at nfm.symm (s10 _ _ m9)
         have t11:=ks.at nfs.symm (s10 _ _ t9)
         obtain ⟨ol1,ol2⟩:=aq8 (ts:=ts) (p:=q0) (s:=s0)
         have hul:=hE'.1
         rw [List.length_map] at hul
         have hsl:=hE5.1
         rw [List.length_map] at hsl
         have htl:todo.length≤120001:=by rw [List.length_append] at hl3; omega
         walk_at "run"
         refine a30 t11 e' (by omega) ?_
         intro sa2 H12 f12 s12 e12
         have w12:Same (woP (p3 fd ml sa) H11) (woP (p3 fd ml sa2) H12):=bw4 s12 f12
         have w912:Same (woP (p3 fd ml sa) H9) (woP (p3 fd ml sa2) H12):=w10.trans (w11.trans w12)
         have w712:=w8.trans w912
         refine ⟨_,?_,sa2,found++(onLk ts q0 s0).2,met++[s0::q0],todo++(onLk ts q0 s0).1,mv++[.ref pa],sv++us',_,rfl,rfl,J.j.new hBd.s.2 hmm,hsm.trans w712,s12 _ _ ef',s12 _ _ m11,e12,?_,?_,nfm,?_,?_,J.hf,J.hm,?_⟩
         · have:=aq9 J.j.nd (fun y hy=>J.j.e y (.inl hy)) inS hmm
           simp only [List.length_append,List.length_singleton]
           omega
         · unfold pls
           rw [List.map_append]
           exact (hem.mono fun _ _ z=>z.same w712).snoc (bat_iff.mpr ⟨pa,_,rfl,w712 _ _ ep,hEp.mono fun _ _ z=>z.same w712⟩)
         · unfold pls
           rw [List.map_append]
           exact (hE5.mono fun _ _ z=>z.same w712).append (hE'.mono fun _ _ z=>z.same w12)
         · intro z; rw [← z,ef'] at f12; cases f12
         · intro z; rw [← z,m11] at f12; cases f12
         · cases hh:H sa2 with
           | none=>rfl
           | some o=>rw [wpL _ _ ((b10.trans w11) _ _ hh)] at f12; cases f12
theorem as1 {H:Hp}:∀ sd:List Str,Tr.Ats H (sd.map Tr.str) (a16 sd) []
 | []=>by simp [Tr.Ats,a16]
 | x::sd=>ats_cons0.mpr ⟨_,_,rfl,ag1,as1 sd⟩
theorem ab2 {H:Hp}{l:Addr}{E:List Wd}(e:H l=some (.lst (wdsV E))):(Tr.lst ((E.map Wd.txt).map Tr.str)).At H (.ref l) [l]:=⟨l,_,[],rfl,e,as1 _,rfl⟩
theorem ba3 {E:List Str}:Tr.hs (E.map Tr.str)=0:=by
 induction E with
 | nil=>rfl
 | cons x E ih=>simp only [List.map_cons,Tr.hs,Tr.h,ih]; rfl
theorem bg1 {H:Hp}{v:V}{s:Stm}(h:SAt H v s):∃ a,v=.ref a:=by
 obtain ⟨fs,h⟩:=h
 cases s <;> (simp only [Stm.tr,Tr.At] at h; obtain ⟨a,_,rfl,_⟩:=h; exact ⟨a,rfl⟩)
theorem am2 {H:Hp}:∀ {us:List V}{b:List Stm},Each (SAt H) us b→∃ ms:List Addr,us=ms.map V.ref
 | [],_,_=>⟨[],rfl⟩
 | u::us,[],h=>by cases h.1
 | u::us,s::b,h=>by
   obtain ⟨a,rfl⟩:=bg1 (h.2 0 u s rfl rfl)
   obtain ⟨ms,rfl⟩:=am2 (us:=us) (b:=b) ⟨Nat.succ.inj h.1,fun j v x h1 h2=>h.2 (j+1) v x h1 h2⟩
   exact ⟨a::ms,rfl⟩
theorem b71 {H H':Hp}{d:Addr}{o:HO}(s:Same H H') (f:H d=none):Same H (upd H' d o):=fun a x e=>by
 rw [a10 (fun z=>by rw [z,f] at e; cases e)]
 exact s _ _ e
theorem b25 {f:Stm→Option (List Wd)}{b:List Stm}{E:List Wd}(h:eBf f b=some E):allW.filter (fun w=>decide (w∈E))=E:=by
 unfold eBf at h
 split at h
 · obtain ⟨r,_,rfl⟩:=Option.map_eq_some_iff.mp h
   exact ay9 fun w=>ordW_mem
 · cases h
theorem bs0 (T:Txt K mg t):FnOk P w K mg base CX0 120 t.a_law t.fd_law ["script"] (aj7 K):=by
 have G__law_bodies:=ai1 (P:=P) (w:=w) (base:=base) T
 have G__law_deck:=ao5 (P:=P) (w:=w) (base:=base) T
 have G__law_due:=at9 (P:=P) (w:=w) (base:=base) T
 have G__law_talks:=am1 (P:=P) (w:=w) (base:=base) T
 have G_dry_ends:=ao4 (P:=P) (w:=w) (base:=base) T
 refine T.f_law.F.ok sc_law (fun vs H Q E h=>?_) (fun cdv A outer s H vs Q E hr h=>?_)
 · obtain ⟨a,ns,rfl,_⟩:=h
   rfl
 · obtain ⟨a,ns,rfl,hS,hn,q⟩:=h
   replace G__law_bodies:=G__law_bodies 6
   refine ⟨_,(@a02 _ _ _ _ _ (@a15 _ _ 1 _ _ _ _ sc_law.nd rfl (by walk_at "o") (@a08 _ _ _ _ _ _ _ _ _ _ _ _ _ _ _ _ G__law_talks (hr.mono (by omega)) rfl T.f__law_talks.m T.f__law_talks.F.kp T.f__law_talks.b .nil a24 (@a00 _ _ _ _ _ (@a08 _ _ _ _ _ _ _ _ _ _ _ _ _ _ _ _ G__law_deck (hr.mono (by omega)) rfl T.f__law_deck.m T.f__law_deck.F.kp T.f__law_deck.b .nil a24 (@a00 _ _ _ _ _ (pv 0) (@a01 _) (by rfl)) (by decide) (by rfl) (by rfl)) (@a01 _) (by rfl)) (by decide) (by rfl) (by rfl)) (by rfl) (by walk_at "o"))
    (@a02 _ _ _ _ _ (@a15 _ _ 2 _ _ _ _ sc_law.nd rfl (by walk_at "o") (@a12 _ _ _ _ (@a01 _)) (by rfl) (by walk_at "o"))
    (@a02 _ _ _ _ _ (@a82 _ _ _ _ _ _ _ _ PassesOwn.never rfl (a43 K (pv 1)) (an1 K (n:=2) rfl (a69 (a26 (i:=3) sc_law.nd rfl (by walk_at "o")) (a69 (a26 (i:=4) sc_law.nd rfl (by walk_at "o")) (@am5 _)))) (@a04 _ _ _ (@a15 _ _ 2 _ _ _ _ sc_law.nd rfl (by walk_at "o") (@a27 _ _ _ _ _ _ _ _ a19 (pv 2) (@a08 _ _ _ _ _ _ _ _ _ _ _ _ _ _ _ _ G__law_bodies (hr.mono (by omega)) rfl T.f__law_bodies.m T.f__law_bodies.F.kp T.f__law_bodies.b .nil a24 (@a00 _ _ _ _ _ (pv 4) (@a01 _) (by rfl)) (by decide) (by rfl) (by rfl))) (by rfl) (by walk_at "o"))) (by intro _; rfl))
    (@a02 _ _ _ _ _ (@a82 _ _ _ _ _ _ _ _ PassesOwn.never rfl (a43 K (@a35 _ _ _ _ _ _ _ _ _ _ (a42 K) (pv 2) (@a50 _) (@a41 _ _ _ (@a03 _ _ _ _)))) (a26 (i:=4) sc_law.nd rfl (by walk_at "o")) (@a02 _ _ _ _ _ (@a15 _ _ 5 _ _ _ _ sc_law.nd rfl (by walk_at "o") (@a51 _ _ _ _ _ _ _ _ _ (a89 K) (by rfl) T.z_list a98 (@a00 _ _ _ _ _ (pv 4) (@a01 _) (by rfl)) (by decide) (by decide) (by rfl) (by rfl)) (by rfl) (by walk_at "o"))
     (@a02 _ _ _ _ _ (@a15 _ _ 6 _ _ _ _ sc_law.nd rfl (by walk_at "o") (@a08 _ _ _ _ _ _ _ _ _ _ _ _ _ _ _ _ G__law_due (hr.mono (by omega)) rfl T.f__law_due.m T.f__law_due.F.kp T.f__law_due.b .nil a24 (@a00 _ _ _ _ _ (pv 1) (@a00 _ _ _ _ _ (pv 4) (@a01 _) (by rfl)) (by rfl)) (by decide) (by rfl) (by rfl)) (by rfl) (by walk_at "o"))
     (@a02 _ _ _ _ _ (@a15 _ _ 7 _ _ _ _ sc_law.nd rfl (by walk_at "o") (@a08 _ _ _ _ _ _ _ _ _ _ _ _ _ _ _ _ G_dry_ends (hr.mono (by omega)) rfl T.f_dry_ends.m T.f_dry_ends.F.kp T.f_dry_ends.b .nil a24 (@a00 _ _ _ _ _ (@a14 _ _ _ _ _ (@a00 _ _ _ _ _ (@a12 _ _ _ _ (@a00 _ _ _ _ _ (@a14 _ _ _ _ _ (@a00 _ _ _ _ _ (@a06 _ _ _ _) (@a00 _ _ _ _ _ (@a03 _ _ _ _) (@a01 _) (by rfl)) (by rfl))) (@a01 _) (by rfl))) (@a00 _ _ _ _ _ (@a51 _ _ _ _ _ _ _ _ _ (a89 K) (by rfl) T.z_list a98 (@a00 _ _ _ _ _ (pv 1) (@a01 _) (by rfl)) (by decide) (by decide) (by rfl) (by rfl)) (@a01 _) (by rfl)) (by rfl))) (@a00 _ _ _ _ _ (pv 5) (@a01 _) (by rfl)) (by rfl)) (by decide) (by rfl) (by rfl)) (by rfl) (by walk_at "o"))
     (@a02 _ _ _ _ _ (@a25 _ _ _ _ _ _ _ _ (@PW.pt _ _ _ (@ba7 _ _ _ _ _ _ _ (@bg8 _ _ _ _ (an0 K (@a71 _ _ _ _ _ _ _ _ _ (bc6 K) (by rfl) T.z_isinstance af6 (@a00 _ _ _ _ _ (pv 7) (@a00 _ _ _ _ _ (ba6 (v:=.ty "list") (by rfl) T.z_list a98 rfl) (@a01 _) (by rfl)) (by rfl)) (by decide) (by decide) (by rfl) (by rfl)) (fun _=>rfl))) (@ba7 _ _ _ _ _ _ _ (@a05 _ _ _ _ _ _ _ _ (aq3 (by exact hr.units)) (pv 7) (pv 6) (nomark _)) (@b72 _ _ _ _ (@a05 _ _ _ _ _ _ _ _ (bd9 (by exact hr.units)) (pv 5) (pv 4) (nomark _)))))) (@a04 _ _ _ (@a13 _ _ _ _ (@au3 _ _ _ _))) (@a11 _))
     (@a02 _ _ _ _ _ (@a95 _ _ _ _ (@af1 _ K _ _ _ _ _ _ _ _ _ _ _ PySem.F.plainAttrs_list PySem.F.slot_list_append PySem.F.type_list_append a52 (pv 7) (@a00 _ _ _ _ _ (@a06 _ _ _ _) (@a01 _) (by rfl)) (by rfl) (by rfl) (by rfl) (by rfl) (by rfl) (by rfl)) (by rfl))
     (@a04 _ _ _ (@a25 _ _ _ _ _ _ _ _ (@a05 _ _ _ _ _ _ _ _ (aq3 (by exact hr.units)) (@a08 _ _ _ _ _ _ _ _ _ _ _ _ _ _ _ _ G_dry_ends (hr.mono (by omega)) rfl T.f_dry_ends.m T.f_dry_ends.F.kp T.f_dry_ends.b .nil a24 (@a00 _ _ _ _ _ (@a14 _ _ _ _ _ (@a00 _ _ _ _ _ (@a12 _ _ _ _ (@a00 _ _ _ _ _ (@a14 _ _ _ _ _ (@a00 _ _ _ _ _ (@a06 _ _ _ _) (@a00 _ _ _ _ _ (@a03 _ _ _ _) (@a01 _) (by rfl)) (by rfl))) (@a01 _) (by rfl))) (@a00 _ _ _ _ _ (@a51 _ _ _ _ _ _ _ _ _ (a89 K) (by rfl) T.z_list a98 (@a00 _ _ _ _ _ (pv 1) (@a01 _) (by rfl)) (by decide) (by decide) (by rfl) (by rfl)) (@a01 _) (by rfl)) (by rfl))) (@a00 _ _ _ _ _ (pv 5) (@a01 _) (by rfl)) (by rfl)) (by decide) (by rfl) (by rfl)) (pv 6) (nomark _)) (@a04 _ _ _ (@a13 _ _ _ _ (@au3 _ _ _ _))) (@a11 _)))))))) (by intro _; rfl))
    (@a04 _ _ _ (@a13 _ _ _ _ (@au3 _ _ _ _))))))),?_⟩
   have sl:(1000000:Nat)≤sizeLine:=le_line (Nat.le_refl _)
   walk_at "go"
   refine ⟨a,ns,rfl,hS,hn,fun dk l H1 fdk fl s1 k1=>?_⟩
   walk_at "run"
   refine ⟨dk,l,rfl,k1,fun tl us ts nm H2 et hEt hW=>?_⟩
   walk_at "run"
   intro b0 H3 f3 s3 e3
   walk_at "run"
   have hul:us.length≤4:=by rw [hEt.1]; exact hW.l
   refine ⟨⟨us,SqL.of (s3 _ _ et)⟩,a83 (xs:=us) (fun i σ H'=>i≤us.length∧∃ bl vs bs y3 y4,σ=[some (.ref a),some (.ref tl),some (.ref bl),y3,y4,none,none,none]∧Same H2 H'∧H' bl=some (.lst vs)∧Each (BAt H') vs bs∧(∀ x∈bs,WfB nm x)∧bs.length≤91*i) ⟨Nat.zero_le _,b0,_,[],_,_,rfl,s3,e3,Each.nil,fun x h=>(by cases h),Nat.zero_le _⟩ (fun i σ H' _ zz=>by obtain ⟨_,_,_,_,_,_,_,z,_⟩:=zz; exact SqL.of (z _ _ et)) ?_ ?_⟩
   · rintro i sv σ' H4 hi ⟨hib,bl,vs,bs,y3,y4,rfl,s4,e4,hE4,hWf,hL⟩
     obtain ⟨x,hx⟩:∃ x,ts[i]?=some x:=⟨_,List.getElem?_eq_getElem (by rw [← hEt.1]; exact (List.getElem?_eq_some_iff.mp hi).1)⟩
     obtain ⟨pa,u,rfl,ep,hbu⟩:=hEt.2 i _ _ hi hx
     obtain ⟨j,hw1,hw2,hw3⟩:=hW.b x (List.mem_of_getElem? hx)
     have hlt:i<us.length:=(List.getElem?_eq_some_iff.mp hi).1
     walk_at "run"
     refine bm1 (SqT.of (s4 _ _ ep)) rfl ?_
     walk_at "run"
     refine ⟨u,x.2,nm,j,5,false,rfl,by omega,hbu.same s4,hw1,Nat.le_refl _,hw2,hw3,fun l2 us2 bs2 H5 s5 f5 e5 hE5 hWf5 hL5=>?_⟩
     walk_at "run"
     have hvl:=hE4.1
     have hvl2:=hE5.1
     refine a30 (s5 _ _ e4) e5 (by omega) ?_
     intro l3 H6 f6 s6 e6
     refine ⟨by omega,l3,_,bs++bs2,_,_,rfl,s4.trans (s5.trans s6),e6,(hE4.mono fun _ _ z=>z.same (s5.trans s6)).append (hE5.mono fun _ _ z=>z.same s6),fun y hy=>?_,by rw [List.length_append]; omega⟩
     rcases List.mem_append.mp hy with hy | hy
     · exact hWf y hy
     · exact hWf5 y hy
   · rintro σ' H4 ⟨_,bl,vs,bs,y3,y4,rfl,s4,e4,hE4,hWf,hL⟩
     walk_at "run"
     refine af8 (SqL.of e4) ?_
     rw [show (30:Int)=((30:Nat):Int) from rfl,ah8]
     intro bl2 H5 f5 s5 e5
     have s25:=s4.trans s5
     have hE5:=(ad7 hE4 30).mono fun _ _ z=>z.same s5
     have hWf5:∀ x∈bs.take 30,WfB nm x:=fun x hx=>hWf x (List.mem_of_mem_take hx)
     have hl5:(vs.take 30).length≤30:=by rw [List.length_take]; exact Nat.min_le_left _ _
     walk_at "run"
     refine ⟨⟨_,SqL.of e5⟩,a83 (xs:=vs.take 30) (fun i σ H'=>∃ y4 y5 y6 y7,σ=[some (.ref a),some (.ref tl),some (.ref bl),y3,y4,y5,y6,y7]∧Same H5 H') ⟨_,_,_,_,rfl,Same.refl _⟩ (fun i σ H' _ zz=>by obtain ⟨_,_,_,_,_,z⟩:=zz; exact SqL.of (z _ _ e5)) ?_ ?_⟩
     · rintro i bv σ' H6 hi ⟨y4,y5,y6,y7,rfl,s6⟩
       obtain ⟨b,hb⟩:∃ b,(bs.take 30)[i]?=some b:=⟨_,List.getElem?_eq_getElem (by rw [← hE5.1]; exact (List.getElem?_eq_some_iff.mp hi).1)⟩
       have hbv:=(hE5.2 i _ _ hi hb).same s6
       obtain ⟨j,k,lp,hw,hk,hz,hc⟩:=hWf5 b (List.mem_of_getElem? hb)
       obtain ⟨E0,hBd⟩:=bp8 hW.tw hk hw hz hc
       obtain ⟨pb,ub,rfl,eb,hEb⟩:=bat_iff.mp hbv
       walk_at "run"
       refine an2 (SqL.of eb) ?_
       intro gv H7 f7 s7 e7
       walk_at "run"
       have s27:=(s25.trans s6).trans s7
       have hts:TksAt H7 (.ref tl) ts:=⟨tl,us,rfl,s27 _ _ et,hEt.mono fun _ _ z=>z.same s27,Nat.le_trans hW.l (by decide)⟩
       refine ⟨.ref tl,.ref pb,ts,nm,b,j,k,lp,E0,rfl,hts,hW,hbv.same s7,hk,hw,hBd,fun dl H8 s8 f8 e8=>?_⟩
       walk_at "run"
       rw [b25 hBd.e] at e8
       obtain ⟨ms,rfl⟩:=am2 hEb
       have hE5l:E0.length≤5:=by
        rw [← b25 hBd.e]
        exact List.length_filter_le _ _
       intro t1 H9 f9 s9 e9
       walk_at "run"
       intro t2 H10 f10 s10 e10
       walk_at "run"
       have s210:=(s27.trans s8).trans (s9.trans s10)
       refine an2 (SqL.of (s210 _ _ et)) ?_
       intro t3 H11 f11 s11 e11
       walk_at "run"
       intro t4 H12 f12 s12 e12
       walk_at "run"
       have s712:=s8.trans ((s9.trans s10).trans (s11.trans s12))
       have s212:=s27.trans s712
       refine ⟨t4,.ref t2,.ref t3,.ref gv,b,ts,E0,rfl,e12,⟨t3,us,rfl,s12 _ _ e11,hEt.mono fun _ _ z=>z.same s212,Nat.le_trans hW.l (by decide)⟩,bat_iff.mpr ⟨gv,_,rfl,s712 _ _ e7,hEb.mono fun _ _ z=>z.same (s7.trans s712)⟩,hBd.e,fun dr H13 s13 f13 e13=>?_⟩
       have s813:=((s9.trans s10).trans (s11.trans s12)).trans s13
       walk_at "run"
       refine bm3 e13 ?_
       walk_at "run"
       refine b88 (ab2 e13) (ab2 (s813 _ _ e8)) (by rw [ba3]; decide) ?_
       walk_at "run"
       have s713:=s712.trans s13
       refine bv8 (s713 _ _ e7) ((s7.trans s713) _ _ eb) ?_
       walk_at "run"
       refine ak2 (SqL.of e13) ?_
       walk_at "run"
       refine a72 e13 (by unfold wdsV a16; rw [List.length_map,List.length_map]; omega) ?_
       walk_at "run"
       have s1213:=b71 (o:=.lst (wdsV E0++[V.str (Str.ofString "on")])) s13 f13
       generalize upd H13 dr (.lst (wdsV E0++[V.str (Str.ofString "on")]))=H14 at s1213 ⊢
       have s714:=s712.trans s1213
       have s214:=s27.trans s714
       have s814:=((s9.trans s10).trans (s11.trans s12)).trans s1213
       intro t5 H15 f15 s15 e15
       walk_at "run"
       intro t6 H16 f16 s16 e16
       walk_at "run"
       have s216:=s214.trans (s15.trans s16)
       refine an2 (SqL.of (s216 _ _ et)) ?_
       intro t7 H17 f17 s17 e17
       walk_at "run"
       intro t8 H18 f18 s18 e18
       walk_at "run"
       have s1418:=(s15.trans s16).trans (s17.trans s18)
       have s218:=s214.trans s1418
       have s718:=s714.trans s1418
       refine ⟨t8,.ref t6,.ref t7,.ref gv,b,ts,E0,rfl,e18,⟨t7,us,rfl,s18 _ _ e17,hEt.mono fun _ _ z=>z.same s218,Nat.le_trans hW.l (by decide)⟩,bat_iff.mpr ⟨gv,_,rfl,s718 _ _ e7,hEb.mono fun _ _ z=>z.same (s7.trans s718)⟩,hBd.e,fun dr2 H19 s19 f19 e19=>?_⟩
       walk_at "run"
       refine b88 (ab2 e19) (ab2 ((s814.trans (s1418.trans s19)) _ _ e8)) (by rw [ba3]; decide) ?_
       walk_at "run"
       exact ⟨_,_,_,_,rfl,s6.trans (s7.trans (s718.trans s19))⟩
     · rintro σ' H6 ⟨y4,y5,y6,y7,rfl,s6⟩
       walk_at "run"
       exact q _
end
theorem all_mk {l:PySem.W.OpenLaw}{w:World}{K:PySem.W.Frag}{h:Heap}{mg:Str→Option Value}{fa:Addr}(X:K.In h) (G:h.Ns mainGlobals mg) (hfa:mg "law"=some (.ref fa)) (hF:HF w.params K):∃ fd:FuncData,(∀ (s:Shared) (v:Value),BindsTo s fd ⟨[v],[]⟩ [("script",v)])∧∀ base:Heap,K.In base→base.Ns mainGlobals mg→FnOk l.prog w K mg base CX0 120 fa fd ["script"] (aj7 K):=by
 obtain ⟨t,T⟩:=hF
 have T:=T mg h X G
 have e:=hfa.symm.trans T.f_law.m
 cases e
 obtain ⟨_,_,_,_,_,_,_,_,_,e,_⟩:=T.f_law.F.ex
 exact ⟨_,fun s v=>by rw [e]; exact .of_eq rfl,fun base _ _=>bs0 T⟩
end K14
theorem PySem.Challenge.cw_callmill_k14_dry_ends_holds : PySem.Challenge.rw_callmill_k14_dry_ends.Holds := by
  exact K14.head fun K hF w mg fa h KX G hmg => K14.all_mk KX G hmg (hF w.params)
