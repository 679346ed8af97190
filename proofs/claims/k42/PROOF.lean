import PyProof.Rows.All
import Wide.All
import OpenK.KLine
import KE.KItem
import KE.KIsAll
import Wide.FinOn
import Lean
import PyProof.EqAt
import PyProof.EqKinds
import PyProof.TupleCall
import PyProof.NeKinds
import PyProof.DictUpdate
import PyProof.AttrMissHeap
import KE.KDictOf
import PyProof.TupleIter
import PyProof.WalksEnum
import PyProof.EnumMake
import PyProof.Rows.EnumRows
import PyProof.Rows.MaxTwoN
import PyProof.ZipIter
import PyProof.IsRules
import PyProof.DictRoadsH
import Wide.Seal
import PyProof.MeetsDict
import PyProof.DictIter
import PyProof.DictWalks
import KE.KDictList
import PyProof.Rows.SumAny
import PyProof.ListRange
import PyProof.AutoSeq1
import PyProof.WalkInts
import PyProof.SeqI3
import KE.KTextTable
import PyProof.MeetsStr
import PyProof.StrCalls5
import PyProof.Rows.TupDisplay
import PyProof.Rows.TupAdd
import PyProof.Rows.StrNews2
import PyProof.StrBlockI
import PyProof.DictTruth
import PyProof.Rows.SortShell
import PyProof.DictValues
import PyProof.ConsumeS
import PyProof.Draws
import PyProof.Rows.SetFrom
import PyProof.FactsAll.set_1
import KE.KDictSum
import PyProof.Rows.SortStr
import PyProof.Rows.SortWalk
import PyProof.Rows.TmSorted
import PyProof.Rows.CallKwBuiltin
import KE.KSortKey
import PyProof.NeData
import PyProof.ListNew
import PySem.Challenge.RW_callmill_k42_alike_nodes
set_option Elab.async false
set_option linter.all false
set_option maxRecDepth 100000
set_option maxHeartbeats 4000000
namespace L2
open PySem PySem.Spec PyProof.Rows
abbrev Key:=Sum Int Str
def keyIs:Key→Value→Bool
 | .inl k,v=>Value.isInt k v
 | .inr x,v=>Value.isStrOf x v
def keyH (w:World):Key→Int
 | .inl k=>hashInt k
 | .inr x=>hashStr w x
theorem a80:∀ {k:Key}{v:Value},keyIs k v=true→(∃ i t,k=Sum.inl i∧v=Value.int i t)∨(∃ x t,k=Sum.inr x∧v=Value.str x t)
 | .inl i,v,h=>by
   obtain ⟨t,e⟩:=Value.isInt_shape (k:=i) (v:=v) h
   exact .inl ⟨i,t,rfl,e⟩
 | .inr x,v,h=>by
   obtain ⟨t,e⟩:=Value.isStrOf_shape (x:=x) (v:=v) h
   exact .inr ⟨x,t,rfl,e⟩
theorem b54 (i:Int) (t:Tok):keyIs (.inl i) (.int i t)=true:=by simp [keyIs,Value.isInt]
theorem b55 (x:Str) (t:Tok):keyIs (.inr x) (.str x t)=true:=by simp [keyIs,Value.isStrOf]
theorem bs4 (a b:Int):decide ((Sum.inl a:Key)=Sum.inl b)=(a == b):=by
 by_cases e:a=b
 · subst e; simp
 · have h:¬ (Sum.inl a:Key)=Sum.inl b:=fun q=>e (Sum.inl.inj q)
   rw [decide_eq_false h]
   exact (beq_eq_false_iff_ne.mpr e).symm
theorem bs5 (a b:Str):decide ((Sum.inr a:Key)=Sum.inr b)=decide (a=b):=by
 by_cases e:a=b
 · subst e; simp
 · have h:¬ (Sum.inr a:Key)=Sum.inr b:=fun q=>e (Sum.inr.inj q)
   rw [decide_eq_false h,decide_eq_false e]
theorem bs6 (a:Int) (b:Str):decide ((Sum.inl a:Key)=Sum.inr b)=false:=decide_eq_false (fun q=>nomatch q)
theorem bs7 (a:Str) (b:Int):decide ((Sum.inr a:Key)=Sum.inl b)=false:=decide_eq_false (fun q=>nomatch q)
def mixKind (prog:Program) (w:World):PySem.KeyKind prog w Key where
 is:=keyIs
 hash:=keyH w
 inj:=fun v a b ha hb=>by
  rcases a80 ha with ⟨i,t,rfl,rfl⟩ | ⟨x,t,rfl,rfl⟩
  · rcases a80 hb with ⟨j,u,rfl,e⟩ | ⟨y,u,rfl,e⟩
    · injection e with e1 _; rw [e1]
    · exact nomatch e
  · rcases a80 hb with ⟨j,u,rfl,e⟩ | ⟨y,u,rfl,e⟩
    · exact nomatch e
    · injection e with e1 _; rw [e1]
 byValue:=fun k v h=>by
  rcases a80 h with ⟨i,t,rfl,rfl⟩ | ⟨x,t,rfl,rfl⟩ <;> rfl
 pyHash:=fun hv h=>by
  rcases a80 hv with ⟨i,t,rfl,rfl⟩ | ⟨x,t,rfl,rfl⟩
  · exact wpAny_pyHash_int h
  · exact wpAny_pyHash_str h
 eqBool:=fun hu hv h=>by
  rcases a80 hu with ⟨i,t,rfl,rfl⟩ | ⟨x,t,rfl,rfl⟩
  · rcases a80 hv with ⟨j,u,rfl,rfl⟩ | ⟨y,u,rfl,rfl⟩
    · rw [bs4] at h; exact wpAny_eqBool_int h
    · rw [bs6] at h; exact SeqAt.EqAt.int_str i t y u _ _ _ _ h
  · rcases a80 hv with ⟨j,u,rfl,rfl⟩ | ⟨y,u,rfl,rfl⟩
    · rw [bs7] at h; exact SeqAt.EqAt.str_int x t j u _ _ _ _ h
    · rw [bs5] at h; exact wpAny_eqBool_str h
 «strs»:=fun k x t v h=>by
  rcases a80 h with ⟨i,u,rfl,e⟩ | ⟨y,u,rfl,e⟩
  · exact nomatch e
  · injection e with e1 _
    subst e1
    cases v <;> rfl
theorem at5 (prog:Program) (w:World) (i:Int) (t:Tok):(mixKind prog w).is (.inl i) (.int i t)=true:=b54 i t
theorem at6 (prog:Program) (w:World) (x:Str) (t:Tok):(mixKind prog w).is (.inr x) (.str x t)=true:=b55 x t
inductive V where
 | non | bl (b:Bool) | int (i:Int) | str (x:Str) | byt (b:Array UInt8) | flt (b:UInt64) | ref (a:Addr) | ty (n:String)
 deriving DecidableEq
def RelV:V→Value→Prop
 | .non,u=>u=Value.none
 | .bl b,u=>u=Value.bool b
 | .int i,u=>∃ t,u=Value.int i t
 | .str x,u=>∃ t,u=Value.str x t
 | .byt b,u=>∃ t,u=Value.bytes b t
 | .flt b,u=>∃ t,u=Value.float b t
 | .ref a,u=>u=Value.ref a
 | .ty n,u=>u=Value.type n
abbrev Vals:List V→List Value→Prop:=Paired RelV
theorem Vals.length {xs:List V}{us:List Value}(r:Vals xs us):xs.length=us.length:=Paired.length r
theorem Vals.get:∀ {xs:List V}{us:List Value}{i:Nat}{x:V},Vals xs us→xs[i]?=some x→∃ u,us[i]?=some u∧RelV x u
 | _,_,_,_,.nil,e=>by simp at e
 | _,_,0,_,.cons r _,e=>by simp at e; subst e; exact ⟨_,rfl,r⟩
 | _,_,i+1,x,.cons _ t,e=>by
   obtain ⟨u,h1,h2⟩:=Vals.get (i:=i) (x:=x) t (by simpa using e)
   exact ⟨u,by simpa using h1,h2⟩
theorem Vals.set {x:V}{u:Value}(r:RelV x u):∀ {xs:List V}{us:List Value}(i:Nat),Vals xs us→Vals (xs.set i x) (us.set i u)
 | _,_,_,.nil=>.nil
 | _,_,0,.cons _ t=>.cons r t
 | _,_,i+1,.cons q t=>.cons q (Vals.set r i t)
theorem Vals.append:∀ {xs ys:List V}{us ws:List Value},Vals xs us→Vals ys ws→Vals (xs++ys) (us++ws)
 | _,_,_,_,.nil,s=>s
 | _,_,_,_,.cons r t,s=>.cons r (Vals.append t s)
theorem Vals.take:∀ {xs:List V}{us:List Value}(n:Nat),Vals xs us→Vals (xs.take n) (us.take n)
 | _,_,0,_=>.nil
 | _,_,_+1,.nil=>.nil
 | _,_,n+1,.cons r t=>.cons r (Vals.take n t)
theorem Vals.drop:∀ {xs:List V}{us:List Value}(n:Nat),Vals xs us→Vals (xs.drop n) (us.drop n)
 | _,_,0,r=>r
 | _,_,_+1,.nil=>.nil
 | _,_,n+1,.cons _ t=>Vals.drop n t
def RelO:Option V→Option Value→Prop
 | some v,some u=>RelV v u
 | none,none=>True
 | _,_=>False
def KV {κ:Type}:List (κ×V)→List (κ×Value)→Prop:=Paired fun (p:κ×V) (q:κ×Value)=>p.1=q.1∧RelV p.2 q.2
def kV:Key→V
 | .inl i=>.int i
 | .inr x=>.str x
inductive HO where
 | lst (xs:List V)
 | tup (xs:List V)
 | dK (kvs:List (Key×V)) | dT (kvs:List (List Key×V))
 | set (S:Int→Bool) (n:Nat)
 | ins (C dx:Addr) (fs:List (Str×V))
 | own (x:Addr)
 | xd (fs:List (Str×V))
 | met (f x:Addr)
 | rng (lo hi:Int)
 | frz (o:Obj) (u:HO)
 | tbl (ps:Array Value)
 | ext (φ:Heap→Prop)
abbrev Hp:=Addr→Option HO
def upd (H:Hp) (a:Addr) (o:HO):Hp:=fun b=>if b=a then some o else H b
theorem a27 {H:Hp}{a:Addr}{o:HO}:upd H a o a=some o:=by unfold upd; rw [if_pos rfl]
theorem a06 {H:Hp}{a b:Addr}{o:HO}(h:b≠a):upd H a o b=H b:=by unfold upd; rw [if_neg h]
theorem bl1 {H:Hp}{a:Addr}{o u:HO}:upd (upd H a o) a u=upd H a u:=by
 funext b; unfold upd; split <;> rfl
theorem ad0 {H:Hp}{a b:Addr}{o u:HO}(h:H a=some o) (h':H b=some u) (d:o≠u):a≠b:=by
 intro e; subst e; rw [h] at h'; exact d (Option.some.inj h')
theorem a30 {H:Hp}{a b:Addr}{o:HO}(h:H a=some o) (h':H b=none):a≠b:=by
 intro e; subst e; rw [h] at h'; cases h'
section
variable (P:Program) (w:World)
def ObjOk (H:Hp) (h:Heap) (a:Addr):HO→Prop
 | .lst xs=>xs.length≤sizeLine∧∃ (its:List Value) (n:Nat),Vals xs its∧h.get? a=some { cls:=.type "list",data:=.seq its.toArray n }
 | .tup xs=>xs.length≤sizeLine∧∃ its:List Value,Vals xs its∧IsTup h a its.toArray
 | .dK kvs=>kvs.length≤sizeLine∧(a == sysModules)=false∧∃ vs,KV kvs vs∧h.DictOf (mixKind P w) a vs
 | .dT kvs=>kvs.length≤sizeLine∧(a == sysModules)=false∧∃ xs:List (List Key×Addr×Value),
  Paired (fun (p:List Key×V) (q:List Key×Addr×Value)=>p.1=q.1∧H q.2.1=some (.tup (p.1.map kV))∧RelV p.2 q.2.2) kvs xs ∧
  ∃ o es ep,h.get? a=some o∧o.ExactDict∧o.data=.dict es ep∧es.toList=xs.map (entryOfKey (tupleKind (mixKind P w)))∧(xs.map (·.1)).Nodup
 | .set S n=>h.SetOf (intKind P w) a S n
 | .ins C dx fs=>H dx=some (.own a)∧fs.length≤1000∧dx≠a∧h.get? a=some (PySem.W.instObj C dx) ∧
  ∃ mA,h.Ns1 dx mA∧(∀ f,RelO (fs.lookup f) (mA f))∧PySem.Within mA (fs.map (·.1))
 | .own _=>∃ o,h.get? a=some o
 | .xd fs=>∃ mA,h.Ns1 a mA∧∀ f,RelO (fs.lookup f) (mA f)
 | .rng lo hi=>∃ t u v,h.get? a=some { cls:=.type "range",data:=.fields #[.int lo t,.int hi u,.int 1 v] }
 | .frz o u=>h.get? a=some o∧ObjOk H h a u
 | .tbl ps=>h.get? a=some { cls:=.none,data:=.fields ps }
 | .met f x=>h.get? a=some (PySem.W.methodObj (.ref f) (.ref x))
 | .ext φ=>φ h∧(∃ o,h.get? a=some o)∧∀ h1 h2:Heap,φ h1→(∀ o,h1.get? a=some o→h2.get? a=some o)→φ h2
def HOk (H:Hp) (h:Heap):Prop:=∀ a o,H a=some o→ObjOk P w H h a o
end
section
variable {P:Program}{w:World}{H H':Hp}{h h':Heap}{a:Addr}{o:HO}
theorem ObjOk.lt (x:ObjOk P w H h a o):a<h.objs.size:=by
 cases o with
 | lst xs=>obtain ⟨_,_,_,_,e⟩:=x; exact Heap.lt_size e
 | tup xs=>obtain ⟨_,_,_,p⟩:=x; exact p.lt
 | dK kvs=>obtain ⟨_,_,_,_,o,_,_,e,_⟩:=x; exact Heap.lt_size e
 | dT kvs=>obtain ⟨_,_,_,_,o,_,_,e,_⟩:=x; exact Heap.lt_size e
 | set S n=>obtain ⟨o,_,_,_,e,_⟩:=x; exact Heap.lt_size e
 | ins C dx fs=>obtain ⟨_,_,_,e,_⟩:=x; exact Heap.lt_size e
 | own y=>obtain ⟨_,e⟩:=x; exact Heap.lt_size e
 | xd fs=>obtain ⟨_,⟨_,_,_,e,_⟩,_⟩:=x; exact Heap.lt_size e
 | rng lo hi=>obtain ⟨_,_,_,e⟩:=x; exact Heap.lt_size e
 | frz ob u=>obtain ⟨e,_⟩:=x; exact Heap.lt_size e
 | tbl ps=>exact Heap.lt_size (show h.get? a=some _ from x)
 | met f y=>exact Heap.lt_size (show h.get? a=some _ from x)
 | ext φ=>obtain ⟨_,⟨_,e⟩,_⟩:=x; exact Heap.lt_size e
theorem Paired.mapP {α β:Type}{F G:α→β→Prop}:∀ {l₁:List α}{l₂:List β},Paired F l₁ l₂→(∀ a b,F a b→G a b)→Paired G l₁ l₂
 | _,_,.nil,_=>.nil
 | _,_,.cons r t,f=>.cons (f _ _ r) (Paired.mapP t f)
theorem ObjOk.stay (x:ObjOk P w H h a o) (k:∀ b u,(b=a∨H b=some (.own a))→h.get? b=some u→h'.get? b=some u)
 (ho:∀ b,H b=some (.own a)→H' b=some (.own a)) (ht:∀ b xs,H b=some (.tup xs)→H' b=some (.tup xs)):ObjOk P w H' h' a o:=by
 induction o with
 | lst xs=>obtain ⟨z,its,n,r,e⟩:=x; exact ⟨z,its,n,r,k _ _ (.inl rfl) e⟩
 | tup xs=>obtain ⟨z,its,r,ob,e,c⟩:=x; exact ⟨z,its,r,ob,k _ _ (.inl rfl) e,c⟩
 | dK kvs=>obtain ⟨z,y,vs,r,ob,es,ep,e,c⟩:=x; exact ⟨z,y,vs,r,ob,es,ep,k _ _ (.inl rfl) e,c⟩
 | dT kvs =>
   obtain ⟨z,y,xs,r,ob,es,ep,e,c⟩:=x
   exact ⟨z,y,xs,Paired.mapP r fun p q z=>⟨z.1,ht _ _ z.2.1,z.2.2⟩,ob,es,ep,k _ _ (.inl rfl) e,c⟩
 | set S n=>obtain ⟨ob,es,ep,t,e,c⟩:=x; exact ⟨ob,es,ep,t,k _ _ (.inl rfl) e,c⟩
 | ins C dx fs =>
   obtain ⟨d,z,ne,e,mA,⟨od,es,ep,e2,c⟩,r⟩:=x
   exact ⟨ho _ d,z,ne,k _ _ (.inl rfl) e,mA,⟨od,es,ep,k _ _ (.inr d) e2,c⟩,r⟩
 | own y=>obtain ⟨ob,e⟩:=x; exact ⟨ob,k _ _ (.inl rfl) e⟩
 | xd fs=>obtain ⟨mA,⟨od,es,ep,e,c⟩,r⟩:=x; exact ⟨mA,⟨od,es,ep,k _ _ (.inl rfl) e,c⟩,r⟩
 | rng lo hi=>obtain ⟨t,u,v,e⟩:=x; exact ⟨t,u,v,k _ _ (.inl rfl) e⟩
 | frz ob u ih=>obtain ⟨e,q⟩:=x; exact ⟨k _ _ (.inl rfl) e,ih q⟩
 | tbl ps =>
   have e:h.get? a=some { cls:=.none,data:=.fields ps }:=x
   show h'.get? a=some { cls:=.none,data:=.fields ps }
   exact k a _ (.inl rfl) e
 | met f y =>
   have e:h.get? a=some (PySem.W.methodObj (.ref f) (.ref y)):=x
   show h'.get? a=some (PySem.W.methodObj (.ref f) (.ref y))
   exact k a _ (.inl rfl) e
 | ext φ=>obtain ⟨p,⟨o,e⟩,st⟩:=x; exact ⟨st _ _ p fun o q=>k _ _ (.inl rfl) q,⟨o,k _ _ (.inl rfl) e⟩,st⟩
theorem HOk.lt (x:HOk P w H h) (e:H a=some o):a<h.objs.size:=(x a o e).lt
theorem HOk.fresh (x:HOk P w H h) (e:h.objs.size≤a):H a=none:=by
 cases q:H a with
 | none=>rfl
 | some u=>exact absurd (Nat.lt_of_lt_of_le (x.lt q) e) (Nat.lt_irrefl _)
theorem HOk.kept (x:HOk P w H h) (k:∀ b u,h.get? b=some u→h'.get? b=some u):HOk P w H h':=fun a o e =>
 (x a o e).stay (fun b u _ q=>k b u q) (fun _ q=>q) fun _ _ q=>q
theorem HOk.laid (x:HOk P w H h) (k:∀ b u,h.get? b=some u→h'.get? b=some u) (hp:h.objs.size≤a) (new:ObjOk P w (upd H a o) h' a o):HOk P w (upd H a o) h':=fun b u e=>by
 have hn:=x.fresh hp
 by_cases hb:b=a
 · subst hb; rw [a27] at e; cases e; exact new
 · rw [a06 hb] at e
   exact (x b u e).stay (fun c v _ q=>k c v q) (fun c q=>by rw [a06 (a30 q hn)]; exact q) fun c xs q=>by rw [a06 (a30 q hn)]; exact q
end
def Rd (H:Hp) (a:Addr) (u:HO):Prop:=H a=some u∨∃ o,H a=some (.frz o u)
theorem Rd.ok {P:Program}{w:World}{H:Hp}{h:Heap}{a:Addr}{u:HO}(r:Rd H a u) (x:HOk P w H h):ObjOk P w H h a u:=by
 rcases r with r | ⟨o,r⟩
 · exact x a u r
 · obtain ⟨_,q⟩:=x a _ r
   exact q
def Mut:Option HO→Prop
 | some (.lst _)=>True
 | some (.dK _)=>True
 | some (.dT _)=>True
 | some (.set _ _)=>True
 | some (.ins _ _ _)=>True
 | some (.ext _)=>True
 | _=>False
section
variable {P:Program}{w:World}{H:Hp}{h h':Heap}{x e:Addr}{o':HO}
theorem HOk.write (ok:HOk P w H h) (mu:Mut (H x)) (he:e=x∨H e=some (.own x)) (k:∀ b u,b≠e→h.get? b=some u→h'.get? b=some u) (heo:∃ u,h'.get? e=some u)
 (new:ObjOk P w (upd H x o') h' x o'):HOk P w (upd H x o') h':=fun b u q=>by
 have nown:∀ c y,H c=some (.own y)→c≠x:=fun c y r z=>by subst z; rw [r] at mu; exact mu
 have ntup:∀ c xs,H c=some (.tup xs)→c≠x:=fun c xs r z=>by subst z; rw [r] at mu; exact mu
 by_cases hb:b=x
 · subst hb; rw [a27] at q; cases q; exact new
 · rw [a06 hb] at q
   by_cases hbe:b=e
   · have q':H b=some (.own x):=by
      rcases he with z | z
      · exact absurd (hbe.trans z) hb
      · rw [hbe]; exact z
     rw [q] at q'; cases q'
     obtain ⟨v,hv⟩:=heo
     exact ⟨v,by rw [hbe]; exact hv⟩
   · refine (ok b u q).stay (fun c v hc r=>k c v ?_ r) (fun c r=>by rw [a06 (nown c b r)]; exact r) fun c xs r=>by rw [a06 (ntup c xs r)]; exact r
     rcases hc with rfl | hc
     · exact hbe
     · rintro rfl
       rcases he with z | z
       · exact nown c b hc z
       · rw [hc] at z; cases z; exact hb rfl
end
structure Un (fs ex:List Addr) (H H':Hp) (h h':Heap):Prop where
 keep:∀ b o,h.get? b=some o→H b=none→b∉fs→b∉ex→h'.get? b=some o
 slot:∀ b o,h.get? b=some o→H b=none→b∈fs→b∉ex→∃ sl,h'.get? b=some { o with slots:=sl }
 free:∀ b o,h.get? b=some o→H b=none→b∉ex→H' b=none
 there:∀ b o,h.get? b=some o→b∉ex→∃ o',h'.get? b=some o'
 tups:∀ b xs,H b=some (.tup xs)→H' b=some (.tup xs)
 frzs:∀ b o u,H b=some (.frz o u)→H' b=some (.frz o u)
 tbls:∀ b ps,H b=some (.tbl ps)→∃ more,H' b=some (.tbl (ps++more))
section
variable {fs fs' ex ex':List Addr}{H H1 H2:Hp}{h h1 h2 h':Heap}{a x e:Addr}{o:HO}
theorem Un.any (u:Un fs ex H H1 h h1) {b:Addr}{ob:Obj}(q:h.get? b=some ob) (n:H b=none) (hx:b∉ex):∃ sl,h1.get? b=some { ob with slots:=sl }:=by
 by_cases hb:b∈fs
 · exact u.slot b ob q n hb hx
 · exact ⟨ob.slots,u.keep b ob q n hb hx⟩
theorem Un.kept (k:∀ b u,h.get? b=some u→h'.get? b=some u):Un fs ex H H h h' :=
 ⟨fun b ob q _ _ _=>k b ob q,fun b ob q _ _ _=>⟨ob.slots,k b ob q⟩,fun _ _ _ n _=>n,fun b ob q _=>⟨ob,k b ob q⟩,fun _ _ q=>q,fun _ _ _ q=>q,fun _ ps q=>⟨#[],by rw [q]; simp⟩⟩
theorem Un.refl:Un fs ex H H h h:=Un.kept fun _ _ q=>q
theorem Un.laid (k:∀ b u,h.get? b=some u→h'.get? b=some u) (hp:h.objs.size≤a) (hn:H a=none):Un fs ex H (upd H a o) h h' where
 keep:=fun b u q _ _ _=>k b u q
 slot:=fun b u q _ _ _=>⟨u.slots,k b u q⟩
 free:=fun b u q n _=>by rw [a06 (Nat.ne_of_lt (Nat.lt_of_lt_of_le (Heap.lt_size q) hp))]; exact n
 there:=fun b u q _=>⟨u,k b u q⟩
 tups:=fun b xs q=>by rw [a06 (a30 q hn)]; exact q
 frzs:=fun b u xs q=>by rw [a06 (a30 q hn)]; exact q
 tbls:=fun b ps q=>⟨#[],by rw [a06 (a30 q hn),q]; simp⟩
theorem Un.write (mu:Mut (H x)) (he:e=x∨H e=some (.own x)) (k:∀ b u,b≠e→h.get? b=some u→h'.get? b=some u) (heo:∃ u,h'.get? e=some u):Un fs ex H (upd H x o) h h':=by
 have hx:∀ b,H b=none→b≠x:=fun b n z=>by subst z; rw [n] at mu; exact mu
 have hb:∀ b,H b=none→b≠e:=fun b n z=>by
  subst z
  rcases he with r | r
  · exact hx b n r
  · rw [n] at r; cases r
 have hm:∀ b u,H b=some u→¬ Mut (some u)→b≠x:=fun b u q nm z=>by subst z; rw [q] at mu; exact nm mu
 refine ⟨fun b u q n _ _=>k b u (hb b n) q,fun b u q n _ _=>⟨u.slots,k b u (hb b n) q⟩,fun b u q n _=>by rw [a06 (hx b n)]; exact n,fun b u q _=>?_,
  fun b xs q=>by rw [a06 (hm b _ q fun z=>z)]; exact q,fun b u xs q=>by rw [a06 (hm b _ q fun z=>z)]; exact q,fun b ps q=>⟨#[],by rw [a06 (hm b _ q fun z=>z),q]; simp⟩⟩
 by_cases hbe:b=e
 · subst hbe; exact heo
 · exact ⟨u,k b u hbe q⟩
end
def trk (h:Heap) (H:Hp):List Addr:=(List.range h.objs.size).filter fun a=>(H a).isSome
def hidT (h:Heap) (H:Hp):Heap:=PySem.W.hideAll h (trk h H)
theorem b56 (h:Heap) (H:Hp):(hidT h H).objs.size=h.objs.size:=PySem.W.hideAll_size _ _
theorem bd7 {h:Heap}{H:Hp}{b:Addr}{o:Obj}(e:h.get? b=some o) (n:H b=none):(hidT h H).get? b=some o :=
 PySem.W.hideAll_get _ e fun hm=>by
  have q:(H b).isSome=true:=(List.mem_filter.mp hm).2
  rw [n] at q; simp at q
theorem bl2 {h:Heap}{H:Hp}{b:Addr}{o:Obj}(e:(hidT h H).get? b=some o):h.get? b=some o∧H b=none:=by
 have e':h.get? b=some o:=PySem.W.of_hideAll (trk h H) e
 refine ⟨e',?_⟩
 cases q:H b with
 | none=>rfl
 | some x =>
   have hm:b∈trk h H:=List.mem_filter.mpr ⟨List.mem_range.mpr (Heap.lt_size e'),by simp [q]⟩
   have z:(hidT h H).get? b=none:=PySem.W.hideAll_none (trk h H) hm
   rw [z] at e; cases e
def allNews (g h:Heap) (L:Addr):List (Addr×Obj):=(List.range h.objs.size).filterMap fun a=>if a=L∨(g.get? a).isSome=true then none else (h.get? a).map fun o=>(a,o)
def rest (g h:Heap) (L d:Addr):List (Addr×Obj):=(allNews g h L).filter fun p=>decide (p.1≠d)
structure Mod (K:PySem.W.Frag) (mg:Str→Option Value) (base:Heap):Prop where
 kin:K.In base
 glob:base.Ns mainGlobals mg
 blt:∃ mb,base.Ns builtinsNs mb∧∀ x:Str,x≠"__name__"→mb x=bootBuiltins x
 nolimit:base.NoLimit
structure Cx where
 prog:Program
 w:World
 K:PySem.W.Frag
 mg:Str→Option Value
 base:Heap
 A:Around
 N:List Str
 s₀:Shared
 H₀:Hp
 env:Env
 outer:List Env
 stack:List Env
 ex:List Addr
 fn:Str→Bool
 calm:Bool
 pn:List (Addr×Obj)
 xe:Value→Shared→Prop
def frs (l:List Env):List Addr:=l.filterMap (·.frame)
abbrev Cx.fs (X:Cx):List Addr:=frs X.outer
def Vis (sc:Scope) (x:Str):Prop:=sc.names.lookup x=some .local∨sc.names.lookup x=some .cell∨sc.names.lookup x=some .free
def Loc (sc:Scope) (x:Str):Prop:=sc.names.lookup x=some .local∨sc.names.lookup x=some .cell
def Look (env:Env) (h:Heap) (m:Str→Option Value) (x:Str) (u:Value):Prop :=
 (env.kindOf x=some .local∧m x=some u)∨((env.kindOf x=some .cell∨env.kindOf x=some .free)∧∃ c,env.cells.lookup x=some c∧h.IsCell c (some u))
structure Cx.Ok (X:Cx):Prop where
 mod:Mod X.K X.mg X.base
 kind:X.env.scope.kind=.function
 glob:X.env.globals=mainGlobals
 blt:X.env.builtins=builtinsNs
 above:X.s₀.heap.objs.size≤X.env.locals
 inj:∀ x y c,X.env.cells.lookup x=some c→X.env.cells.lookup y=some c→x=y
 has:∀ x,(X.env.kindOf x=some .cell∨X.env.kindOf x=some .free)→∃ c,X.env.cells.lookup x=some c
 cab:∀ x c,X.fn x=true→X.env.cells.lookup x=some c→X.s₀.heap.objs.size≤c
 hd:X.calm=true→X.A.handled=none
 frames:X.A.frames=some X.stack
 stk:X.stack=X.outer∨(X.stack=X.env::X.outer∧X.env.frame=some X.env.locals)
 exf:∀ b∈X.ex,b≠X.env.locals∧∀ x c,X.env.cells.lookup x=some c→c≠b
 bs:∀ b o,X.base.get? b=some o→X.s₀.heap.get? b=some o∧X.H₀ b=none
 bsz:X.base.objs.size≤X.s₀.heap.objs.size
 noex:∀ b o,X.base.get? b=some o→b∉X.ex
 exfs:∀ b∈X.ex,b∉X.fs
 funs:X.s₀.heap.FunFrames X.base X.outer
 frf:∀ b∈X.fs,X.H₀ b=none
structure Inv (X:Cx) (pins:List (Addr×Obj)) (σ:List (Option V)) (H:Hp) (s:Shared):Prop where
 ok:X.Ok
 os:s.os=X.s₀.os
 bare:AllBare s.gens
 base:Un X.fs X.ex X.H₀ H X.s₀.heap s.heap
 loc:∃ m,s.heap.Ns X.env.locals m∧∀ (i:Nat) (x:Str) (v:V),X.N[i]?=some x→σ[i]?=some (some v)→Vis X.env.scope x→∃ u,RelV v u∧Look X.env s.heap m x u
 cell:∀ x c,X.env.cells.lookup x=some c→∃ v,s.heap.IsCell c v
 free:H X.env.locals=none
 freeC:∀ x c,X.env.cells.lookup x=some c→H c=none
 pin:∀ p∈X.pn++pins,s.heap.get? p.1=some p.2∧H p.1=none∧p.1≠X.env.locals∧p.1∉X.fs∧∀ v,p.2.data≠.cell v
 hok:HOk X.prog X.w H s.heap
 len:σ.length=X.N.length
section
variable {X:Cx}{pins:List (Addr×Obj)}{σ:List (Option V)} {H H':Hp}{s:Shared}{h':Heap}
theorem Cx.Ok.nofr (ok:X.Ok) {b:Addr}{o:Obj}(e:X.base.get? b=some o):b∉X.fs:=fun hb=>by
 have:=(ok.funs.mem hb).1
 rw [e] at this; cases this
theorem Inv.bs (I:Inv X pins σ H s):∀ b o,X.base.get? b=some o→s.heap.get? b=some o∧H b=none:=fun b o e =>
 ⟨I.base.keep b o (I.ok.bs b o e).1 (I.ok.bs b o e).2 (I.ok.nofr e) (I.ok.noex b o e),I.base.free b o (I.ok.bs b o e).1 (I.ok.bs b o e).2 (I.ok.noex b o e)⟩
theorem Inv.bk (I:Inv X pins σ H s):∀ b o,X.base.get? b=some o→s.heap.get? b=some o:=fun b o e=>(I.bs b o e).1
theorem Inv.mod (I:Inv X pins σ H s):Mod X.K X.mg X.base:=I.ok.mod
theorem Inv.kIn (I:Inv X pins σ H s):X.K.In s.heap:=I.ok.mod.kin.keeps I.bk
theorem Inv.lt (I:Inv X pins σ H s):X.env.locals<s.heap.objs.size:=let ⟨_,hn,_⟩:=I.loc; hn.lt
theorem Inv.sz (I:Inv X pins σ H s):X.s₀.heap.objs.size≤s.heap.objs.size:=Nat.le_trans I.ok.above (Nat.le_of_lt I.lt)
theorem Inv.nofs (I:Inv X pins σ H s) {a:Addr}(h:s.heap.objs.size≤a):a∉X.fs:=fun hb=>by
 obtain ⟨_,o,ho,_⟩:=I.ok.funs.mem hb
 exact absurd (Nat.lt_of_lt_of_le (Heap.lt_size ho) (Nat.le_trans I.sz h)) (Nat.lt_irrefl _)
theorem Inv.cne (I:Inv X pins σ H s):∀ x c,X.env.cells.lookup x=some c→c≠X.env.locals:=fun x c e z=>by
 obtain ⟨v,o,ho,hd⟩:=I.cell x c e
 obtain ⟨m,⟨o',es,ep,ho',hd',_⟩,_⟩:=I.loc
 rw [z,ho'] at ho; cases ho; rw [hd'] at hd; cases hd
theorem Inv.funs (I:Inv X pins σ H s):s.heap.FunFrames X.base X.outer:=by
 have all:∀ (l:List Env),(∀ b∈frs l,b∈X.fs)→X.s₀.heap.FunFrames X.base l→s.heap.FunFrames X.base l:=by
  intro l
  induction l with
  | nil=>intro _ _; trivial
  | cons env r ih =>
    intro hs hl
    obtain ⟨hk,⟨L,o,hf,hn,ho,hd⟩,hr⟩:=hl
    have hL:L∈X.fs:=hs L (by unfold frs; rw [List.filterMap_cons,hf]; exact List.mem_cons_self)
    obtain ⟨sl,e⟩:=I.base.slot L o ho (I.ok.frf L hL) hL fun z=>I.ok.exfs L z hL
    exact ⟨hk,⟨L,_,hf,hn,e,hd⟩,ih (fun b hb=>hs b (by unfold frs; rw [List.filterMap_cons,hf]; exact List.mem_cons_of_mem _ hb)) hr⟩
 exact all X.outer (fun _ hb=>hb) I.ok.funs
theorem Inv.stack (I:Inv X pins σ H s):s.heap.FunFrames X.base X.stack:=by
 rcases I.ok.stk with e | ⟨e,hf⟩
 · rw [e]; exact I.funs
 · rw [e]
   obtain ⟨m,hn,_⟩:=I.loc
   refine .cons (by rw [I.ok.kind]; decide) hf hn ?_ I.funs
   exact Heap.get?_none_of_le (Nat.le_trans I.ok.bsz I.ok.above)
theorem Inv.stkSub (I:Inv X pins σ H s):∀ b∈frs X.stack,b∈X.env.locals::X.fs:=fun b hb=>by
 rcases I.ok.stk with e | ⟨e,hf⟩
 · rw [e] at hb; exact List.mem_cons_of_mem _ hb
 · rw [e] at hb
   unfold frs at hb
   rw [List.filterMap_cons,hf] at hb
   exact hb
theorem Inv.stkFree (I:Inv X pins σ H s):∀ b∈frs X.stack,H b=none:=fun b hb=>by
 rcases List.mem_cons.mp (I.stkSub b hb) with e | hb
 · rw [e]; exact I.free
 · obtain ⟨_,o,ho,_⟩:=I.ok.funs.mem hb
   exact I.base.free b o ho (I.ok.frf b hb) fun z=>I.ok.exfs b z hb
theorem Inv.step {g':Array GenState}{t':Nat}{d':Drawn}{ch:List Addr}(I:Inv X pins σ H s)
 (hch:∀ b∈ch,(b∈X.ex∨X.s₀.heap.objs.size≤b)∧b≠X.env.locals∧(∀ x c,X.env.cells.lookup x=some c→c≠b)∧∀ p∈X.pn++pins,p.1≠b)
 (keep:∀ b o,b≠X.env.locals→b∉X.fs→b∉ch→s.heap.get? b=some o→H b=none→h'.get? b=some o)
 (slot:∀ b o,b≠X.env.locals→b∈X.fs→b∉ch→s.heap.get? b=some o→H b=none→∃ sl,h'.get? b=some { o with slots:=sl }) (free:∀ b o,b∉ch→s.heap.get? b=some o→H b=none→H' b=none)
 (there:∀ b o,b∉ch→s.heap.get? b=some o→∃ o',h'.get? b=some o')
 (tups:∀ b xs,H b=some (.tup xs)→H' b=some (.tup xs)) (frzs:∀ b o u,H b=some (.frz o u)→H' b=some (.frz o u)) (tbls:∀ b ps,H b=some (.tbl ps)→∃ more,H' b=some (.tbl (ps++more)))
 (ns:∀ m,s.heap.Ns X.env.locals m→h'.Ns X.env.locals m) (hok:HOk X.prog X.w H' h') (hg:AllBare g') :
 Inv X pins σ H' { s with heap:=h',gens:=g',drawn:=d',toks:=t' }:=by
 have neL:∀ b o,X.s₀.heap.get? b=some o→b≠X.env.locals:=fun b o e=>Nat.ne_of_lt (Nat.lt_of_lt_of_le (Heap.lt_size e) I.ok.above)
 have neC:∀ b o,X.s₀.heap.get? b=some o→b∉X.ex→b∉ch:=fun b o e hx hb=>by
  rcases (hch b hb).1 with z | z
  · exact hx z
  · exact absurd (Nat.lt_of_lt_of_le (Heap.lt_size e) z) (Nat.lt_irrefl _)
 have cellK:∀ x c,X.env.cells.lookup x=some c→∀ v,s.heap.IsCell c v→h'.IsCell c v:=fun x c e v ⟨o,ho,hd⟩=>by
  have nch:c∉ch:=fun z=>(hch c z).2.2.1 x c e rfl
  by_cases hc:c∈X.fs
  · obtain ⟨sl,q⟩:=slot c o (I.cne x c e) hc nch ho (I.freeC x c e)
    exact ⟨_,q,hd⟩
  · exact ⟨o,keep c o (I.cne x c e) hc nch ho (I.freeC x c e),hd⟩
 refine ⟨I.ok,I.os,hg,⟨fun b o e n hb hx=>?_,fun b o e n hb hx=>?_,fun b o e n hx=>?_,fun b o e hx=>?_,fun b xs e=>tups b xs (I.base.tups b xs e),fun b o xs e=>frzs b o xs (I.base.frzs b o xs e),fun b ps e=>?_⟩,?_,fun x c e=>?_,?_,fun x c e=>?_,fun p hp=>?_,hok,I.len⟩
 · exact keep b o (neL b o e) hb (neC b o e hx) (I.base.keep b o e n hb hx) (I.base.free b o e n hx)
 · obtain ⟨sl,e1⟩:=I.base.slot b o e n hb hx
   obtain ⟨sl',e2⟩:=slot b _ (neL b o e) hb (neC b o e hx) e1 (I.base.free b o e n hx)
   exact ⟨sl',e2⟩
 · obtain ⟨o',e1⟩:=I.base.there b o e hx
   exact free b o' (neC b o e hx) e1 (I.base.free b o e n hx)
 · obtain ⟨o',e1⟩:=I.base.there b o e hx
   exact there b o' (neC b o e hx) e1
 · obtain ⟨m1,e1⟩:=I.base.tbls b ps e
   obtain ⟨m2,e2⟩:=tbls b _ e1
   exact ⟨m1++m2,by rw [e2,Array.append_assoc]⟩
 · obtain ⟨m,hn,hl⟩:=I.loc
   refine ⟨m,ns m hn,fun i x v e1 e2 e3=>?_⟩
   obtain ⟨u,r,l⟩:=hl i x v e1 e2 e3
   refine ⟨u,r,?_⟩
   rcases l with l | ⟨k,c,e,z⟩
   · exact .inl l
   · exact .inr ⟨k,c,e,cellK x c e _ z⟩
 · obtain ⟨v,z⟩:=I.cell x c e
   exact ⟨v,cellK x c e v z⟩
 · obtain ⟨m,⟨o,_,_,ho,_⟩,_⟩:=I.loc
   exact free _ o (fun z=>(hch _ z).2.1 rfl) ho I.free
 · obtain ⟨v,o,ho,hd⟩:=I.cell x c e
   exact free c o (fun z=>(hch c z).2.2.1 x c e rfl) ho (I.freeC x c e)
 · obtain ⟨e,n,ne,nf,d⟩:=I.pin p hp
   have nch:p.1∉ch:=fun z=>(hch p.1 z).2.2.2 p hp rfl
   exact ⟨keep p.1 p.2 ne nf nch e n,free p.1 p.2 nch e n,ne,nf,d⟩
theorem Inv.un {t':Nat}(I:Inv X pins σ H s) (u:Un X.fs [] H H' s.heap h') (hok:HOk X.prog X.w H' h'):Inv X pins σ H' { s with heap:=h',toks:=t' }:=by
 obtain ⟨m,⟨o,es,ep,ho,r⟩,_⟩:=id I.loc
 obtain ⟨sl,hL⟩:=u.any ho I.free (by simp)
 exact I.step (g':=s.gens) (d':=s.drawn) (ch:=[]) (fun _ z=>nomatch z) (fun b o _ hb _ e n=>u.keep b o e n hb (by simp)) (fun b o _ hb _ e n=>u.slot b o e n hb (by simp)) (fun b o _ e n=>u.free b o e n (by simp)) (fun b o _ e=>u.there b o e (by simp)) u.tups u.frzs u.tbls (fun m' hm=>by
  obtain ⟨o',es',ep',ho',r'⟩:=hm
  rw [ho] at ho'; cases ho'
  exact ⟨_,es',ep',hL,r'⟩) hok I.bare
theorem Inv.call {g':Array GenState}{t':Nat}{d':Drawn}{ch:List Addr}(I:Inv X pins σ H s) (u:Un (frs X.stack) ch H H' s.heap h') (hok:HOk X.prog X.w H' h') (hg:AllBare g')
 (hch:∀ b∈ch,(b∈X.ex∨X.s₀.heap.objs.size≤b)∧b≠X.env.locals∧(∀ x c,X.env.cells.lookup x=some c→c≠b)∧∀ p∈X.pn++pins,p.1≠b) :
 Inv X pins σ H' { s with heap:=h',gens:=g',drawn:=d',toks:=t' }:=by
 obtain ⟨m,⟨o,es,ep,ho,r⟩,_⟩:=id I.loc
 obtain ⟨sl,hL⟩:=u.any ho I.free fun z=>(hch _ z).2.1 rfl
 exact I.step (ch:=ch) hch (fun b o hL hb hc e n=>u.keep b o e n (fun z=>(List.mem_cons.mp (I.stkSub b z)).elim hL hb) hc) (fun b o _ _ hc e n=>u.any e n hc) (fun b o hc e n=>u.free b o e n hc) (fun b o hc e=>u.there b o e hc) u.tups u.frzs u.tbls (fun m' hm=>by
  obtain ⟨o',es',ep',ho',r'⟩:=hm
  rw [ho] at ho'; cases ho'
  exact ⟨_,es',ep',hL,r'⟩) hok hg
theorem Inv.turned {t':Nat}{it:Addr}(I:Inv X pins σ H s) (k:∀ b o,b≠it→s.heap.get? b=some o→h'.get? b=some o) (hn:H it=none) (hL:it≠X.env.locals)
 (h1:it∈X.ex∨X.s₀.heap.objs.size≤it) (h2:∀ x c,X.env.cells.lookup x=some c→c≠it) (h3:∀ p∈X.pn++pins,p.1≠it):Inv X pins σ H { s with heap:=h',toks:=t' }:=by
 have nit:∀ b u,H b=some u→b≠it:=fun b u e z=>by rw [z,hn] at e; cases e
 refine I.step (g':=s.gens) (d':=s.drawn) (ch:=[it]) (fun b hb=>?_) (fun b o _ _ hc e _=>k b o (fun z=>hc (by simp [z])) e) (fun b o _ _ hc e _=>⟨o.slots,k b o (fun z=>hc (by simp [z])) e⟩) (fun _ _ _ _ n=>n)
  (fun b o hc e=>⟨o,k b o (fun z=>hc (by simp [z])) e⟩) (fun _ _ e=>e) (fun _ _ _ e=>e) (fun b ps e=>⟨#[],by rw [e]; simp⟩) (fun m hm=>?_) (fun b u e=>?_) I.bare
 · have e:b=it:=by simpa using hb
   subst e
   exact ⟨h1,hL,h2,h3⟩
 · obtain ⟨o,es,ep,ho,r⟩:=hm
   exact ⟨o,es,ep,k _ o (Ne.symm hL) ho,r⟩
 · refine (I.hok b u e).stay (fun c v hc q=>k c v ?_ q) (fun _ q=>q) fun _ _ q=>q
   rcases hc with z | z
   · rw [z]; exact nit b u e
   · exact nit c _ z
theorem Inv.tok (I:Inv X pins σ H s) (t:Nat):Inv X pins σ H { s with toks:=t }:=I.un (h':=s.heap) (t':=t) Un.refl I.hok
theorem Inv.kept {t':Nat}(I:Inv X pins σ H s) (k:∀ b u,s.heap.get? b=some u→h'.get? b=some u):Inv X pins σ H { s with heap:=h',toks:=t' }:=I.un (Un.kept k) (I.hok.kept k)
theorem Inv.laid {a:Addr}{o:HO}{t':Nat}(I:Inv X pins σ H s) (k:∀ b u,s.heap.get? b=some u→h'.get? b=some u) (hp:s.heap.objs.size≤a) (new:ObjOk X.prog X.w (upd H a o) h' a o) :
 Inv X pins σ (upd H a o) { s with heap:=h',toks:=t' }:=I.un (Un.laid k hp (I.hok.fresh hp)) (I.hok.laid k hp new)
theorem Inv.write {x e:Addr}{o:HO}{t':Nat}(I:Inv X pins σ H s) (mu:Mut (H x)) (he:e=x∨H e=some (.own x)) (k:∀ b u,b≠e→s.heap.get? b=some u→h'.get? b=some u) (heo:∃ u,h'.get? e=some u)
 (new:ObjOk X.prog X.w (upd H x o) h' x o):Inv X pins σ (upd H x o) { s with heap:=h',toks:=t' }:=I.un (Un.write mu he k heo) (I.hok.write mu he k heo new)
theorem Inv.pins_of {pins':List (Addr×Obj)}(I:Inv X pins σ H s) (h:∀ p∈pins',s.heap.get? p.1=some p.2∧H p.1=none∧p.1≠X.env.locals∧p.1∉X.fs∧∀ v,p.2.data≠.cell v):Inv X pins' σ H s :=
 ⟨I.ok,I.os,I.bare,I.base,I.loc,I.cell,I.free,I.freeC,fun p hp=>(List.mem_append.mp hp).elim (fun z=>I.pin p (List.mem_append_left _ z)) (h p),I.hok,I.len⟩
theorem ax2 {N:List Str}(hN:N.Nodup) {i j:Nat}{x:Str}(a:N[i]?=some x) (b:N[j]?=some x):i=j:=by
 obtain ⟨h1,e1⟩:=List.getElem?_eq_some_iff.mp a
 obtain ⟨h2,e2⟩:=List.getElem?_eq_some_iff.mp b
 exact (List.getElem_inj hN).mp (e1.trans e2.symm)
theorem aq6 {M:Model}{A:Around}{E:Value→Shared→Prop}{i:Nat}{x:Str}{v:V}{u:Value}{Q:Unit→Shared→Prop}(I:Inv X pins σ H s) (hN:X.N.Nodup) (hi:X.N[i]?=some x) (hx:Loc X.env.scope x) (r:RelV v u)
 (h:∀ s',Inv X pins (σ.set i (some v)) H s'→(∃ a,Heap.SameBut a s.heap s'.heap∧(a=X.env.locals∨X.env.cells.lookup x=some a))→Q () s') (hf:X.fn x=true∨X.env.scope.names.lookup x=some .local:=by first | exact .inl rfl | exact .inr rfl | assumption):wpAny M A (storeName X.env x u) Q E s:=by
 obtain ⟨m,hn,hl⟩:=id I.loc
 have hcls:(X.env.scope.kind == .class || (X.env.scope.kind == .module && X.env.locals != X.env.globals))=false:=by rw [I.ok.kind]; rfl
 have hiσ:i<σ.length:=by rw [I.len]; exact (List.getElem?_eq_some_iff.mp hi).1
 have cne:=I.cne
 have tracked:∀ {a:Addr}{h':Heap},(∃ o,s.heap.get? a=some o∧H a=none)→Heap.SameBut a s.heap h'→HOk X.prog X.w H h':=fun {a h'} ha hs b ob e=>by
  obtain ⟨_,_,hfree⟩:=ha
  refine (I.hok b ob e).stay (fun c w' hc q=>(hs.2 c ?_).trans q) (fun _ q=>q) fun _ _ q=>q
  rintro rfl
  rcases hc with rfl | hc
  · rw [hfree] at e; cases e
  · rw [hfree] at hc; cases hc
 rcases hx with hk | hk
 · refine wpAny_storeName_local hk hn (fun h' hn' hs=>?_) hcls
   obtain ⟨oL,_,_,hoL,_⟩:=id hn
   refine h _ ⟨I.ok,I.os,I.bare,⟨fun b o e n hb hx=>?_,fun b o e n hb hx=>?_,I.base.free,fun b o e hx=>?_,I.base.tups,I.base.frzs,I.base.tbls⟩,⟨_,hn',fun j y v' e1 e2 e3=>?_⟩,fun y c e=>?_,I.free,I.freeC,fun p hp=>?_,tracked ⟨oL,hoL,I.free⟩ hs,by simpa using I.len⟩ ⟨_,hs,.inl rfl⟩
   · exact (hs.2 b (Nat.ne_of_lt (Nat.lt_of_lt_of_le (Heap.lt_size e) I.ok.above))).trans (I.base.keep b o e n hb hx)
   · obtain ⟨sl,e1⟩:=I.base.slot b o e n hb hx
     exact ⟨sl,(hs.2 b (Nat.ne_of_lt (Nat.lt_of_lt_of_le (Heap.lt_size e) I.ok.above))).trans e1⟩
   · obtain ⟨o',e1⟩:=I.base.there b o e hx
     exact ⟨o',(hs.2 b (Nat.ne_of_lt (Nat.lt_of_lt_of_le (Heap.lt_size e) I.ok.above))).trans e1⟩
   · by_cases hj:j=i
     · subst hj
       rw [hi] at e1; cases e1
       rw [List.getElem?_set_self hiσ] at e2
       cases e2
       exact ⟨u,r,.inl ⟨hk,by simp⟩⟩
     · rw [List.getElem?_set_ne (Ne.symm hj)] at e2
       obtain ⟨u',r',q⟩:=hl j y v' e1 e2 e3
       refine ⟨u',r',?_⟩
       rcases q with ⟨k,e⟩ | ⟨k,c,e,z⟩
       · refine .inl ⟨k,?_⟩
         have:y≠x:=fun e=>hj (ax2 hN e1 (e ▸ hi))
         simp [this,e]
       · exact .inr ⟨k,c,e,z.sameBut hs (cne y c e)⟩
   · obtain ⟨w',z⟩:=I.cell y c e
     exact ⟨w',z.sameBut hs (cne y c e)⟩
   · obtain ⟨e,n,ne,nf,d⟩:=I.pin p hp
     exact ⟨(hs.2 p.1 ne).trans e,n,ne,nf,d⟩
 · have hfn:X.fn x=true:=by
    rcases hf with z | z
    · exact z
    · rw [z] at hk; cases hk
   obtain ⟨c,hc⟩:=I.ok.has x (.inl hk)
   obtain ⟨w',z⟩:=I.cell x c hc
   refine wpAny_storeName_cell I.ok.kind hk hc z (fun h' hc' hs=>?_)
   obtain ⟨oc,hoc,hocd⟩:=id z
   refine h { s with heap:=h' } ⟨I.ok,I.os,I.bare,⟨fun b o e n hb hx=>?_,fun b o e n hb hx=>?_,I.base.free,fun b o e hx=>?_,I.base.tups,I.base.frzs,I.base.tbls⟩,⟨m,hn.sameBut hs (Ne.symm (cne x c hc)),fun j y v' e1 e2 e3=>?_⟩,fun y c' e=>?_,I.free,I.freeC,fun p hp=>?_,tracked ⟨oc,hoc,I.freeC x c hc⟩ hs,by simpa using I.len⟩ ⟨c,hs,.inr hc⟩
   · exact (hs.2 b (Nat.ne_of_lt (Nat.lt_of_lt_of_le (Heap.lt_size e) (I.ok.cab x c hfn hc)))).trans (I.base.keep b o e n hb hx)
   · obtain ⟨sl,e1⟩:=I.base.slot b o e n hb hx
     exact ⟨sl,(hs.2 b (Nat.ne_of_lt (Nat.lt_of_lt_of_le (Heap.lt_size e) (I.ok.cab x c hfn hc)))).trans e1⟩
   · obtain ⟨o',e1⟩:=I.base.there b o e hx
     exact ⟨o',(hs.2 b (Nat.ne_of_lt (Nat.lt_of_lt_of_le (Heap.lt_size e) (I.ok.cab x c hfn hc)))).trans e1⟩
   · by_cases hj:j=i
     · subst hj
       rw [hi] at e1; cases e1
       rw [List.getElem?_set_self hiσ] at e2
       cases e2
       exact ⟨u,r,.inr ⟨.inl hk,c,hc,hc'⟩⟩
     · rw [List.getElem?_set_ne (Ne.symm hj)] at e2
       obtain ⟨u',r',q⟩:=hl j y v' e1 e2 e3
       refine ⟨u',r',?_⟩
       rcases q with q | ⟨k,c',e,z'⟩
       · exact .inl q
       · refine .inr ⟨k,c',e,z'.sameBut hs ?_⟩
         rintro rfl
         exact hj (ax2 hN e1 (I.ok.inj _ _ _ e hc ▸ hi))
   · by_cases hcc:c'=c
     · subst hcc; exact ⟨_,hc'⟩
     · obtain ⟨w2,z2⟩:=I.cell y c' e
       exact ⟨w2,z2.sameBut hs hcc⟩
   · obtain ⟨e,n,ne,nf,d⟩:=I.pin p hp
     refine ⟨(hs.2 p.1 ?_).trans e,n,ne,nf,d⟩
     intro q
     rw [q,hoc] at e
     have q':oc=p.2:=Option.some.inj e
     exact d w' (by rw [← q']; exact hocd)
theorem ax3 {M:Model}{A:Around}{E:Value→Shared→Prop}{i:Nat}{x:Str}{v:V}{u:Value}{Q:Unit→Shared→Prop}(I:Inv X pins σ H s) (hN:X.N.Nodup) (hi:X.N[i]?=some x) (hx:Loc X.env.scope x) (r:RelV v u)
 (h:∀ s',Inv X pins (σ.set i (some v)) H s'→Q () s') (hf:X.fn x=true∨X.env.scope.names.lookup x=some .local:=by first | exact .inl rfl | exact .inr rfl | assumption):wpAny M A (storeName X.env x u) Q E s :=
 aq6 I hN hi hx r (fun s' I' _=>h s' I') hf
theorem Inv.call' {s':Shared}{ch:List Addr}(I:Inv X pins σ H s) (ho:s'.os=s.os) (u:Un (frs X.stack) ch H H' s.heap s'.heap) (hok:HOk X.prog X.w H' s'.heap) (hg:AllBare s'.gens)
 (hch:∀ b∈ch,(b∈X.ex∨X.s₀.heap.objs.size≤b)∧b≠X.env.locals∧(∀ x c,X.env.cells.lookup x=some c→c≠b)∧∀ p∈X.pn++pins,p.1≠b):Inv X pins σ H' s':=by
 obtain ⟨h',g',d',t',o'⟩:=s'
 have e:o'=s.os:=ho
 subst e
 exact I.call (g':=g') (t':=t') (d':=d') u hok hg hch
end
abbrev XK:=Value→Option Addr→Hp→Prop
abbrev St:=List (Option V)
abbrev VK:=V→Hp→Prop
abbrev TE:=St→Hp→VK→Prop
abbrev TT:=St→Hp→(Bool→Hp→Prop)→Prop
abbrev TA:=St→Hp→(List V→Hp→Prop)→Prop
structure Ends where
 nx:St→Hp→Prop
 rt:VK
 bk:St→Hp→Prop:=fun _ _=>False
 ct:St→Hp→Prop:=fun _ _=>False
abbrev TS:=Ends→St→Hp→Prop
def EP (X:Cx) (pins:List (Addr×Obj)) (σ:St) (Q:VK) (u:Value) (s':Shared):Prop:=∃ v H',Inv X pins σ H' s'∧RelV v u∧Q v H'
def TP (X:Cx) (pins:List (Addr×Obj)) (σ:St) (Q:Bool→Hp→Prop) (b:Bool) (s':Shared):Prop:=∃ H',Inv X pins σ H' s'∧Q b H'
def AP (X:Cx) (pins:List (Addr×Obj)) (σ:St) (Q:List V→Hp→Prop) (us:List Value) (s':Shared):Prop:=∃ vs H',Inv X pins σ H' s'∧Vals vs us∧Q vs H'
def SP (X:Cx) (pins:List (Addr×Obj)) (D:Ends) (f:Flow) (s':Shared):Prop :=
 match f with
 | .next=>∃ σ' H',Inv X pins σ' H' s'∧D.nx σ' H'
 | .brk=>∃ σ' H',Inv X pins σ' H' s'∧D.bk σ' H'
 | .cont=>∃ σ' H',Inv X pins σ' H' s'∧D.ct σ' H'
 | .ret u=>∃ v σ' H',Inv X pins σ' H' s'∧RelV v u∧D.rt v H'
def PE (X:Cx) (e:Expr) (t:TE):Prop :=
 ∀ (pins:List (Addr×Obj)) (s:Shared) (σ:St) (H:Hp) (Q:VK),Inv X pins σ H s→t σ H Q→wpAny (model X.prog X.w) X.A (eval e X.env) (EP X pins σ Q) X.xe s
def PT (X:Cx) (e:Expr) (t:TT):Prop :=
 ∀ (pins:List (Addr×Obj)) (s:Shared) (σ:St) (H:Hp) (Q:Bool→Hp→Prop),Inv X pins σ H s→t σ H Q→wpAny (model X.prog X.w) X.A (isTrue e X.env (eval e X.env)) (TP X pins σ Q) X.xe s
def PW (X:Cx) (e:Expr) (t:TT):Prop :=
 ∀ (whole:Sem Value) (pins:List (Addr×Obj)) (s:Shared) (σ:St) (H:Hp) (Q:Bool→Hp→Prop),Inv X pins σ H s→t σ H Q→wpAny (model X.prog X.w) X.A (isTrue e X.env whole) (TP X pins σ Q) X.xe s
theorem PW.pt {X:Cx}{e:Expr}{t:TT}(h:PW X e t):PT X e t:=h _
def PA (X:Cx) (es:List Expr) (t:TA):Prop :=
 ∀ (pos:Pos) (pins:List (Addr×Obj)) (s:Shared) (σ:St) (H:Hp) (Q:List V→Hp→Prop),Inv X pins σ H s→t σ H Q→wpAny (model X.prog X.w) X.A (spliced (backTo pos (starEach es X.env))) (AP X pins σ Q) X.xe s
def PS (X:Cx) (st:Stmt) (t:TS):Prop :=
 ∀ (pins:List (Addr×Obj)) (s:Shared) (σ:St) (H:Hp) (D:Ends),Inv X pins σ H s→t D σ H→wpAny (model X.prog X.w) X.A (exec st X.env) (SP X pins D) X.xe s
def PSs (X:Cx) (st:List Stmt) (t:TS):Prop :=
 ∀ (pins:List (Addr×Obj)) (s:Shared) (σ:St) (H:Hp) (D:Ends),Inv X pins σ H s→t D σ H→wpAny (model X.prog X.w) X.A (execs st X.env) (SP X pins D) X.xe s
theorem thn {α:Type}{t:Sem α}{Q Q':α→Shared→Prop}{M:Model}{A:Around}{E:Value→Shared→Prop}{s:Shared}(h:wpAny M A t Q E s) (hQ:∀ a s,Q a s→Q' a s):wpAny M A t Q' E s:=wpAny_mono h hQ fun _ _ x=>x
section
variable {X:Cx}
def tVar (i:Nat):TE:=fun σ H Q=>∃ v,σ[i]?=some (some v)∧Q v H
def tC (v:V):TE:=fun _ H Q=>Q v H
theorem bs8 {i:Nat}{x:Str}{pos:Pos}(hN:X.N[i]?=some x) (hv:Vis X.env.scope x) (hd:(x == ("__debug__":Str))=false:=by decide) (hcd:(x == ("__classdict__":Str))=false:=by decide):PE X (.Name x pos) (tVar i):=by
 intro pins s σ H Q I h
 obtain ⟨v,e,h⟩:=h
 obtain ⟨m,hn,hl⟩:=I.loc
 obtain ⟨u,r,l⟩:=hl i x v hN e hv
 have fin:EP X pins σ Q u s:=⟨v,H,I,r,h⟩
 rcases l with ⟨hk,hm⟩ | ⟨hk,c,hc,hcell⟩
 · exact wpAny_Name (wpAny_loadName_local I.ok.kind hk hn hm fin) hd
 · rcases hk with hk | hk
   · exact wpAny_Name (wpAny_loadName_cell I.ok.kind hk hc hcell fin) hd
   · exact wpAny_Name (wpAny_loadName_free I.ok.kind hk hc hcell fin hcd) hd
theorem a01 {i j pos}:PE X (.Constant (.int i) j pos) (tC (.int i)):=fun _ _ _ H _ I h=>wpAny_Constant_int ⟨.int i,H,I.tok _,⟨_,rfl⟩,h⟩
theorem aq7 {b j pos}:PE X (.Constant (.bool b) j pos) (tC (.bl b)):=fun _ _ _ H _ I h=>Constant_bool ⟨.bl b,H,I,rfl,h⟩
theorem a28 {x j pos}:PE X (.Constant (.str x) j pos) (tC (.str x)):=fun _ _ _ H _ I h=>Calls.Constant_str ⟨.str x,H,I.tok _,⟨_,rfl⟩,h⟩
def Gl (X:Cx) (x:Str):Prop:=X.env.kindOf x=some .globalImplicit
theorem b57 {E:Value→Shared→Prop}{pins:List (Addr×Obj)}{s:Shared}{σ:St} {H:Hp}{x:Str}{u:Value}{pos:Pos}{Q:Value→Shared→Prop}(I:Inv X pins σ H s) (hg:Gl X x) (hm:X.mg x=some u) (h:Q u s)
 (hd:(x == ("__debug__":Str))=false:=by decide):wpAny (model X.prog X.w) X.A (eval (.Name x pos) X.env) Q E s :=
 Calls.Name_function_global I.ok.kind hg (Calls.loadGlobal_global (by rw [I.ok.glob]; exact I.mod.glob.keeps I.bk) hm h) hd
theorem ae8 {E:Value→Shared→Prop}{pins:List (Addr×Obj)}{s:Shared}{σ:St} {H:Hp}{x:Str}{u:Value}{pos:Pos}{Q:Value→Shared→Prop}(I:Inv X pins σ H s) (hg:Gl X x) (hm:X.mg x=none) (hv:bootBuiltins x=some u) (h:Q u s)
 (hn:x≠"__name__":=by decide) (hd:(x == ("__debug__":Str))=false:=by decide):wpAny (model X.prog X.w) X.A (eval (.Name x pos) X.env) Q E s:=by
 obtain ⟨mb,h1,h2⟩:=I.mod.blt
 exact Calls.Name_function_global I.ok.kind hg (Calls.loadGlobal_builtin (by rw [I.ok.glob]; exact I.mod.glob.keeps I.bk) hm (by rw [I.ok.blt]; exact h1.keeps I.bk) ((h2 x hn).trans hv) h) hd
theorem bl3 {x:Str}{v:V}{u:Value}{pos:Pos}(hg:Gl X x) (hm:X.mg x=none) (hv:bootBuiltins x=some u) (r:RelV v u) (hn:x≠"__name__":=by decide) (hd:(x == ("__debug__":Str))=false:=by decide):PE X (.Name x pos) (tC v) :=
 fun _ _ _ H _ I h=>ae8 I hg hm hv ⟨v,H,I,r,h⟩ hn hd
variable {a b:Expr}{ta tb:TE}{pos:Pos}
def PC (X:Cx) (op:CmpOp) (a b:Expr) (t:TE):Prop :=
 ∀ (pins:List (Addr×Obj)) (s:Shared) (σ:St) (H:Hp) (Q:VK),Inv X pins σ H s→t σ H Q →
  wpAny (model X.prog X.w) X.A (eval a X.env) (fun v s₁=>wpAny (model X.prog X.w) X.A (eval b X.env) (fun u s₂=>wpAny (model X.prog X.w) X.A (compareOp op v u) (EP X pins σ Q) X.xe s₂) X.xe s₁) X.xe s
theorem nobehind (b:Expr) {op:CmpOp}(h:op≠.In) (h2:op≠.NotIn):behindInMarks op b=false:=by
 have e1:(op == CmpOp.In)=false:=by cases op <;> first | rfl | exact absurd rfl h
 have e2:(op == CmpOp.NotIn)=false:=by cases op <;> first | rfl | exact absurd rfl h2
 cases b <;> simp [behindInMarks,e1,e2]
def tB (t:TE):TT:=fun σ H Q=>t σ H fun x H1=>∃ c,x=.bl c∧Q c H1
theorem bs9 {op:CmpOp}{t:TE}(h:PC X op a b t) (h1:behindInMarks op b=false:=by first | exact nobehind _ (by decide) (by decide) | rfl):PT X (.Compare a [op] [b] pos) (tB t):=by
 intro pins s σ H Q I hw
 refine wpAny_isTrue_Compare1 (thn (h pins s σ H _ I hw) fun v s1 h1=>thn h1 fun u s2 h2=>thn h2 fun c s3 ⟨x,H1,I1,r1,q1⟩=>?_) h1
 obtain ⟨d,rfl,q⟩:=q1
 cases r1
 exact wpAny_truthy_bool ⟨H1,I1,q⟩
variable {tA tB':TT}{rest:List Expr}
def tAnd (t u:TT):TT:=fun σ H Q=>t σ H fun c H1=>if c=true then u σ H1 Q else Q false H1
def tOr (t u:TT):TT:=fun σ H Q=>t σ H fun c H1=>if c=true then Q true H1 else u σ H1 Q
def tNot (t:TT):TT:=fun σ H Q=>t σ H fun c H1=>Q (!c) H1
theorem am2 (ha:PT X a tA):PW X (.BoolOp .And [a] pos) tA:=by
 intro wh pins s σ H Q I h
 refine isTrue_and (thn (ha pins s σ H Q I h) fun c s1 e=>?_)
 cases c with
 | true=>exact isTrue_and_nil e
 | false=>exact e
theorem ah7 (ha:PT X a tA):PW X (.BoolOp .Or [a] pos) tA:=by
 intro wh pins s σ H Q I h
 refine isTrue_or (thn (ha pins s σ H Q I h) fun c s1 e=>?_)
 cases c with
 | false=>exact isTrue_or_nil e
 | true=>exact e
theorem aq8 (ha:PT X a tA) (hb:PW X (.BoolOp .And (b::rest) pos) tB'):PW X (.BoolOp .And (a::b::rest) pos) (tAnd tA tB'):=by
 intro wh pins s σ H Q I h
 refine isTrue_and (thn (ha pins s σ H _ I h) fun c s1 ⟨H1,I1,q1⟩=>?_)
 cases c with
 | true=>exact hb wh pins s1 σ H1 Q I1 q1
 | false=>exact ⟨H1,I1,q1⟩
theorem ak6 (ha:PT X a tA) (hb:PW X (.BoolOp .Or (b::rest) pos) tB'):PW X (.BoolOp .Or (a::b::rest) pos) (tOr tA tB'):=by
 intro wh pins s σ H Q I h
 refine isTrue_or (thn (ha pins s σ H _ I h) fun c s1 ⟨H1,I1,q1⟩=>?_)
 cases c with
 | true=>exact ⟨H1,I1,q1⟩
 | false=>exact hb wh pins s1 σ H1 Q I1 q1
theorem b58 (ha:PT X a tA):PT X (.UnaryOp .Not a pos) (tNot tA):=by
 intro pins s σ H Q I h
 exact isTrue_not (ha pins s σ H (fun c H1=>Q (!c) H1) I h)
def tAndV (ta tb:TE):TE:=fun σ H Q=>ta σ H fun x H1=>∃ c,x=.bl c∧if c=true then tb σ H1 Q else Q (.bl false) H1
theorem bt0 {op}{t:TE}(h:PE X a t):PE X (.BoolOp op [a] pos) t:=fun pins s σ H Q I hw=>BoolOp_one (h pins s σ H Q I hw)
theorem bt1 (ha:PE X a ta) (hb:PE X (.BoolOp .And (b::rest) pos) tb):PE X (.BoolOp .And (a::b::rest) pos) (tAndV ta tb):=by
 intro pins s σ H Q I h
 refine BoolOp_and (thn (ha pins s σ H _ I h) fun v s1 ⟨x,H1,I1,r1,q1⟩=>?_)
 obtain ⟨c,rfl,q1⟩:=q1
 cases r1
 refine wpAny_truthy_bool ?_
 cases c with
 | true=>exact hb pins s1 σ H1 Q I1 q1
 | false=>exact ⟨.bl false,H1,I1,rfl,q1⟩
end
def SqL (K:PySem.W.Frag) (H:Hp) (a:Addr) (xs:List V):Prop :=
 Rd H a (.lst xs) ∨
  ∃ (o:Obj) (its:Array Value) (n:Nat),K.lookup a=some o∧o.cls=.type "list"∧o.dict=none∧o.data=.seq its n∧its.size≤sizeLine∧Vals xs its.toList
def SqT (K:PySem.W.Frag) (H:Hp) (a:Addr) (xs:List V):Prop :=
 Rd H a (.tup xs) ∨
  ∃ (o:Obj) (its:Array Value) (n:Nat),K.lookup a=some o∧o.cls=.type "tuple"∧o.data=.seq its n∧its.size≤sizeLine∧Vals xs its.toList
def absV:Value→Option V
 | .none=>some .non
 | .bool b=>some (.bl b)
 | .int i _=>some (.int i)
 | .str x _=>some (.str x)
 | .bytes b _=>some (.byt b)
 | .float b _=>some (.flt b)
 | .ref a=>some (.ref a)
 | .type n=>some (.ty n)
 | _=>none
theorem RelV.abs {x:V}{u:Value}(r:RelV x u):absV u=some x:=by
 cases x with
 | non=>cases r; rfl
 | bl _=>cases r; rfl
 | int _=>obtain ⟨t,rfl⟩:=r; rfl
 | str _=>obtain ⟨t,rfl⟩:=r; rfl
 | byt _=>obtain ⟨t,rfl⟩:=r; rfl
 | flt _=>obtain ⟨t,rfl⟩:=r; rfl
 | ref _=>cases r; rfl
 | ty _=>cases r; rfl
theorem RelV.inj {x y:V}{u:Value}(r:RelV x u) (q:RelV y u):x=y:=Option.some.inj (r.abs.symm.trans q.abs)
theorem Vals.inj:∀ {xs ys:List V}{us:List Value},Vals xs us→Vals ys us→xs=ys
 | _,_,_,.nil,.nil=>rfl
 | _,_,_,.cons r t,.cons r' t'=>by rw [r.inj r',Vals.inj t t']
section
variable {X:Cx}{pins:List (Addr×Obj)}{σ:St} {H:Hp}{s:Shared}{a:Addr}{xs ys:List V}
theorem SqL.of {K:PySem.W.Frag}(h:H a=some (.lst xs)):SqL K H a xs:=.inl (.inl h)
theorem SqT.of {K:PySem.W.Frag}(h:H a=some (.tup xs)):SqT K H a xs:=.inl (.inl h)
theorem Inv.list (I:Inv X pins σ H s) (h:SqL X.K H a xs):∃ its:List Value,Vals xs its∧PlainL s.heap a its.toArray∧xs.length≤sizeLine:=by
 rcases h with h | ⟨o,its,n,hk,hc,hd,hs,hz,r⟩
 · obtain ⟨z,its,n,r,e⟩:=h.ok I.hok
   exact ⟨its,r,⟨_,n,e,rfl,rfl,rfl⟩,z⟩
 · refine ⟨its.toList,r,⟨o,n,I.kIn a o hk,hc,hd,by simpa using hs⟩,?_⟩
   have e:=r.length
   simp only [Array.length_toList] at e
   omega
theorem Inv.tuple (I:Inv X pins σ H s) (h:SqT X.K H a xs):∃ its:List Value,Vals xs its∧IsTup s.heap a its.toArray∧xs.length≤sizeLine:=by
 rcases h with h | ⟨o,its,n,hk,hc,hs,hz,r⟩
 · obtain ⟨z,its,r,p⟩:=h.ok I.hok
   exact ⟨its,r,p,z⟩
 · refine ⟨its.toList,r,⟨o,I.kIn a o hk,hc,n,by simpa using hs⟩,?_⟩
   have e:=r.length
   simp only [Array.length_toList] at e
   omega
theorem Inv.list_inj (I:Inv X pins σ H s) (h:SqL X.K H a xs) (h':SqL X.K H a ys):xs=ys:=by
 obtain ⟨its,r,⟨o,n,e,_,_,d⟩,_⟩:=I.list h
 obtain ⟨its',r',⟨o',n',e',_,_,d'⟩,_⟩:=I.list h'
 rw [e] at e'; cases e'
 rw [d] at d'
 injection d' with d1 _
 have:its=its':=by simpa using congrArg Array.toList d1
 subst this
 exact r.inj r'
theorem Inv.tuple_inj (I:Inv X pins σ H s) (h:SqT X.K H a xs) (h':SqT X.K H a ys):xs=ys:=by
 obtain ⟨its,r,⟨o,e,_,n,d⟩,_⟩:=I.tuple h
 obtain ⟨its',r',⟨o',e',_,n',d'⟩,_⟩:=I.tuple h'
 rw [e] at e'; cases e'
 rw [d] at d'
 injection d' with d1 _
 have:its=its':=by simpa using congrArg Array.toList d1
 subst this
 exact r.inj r'
end
abbrev Cx.wish (X:Cx) (E:Value→Shared→Prop):Cx:={ X with xe:=E }
abbrev Cx.nox (X:Cx):Cx:=X.wish fun _ _=>False
theorem Cx.Ok.wish {X:Cx}(ok:X.Ok) (E:Value→Shared→Prop):(X.wish E).Ok :=
 ⟨ok.mod,ok.kind,ok.glob,ok.blt,ok.above,ok.inj,ok.has,ok.cab,ok.hd,ok.frames,ok.stk,ok.exf,ok.bs,ok.bsz,ok.noex,ok.exfs,ok.funs,ok.frf⟩
theorem Cx.Ok.unwish {X:Cx}{E:Value→Shared→Prop}(ok:(X.wish E).Ok):X.Ok :=
 ⟨ok.mod,ok.kind,ok.glob,ok.blt,ok.above,ok.inj,ok.has,ok.cab,ok.hd,ok.frames,ok.stk,ok.exf,ok.bs,ok.bsz,ok.noex,ok.exfs,ok.funs,ok.frf⟩
section
variable {X:Cx}{pins:List (Addr×Obj)}{σ:St} {H:Hp}{s:Shared}{E:Value→Shared→Prop}
theorem Inv.wish (I:Inv X pins σ H s) (E:Value→Shared→Prop):Inv (X.wish E) pins σ H s:=⟨I.ok.wish E,I.os,I.bare,I.base,I.loc,I.cell,I.free,I.freeC,I.pin,I.hok,I.len⟩
theorem Inv.unwish (I:Inv (X.wish E) pins σ H s):Inv X pins σ H s:=⟨I.ok.unwish,I.os,I.bare,I.base,I.loc,I.cell,I.free,I.freeC,I.pin,I.hok,I.len⟩
theorem SP.unwish {D:Ends}{f:Flow}{s':Shared}(h:SP (X.wish E) pins D f s'):SP X pins D f s':=by
 cases f with
 | next=>obtain ⟨σ',H',I,q⟩:=h; exact ⟨σ',H',I.unwish,q⟩
 | brk=>obtain ⟨σ',H',I,q⟩:=h; exact ⟨σ',H',I.unwish,q⟩
 | cont=>obtain ⟨σ',H',I,q⟩:=h; exact ⟨σ',H',I.unwish,q⟩
 | ret u=>obtain ⟨v,σ',H',I,r,q⟩:=h; exact ⟨v,σ',H',I.unwish,r,q⟩
theorem PSs.nox {st:List Stmt}{t:TS}(h:PSs X.nox st t):PSs X st t:=fun pins s σ H D I hw =>
 wpAny_mono (h pins s σ H D (I.wish _) hw) (fun _ _ q=>q.unwish) fun _ _ z=>False.elim z
end
section
variable {X:Cx}{st:Stmt}{rest:List Stmt}{t u:TS}{e:Expr}{te:TE}{pos:Pos}
def tNext:TS:=fun D σ H=>D.nx σ H
def tSeq (t u:TS):TS:=fun D σ H=>t { D with nx:=u D } σ H
theorem a40:PSs X [] tNext:=fun _ _ σ H _ I h=>wpAny_execs_nil ⟨σ,H,I,h⟩
theorem a03 (h1:PS X st t) (h2:PSs X rest u):PSs X (st::rest) (tSeq t u):=by
 intro pins s σ H D I h
 refine wpAny_execs_cons (thn (h1 pins s σ H { D with nx:=u D } I h) fun f s1 q=>?_)
 cases f with
 | next =>
   obtain ⟨σ',H',I',q⟩:=q
   exact h2 pins s1 σ' H' D I' q
 | ret v=>exact q
 | brk=>exact q
 | cont=>exact q
theorem a05 (h1:PS X st t):PSs X [st] t:=by
 intro pins s σ H D I h
 refine wpAny_execs_cons (thn (h1 pins s σ H D I h) fun f s1 q=>?_)
 cases f with
 | next=>exact wpAny_execs_nil q
 | ret v=>exact q
 | brk=>exact q
 | cont=>exact q
theorem Inv.quiet {pins:List (Addr×Obj)}{σ:St} {H:Hp}{s:Shared}(I:Inv X pins σ H s):interactive X.env=false:=by simp [interactive,I.ok.kind]
def tDrop (te:TE):TS:=fun D σ H=>te σ H fun _ H1=>D.nx σ H1
theorem a67 (he:PE X e te) (hs:swapsWith e none pos.line X.env=pure false:=by rfl):PS X (.Expr e pos) (tDrop te):=by
 intro pins s σ H D I h
 exact wpAny_Expr_any (thn (he pins s σ H _ I h) fun v s1 ⟨x,H1,I1,r1,q1⟩=>⟨σ,H1,I1,q1⟩) I.quiet hs
def tRet (te:TE):TS:=fun D σ H=>te σ H D.rt
theorem a41 (he:PE X e te):PS X (.Return (some e) pos) (tRet te):=by
 intro pins s σ H D I h
 exact wpAny_Return_some (thn (he pins s σ H _ I h) fun v s1 ⟨x,H1,I1,r1,q1⟩=>⟨x,σ,H1,I1,r1,q1⟩)
def tIfS (c:TT) (t u:TS):TS:=fun D σ H=>c σ H fun b H1=>if b=true then t D σ H1 else u D σ H1
theorem a68 {c:Expr}{a b:List Stmt}{tc:TT}(hc:PT X c tc) (ha:PSs X a t) (hb:PSs X b u):PS X (.If c a b pos) (tIfS tc t u):=by
 intro pins s σ H D I h
 refine wpAny_If (thn (hc pins s σ H _ I h) fun d s1 ⟨H1,I1,q1⟩=>?_)
 cases d with
 | true=>exact ha pins s1 σ H1 D I1 q1
 | false=>exact hb pins s1 σ H1 D I1 q1
end
abbrev TG:=V→St→Hp→(St→Hp→Prop)→Prop
abbrev TGs:=List V→St→Hp→(St→Hp→Prop)→Prop
def PG (X:Cx) (target:Expr) (t:TG):Prop :=
 ∀ (pins:List (Addr×Obj)) (s:Shared) (σ:St) (H:Hp) (v:V) (u:Value) (Q:St→Hp→Prop),Inv X pins σ H s→RelV v u→t v σ H Q →
  wpAny (model X.prog X.w) X.A (assign target X.env u) (fun _ s'=>∃ σ' H',Inv X pins σ' H' s'∧Q σ' H') X.xe s
def PGs (X:Cx) (ts:List Expr) (t:TGs):Prop :=
 ∀ (pins:List (Addr×Obj)) (s:Shared) (σ:St) (H:Hp) (vs:List V) (us:List Value) (Q:St→Hp→Prop),Inv X pins σ H s→Vals vs us→t vs σ H Q →
  wpAny (model X.prog X.w) X.A (assignInOrder ((assignEach ts X.env).map (·.2)) us) (fun _ s'=>∃ σ' H',Inv X pins σ' H' s'∧Q σ' H') X.xe s
abbrev TSet:=V→V→V→Hp→(Hp→Prop)→Prop
def PSet (X:Cx) (t:TSet):Prop :=
 ∀ (pins:List (Addr×Obj)) (s:Shared) (σ:St) (H:Hp) (o i v:V) (ov iv u:Value) (Q:Hp→Prop),Inv X pins σ H s→RelV o ov→RelV i iv→RelV v u→t o i v H Q →
  wpAny (model X.prog X.w) X.A (setItem ov iv u) (fun _ s'=>∃ H',Inv X pins σ H' s'∧Q H') X.xe s
section
variable {X:Cx}{pos:Pos}
def gName (i:Nat):TG:=fun v σ H Q=>Q (σ.set i (some v)) H
theorem a38 {i:Nat}{x:Str}(hN:X.N.Nodup) (hi:X.N[i]?=some x) (hx:Loc X.env.scope x) (hf:X.fn x=true∨X.env.scope.names.lookup x=some .local:=by first | exact .inl rfl | exact .inr rfl | assumption):PG X (.Name x pos) (gName i):=by
 intro pins s σ H v u Q I r h
 exact wpAny_assign_Name (ax3 I hN hi hx r (fun s' I'=>⟨_,H,I',h⟩) hf)
def gNil:TGs:=fun vs σ H Q=>vs=[]∧Q σ H
def gCons (t:TG) (u:TGs):TGs:=fun vs σ H Q=>∃ v r,vs=v::r∧t v σ H fun σ' H'=>u r σ' H' Q
theorem ab0:PGs X [] gNil:=by
 intro pins s σ H vs us Q I r h
 obtain ⟨e,h⟩:=h
 subst e
 cases r
 exact assignInOrder_nil ⟨σ,H,I,h⟩
theorem a54 {e:Expr}{es:List Expr}{t:TG}{u:TGs}(h1:PG X e t) (h2:PGs X es u)
 (hs:(assignEach (e::es) X.env).map (·.2)=assign e X.env::(assignEach es X.env).map (·.2):=by rfl):PGs X (e::es) (gCons t u):=by
 intro pins s σ H vs us Q I r h
 obtain ⟨v,vr,e1,h⟩:=h
 subst e1
 cases r with
 | cons r rr =>
   rw [hs]
   refine assignInOrder_cons (thn (h1 pins s σ H _ _ _ I r h) fun _ s1 ⟨σ1,H1,I1,q1⟩=>?_)
   exact h2 pins s1 σ1 H1 _ _ Q I1 rr q1
def gTup (K:PySem.W.Frag) (n:Nat) (t:TGs):TG:=fun v σ H Q=>∃ a xs,v=.ref a∧SqT K H a xs∧xs.length=n∧t xs σ H Q
theorem bt2 {es:List Expr}{k:Nat}{t:TGs}{n:Nat}(hc:X.calm=true) (h:PGs X es t)
 (hn:(assignEach es X.env).length=n:=by rfl) (hst:(assignEach es X.env).findIdx? (·.1)=none:=by rfl):PG X (.Tuple es k pos) (gTup X.K n t):=by
 intro pins s σ H v u Q I r hw
 obtain ⟨a,xs,e1,hq,hl,hw⟩:=hw
 subst e1
 cases r
 obtain ⟨its,rv,ht,hz⟩:=I.tuple hq
 refine assign_Tuple_tuple (I.ok.hd hc) ht (by simp [hn,←hl,rv.length]) hst fun h' hx=>?_
 have I1:Inv X pins σ H { s with heap:=h' }:=I.kept (t':=s.toks) fun b o e=>hx b o (Nat.ne_of_lt (Heap.lt_size e)) e
 exact h pins _ σ H xs _ Q I1 (by simpa using rv) hw
def gSub (to ti:TE) (t:TSet):TG:=fun v σ H Q=>to σ H fun o H1=>ti σ H1 fun i H2=>t o i v H2 fun H3=>Q σ H3
theorem ah8 {o i:Expr}{to ti:TE}{t:TSet}(ho:PE X o to) (hi:PE X i ti) (hs:PSet X t)
 (ha:∀ v,assign (.Subscript o i pos) X.env v=(do
  let ov←holding [v] (eval o X.env)
  let iv←holding [v,ov] (eval i X.env)
  standAt pos
  holding [v,ov,iv] (setItem ov iv v)
  release [v,ov,iv] []):=by intro _; rfl):PG X (.Subscript o i pos) (gSub to ti t):=by
 intro pins s σ H v u Q I r h
 rw [ha]
 refine wpAny_bind (wpAny_holding (thn (ho pins s σ H _ I h) fun ov s1 ⟨x,H1,I1,r1,q1⟩=>?_))
 refine wpAny_bind (wpAny_holding (thn (hi pins s1 σ H1 _ I1 q1) fun iv s2 ⟨y,H2,I2,r2,q2⟩=>?_))
 refine wpAny_bind (wpAny_standAt (wpAny_bind (wpAny_holding (thn (hs pins s2 σ H2 x y v ov iv u _ I2 r1 r2 r q2) fun _ s3 ⟨H3,I3,q3⟩=>?_))))
 exact wpAny_release ⟨σ,H3,I3,q3⟩
def tAsg (te:TE) (g:TG):TS:=fun D σ H=>te σ H fun x H1=>g x σ H1 D.nx
theorem ag3 {tg e:Expr}{te:TE}{g:TG}(he:PE X e te) (hg:PG X tg g) (hs:swapsWithSole [tg] e pos.line X.env=pure false:=by rfl) (hw:swappedStores [tg] e X.env=pure none:=by rfl)
 (h1:(assignEach [tg] X.env).map (·.2)=[assign tg X.env]:=by rfl):PS X (.Assign [tg] e pos) (tAsg te g):=by
 intro pins s σ H D I h
 refine wpAny_Assign_stores (thn (he pins s σ H _ I h) fun v s1 ⟨x,H1,I1,r1,q1⟩=>?_) hs hw
 rw [h1]
 exact thn (hg pins s1 σ H1 x v _ I1 r1 q1) fun _ s2 q=>q
theorem a45 {i:Nat}{x:Str}{e:Expr}{te:TE}{pos':Pos}(hN:X.N.Nodup) (hi:X.N[i]?=some x) (hx:Loc X.env.scope x) (he:PE X e te) (hs:swapsWith e (some (.Name x pos')) pos.line X.env=pure false:=by rfl) (hf:X.fn x=true∨X.env.scope.names.lookup x=some .local:=by first | exact .inl rfl | exact .inr rfl | assumption) :
 PS X (.Assign [.Name x pos'] e pos) (tAsg te (gName i)):=by
 intro pins s σ H D I h
 refine wpAny_Assign_Name (thn (he pins s σ H _ I h) fun v s1 ⟨y,H1,I1,r1,q1⟩=>?_) hs
 exact ax3 I1 hN hi hx r1 (fun s2 I2=>⟨_,H1,I2,q1⟩) hf
end
section
variable {X:Cx}{pos:Pos}
def tWhile (c:TT) (tb:TS):TS:=fun D σ H=>∃ W:Nat→St→Hp→Prop,(∃ m,W m σ H)∧∀ m σ H,W m σ H →
 c σ H fun b H1=>if b=true then ∃ N:St→Hp→Prop,(∀ σ' H',N σ' H'→∃ m',m'<m∧W m' σ' H')∧tb { D with nx:=N,ct:=N,bk:=D.nx } σ H1 else D.nx σ H1
theorem ax4 {c:Expr}{body:List Stmt}{tc:TT}{tb:TS}(hp:PassesOwn (model X.prog X.w) X.A X.env X.xe) (hc:PT X c tc) (hb:PSs X body tb):PS X (.While c body [] pos) (tWhile tc tb):=by
 intro pins s σ H D I h
 obtain ⟨W,⟨m0,w0⟩,turn⟩:=h
 refine wpAny_While (codeAny_whileLoop (fun n s'=>∃ σ' H',Inv X pins σ' H' s'∧W n σ' H') ?_ m0 ⟨σ,H,I,w0⟩)
 rintro n s1 ⟨σ1,H1,I1,w1⟩
 refine wpAny_passesOwn hp (thn (hc pins s1 σ1 H1 _ I1 (turn n σ1 H1 w1)) fun b s2 ⟨H2,I2,q2⟩=>?_)
 cases b with
 | true =>
   obtain ⟨N,hN,q2⟩:=q2
   rw [if_pos rfl]
   refine wpAny_passesOwn hp (thn (hb pins s2 σ1 H2 _ I2 q2) fun f s3 q3=>?_)
   cases f with
   | next =>
     obtain ⟨σ3,H3,I3,n3⟩:=q3
     obtain ⟨m',hm,w3⟩:=hN σ3 H3 n3
     exact ⟨m',hm,σ3,H3,I3,w3⟩
   | cont =>
     obtain ⟨σ3,H3,I3,n3⟩:=q3
     obtain ⟨m',hm,w3⟩:=hN σ3 H3 n3
     exact ⟨m',hm,σ3,H3,I3,w3⟩
   | brk=>exact q3
   | ret v=>exact q3
 | false =>
   rw [if_neg Bool.false_ne_true]
   exact wpAny_execs_nil ⟨σ1,H2,I2,q2⟩
end
structure It where
 go:Nat→Hp→Prop
 yld:Nat→Hp→V→Hp→Prop
 stop:Nat→Hp→Prop
def FpOk (X:Cx) (pins:List (Addr×Obj)) (H:Hp) (b:Addr):Prop :=
 H b=none∧b≠X.env.locals∧b∉X.fs∧(b∈X.ex∨X.s₀.heap.objs.size≤b)∧(∀ x c,X.env.cells.lookup x=some c→c≠b)∧∀ p∈X.pn++pins,p.1≠b
theorem Inv.fpOk {X:Cx}{pins:List (Addr×Obj)}{σ:St} {H H':Hp}{s:Shared}{b:Addr}(I:Inv X pins σ H s) (hb:s.heap.objs.size≤b) (hn:H' b=none):FpOk X pins H' b:=by
 refine ⟨hn,Nat.ne_of_gt (Nat.lt_of_lt_of_le I.lt hb),I.nofs hb,.inr (Nat.le_trans I.sz hb),fun x c e z=>?_,fun p hp z=>?_⟩
 · obtain ⟨v,q⟩:=I.cell x c e
   exact absurd (Nat.lt_of_lt_of_le q.lt (by rw [z]; exact hb)) (Nat.lt_irrefl _)
 · exact absurd (Nat.lt_of_lt_of_le (Heap.lt_size (I.pin p hp).1) (by rw [z]; exact hb)) (Nat.lt_irrefl _)
structure Turn (P:Program) (w:World) (K:PySem.W.Frag) (tg:Expr) (J:It) (fp:List Addr) (it:Addr) (tn:Nat→Heap→Prop):Prop where
 mem:it∈fp
 obj:∀ i h,tn i h→∀ b∈fp,∃ o,h.get? b=some o∧∀ v,o.data≠.cell v
 keep:∀ i h h',tn i h→(∀ b∈fp,∀ o,h.get? b=some o→h'.get? b=some o)→tn i h'
 item:∀ (X:Cx),X.prog=P→X.w=w→X.K=K→X.calm=true→∀ (i:Nat) (pins:List (Addr×Obj)) (s:Shared) (σ:St) (H:Hp) (E:Value→Shared→Prop),Inv X pins σ H s→(∀ b∈fp,FpOk X pins H b)→tn i s.heap→J.go i H →
  wpAny (model P w) X.A (pyNext (.ref it)) (fun r s1=>∃ u,r=some u ∧
   wpAny (model P w) X.A (letOwnedTupleGo tg (.ref it) u) (fun _ s2=>∃ x H',Inv X pins σ H' s2∧RelV x u∧J.yld i H x H'∧tn (i+1) s2.heap∧∀ b∈fp,H' b=none) E s1) E s
 done:∀ (X:Cx),X.prog=P→X.w=w→X.K=K→X.calm=true→∀ (i:Nat) (pins:List (Addr×Obj)) (s:Shared) (σ:St) (H:Hp) (E:Value→Shared→Prop),Inv X pins σ H s→(∀ b∈fp,FpOk X pins H b)→tn i s.heap→J.stop i H →
  wpAny (model P w) X.A (pyNext (.ref it)) (fun r s1=>r=none∧Inv X pins σ H s1) E s
 self:∀ (A:Around) (i:Nat) (s:Shared) (Q:Value→Shared→Prop) (E:Value→Shared→Prop),tn i s.heap→Q (.ref it) s→wpAny (model P w) A (pyIter (.ref it)) Q E s
abbrev TI:=St→Hp→(It→Hp→Prop)→Prop
def PIE (X:Cx) (pins:List (Addr×Obj)) (σ:St) (tg:Expr) (R:It→Hp→Prop) (itv:Value) (s2:Shared):Prop :=
 ∃ (it:Addr) (fp:List Addr) (tn:Nat→Heap→Prop) (J:It) (H':Hp),itv=.ref it∧Inv X pins σ H' s2∧Turn X.prog X.w X.K tg J fp it tn∧tn 0 s2.heap∧(∀ b∈fp,FpOk X pins H' b)∧R J H'
def PI (X:Cx) (tg iter:Expr) (wi:TI):Prop :=
 ∀ (pins:List (Addr×Obj)) (s:Shared) (σ:St) (H:Hp) (R:It→Hp→Prop),Inv X pins σ H s→wi σ H R →
  wpAny (model X.prog X.w) X.A (eval iter X.env) (fun v s1=>wpAny (model X.prog X.w) X.A (pyIter v) (PIE X pins σ tg R) X.xe s1) X.xe s
theorem bd8 {M:Model}{A:Around}{E:Value→Shared→Prop}{s:Shared}{tg:Expr}{it:Addr}{u:Value}{o:Obj}{n:String}{vs:Array Value}{Q:Unit→Shared→Prop}(ho:s.heap.get? it=some o) (hc:o.cls=.type n) (hd:o.data=.fields vs)
 (hn:["enumerate","zip","dict_itemiterator","dict_reverseitemiterator","odict_iterator","itertools.zip_longest","itertools.pairwise"].contains n=false) (hQ:Q () s):wpAny M A (letOwnedTupleGo tg (.ref it) u) Q E s:=by
 unfold letOwnedTupleGo
 cases tg <;> first
  | exact wpAny_pure hQ
  | (cases u <;> first
   | exact wpAny_pure hQ
   | (refine wpAny_bind (wpAny_load ho ?_)
      rw [hc,hd]
      show wpAny M A (if (["enumerate","zip","dict_itemiterator","dict_reverseitemiterator","odict_iterator","itertools.zip_longest","itertools.pairwise"].contains n && vs[0]? == some (rawInt _))=true then _ else _) Q E s
      rw [if_neg (by intro h; rw [hn,Bool.false_and] at h; cases h)]
      exact wpAny_pure hQ))
def Itl (K:PySem.W.Frag) (a:Addr):It :=
 ⟨fun i H=>∃ xs x,SqL K H a xs∧xs[i]?=some x,fun i H x H'=>H'=H∧∀ xs,SqL K H a xs→xs[i]?=some x,fun i H=>∃ xs,SqL K H a xs∧xs.length≤i⟩
def Itt (K:PySem.W.Frag) (a:Addr):It :=
 ⟨fun i H=>∃ xs x,SqT K H a xs∧xs[i]?=some x,fun i H x H'=>H'=H∧∀ xs,SqT K H a xs→xs[i]?=some x,fun i H=>∃ xs,SqT K H a xs∧xs.length≤i⟩
def Itr (lo:Int) (n:Nat):It:=⟨fun i _=>i<n,fun i H x H'=>H'=H∧x=.int (lo+i),fun i _=>n≤i⟩
theorem b59 {P:Program}{w:World}{K:PySem.W.Frag}{tg:Expr}(a it:Addr):Turn P w K tg (Itl K a) [it] it (fun i h=>h.IsListIter it a i) where
 mem:=by simp
 obj:=fun i h st b hb=>by
  have e:b=it:=by simpa using hb
  subst e
  obtain ⟨o,e,c,d⟩:=st
  exact ⟨o,e,fun v z=>by rw [d] at z; cases z⟩
 keep:=fun i h h' st k=>st.at fun o e=>k it (by simp) o e
 item:=by
  intro X hP hw hK hc i pins s σ H E I hf st hg
  subst hP hw hK
  obtain ⟨xs,x,hq,hx⟩:=hg
  obtain ⟨its,rv,p,hz⟩:=I.list hq
  obtain ⟨u,hu,ru⟩:=rv.get hx
  obtain ⟨f0,f1,f2,f3,f4,f5⟩:=hf it (by simp)
  refine wpAny_pyNext_list_item st p.isList (x:=u) (by simpa using hu) fun h' st' sb=>?_
  have I1:Inv X pins σ H { s with heap:=h' }:=I.turned (t':=s.toks) (fun b o hb e=>(sb.2 b hb).trans e) f0 f1 f3 f4 f5
  obtain ⟨o,e,c,d⟩:=id st'
  exact ⟨u,rfl,bd8 (s:={ s with heap:=h' }) e c d (by decide) ⟨x,H,I1,ru,⟨rfl,fun ys hy=>by rw [I.list_inj hy hq]; exact hx⟩,st',fun b hb=>(hf b hb).1⟩⟩
 done:=by
  intro X hP hw hK hc i pins s σ H E I hf st hg
  subst hP hw hK
  obtain ⟨xs,hq,hx⟩:=hg
  obtain ⟨its,rv,p,hz⟩:=I.list hq
  obtain ⟨f0,f1,f2,f3,f4,f5⟩:=hf it (by simp)
  have hl:=rv.length
  exact wpAny_pyNext_list_end (I.ok.hd hc) st p.isList (by simp; omega) fun h' eb=>⟨rfl,I.turned (t':=s.toks) (fun b o hb e=>eb b o hb e) f0 f1 f3 f4 f5⟩
 self:=fun _ _ _ _ _ st h=>wpAny_pyIter_listiter st h
theorem b03 {P:Program}{w:World}{K:PySem.W.Frag}{tg:Expr}(a it:Addr):Turn P w K tg (Itt K a) [it] it (fun i h=>h.IsTupleIter it a i) where
 mem:=by simp
 obj:=fun i h st b hb=>by
  have e:b=it:=by simpa using hb
  subst e
  obtain ⟨o,e,c,d⟩:=st
  exact ⟨o,e,fun v z=>by rw [d] at z; cases z⟩
 keep:=fun i h h' st k=>st.at fun o e=>k it (by simp) o e
 item:=by
  intro X hP hw hK hc i pins s σ H E I hf st hg
  subst hP hw hK
  obtain ⟨xs,x,hq,hx⟩:=hg
  obtain ⟨its,rv,p,hz⟩:=I.tuple hq
  obtain ⟨u,hu,ru⟩:=rv.get hx
  obtain ⟨f0,f1,f2,f3,f4,f5⟩:=hf it (by simp)
  refine wpAny_pyNext_tuple_item st (show s.heap.IsTuple a its.toArray from p) (x:=u) (by simpa using hu) fun h' st' sb=>?_
  have I1:Inv X pins σ H { s with heap:=h' }:=I.turned (t':=s.toks) (fun b o hb e=>(sb.2 b hb).trans e) f0 f1 f3 f4 f5
  obtain ⟨o,e,c,d⟩:=id st'
  exact ⟨u,rfl,bd8 (s:={ s with heap:=h' }) e c d (by decide) ⟨x,H,I1,ru,⟨rfl,fun ys hy=>by rw [I.tuple_inj hy hq]; exact hx⟩,st',fun b hb=>(hf b hb).1⟩⟩
 done:=by
  intro X hP hw hK hc i pins s σ H E I hf st hg
  subst hP hw hK
  obtain ⟨xs,hq,hx⟩:=hg
  obtain ⟨its,rv,p,hz⟩:=I.tuple hq
  obtain ⟨f0,f1,f2,f3,f4,f5⟩:=hf it (by simp)
  have hl:=rv.length
  exact wpAny_pyNext_tuple_end (I.ok.hd hc) st (show s.heap.IsTuple a its.toArray from p) (by simp; omega) fun h' eb=>⟨rfl,I.turned (t':=s.toks) (fun b o hb e=>eb b o hb e) f0 f1 f3 f4 f5⟩
 self:=fun _ _ _ _ _ st h=>wpAny_pyIter_tupleiter st h
theorem b04 {P:Program}{w:World}{K:PySem.W.Frag}{tg:Expr}(it:Addr) (lo:Int) (n:Nat):Turn P w K tg (Itr lo n) [it] it (fun i h=>IsRangeIter h it (lo+(i:Nat)*1) ((n:Int) - (i:Nat)) 1) where
 mem:=by simp
 obj:=fun i h st b hb=>by
  have e:b=it:=by simpa using hb
  subst e
  exact ⟨_,st,fun v z=>by
   have z':Data.fields _=Data.cell v:=z
   cases z'⟩
 keep:=fun i h h' st k=>k it (by simp) _ st
 item:=by
  intro X hP hw hK hc i pins s σ H E I hf st hg
  subst hP hw hK
  obtain ⟨f0,f1,f2,f3,f4,f5⟩:=hf it (by simp)
  have W:=Walks.range (prog:=X.prog) (w:=X.w) (I.ok.hd hc) it lo 1 n
  refine W.item i s _ _ hg st fun v h' tk hv st' kk=>?_
  obtain ⟨t,rfl⟩:=hv
  have I1:Inv X pins σ H { s with heap:=h',toks:=tk }:=I.turned (fun b o hb e=>kk b o (by simpa using hb) e) f0 f1 f3 f4 f5
  refine ⟨_,rfl,bd8 (s:={ s with heap:=h',toks:=tk }) (n:="range_iterator") st' rfl rfl (by decide) ⟨.int (lo+i),H,I1,⟨t,?_⟩,⟨rfl,rfl⟩,st',fun b hb=>(hf b hb).1⟩⟩
  rw [Int.mul_one]
 done:=by
  intro X hP hw hK hc i pins s σ H E I hf st hg
  subst hP hw hK
  obtain ⟨f0,f1,f2,f3,f4,f5⟩:=hf it (by simp)
  exact wpAny_pyNext_range_end (I.ok.hd hc) st (by have:n≤i:=hg; omega) fun h' eb=>⟨rfl,I.turned (t':=s.toks) (fun b o hb e=>eb b o hb e) f0 f1 f3 f4 f5⟩
 self:=fun _ _ _ _ _ st h=>wpAny_pyIter_rangeiter st h
section
variable {X:Cx}{tg:Expr}
def iList (K:PySem.W.Frag) (tl:TE):TI:=fun σ H R=>tl σ H fun x H1=>∃ a,x=.ref a∧(∃ xs,SqL K H1 a xs)∧R (Itl K a) H1
def iTup (K:PySem.W.Frag) (tl:TE):TI:=fun σ H R=>tl σ H fun x H1=>∃ a,x=.ref a∧(∃ xs,SqT K H1 a xs)∧R (Itt K a) H1
theorem bl4 {l:Expr}{tl:TE}(hl:PE X l tl):PI X tg l (iList X.K tl):=by
 intro pins s σ H R I h
 refine thn (hl pins s σ H _ I h) fun v s1 ⟨x,H1,I1,r1,q1⟩=>?_
 obtain ⟨a,e,⟨xs,hq⟩,q⟩:=q1
 subst e
 cases r1
 obtain ⟨its,rv,p,hz⟩:=I1.list hq
 refine wpAny_pyIter_list p.isList ?_
 refine ⟨s1.heap.objs.size,[s1.heap.objs.size],_,_,H1,rfl,I1.kept (t':=s1.toks) fun b o e=>Heap.get?_push_of_some _ e,b59 a _,⟨_,Heap.get?_push_size _ rfl,rfl,rfl⟩,fun b hb=>?_,q⟩
 have e:b=s1.heap.objs.size:=by simpa using hb
 subst e
 exact I1.fpOk (Nat.le_refl _) (I1.hok.fresh (Nat.le_refl _))
theorem bt3 {l:Expr}{tl:TE}(hl:PE X l tl):PI X tg l (iTup X.K tl):=by
 intro pins s σ H R I h
 refine thn (hl pins s σ H _ I h) fun v s1 ⟨x,H1,I1,r1,q1⟩=>?_
 obtain ⟨a,e,⟨xs,hq⟩,q⟩:=q1
 subst e
 cases r1
 obtain ⟨its,rv,p,hz⟩:=I1.tuple hq
 refine wpAny_pyIter_tuple (show s1.heap.IsTuple a its.toArray from p) ?_
 refine ⟨s1.heap.objs.size,[s1.heap.objs.size],_,_,H1,rfl,I1.kept (t':=s1.toks) fun b o e=>Heap.get?_push_of_some _ e,b03 a _,⟨_,Heap.get?_push_size _ rfl,rfl,rfl⟩,fun b hb=>?_,q⟩
 have e:b=s1.heap.objs.size:=by simpa using hb
 subst e
 exact I1.fpOk (Nat.le_refl _) (I1.hok.fresh (Nat.le_refl _))
theorem ax5 {pins:List (Addr×Obj)}{σ:St} {H:Hp}{s:Shared}{R:It→Hp→Prop}{E:Value→Shared→Prop}{lo hi:Int}{t u v:Tok}{tk:Nat}(I:Inv X pins σ H s) (h1:-(2 ^ 62)≤lo) (h2:lo<2 ^ 62) (h3:-(2 ^ 62)≤hi) (h4:hi<2 ^ 62)
 (q:R (Itr lo (hi - lo).toNat) H):wpAny (model X.prog X.w) X.A (pyIter (.ref s.heap.objs.size)) (PIE X pins σ tg R) E { s with heap:=s.heap.push { cls:=.type "range",data:=.fields #[.int lo t,.int hi u,.int 1 v] },toks:=tk }:=by
 refine wpAny_pyIter_range (IsRange.new ..) (small_one h1 h2 h3 h4) ?_
 have I1:Inv X pins σ H { s with heap:=s.heap.push { cls:=.type "range",data:=.fields #[.int lo t,.int hi u,.int 1 v] },toks:=tk }:=I.kept fun b o e=>Heap.get?_push_of_some _ e
 refine ⟨(s.heap.push { cls:=.type "range",data:=.fields #[.int lo t,.int hi u,.int 1 v] }).objs.size,[(s.heap.push { cls:=.type "range",data:=.fields #[.int lo t,.int hi u,.int 1 v] }).objs.size],_,_,H,rfl,
  I1.kept (t':=tk) fun b o e=>Heap.get?_push_of_some _ e,b04 _ lo (hi - lo).toNat,?_,fun b hb=>?_,q⟩
 · have e1:lo+((0:Nat):Int)*1=lo:=by simp
   have e2:(((hi - lo).toNat:Nat):Int) - ((0:Nat):Int)=Builtin.Range.rangeSize lo hi 1:=by rw [rangeSize_one]; split <;> omega
   show IsRangeIter _ _ (lo+((0:Nat):Int)*1) ((((hi - lo).toNat:Nat):Int) - ((0:Nat):Int)) 1
   rw [e1,e2]
   exact Heap.get?_push_size _ rfl
 · have e:b=(s.heap.push { cls:=.type "range",data:=.fields #[.int lo t,.int hi u,.int 1 v] }).objs.size:=by simpa using hb
   subst e
   exact I1.fpOk (Nat.le_refl _) (I1.hok.fresh (Nat.le_refl _))
def bt4 (ta:TA):TI:=fun σ H R=>ta σ H fun vs H1=>∃ j:Int,vs=[.int j]∧-(2 ^ 62)≤j∧j<2 ^ 62∧R (Itr 0 j.toNat) H1
def bt5 (ta:TA):TI:=fun σ H R=>ta σ H fun vs H1=>∃ i j:Int,vs=[.int i,.int j]∧(-(2 ^ 62)≤i∧i<2 ^ 62∧-(2 ^ 62)≤j∧j<2 ^ 62)∧R (Itr i (j - i).toNat) H1
theorem aa0 {a:Expr}{ta:TA}{p pos:Pos}(hg:Gl X "range") (hm:X.mg "range"=none) (ha:PA X [a] ta) (hs:starEach [a] X.env=[(false,eval a X.env)]:=by rfl):PI X tg (.Call (.Name "range" p) [a] [] pos) (bt4 ta):=by
 intro pins s σ H R I h
 refine Call_ (ae8 I hg hm boot_range (PyProof.Rows.callWith_type1 (thn (ha pos pins s σ H _ I h) fun us s1 ⟨vs,H1,I1,r1,q1⟩=>?_) hs rfl))
 obtain ⟨j,e,q1,q2,q⟩:=q1
 subst e
 cases r1 with
 | cons r rr =>
   cases rr
   obtain ⟨t,rfl⟩:=r
   exact call_range_1 (ax5 I1 (by omega) (by omega) q1 q2 (by simpa using q))
theorem b60 {a b:Expr}{ta:TA}{p pos:Pos}(hg:Gl X "range") (hm:X.mg "range"=none) (ha:PA X [a,b] ta) (hs:starEach [a,b] X.env=[(false,eval a X.env),(false,eval b X.env)]:=by rfl) (hs2:starEach [b] X.env=[(false,eval b X.env)]:=by rfl) :
 PI X tg (.Call (.Name "range" p) [a,b] [] pos) (bt5 ta):=by
 intro pins s σ H R I h
 refine Call_ (ae8 I hg hm boot_range (PyProof.Rows.callWith_type1 (thn (ha pos pins s σ H _ I h) fun us s1 ⟨vs,H1,I1,r1,q1⟩=>?_) (by rw [hs,hs2]) (by rw [hs2]; rfl)))
 obtain ⟨i,j,e,⟨q1,q2,q3,q4⟩,q⟩:=q1
 subst e
 cases r1 with
 | cons r rr =>
   cases rr with
   | cons r' rr =>
     cases rr
     obtain ⟨t,rfl⟩:=r
     obtain ⟨t',rfl⟩:=r'
     exact call_range_2 (ax5 I1 q1 q2 q3 q4 q)
def tFor (wi:TI) (g:TG) (tb:TS):TS:=fun D σ H=>wi σ H fun J H1=>∃ W:Nat→Nat→St→Hp→Prop,(∃ m,W 0 m σ H1)∧∀ i m σ H,W i m σ H →
 (J.stop i H∧D.nx σ H)∨(J.go i H∧∃ N:St→Hp→Prop,(∀ σ' H',N σ' H'→∃ m',m'<m∧W (i+1) m' σ' H')∧∀ x H',J.yld i H x H'→g x σ H' fun σ2 H2=>tb { D with nx:=N,ct:=N,bk:=D.nx } σ2 H2)
def pinsAt (fp:List Addr) (h:Heap):List (Addr×Obj):=fp.filterMap fun b=>(h.get? b).map fun o=>(b,o)
theorem ad7 {fp:List Addr}{h:Heap}{b:Addr}{o:Obj}(hb:b∈fp) (e:h.get? b=some o):(b,o)∈pinsAt fp h:=List.mem_filterMap.mpr ⟨b,hb,by rw [e]; rfl⟩
theorem b61 {fp:List Addr}{h:Heap}{p:Addr×Obj}(hp:p∈pinsAt fp h):p.1∈fp∧h.get? p.1=some p.2:=by
 obtain ⟨b,hb,e⟩:=List.mem_filterMap.mp hp
 cases q:h.get? b with
 | none=>rw [q] at e; cases e
 | some o =>
   rw [q] at e
   have e':(b,o)=p:=Option.some.inj e
   subst e'
   exact ⟨hb,q⟩
theorem Inv.pinned {pins:List (Addr×Obj)}{σ:St} {H:Hp}{s:Shared}{fp:List Addr}(I:Inv X pins σ H s) (hf:∀ b∈fp,FpOk X pins H b) (ho:∀ b∈fp,∃ o,s.heap.get? b=some o∧∀ v,o.data≠.cell v):Inv X (pins++pinsAt fp s.heap) σ H s :=
 I.pins_of fun p hp=>(List.mem_append.mp hp).elim (fun z=>I.pin p (List.mem_append_right _ z)) fun z=>by
  obtain ⟨hb,e⟩:=b61 z
  obtain ⟨f0,f1,f2,_⟩:=hf p.1 hb
  obtain ⟨o,e',d⟩:=ho p.1 hb
  rw [e] at e'; cases e'
  exact ⟨e,f0,f1,f2,d⟩
theorem Inv.unpinned {pins pl:List (Addr×Obj)}{σ:St} {H:Hp}{s:Shared}(I:Inv X (pins++pl) σ H s):Inv X pins σ H s:=I.pins_of fun p hp=>I.pin p (List.mem_append_right _ (List.mem_append_left _ hp))
theorem aa1 {iter:Expr}{body:List Stmt}{wi:TI}{g:TG}{tb:TS}{pos:Pos}(hp:PassesOwn (model X.prog X.w) X.A X.env X.xe) (hc:X.calm=true) (hi:PI X tg iter wi) (hg:PG X tg g) (hb:PSs X body tb)
 (hs:∀ x,foldedSetIterable iter X.env x=pure x:=by intro _; rfl):PS X (.For tg iter body [] pos) (tFor wi g tb):=by
 intro pins s σ H D I h
 refine wpAny_For (thn (hi pins s σ H _ I h) fun v s1 h1=>thn h1 fun itv s2 h2=>?_) hs
 obtain ⟨it,fp,tn,J,H2,e,I2,T,st2,f2,W,⟨m0,w0⟩,turn⟩:=h2
 subst e
 have stat:∀ {H':Hp},(∀ b∈fp,H' b=none)→∀ b∈fp,FpOk X pins H' b:=fun hn b hb=>⟨hn b hb,(f2 b hb).2⟩
 refine codeAny_forLoop_any (fun n s'=>∃ i σ' H',Inv X pins σ' H' s'∧tn i s'.heap∧(∀ b∈fp,H' b=none)∧W i n σ' H') ?_ m0 ⟨0,σ,H2,I2,st2,fun b hb=>(f2 b hb).1,w0⟩
 rintro n s3 ⟨i,σ3,H3,I3,st3,fr3,w3⟩
 rcases turn i n σ3 H3 w3 with ⟨stop,qn⟩ | ⟨go,N,hN,step⟩
 · refine wpAny_passesOwn hp (thn (T.done X rfl rfl rfl hc i pins s3 σ3 H3 X.xe I3 (stat fr3) st3 stop) fun r s4 ⟨hr,I4⟩=>?_)
   subst hr
   exact wpAny_execs_nil ⟨σ3,H3,I4,qn⟩
 · refine wpAny_passesOwn hp (thn (T.item X rfl rfl rfl hc i pins s3 σ3 H3 X.xe I3 (stat fr3) st3 go) fun r s4 ⟨u,hr,h4⟩=>?_)
   subst hr
   refine wpAny_passesOwn hp (thn h4 fun _ s5 ⟨x,H5,I5,r5,y5,st5,fr5⟩=>?_)
   have I5':=I5.pinned (stat fr5) (T.obj _ _ st5)
   refine wpAny_passesOwn hp (thn (hg _ s5 σ3 H5 x u _ I5' r5 (step x H5 y5)) fun _ s6 ⟨σ6,H6,I6,q6⟩=>?_)
   refine wpAny_passesOwn hp (thn (hb _ s6 σ6 H6 _ I6 q6) fun f s7 q7=>?_)
   have again:∀ {σ7:St} {H7:Hp},Inv X (pins++pinsAt fp s5.heap) σ7 H7 s7→N σ7 H7→∃ m,m<n∧∃ i σ' H',Inv X pins σ' H' s7∧tn i s7.heap∧(∀ b∈fp,H' b=none)∧W i m σ' H':=fun {σ7 H7} I7 n7=>by
    obtain ⟨m',hm,w7⟩:=hN σ7 H7 n7
    refine ⟨m',hm,i+1,σ7,H7,I7.unpinned,T.keep _ _ _ st5 fun b hb o e=>(I7.pin (b,o) (List.mem_append_right _ (List.mem_append_right _ (ad7 hb e)))).1,fun b hb=>?_,w7⟩
    obtain ⟨o,e,d⟩:=T.obj _ _ st5 b hb
    exact (I7.pin (b,o) (List.mem_append_right _ (List.mem_append_right _ (ad7 hb e)))).2.1
   cases f with
   | next=>obtain ⟨σ7,H7,I7,n7⟩:=q7; exact again I7 n7
   | cont=>obtain ⟨σ7,H7,I7,n7⟩:=q7; exact again I7 n7
   | brk=>obtain ⟨σ7,H7,I7,q7⟩:=q7; exact ⟨σ7,H7,I7.unpinned,q7⟩
   | ret v=>obtain ⟨x7,σ7,H7,I7,r7,q7⟩:=q7; exact ⟨x7,σ7,H7,I7.unpinned,r7,q7⟩
end
theorem ac1 {K:PySem.W.Frag}{a:Addr}{xs:List V}{g:TG}{tb:TS}{D:Ends}{σ:St} {H:Hp}(Pv:Nat→St→Hp→Prop) (h0:Pv 0 σ H) (hl:∀ i σ H,i≤xs.length→Pv i σ H→SqL K H a xs)
 (hs:∀ i x σ H,xs[i]?=some x→Pv i σ H→g x σ H fun σ2 H2=>tb { D with nx:=Pv (i+1),ct:=Pv (i+1),bk:=D.nx } σ2 H2) (hd:∀ σ H,Pv xs.length σ H→D.nx σ H) :
 ∃ W:Nat→Nat→St→Hp→Prop,(∃ m,W 0 m σ H)∧∀ i m σ H,W i m σ H →
  ((Itl K a).stop i H∧D.nx σ H)∨((Itl K a).go i H∧∃ N:St→Hp→Prop,(∀ σ' H',N σ' H'→∃ m',m'<m∧W (i+1) m' σ' H')∧∀ x H',(Itl K a).yld i H x H'→g x σ H' fun σ2 H2=>tb { D with nx:=N,ct:=N,bk:=D.nx } σ2 H2):=by
 refine ⟨fun i m σ H=>m=xs.length - i∧i≤xs.length∧Pv i σ H,⟨xs.length,by simp,Nat.zero_le _,h0⟩,?_⟩
 rintro i m σ H ⟨rfl,hi,p⟩
 have q:=hl i σ H hi p
 by_cases hlt:i<xs.length
 · refine .inr ⟨⟨xs,xs[i],q,by simp [hlt]⟩,Pv (i+1),fun σ' H' p'=>⟨xs.length - (i+1),by omega,rfl,hlt,p'⟩,fun x H' y=>?_⟩
   obtain ⟨e,y⟩:=y
   subst e
   exact hs i x σ _ (y xs q) p
 · have e:i=xs.length:=by omega
   subst e
   exact .inl ⟨⟨xs,q,Nat.le_refl _⟩,hd σ H p⟩
theorem ab5 {lo:Int}{n:Nat}{g:TG}{tb:TS}{D:Ends}{σ:St} {H:Hp}(Pv:Nat→St→Hp→Prop) (h0:Pv 0 σ H)
 (hs:∀ i σ H,i<n→Pv i σ H→g (.int (lo+i)) σ H fun σ2 H2=>tb { D with nx:=Pv (i+1),ct:=Pv (i+1),bk:=D.nx } σ2 H2) (hd:∀ σ H,Pv n σ H→D.nx σ H) :
 ∃ W:Nat→Nat→St→Hp→Prop,(∃ m,W 0 m σ H)∧∀ i m σ H,W i m σ H →
  ((Itr lo n).stop i H∧D.nx σ H)∨((Itr lo n).go i H∧∃ N:St→Hp→Prop,(∀ σ' H',N σ' H'→∃ m',m'<m∧W (i+1) m' σ' H')∧∀ x H',(Itr lo n).yld i H x H'→g x σ H' fun σ2 H2=>tb { D with nx:=N,ct:=N,bk:=D.nx } σ2 H2):=by
 refine ⟨fun i m σ H=>m=n - i∧i≤n∧Pv i σ H,⟨n,by simp,Nat.zero_le _,h0⟩,?_⟩
 rintro i m σ H ⟨rfl,hi,p⟩
 by_cases hlt:i<n
 · refine .inr ⟨hlt,Pv (i+1),fun σ' H' p'=>⟨n - (i+1),by omega,rfl,hlt,p'⟩,fun x H' y=>?_⟩
   obtain ⟨e,y⟩:=y
   subst e y
   exact hs i σ _ hlt p
 · have e:i=n:=by omega
   subst e
   exact .inl ⟨Nat.le_refl _,hd σ H p⟩
abbrev R2:=V→V→Hp→VK→Prop
def OpR (X:Cx) (f:Value→Value→Sem Value) (r:R2):Prop :=
 ∀ (pins:List (Addr×Obj)) (s:Shared) (σ:St) (H:Hp) (x y:V) (v u:Value) (Q:VK),Inv X pins σ H s→RelV x v→RelV y u→r x y H Q →
  wpAny (model X.prog X.w) X.A (f v u) (EP X pins σ Q) X.xe s
def UnR (X:Cx) (f:Value→Sem Value) (r:V→Hp→VK→Prop):Prop :=
 ∀ (pins:List (Addr×Obj)) (s:Shared) (σ:St) (H:Hp) (x:V) (v:Value) (Q:VK),Inv X pins σ H s→RelV x v→r x H Q →
  wpAny (model X.prog X.w) X.A (f v) (EP X pins σ Q) X.xe s
def CallR (X:Cx) (f:Value) (r:List V→Hp→VK→Prop):Prop :=
 ∀ (pins:List (Addr×Obj)) (s:Shared) (σ:St) (H:Hp) (xs:List V) (us:List Value) (Q:VK),Inv X pins σ H s→Vals xs us→r xs H Q →
  wpAny (model X.prog X.w) X.A (call f us) (EP X pins σ Q) X.xe s
def TruR (X:Cx) (r:V→Hp→(Bool→Hp→Prop)→Prop):Prop :=
 ∀ (pins:List (Addr×Obj)) (s:Shared) (σ:St) (H:Hp) (x:V) (v:Value) (Q:Bool→Hp→Prop),Inv X pins σ H s→RelV x v→r x H Q →
  wpAny (model X.prog X.w) X.A (truthy v) (TP X pins σ Q) X.xe s
def tOp (r:R2) (ta tb:TE):TE:=fun σ H Q=>ta σ H fun x H1=>tb σ H1 fun y H2=>r x y H2 Q
def tUn (r:V→Hp→VK→Prop) (ta:TE):TE:=fun σ H Q=>ta σ H fun x H1=>r x H1 Q
def rI (C:Int→Int→Prop) (g:Int→Int→V):R2:=fun x y H Q=>∃ i j,x=.int i∧y=.int j∧C i j∧Q (g i j) H
def rI0 (g:Int→Int→V):R2:=fun x y H Q=>∃ i j,x=.int i∧y=.int j∧Q (g i j) H
def rU (g:Int→V):V→Hp→VK→Prop:=fun x H Q=>∃ i,x=.int i∧Q (g i) H
section
variable {X:Cx}{a b c:Expr}{ta tb tc:TE}{pos:Pos}
theorem binT (ha:PE X a ta) (hb:PE X b tb) {pins:List (Addr×Obj)}{s:Shared}{σ:St} {H:Hp}{R:V→V→Hp→Prop}(I:Inv X pins σ H s)
 (h:ta σ H fun x H1=>tb σ H1 fun y H2=>R x y H2) {Q:Value→Shared→Prop}{f:Value→Value→Sem Value}
 (hf:∀ v u s2 x y H2,Inv X pins σ H2 s2→RelV x v→RelV y u→R x y H2→wpAny (model X.prog X.w) X.A (f v u) Q X.xe s2) :
 wpAny (model X.prog X.w) X.A (eval a X.env) (fun v s₁=>wpAny (model X.prog X.w) X.A (eval b X.env) (fun u s₂=>wpAny (model X.prog X.w) X.A (f v u) Q X.xe s₂) X.xe s₁) X.xe s:=by
 refine thn (ha pins s σ H _ I h) fun v s1 ⟨x,H1,I1,r1,q1⟩=>?_
 refine thn (hb pins s1 σ H1 _ I1 q1) fun u s2 ⟨y,H2,I2,r2,q2⟩=>?_
 exact hf v u s2 x y H2 I2 r1 r2 q2
theorem a31 {op:Operator}{r:R2}(ho:OpR X (binaryOp op) r) (ha:PE X a ta) (hb:PE X b tb):PE X (.BinOp a op b pos) (tOp r ta tb):=by
 intro pins s σ H Q I h
 exact wpAny_BinOp (binT ha hb I h fun v u s2 x y H2 I2 rx ry q=>ho pins s2 σ H2 x y v u Q I2 rx ry q)
theorem aq9 {op:UnaryOp}{r:V→Hp→VK→Prop}(ho:UnR X (unaryOp op) r) (ha:PE X a ta):PE X (.UnaryOp op a pos) (tUn r ta):=by
 intro pins s σ H Q I h
 exact UnaryOp_ (thn (ha pins s σ H _ I h) fun v s1 ⟨x,H1,I1,r1,q1⟩=>ho pins s1 σ H1 x v Q I1 r1 q1)
theorem opI {f:Value→Value→Sem Value}{C:Int→Int→Prop}{g:Int→Int→Int}
 (rule:∀ (i j:Int) (t u:Tok) (s:Shared) (Q:Value→Shared→Prop) (E:Value→Shared→Prop),C i j→Q (.int (g i j) s.toks) { s with toks:=s.toks+1 }→wpAny (model X.prog X.w) X.A (f (.int i t) (.int j u)) Q E s) :
 OpR X f (rI C fun i j=>.int (g i j)):=by
 intro pins s σ H x y v u Q I rx ry h
 obtain ⟨i,j,rfl,rfl,hc,q⟩:=h
 obtain ⟨t,rfl⟩:=rx
 obtain ⟨t',rfl⟩:=ry
 exact rule i j t t' s _ _ hc ⟨.int (g i j),H,I.tok _,⟨_,rfl⟩,q⟩
theorem opI0 {f:Value→Value→Sem Value}{g:Int→Int→Int}
 (rule:∀ (i j:Int) (t u:Tok) (s:Shared) (Q:Value→Shared→Prop) (E:Value→Shared→Prop),Q (.int (g i j) s.toks) { s with toks:=s.toks+1 }→wpAny (model X.prog X.w) X.A (f (.int i t) (.int j u)) Q E s) :
 OpR X f (rI0 fun i j=>.int (g i j)):=by
 intro pins s σ H x y v u Q I rx ry h
 obtain ⟨i,j,rfl,rfl,q⟩:=h
 obtain ⟨t,rfl⟩:=rx
 obtain ⟨t',rfl⟩:=ry
 exact rule i j t t' s _ _ ⟨.int (g i j),H,I.tok _,⟨_,rfl⟩,q⟩
theorem opB0 {f:Value→Value→Sem Value}{g:Int→Int→Bool}
 (rule:∀ (i j:Int) (t u:Tok) (s:Shared) (Q:Value→Shared→Prop) (E:Value→Shared→Prop),Q (.bool (g i j)) s→wpAny (model X.prog X.w) X.A (f (.int i t) (.int j u)) Q E s) :
 OpR X f (rI0 fun i j=>.bl (g i j)):=by
 intro pins s σ H x y v u Q I rx ry h
 obtain ⟨i,j,rfl,rfl,q⟩:=h
 obtain ⟨t,rfl⟩:=rx
 obtain ⟨t',rfl⟩:=ry
 exact rule i j t t' s _ _ ⟨.bl (g i j),H,I,rfl,q⟩
def CDiv (i j:Int):Prop:=0<j∧j<1073741824
def CPow (i j:Int):Prop:=0≤j∧j≤1000000∧i.natAbs<2 ^ 64
def CMul (i j:Int):Prop:=(-(2 ^ 64)<i∧i<2 ^ 64)∨(-(2 ^ 64)<j∧j<2 ^ 64)
theorem CMul.ok {i j:Int}(h:CMul i j):IntMulOk i j:=by
 rcases h with ⟨h1,h2⟩ | ⟨h1,h2⟩
 · exact .of_left (intBits_le_64 h1 h2)
 · exact .of_right (intBits_le_64 h1 h2)
theorem bt6:OpR X (binaryOp .Add) (rI0 fun i j=>.int (i+j)):=opI0 fun _ _ _ _ _ _ _ q=>add_int q
theorem ai7:OpR X (binaryOp .Sub) (rI0 fun i j=>.int (i - j)):=opI0 fun _ _ _ _ _ _ _ q=>sub_int q
theorem a44:OpR X (binaryOp .FloorDiv) (rI CDiv fun i j=>.int (i / j)):=opI fun i j _ _ _ _ _ hc q=>by
 have h1:(0:Int)<j:=hc.1
 have h2:j<1073741824:=hc.2
 exact floordiv_int (by omega) (by rw [Int.fdiv_eq_ediv_of_nonneg i (by omega)]; exact q) (.inl (PyProof.noPylong_small (by omega)))
theorem a48:OpR X (binaryOp .Mod) (rI (fun _ j=>0<j) fun i j=>.int (i % j)):=opI fun i j _ _ _ _ _ hc q=>by
 have h1:(0:Int)<j:=hc
 exact mod_int' (by omega) (by rw [Int.fmod_eq_emod_of_nonneg i (by omega)]; exact q)
theorem bj1:OpR X (binaryOp .Pow) (rI CPow fun i j=>.int (i ^ j.toNat)):=opI fun _ _ _ _ _ _ _ hc q=>pow_int_small hc.1 hc.2.1 hc.2.2 q
theorem unI {f:Value→Sem Value}{g:Int→Int}
 (rule:∀ (i:Int) (t:Tok) (s:Shared) (Q:Value→Shared→Prop) (E:Value→Shared→Prop),Q (.int (g i) s.toks) { s with toks:=s.toks+1 }→wpAny (model X.prog X.w) X.A (f (.int i t)) Q E s) :
 UnR X f (rU fun i=>.int (g i)):=by
 intro pins s σ H x v Q I rx h
 obtain ⟨i,rfl,q⟩:=h
 obtain ⟨t,rfl⟩:=rx
 exact rule i t s _ _ ⟨.int (g i),H,I.tok _,⟨_,rfl⟩,q⟩
theorem ah9:UnR X (unaryOp .USub) (rU fun i=>.int (-i)):=unI fun _ _ _ _ _ q=>neg_int q
end
def scal:V→V→Bool
 | .non,.non=>true | .non,.int _=>true | .int _,.non=>true | .non,.bl _=>true | .bl _,.non=>true | .non,.str _=>true | .str _,.non=>true
 | .int _,.int _=>true | .bl _,.bl _=>true | .str _,.str _=>true | .byt _,.byt _=>true
 | .int _,.str _=>true | .str _,.int _=>true | .bl _,.str _=>true | .str _,.bl _=>true
 | _,_=>false
def rEq:R2:=fun x y H Q=>scal x y=true∧Q (.bl (decide (x=y))) H
theorem bl5 {i j:Int}:decide (V.int i=V.int j)=(i == j):=by
 rw [Bool.eq_iff_iff]
 simp
theorem bt7 {i j:Bool}:decide (V.bl i=V.bl j)=(i == j):=by
 rw [Bool.eq_iff_iff]
 simp
theorem bl6 {i j:Str}:decide (V.str i=V.str j)=(i == j):=by
 rw [Bool.eq_iff_iff]
 simp
theorem bl7 {i j:Array UInt8}:decide (V.byt i=V.byt j)=(i.toList == j.toList):=by
 rw [Bool.eq_iff_iff]
 cases i
 cases j
 simp
section
variable {X:Cx}{a b c:Expr}{ta tb tc:TE}{pos:Pos}
theorem aa5 {pins:List (Addr×Obj)}{σ:St} {H:Hp}{s:Shared}{Q:VK}{k k':Bool}(I:Inv X pins σ H s) (q:Q (.bl k) H) (e:k=k'):EP X pins σ Q (.bool k') s:=by
 subst e
 exact ⟨.bl k,H,I,rfl,q⟩
theorem a65:OpR X (compareOp .Eq) rEq:=by
 intro pins s σ H x y v u Q I rx ry h
 obtain ⟨hs,q⟩:=h
 cases x with
 | non =>
   cases rx
   cases y with
   | non=>cases ry; exact PySem.EqNone.eq_none_none (aa5 I q (by simp))
   | bl j=>cases ry; exact PySem.EqNone.eq_none_bool (aa5 I q (by simp))
   | int j=>obtain ⟨t',rfl⟩:=ry; exact PySem.EqNone.eq_none_int (aa5 I q (by simp))
   | str j=>obtain ⟨t',rfl⟩:=ry; exact PySem.EqNone.eq_none_str (aa5 I q (by simp))
   | _=>exact absurd (show false=true from hs) Bool.false_ne_true
 | bl i =>
   cases rx
   cases y with
   | non=>cases ry; exact PySem.EqNone.eq_bool_none (aa5 I q (by simp))
   | bl j=>cases ry; exact eq_bool (aa5 I q bt7)
   | str j=>obtain ⟨t',rfl⟩:=ry; exact PySem.EqMixed.eq_bool_str (aa5 I q (by simp))
   | _=>exact absurd (show false=true from hs) Bool.false_ne_true
 | int i =>
   obtain ⟨t,rfl⟩:=rx
   cases y with
   | non=>cases ry; exact PySem.EqNone.eq_int_none (aa5 I q (by simp))
   | int j=>obtain ⟨t',rfl⟩:=ry; exact eq_int (aa5 I q bl5)
   | str j=>obtain ⟨t',rfl⟩:=ry; exact PySem.EqMixed.eq_int_str (aa5 I q (by simp))
   | _=>exact absurd (show false=true from hs) Bool.false_ne_true
 | str i =>
   obtain ⟨t,rfl⟩:=rx
   cases y with
   | non=>cases ry; exact PySem.EqNone.eq_str_none (aa5 I q (by simp))
   | bl j=>cases ry; exact PySem.EqMixed.eq_str_bool (aa5 I q (by simp))
   | int j=>obtain ⟨t',rfl⟩:=ry; exact PySem.EqMixed.eq_str_int (aa5 I q (by simp))
   | str j=>obtain ⟨t',rfl⟩:=ry; exact eq_str (aa5 I q bl6)
   | _=>exact absurd (show false=true from hs) Bool.false_ne_true
 | byt i =>
   obtain ⟨t,rfl⟩:=rx
   cases y with
   | byt j=>obtain ⟨t',rfl⟩:=ry; exact PySem.W.eq_bytes (aa5 I q bl7)
   | _=>exact absurd (show false=true from hs) Bool.false_ne_true
 | _=>cases y <;> exact absurd (show false=true from hs) Bool.false_ne_true
theorem bd9:OpR X (compareOp .Lt) (rI0 fun i j=>.bl (decide (i<j))):=opB0 fun _ _ _ _ _ _ _ q=>lt_int q
theorem b62:OpR X (compareOp .Gt) (rI0 fun i j=>.bl (decide (j<i))):=opB0 fun _ _ _ _ _ _ _ q=>gt_int q
theorem nomark (b:Expr) {op:CmpOp}(h:op≠.In:=by decide) (h2:op≠.NotIn:=by decide):behindInMarks op b=false:=by
 have e1:(op == CmpOp.In)=false:=by cases op <;> first | rfl | exact absurd rfl h
 have e2:(op == CmpOp.NotIn)=false:=by cases op <;> first | rfl | exact absurd rfl h2
 cases b <;> simp [behindInMarks,e1,e2]
theorem at7 {op:CmpOp}{r:R2}(ho:OpR X (compareOp op) r) (ha:PE X a ta) (hb:PE X b tb) (hm:behindInMarks op b=false):PE X (.Compare a [op] [b] pos) (tOp r ta tb):=by
 intro pins s σ H Q I h
 exact wpAny_Compare1 (binT ha hb I h fun v u s2 x y H2 I2 rx ry q=>ho pins s2 σ H2 x y v u Q I2 rx ry q) hm
def tTest (t:TE):TT:=fun σ H Q=>t σ H fun x H'=>∃ k,x=.bl k∧Q k H'
theorem a36 {op:CmpOp}{r:R2}(ho:OpR X (compareOp op) r) (ha:PE X a ta) (hb:PE X b tb) (hm:behindInMarks op b=false):PT X (.Compare a [op] [b] pos) (tTest (tOp r ta tb)):=by
 intro pins s σ H Q I h
 refine wpAny_isTrue_Compare1 (thn (ha pins s σ H _ I h) fun v s1 ⟨x,H1,I1,r1,q1⟩=>thn (hb pins s1 σ H1 _ I1 q1) fun u s2 ⟨y,H2,I2,r2,q2⟩ =>
  thn (ho pins s2 σ H2 x y v u _ I2 r1 r2 q2) fun c s3 ⟨z,H3,I3,r3,k,e,q3⟩=>?_) hm
 subst e
 cases r3
 exact wpAny_truthy_bool ⟨H3,I3,q3⟩
def TruV (K:PySem.W.Frag) (x:V) (H:Hp) (k:Bool):Prop :=
 match x with
 | .non=>k=false
 | .bl b=>k=b
 | .int i=>k=(i != 0)
 | .str y=>y.length≤sizeLine∧k=((y.length:Int) != 0)
 | .byt y=>y.size≤sizeLine∧k=((y.size:Int) != 0)
 | .ref p=>(∃ xs,SqL K H p xs∧k=!xs.isEmpty)∨(∃ xs,SqT K H p xs∧k=!xs.isEmpty)∨∃ kvs,H p=some (.dK kvs)∧k=!kvs.isEmpty
 | _=>False
theorem b05 {κ:Type} {kvs:List (κ×V)}{vs:List (κ×Value)}(r:KV kvs vs):(!vs.isEmpty)=!kvs.isEmpty:=by
 cases r <;> rfl
theorem ak8 {xs:List V}{its:List Value}(r:Vals xs its):(!its.toArray.isEmpty)=!xs.isEmpty:=by
 cases r <;> simp
theorem ar0:(sizeLine:Nat)<2 ^ 63:=by rw [sizeLine_eq]; decide
theorem bt8:TruR X (fun x H Q=>∃ k,TruV X.K x H k∧Q k H):=by
 intro pins s σ H x v Q I rx h
 obtain ⟨k,e,q⟩:=h
 have hl:=ar0
 have hs:sizeLine=16777216:=sizeLine_eq
 cases x with
 | non =>
   cases rx
   have e':k=false:=e
   subst e'
   exact truthy_none ⟨H,I,q⟩
 | bl b =>
   cases rx
   have e':k=b:=e
   subst e'
   exact wpAny_truthy_bool ⟨H,I,q⟩
 | int i =>
   obtain ⟨t,rfl⟩:=rx
   have e':k=(i != 0):=e
   subst e'
   exact PySem.P.truthy_int ⟨H,I,q⟩
 | str y =>
   obtain ⟨t,rfl⟩:=rx
   obtain ⟨hy,e'⟩:y.length≤sizeLine∧k=((y.length:Int) != 0):=e
   subst e'
   exact PySem.P.truthy_str (by omega) ⟨H,I.tok _,q⟩
 | byt y =>
   obtain ⟨t,rfl⟩:=rx
   obtain ⟨hy,e'⟩:y.size≤sizeLine∧k=((y.size:Int) != 0):=e
   subst e'
   exact PySem.W.truthy_bytes (by omega) ⟨H,I.tok _,q⟩
 | ref p =>
   cases rx
   have e':(∃ xs,SqL X.K H p xs∧k=!xs.isEmpty)∨(∃ xs,SqT X.K H p xs∧k=!xs.isEmpty)∨∃ kvs,H p=some (.dK kvs)∧k=!kvs.isEmpty:=e
   rcases e' with ⟨xs,hx,e'⟩ | ⟨xs,hx,e'⟩ | ⟨kvs,hx,e'⟩
   · subst e'
     obtain ⟨its,r,pl,hz⟩:=I.list hx
     have hlen:=r.length
     exact wpAny_truthy_list pl.isList (by simp only [List.size_toArray]; omega) ⟨H,I.tok _,by rw [ak8 r]; exact q⟩
   · subst e'
     obtain ⟨its,r,pl,hz⟩:=I.tuple hx
     have hlen:=r.length
     exact truthy_tuple pl (by simp only [List.size_toArray]; omega) ⟨H,I.tok _,by rw [ak8 r]; exact q⟩
   · subst e'
     obtain ⟨hz,hS,vs,r,m⟩:kvs.length≤sizeLine∧(p == sysModules)=false∧∃ vs,KV kvs vs∧s.heap.DictOf (mixKind X.prog X.w) p vs:=I.hok p _ hx
     have hlen:kvs.length=vs.length:=Paired.length r
     exact wpAny_truthy_dict hS m (by omega) ⟨H,I.tok _,by rw [b05 r]; exact q⟩
 | _=>exact (show False from e).elim
theorem be0 (ha:PE X a ta) (he:∀ whole,isTrue a X.env whole=(do let v←whole; standAt a.pos; holding [v] (truthy v))) :
 PT X a (fun σ H Q=>ta σ H fun x H'=>∃ k,TruV X.K x H' k∧Q k H'):=by
 intro pins s σ H Q I h
 exact isTrue_plain (thn (ha pins s σ H _ I h) fun v s1 ⟨x,H1,I1,r1,q1⟩=>bt8 pins s1 σ H1 x v Q I1 r1 q1) (he _)
theorem b06:OpR X (binaryOp .Add) (fun x y H Q=>∃ i j,x=.str i∧y=.str j∧i.length+j.length≤sizeLine∧Q (.str (i++j)) H):=by
 intro pins s σ H x y v u Q I rx ry h
 obtain ⟨i,j,rfl,rfl,hz,q⟩:=h
 obtain ⟨t,rfl⟩:=rx
 obtain ⟨t',rfl⟩:=ry
 exact add_str (fun t' tk=>⟨.str (i++j),H,I.tok _,⟨_,rfl⟩,q⟩) hz
theorem at8 {x:V}{us:List Value}(r:Vals [x] us):∃ u,us=[u]∧RelV x u:=by
 cases r with
 | cons r1 r2=>cases r2; exact ⟨_,rfl,r1⟩
theorem be1 {x y:V}{us:List Value}(r:Vals [x,y] us):∃ u w',us=[u,w']∧RelV x u∧RelV y w':=by
 cases r with
 | cons r1 r2 =>
   cases r2 with
   | cons r3 r4=>cases r4; exact ⟨_,_,rfl,r1,r3⟩
def LenV (K:PySem.W.Frag) (x:V) (H:Hp) (n:Nat):Prop :=
 match x with
 | .str y=>y.length≤sizeLine∧n=y.length
 | .byt y=>y.size≤sizeLine∧n=y.size
 | .ref p=>(∃ xs,SqL K H p xs∧n=xs.length)∨∃ xs,SqT K H p xs∧n=xs.length
 | _=>False
theorem be2:CallR X (.builtin "len") (fun xs H Q=>∃ x n,xs=[x]∧LenV X.K x H n∧Q (.int n) H):=by
 intro pins s σ H xs us Q I r h
 obtain ⟨x,n,rfl,e,q⟩:=h
 obtain ⟨u,rfl,rx⟩:=at8 r
 have hl:=ar0
 have hs:sizeLine=16777216:=sizeLine_eq
 cases x with
 | str y =>
   obtain ⟨t,rfl⟩:=rx
   obtain ⟨hy,e'⟩:y.length≤sizeLine∧n=y.length:=e
   subst e'
   exact len_str (by omega) ⟨.int _,H,I.tok _,⟨_,rfl⟩,q⟩
 | byt y =>
   obtain ⟨t,rfl⟩:=rx
   obtain ⟨hy,e'⟩:y.size≤sizeLine∧n=y.size:=e
   subst e'
   exact PySem.W.len_bytes (by omega) ⟨.int _,H,I.tok _,⟨_,rfl⟩,q⟩
 | ref p =>
   cases rx
   have e':(∃ xs,SqL X.K H p xs∧n=xs.length)∨∃ xs,SqT X.K H p xs∧n=xs.length:=e
   rcases e' with ⟨xs,hx,e'⟩ | ⟨xs,hx,e'⟩
   · subst e'
     obtain ⟨its,r',pl,hz⟩:=I.list hx
     have hlen:=r'.length
     exact Calls.call_len_list pl.isList (by simp only [List.size_toArray]; omega) ⟨.int xs.length,H,I.tok _,⟨_,by simp only [List.size_toArray]; rw [hlen]⟩,q⟩
   · subst e'
     obtain ⟨its,r',pl,hz⟩:=I.tuple hx
     have hlen:=r'.length
     exact len_tuple pl (by simp only [List.size_toArray]; omega) ⟨.int xs.length,H,I.tok _,⟨_,by simp only [List.size_toArray]; rw [hlen]⟩,q⟩
 | _=>exact (show False from e).elim
end
structure ObjM (h:Heap) (x dx C:Addr) (mA:Str→Option Value):Prop where
 obj:h.get? x=some (PySem.W.instObj C dx)
 ns:h.Ns1 dx mA
 ne:dx≠x
theorem b63 {h:Heap}{dx:Addr}{mA:Str→Option Value}(n:h.Ns1 dx mA):∃ od,h.get? dx=some od∧∀ name,PySem.W.lookIn name od=some (mA name):=by
 obtain ⟨o,es,ep,ho,hd,hk,_,hm⟩:=n
 refine ⟨o,ho,fun name=>?_⟩
 have e:=hm name
 unfold nsFind findBy at e
 rw [← Array.find?_toList] at e
 unfold PySem.W.lookIn
 rw [hd]
 dsimp only
 split
 · rename_i y q
   rw [q] at e
   exact congrArg some e
 · rename_i q
   rw [q] at e
   have a:es.toList.any (·.refKey)=false:=by
    rw [List.any_eq_false]
    intro y hy
    obtain ⟨z,t,hkey⟩:=hk y (Array.mem_toList_iff.mp hy)
    simp [DictEntry.refKey,hkey]
   have a':¬ es.toList.any (·.refKey)=true:=by rw [a]; exact Bool.false_ne_true
   rw [if_neg a']
   exact congrArg some e
theorem ObjM.look {h:Heap}{x dx C:Addr}{mA:Str→Option Value}(I:ObjM h x dx C mA):∃ od,PySem.W.InstAt h x (PySem.W.instObj C dx) C (some od)∧∀ name,PySem.W.lookIn name od=some (mA name) :=
 let ⟨od,ho,hl⟩:=b63 I.ns
 ⟨od,⟨I.obj,rfl,rfl,ho⟩,hl⟩
section
variable {prog:Program}{w:World}{A:Around}{E:Value→Shared→Prop}{s:Shared}{K:PySem.W.Frag}{x dx C f:Addr}{mA:Str→Option Value}{name:Str}{v:Value}
theorem bl8 {expr:Bool}{Q:Value→Shared→Prop}(X:K.In s.heap) (I:ObjM s.heap x dx C mA) (hg:PySem.W.plainGet K C name=true) (hh:PySem.W.hasDictIn K C=true)
 (ha:PySem.W.findIn K (.ref C) name=some none) (hv:mA name=some v) (hv':PySem.W.handedIn v=true) (h:Q v { s with toks:=s.toks+1 }) :
 wpAny (model prog w) A (getAttr (.ref x) name expr) Q E s:=by
 obtain ⟨od,J,hl⟩:=I.look
 exact PySem.W.get_value X J (PySem.W.plainGet_of hg).1 (PySem.W.findObj_own hh ha rfl (by rw [hl,hv])) hv' h
theorem be3 {pl:Sem Bool}{Q:Value×List Value→Shared→Prop}(X:K.In s.heap) (I:ObjM s.heap x dx C mA) (hg:PySem.W.plainGet K C name=true)
 (hf:PySem.W.findIn K (.ref C) name=some (some (.ref f))) (ht:PySem.W.isFn K (.ref f)=true) (hv:mA name=none) (h:Q (.ref f,[.ref x]) s) :
 wpAny (model prog w) A (getMethod (.ref x) name pl) Q E s:=by
 obtain ⟨od,J,hl⟩:=I.look
 exact PySem.W.method_fn X J (PySem.W.plainGet_of hg).1 (PySem.W.plainGet_of hg).2 hf (beq_iff_eq.mp ht) (by show (PySem.W.lookIn name od).map (·.isSome)=some false; rw [hl,hv]; rfl) h
theorem bl9 {ns:List Str}{Q:Unit→Shared→Prop}(X:K.In s.heap) (I:ObjM s.heap x dx C mA)
 (hs:PySem.W.findIn K (.ref C) "__setattr__"=some (some (.builtin "object.__setattr__"))) (hp:PySem.W.plainOver K C=true) (ht:PySem.W.takerIn K C name=some none) (hh:PySem.W.hasDictIn K C=true)
 (hw:PySem.Within mA ns) (hsz:ns.length≤sizeLine)
 (h:∀ h',ObjM h' x dx C (fun y=>if y=name then some v else mA y)→Heap.SameBut dx s.heap h'→Q () { s with heap:=h',toks:=s.toks+2 }) :
 wpAny (model prog w) A (setAttr (.ref x) name v) Q E s:=by
 obtain ⟨od,J,hl⟩:=I.look
 refine PySem.W.set_plain X J hs (PySem.W.osa_open (s:={ s with toks:=s.toks+1 }) (r:=none) X J hp ht fun b=>?_)
 obtain ⟨cd,hc,hd'⟩:=PySem.W.any_some hh
 have hx:s.heap.get? x=some ⟨.ref C,some dx,.plain,#[]⟩:=I.obj
 refine wpAny_bind (wpAny_pure (wpAny_bind (wpAny_bind (wpAny_loadPart hx (wpAny_bind (PySem.W.Looks.here (s:={ s with toks:=s.toks+1 }) (PySem.W.looks_clsIn X hc) ?_))))))
 rw [hd']
 refine wpAny_pure (a:=some dx) (wpAny_bind (wpAny_pure (wpAny_bind ?_)))
 refine wpAny_nsSet1 (s:={ s with toks:=s.toks+1 }) I.ns fun h' hn2 hs2=>?_
 obtain ⟨oD,esD,epD,hoD,hdD,hcD⟩:=hn2.count (PySem.Within.cons name v hw)
 refine wpAny_bind (wpAny_lookBehind hoD (by rw [hdD]; exact pastItsLine_dict (Nat.le_trans hcD (by rw [List.length_cons]; omega))) ?_)
 exact wpAny_pure (h _ ⟨(hs2.2 _ (Ne.symm I.ne)).trans I.obj,hn2,I.ne⟩ hs2)
theorem be4 {R:Result→Shared→Prop}{vs:List Value}{kw:List (Str×Value)}(X:K.In s.heap) (hm:PySem.W.makesIn K C=true)
 (hi:PySem.W.findIn K (.ref C) "__init__"=some (some (.ref f))) (hf:PySem.W.typeIn K (.ref f)=some (.type "function"))
 (h:codeAny (model prog w) (A.under (.builtin "type.__call__" ⟨.ref C::vs,kw⟩)) (.call (.ref f) ⟨.ref (s.heap.objs.size+1)::vs,kw⟩) (PySem.W.InitBack (s.heap.objs.size+1) R)
  { s with heap:=(s.heap.push PySem.W.emptyDict).push (PySem.W.instObj C s.heap.objs.size) }) :
 codeAny (model prog w) A (.call (.ref C) ⟨vs,kw⟩) R s:=by
 obtain ⟨hh,g,d,t,os⟩:=s
 exact PySem.W.make_core (PySem.W.makes_of X hm) (PySem.W.looks_findIn X hi) (fun self=>PySem.W.bind_fn X self hf) (.inl rfl) h
end
def putF (f:Str) (v:V):List (Str×V)→List (Str×V)
 | []=>[(f,v)]
 | (g,x)::r=>if g=f then (g,v)::r else (g,x)::putF f v r
theorem a35 (f g:Str) (v:V):∀ fs:List (Str×V),(putF f v fs).lookup g=if g=f then some v else fs.lookup g
 | []=>by
   show List.lookup g [(f,v)]=_
   by_cases h:g=f
   · have hb:(g == f)=true:=beq_iff_eq.mpr h
     simp only [List.lookup,hb,if_pos h]
   · have hb:(g == f)=false:=beq_eq_false_iff_ne.mpr h
     simp only [List.lookup,hb,if_neg h]
 | (k,x)::r=>by
   have ih:=a35 f g v r
   rw [show putF f v ((k,x)::r)=(if k=f then (k,v)::r else (k,x)::putF f v r) from rfl]
   by_cases hk:k=f
   · rw [if_pos hk]
     by_cases h:g=k
     · have hb:(g == k)=true:=beq_iff_eq.mpr h
       simp only [List.lookup,hb,if_pos (h.trans hk)]
     · have hb:(g == k)=false:=beq_eq_false_iff_ne.mpr h
       simp only [List.lookup,hb,if_neg (fun e:g=f=>h (e.trans hk.symm))]
   · rw [if_neg hk]
     by_cases h:g=k
     · have hb:(g == k)=true:=beq_iff_eq.mpr h
       simp only [List.lookup,hb,if_neg (fun e:g=f=>hk (h.symm.trans e))]
     · have hb:(g == k)=false:=beq_eq_false_iff_ne.mpr h
       simp only [List.lookup,hb]
       exact ih
theorem ai8 (f:Str) (v:V):∀ fs:List (Str×V),f∈(putF f v fs).map (·.1)∧∀ g,g∈fs.map (·.1)→g∈(putF f v fs).map (·.1)
 | []=>⟨by simp [putF],fun g h=>by simp at h⟩
 | (k,x)::r=>by
   obtain ⟨i1,i2⟩:=ai8 f v r
   rw [show putF f v ((k,x)::r)=(if k=f then (k,v)::r else (k,x)::putF f v r) from rfl]
   by_cases hk:k=f
   · rw [if_pos hk]
     subst hk
     exact ⟨by simp,fun g h=>by simpa using h⟩
   · rw [if_neg hk]
     refine ⟨?_,fun g h=>?_⟩
     · rw [List.map_cons]
       exact List.mem_cons_of_mem _ i1
     · rw [List.map_cons] at h ⊢
       rcases List.mem_cons.mp h with e | e
       · exact List.mem_cons.mpr (.inl e)
       · exact List.mem_cons_of_mem _ (i2 g e)
theorem a73 (f:Str) (v:V):∀ fs:List (Str×V),(putF f v fs).length≤fs.length+1
 | []=>by simp [putF]
 | (k,x)::r=>by
   have ih:=a73 f v r
   rw [show putF f v ((k,x)::r)=(if k=f then (k,v)::r else (k,x)::putF f v r) from rfl]
   by_cases hk:k=f
   · rw [if_pos hk,List.length_cons,List.length_cons]; omega
   · rw [if_neg hk,List.length_cons,List.length_cons]; omega
theorem RelO.some_of {v:V}{o:Option Value}(r:RelO (some v) o):∃ u,o=some u∧RelV v u:=by
 cases o with
 | none=>exact (show False from r).elim
 | some u=>exact ⟨u,rfl,r⟩
theorem RelO.none_of {o:Option Value}(r:RelO none o):o=none:=by
 cases o with
 | none=>rfl
 | some u=>exact (show False from r).elim
theorem b64 {v:V}{u:Value}(r:RelV v u):PySem.W.handedIn u=true:=by
 cases v with
 | non=>cases (show u=Value.none from r); rfl
 | bl b=>cases (show u=Value.bool b from r); rfl
 | int i=>obtain ⟨t,e⟩:=(show ∃ t,u=Value.int i t from r); cases e; rfl
 | str x=>obtain ⟨t,e⟩:=(show ∃ t,u=Value.str x t from r); cases e; rfl
 | byt b=>obtain ⟨t,e⟩:=(show ∃ t,u=Value.bytes b t from r); cases e; rfl
 | flt b=>obtain ⟨t,e⟩:=(show ∃ t,u=Value.float b t from r); cases e; rfl
 | ref a=>cases (show u=Value.ref a from r); rfl
 | ty n=>cases (show u=Value.type n from r); rfl
section
variable {P:Program}{w:World}{H H':Hp}{h h':Heap}{a C dx:Addr}{fs fs':List (Str×V)}
theorem am3 (hok:HOk P w H h) (e:H a=some (.ins C dx fs)):∃ mA,ObjM h a dx C mA∧(∀ f,RelO (fs.lookup f) (mA f))∧PySem.Within mA (fs.map (·.1))∧fs.length≤1000∧H dx=some (.own a):=by
 obtain ⟨d,z,ne,ob,mA,n,r,q⟩:=(show ObjOk P w H h a (.ins C dx fs) from hok a _ e)
 exact ⟨mA,⟨ob,n,ne⟩,r,q,z,d⟩
end
structure Cls (K:PySem.W.Frag) (C:Addr):Prop where
 pg:PySem.W.plainGet K C Str.empty=true
 hd:PySem.W.hasDictIn K C=true
 po:PySem.W.plainOver K C=true
 sa:PySem.W.findIn K (.ref C) "__setattr__"=some (some (.builtin "object.__setattr__"))
theorem Cls.get {K:PySem.W.Frag}{C:Addr}(c:Cls K C) (f:Str):PySem.W.plainGet K C f=true:=c.pg
def NoAttr (K:PySem.W.Frag) (C:Addr) (f:Str):Prop:=PySem.W.findIn K (.ref C) f=some none
theorem NoAttr.taker {K:PySem.W.Frag}{C:Addr}{f:Str}(n:NoAttr K C f):PySem.W.takerIn K C f=some none:=by
 unfold PySem.W.takerIn
 rw [show PySem.W.findIn K (.ref C) f=some none from n]
 rfl
structure Meth (K:PySem.W.Frag) (C:Addr) (m:Str) (f:Addr):Prop where
 at_:PySem.W.findIn K (.ref C) m=some (some (.ref f))
 fn:PySem.W.isFn K (.ref f)=true
 kp:PySem.W.keepIn K (.ref f)=true
section
variable {X:Cx}{pins:List (Addr×Obj)}{σ:St} {H:Hp}{s:Shared}{a C dx:Addr}{fs:List (Str×V)}{f:Str}{v:V}{A:Around}{E:Value→Shared→Prop}
theorem b07 {b:Bool}{Q:Value→Shared→Prop}(I:Inv X pins σ H s) (e:H a=some (.ins C dx fs)) (c:Cls X.K C) (n:NoAttr X.K C f) (l:fs.lookup f=some v)
 (h:∀ u s',Inv X pins σ H s'→RelV v u→Q u s'):wpAny (model X.prog X.w) A (getAttr (.ref a) f b) Q E s:=by
 obtain ⟨mA,O,r,_,_,_⟩:=am3 I.hok e
 obtain ⟨u,hu,ru⟩:=RelO.some_of (v:=v) (o:=mA f) (by rw [← l]; exact r f)
 exact bl8 I.kIn O (c.get f) c.hd n hu (b64 ru) (h u _ (I.tok _) ru)
theorem b08 {m:Str}{g:Addr}{pl:Sem Bool}{Q:Value×List Value→Shared→Prop}(I:Inv X pins σ H s) (e:H a=some (.ins C dx fs)) (c:Cls X.K C) (k:Meth X.K C m g) (l:fs.lookup m=none)
 (h:Q (.ref g,[.ref a]) s):wpAny (model X.prog X.w) A (getMethod (.ref a) m pl) Q E s:=by
 obtain ⟨mA,O,r,_,_,_⟩:=am3 I.hok e
 have hn:mA m=none:=RelO.none_of (by rw [← l]; exact r m)
 exact be3 I.kIn O (c.get m) k.at_ k.fn hn h
theorem b09 {y:V}{u:Value}{Q:Unit→Shared→Prop}(I:Inv X pins σ H s) (e:H a=some (.ins C dx fs)) (c:Cls X.K C) (n:NoAttr X.K C f) (hl:fs.length<1000) (ry:RelV y u)
 (h:∀ s',Inv X pins σ (upd H a (.ins C dx (putF f y fs))) s'→Q () s'):wpAny (model X.prog X.w) A (setAttr (.ref a) f u) Q E s:=by
 obtain ⟨mA,O,r,wi,_,ho⟩:=am3 I.hok e
 have hz:(fs.map (·.1)).length≤sizeLine:=by rw [List.length_map,sizeLine_eq]; omega
 refine bl9 I.kIn O c.sa c.po n.taker c.hd wi hz fun h' O' sb=>h _ ?_
 have hd:∃ o,h'.get? dx=some o:=let ⟨o,_,_,e',_⟩:=O'.ns; ⟨o,e'⟩
 refine I.write (x:=a) (e:=dx) (by rw [e]; exact True.intro) (.inr ho) (fun b q hb z=>(sb.2 b hb).trans z) hd ?_
 refine ⟨by rw [a06 O.ne]; exact ho,?_,O.ne,O'.obj,_,O'.ns,fun g=>?_,fun g hg=>?_⟩
 · have:=a73 f y fs; omega
 · show RelO ((putF f y fs).lookup g) (if g=f then some u else mA g)
   rw [a35]
   by_cases q:g=f
   · rw [if_pos q,if_pos q]; exact ry
   · rw [if_neg q,if_neg q]; exact r g
 · by_cases q:g=f
   · rw [q]; exact (ai8 f y fs).1
   · refine (ai8 f y fs).2 g (wi g fun z=>hg ?_)
     show (if g=f then some u else mA g)=none
     rw [if_neg q]; exact z
theorem Inv.made (I:Inv X pins σ H s):Inv X pins σ (upd (upd H s.heap.objs.size (.own (s.heap.objs.size+1))) (s.heap.objs.size+1) (.ins C s.heap.objs.size []))
 { s with heap:=(s.heap.push PySem.W.emptyDict).push (PySem.W.instObj C s.heap.objs.size) }:=by
 have e1:(s.heap.push PySem.W.emptyDict).get? s.heap.objs.size=some PySem.W.emptyDict:=Heap.get?_push_size s.heap rfl
 have e2:((s.heap.push PySem.W.emptyDict).push (PySem.W.instObj C s.heap.objs.size)).get? (s.heap.objs.size+1)=some (PySem.W.instObj C s.heap.objs.size):=by
  have:=Heap.get?_push_size (s.heap.push PySem.W.emptyDict) (o:=PySem.W.instObj C s.heap.objs.size) rfl
  rwa [Heap.size_push] at this
 have e3:(s.heap.push PySem.W.emptyDict).Ns s.heap.objs.size (fun _=>none):=⟨PySem.W.emptyDict,#[],_,e1,rfl,(fun e he=>absurd he (by simp)),fun _=>rfl⟩
 have I1:=I.laid (a:=s.heap.objs.size) (o:=.own (s.heap.objs.size+1)) (h':=s.heap.push PySem.W.emptyDict) (t':=s.toks) (fun b u q=>Heap.get?_push_of_some _ q) (Nat.le_refl _) ⟨_,e1⟩
 refine I1.laid (a:=s.heap.objs.size+1) (o:=.ins C s.heap.objs.size []) (t':=s.toks) (fun b u q=>Heap.get?_push_of_some _ q) (Nat.le_of_eq (Heap.size_push _ _)) ?_
 have ne:s.heap.objs.size≠s.heap.objs.size+1:=Nat.ne_of_lt (Nat.lt_succ_self _)
 refine ⟨by rw [a06 ne,a27],Nat.zero_le _,ne,e2,fun _=>none,(Heap.Ns1.of_empty e3).at fun o q=>Heap.get?_push_of_some _ q,fun _=>True.intro,fun y hy=>absurd rfl hy⟩
theorem bm0 {prog:Program}{w:World}{env:Env}{e:Expr}{f:Str}{pos:Pos}{s:Shared}{Q:Value→Shared→Prop}(hb:attributeBase e f env (eval e env)=eval e env)
 (h:wpAny (model prog w) A (eval e env) (fun o s₁=>wpAny (model prog w) A (getAttr o f true) Q E s₁) E s):wpAny (model prog w) A (eval (.Attribute e f pos) env) Q E s :=
 Attribute_any_ h (by rw [arm_eval_Attribute,hb])
end
def tFld (K:PySem.W.Frag) (ta:TE) (f:Str):TE:=fun σ H Q=>ta σ H fun x H1=>∃ a C dx fs v,x=.ref a∧H1 a=some (.ins C dx fs)∧Cls K C∧NoAttr K C f∧fs.lookup f=some v∧Q v H1
def sFld (K:PySem.W.Frag) (ta tv:TE) (f:Str):TS:=fun D σ H=>tv σ H fun y H1=>ta σ H1 fun x H2=>∃ a C dx fs,x=.ref a∧H2 a=some (.ins C dx fs)∧Cls K C∧NoAttr K C f∧fs.length<1000 ∧
 D.nx σ (upd H2 a (.ins C dx (putF f y fs)))
section
variable {X:Cx}{o e value:Expr}{f:Str}{pos pos' tpos:Pos}{ta tv:TE}
theorem bt9 (he:PE X e ta) (hb:attributeBase e f X.env (eval e X.env)=eval e X.env):PE X (.Attribute e f pos) (tFld X.K ta f):=by
 intro pins s σ H Q I h
 refine bm0 hb (thn (he pins s σ H _ I h) fun u s1 ⟨x,H1,I1,rx,a,C,dx,fs,v,ex,ea,c,n,l,q⟩=>?_)
 subst ex
 obtain rfl:u=Value.ref a:=rx
 exact b07 I1 ea c n l fun u' s2 I2 ru=>⟨v,H1,I2,ru,q⟩
theorem bu0 (ha:PE X o ta) (hv:PE X value tv) (hs:swapsWith value (some (.Attribute o f pos')) pos.line X.env=pure false):PS X (.Assign [.Attribute o f pos'] value pos) (sFld X.K ta tv f):=by
 intro pins s σ H D I h
 refine plainObj_wpAny_Assign_Attribute (thn (hv pins s σ H _ I h) fun u s1 ⟨y,H1,I1,ry,q⟩=>thn (ha pins s1 σ H1 _ I1 q) fun ov s2 ⟨x,H2,I2,rx,a,C,dx,fs,ex,ea,c,n,l,q2⟩=>?_) hs
 subst ex
 obtain rfl:ov=Value.ref a:=rx
 exact b09 I2 ea c n l ry fun s3 I3=>⟨σ,_,I3,q2⟩
end
section
variable {X:Cx}{pins:List (Addr×Obj)}{σ:St} {H:Hp}{s:Shared}{A:Around}{E:Value→Shared→Prop}{Q:Value→Shared→Prop}{c:Value}{b:Bool}
inductive TyOf (K:PySem.W.Frag) (H:Hp):V→Value→Prop where
 | non:TyOf K H .non (.type "NoneType")
 | bl (x:Bool):TyOf K H (.bl x) (.type "bool")
 | int (i:Int):TyOf K H (.int i) (.type "int")
 | str (x:Str):TyOf K H (.str x) (.type "str")
 | flt (x:UInt64):TyOf K H (.flt x) (.type "float")
 | lst {a:Addr}{xs:List V}(e:H a=some (.lst xs)):TyOf K H (.ref a) (.type "list")
 | frz {a:Addr}{o:Obj}{xs:List V}(e:H a=some (.frz o (.lst xs))):TyOf K H (.ref a) (.type "list")
 | tup {a:Addr}{xs:List V}(e:H a=some (.tup xs)):TyOf K H (.ref a) (.type "tuple")
 | dK {a:Addr}{kvs:List (Key×V)}(e:H a=some (.dK kvs)):TyOf K H (.ref a) (.type "dict")
 | dT {a:Addr}{kvs:List (List Key×V)}(e:H a=some (.dT kvs)):TyOf K H (.ref a) (.type "dict")
 | ins {a C dx:Addr}{fs:List (Str×V)}(e:H a=some (.ins C dx fs)) (cl:Cls K C) (ha:PySem.W.findIn K (.ref C) "__class__"=some (some (.builtin "object.__class__")))
  (hn:PySem.W.specialIn K (.builtin "object.__class__") "__get__"=some (some (.builtin "getset_descriptor.__get__"))) (htk:PySem.W.takesIn K (.builtin "object.__class__")=some true)
  (hm:PySem.W.mroIn K C (.type "object")=some true):TyOf K H (.ref a) (.ref C)
theorem b65 {x:V}{u t:Value}(I:Inv X pins σ H s) (rx:RelV x u) (ty:TyOf X.K H x t) (e:PySem.W.kitOne X.K t c=some b) (h:∀ tk,Q (.bool b) { s with toks:=tk }) :
 wpAny (model X.prog X.w) A (call (.builtin "isinstance") [u,c]) Q E s:=by
 cases ty with
 | non=>cases (show u=Value.none from rx); exact PySem.W.kia_one PySem.W.kitx_none I.kIn True.intro e (fun z=>nomatch z) h
 | bl y=>cases (show u=Value.bool y from rx); exact PySem.W.kia_one PySem.W.kitx_bool I.kIn True.intro e (fun z=>nomatch z) h
 | int i=>obtain ⟨t,q⟩:=(show ∃ t,u=Value.int i t from rx); cases q; exact PySem.W.kia_one PySem.W.kitx_int I.kIn True.intro e (fun z=>nomatch z) h
 | str y=>obtain ⟨t,q⟩:=(show ∃ t,u=Value.str y t from rx); cases q; exact PySem.W.kia_one PySem.W.kitx_str I.kIn True.intro e (fun z=>nomatch z) h
 | flt y=>obtain ⟨t,q⟩:=(show ∃ t,u=Value.float y t from rx); cases q; exact PySem.W.kia_one PySem.W.kitx_float I.kIn True.intro e (fun z=>nomatch z) h
 | @lst a xs ea =>
   cases (show u=Value.ref a from rx)
   obtain ⟨_,_,n,_,h1⟩:=(show ObjOk X.prog X.w H s.heap a (.lst xs) from I.hok a _ ea)
   exact PySem.W.kia_one PySem.W.kitx_list I.kIn ⟨_,h1,rfl⟩ e (fun z=>nomatch z) h
 | @frz a ob xs ea =>
   cases (show u=Value.ref a from rx)
   obtain ⟨_,_,_,n,_,h1⟩:=(show ObjOk X.prog X.w H s.heap a (.frz ob (.lst xs)) from I.hok a _ ea)
   exact PySem.W.kia_one PySem.W.kitx_list I.kIn ⟨_,h1,rfl⟩ e (fun z=>nomatch z) h
 | @tup a xs ea =>
   cases (show u=Value.ref a from rx)
   obtain ⟨_,_,_,p⟩:=(show ObjOk X.prog X.w H s.heap a (.tup xs) from I.hok a _ ea)
   obtain ⟨o,h1,h2,_⟩:=p
   exact PySem.W.kia_one PySem.W.kitx_tuple I.kIn ⟨o,h1,h2⟩ e (fun z=>nomatch z) h
 | @dK a kvs ea =>
   cases (show u=Value.ref a from rx)
   obtain ⟨_,_,vs,_,p⟩:=(show ObjOk X.prog X.w H s.heap a (.dK kvs) from I.hok a _ ea)
   obtain ⟨o,es,ep,h1,h2,_⟩:=p
   exact PySem.W.kia_one PySem.W.kitx_dict I.kIn ⟨o,h1,h2.1⟩ e (fun z=>nomatch z) h
 | @dT a kvs ea =>
   cases (show u=Value.ref a from rx)
   obtain ⟨_,_,xs,_,o,es,ep,h1,h2,_⟩:=(show ObjOk X.prog X.w H s.heap a (.dT kvs) from I.hok a _ ea)
   exact PySem.W.kia_one PySem.W.kitx_dict I.kIn ⟨o,h1,h2.1⟩ e (fun z=>nomatch z) h
 | @ins a C dx fs ea cl ha hn htk hm =>
   cases (show u=Value.ref a from rx)
   obtain ⟨mA,O,_⟩:=am3 I.hok ea
   obtain ⟨od,J,_⟩:=O.look
   exact PySem.W.kia_one (PySem.W.kitx_own (cl.get _) cl.hd ha hn htk hm) I.kIn J e (fun z=>nomatch z) h
end
structure Room (k:Nat) (A:Around):Prop where
 hd:A.handled=none
 dp:A.depth+3*k+5<recursionLimit
 un:A.units+16*k+200<cLine
theorem Room.mono {j k:Nat}{A:Around}(r:Room k A) (h:j≤k):Room j A:=⟨r.hd,by have:=r.dp; omega,by have:=r.un; omega⟩
theorem Room.deeper {k:Nat}{A:Around}(r:Room (k+1) A) (env:Env):Room k (A.deeper env) :=
 ⟨r.hd,by have:=r.dp; show A.depth+1+3*k+5<_; omega,by have:=r.un; show A.units+3+16*k+200<_; omega⟩
theorem b27 {A:Around}{C:Addr}{us:List Value}{kw:List (Str×Value)}:(A.under (.builtin "type.__call__" ⟨.ref C::us,kw⟩)).depth=A.depth+1:=by
 first | rfl | simp [Around.under,Code.weight,Code.isCreation,Code.isGuard,Code.isCaller,Code.frames,Code.isFrame,guardIds]
theorem b28 {A:Around}{C:Addr}{us:List Value}{kw:List (Str×Value)}:(A.under (.builtin "type.__call__" ⟨.ref C::us,kw⟩)).units=A.units+1:=by
 first | rfl | simp [Around.under,Code.cUnits,Code.frames,Code.isFrame]
theorem Room.make {k:Nat}{A:Around}(r:Room (k+1) A) (C:Addr) (us:List Value) (kw:List (Str×Value)):Room k (A.under (.builtin "type.__call__" ⟨.ref C::us,kw⟩)) :=
 ⟨r.hd,by have:=r.dp; rw [b27]; omega,by have:=r.un; rw [b28]; omega⟩
theorem Room.depth {k:Nat}{A:Around}(r:Room k A):A.depth<recursionLimit:=by have:=r.dp; omega
theorem Room.units {k:Nat}{A:Around}(r:Room k A):A.units+64<cLine:=by have:=r.un; omega
def tNil:TA:=fun _ H Q=>Q [] H
def tCons (ta:TE) (tr:TA):TA:=fun σ H Q=>ta σ H fun x H1=>tr σ H1 fun xs H2=>Q (x::xs) H2
section
variable {X:Cx}{e:Expr}{es:List Expr}{te:TE}{t:TA}{pos:Pos}
theorem a04:PA X [] tNil:=fun _ _ _ _ H Q I h=>Calls.spliced_nil ⟨[],H,I,.nil,h⟩
theorem a00 (ha:PE X e te) (hr:PA X es t) (hs:starEach (e::es) X.env=(false,eval e X.env)::starEach es X.env:=by rfl):PA X (e::es) (tCons te t):=by
 intro pos pins s σ H Q I h
 rw [hs]
 show wpAny _ _ (spliced ((false,eval e X.env)::backTo pos (starEach es X.env))) _ _ s
 refine Calls.spliced_cons (thn (ha pins s σ H _ I h) fun u s1 ⟨x,H1,I1,r1,q1⟩=>?_)
 exact thn (hr pos pins s1 σ H1 _ I1 q1) fun us s2 ⟨xs,H2,I2,r2,q2⟩=>⟨x::xs,H2,I2,.cons r1 r2,q2⟩
end
abbrev Sp:=List V→Hp→VK→XK→Prop
abbrev CXT:=List Env→Hp→Shared→XK→Value→Shared→Prop
structure Env0 (P:Program) (w:World) (K:PySem.W.Frag) (mg:Str→Option Value) (base:Heap) (A:Around) (outer:List Env) (s:Shared) (H:Hp):Prop where
 frames:A.frames=some outer
 mod:Mod K mg base
 bs:∀ b o,base.get? b=some o→s.heap.get? b=some o∧H b=none
 bsz:base.objs.size≤s.heap.objs.size
 funs:s.heap.FunFrames base outer
 frf:∀ b∈frs outer,H b=none
 hok:HOk P w H s.heap
 bare:AllBare s.gens
def CE (outer:List Env) (P:Program) (w:World) (H:Hp) (s:Shared) (Q:VK) (u:Value) (s':Shared):Prop :=
 ∃ v H',s'.os=s.os∧AllBare s'.gens∧Un (frs outer) [] H H' s.heap s'.heap∧HOk P w H' s'.heap∧RelV v u∧Q v H'
def CR (CX:CXT) (outer:List Env) (P:Program) (w:World) (H:Hp) (s:Shared) (Q:VK) (E:XK) (r:Result) (s':Shared):Prop :=
 match r with
 | .ok (.ret u)=>CE outer P w H s Q u s'
 | .ok _=>False
 | .error e=>CX outer H s E e s'
structure FnOk (P:Program) (w:World) (K:PySem.W.Frag) (mg:Str→Option Value) (base:Heap) (CX:CXT) (k:Nat) (f:Addr) (fd:FuncData) (ps:List Str) (sp:Sp):Prop where
 len:∀ vs H Q E,sp vs H Q E→vs.length=ps.length
 run:∀ (A:Around) (outer:List Env) (s:Shared) (H:Hp) (args:Args) (us:List Value) (vs:List V) (Q:VK) (E:XK),Room k A→Env0 P w K mg base A outer s H→BindsTo s fd args (ps.zip us)→Vals vs us→sp vs H Q E →
  codeAny (model P w) A (.call (.ref f) args) (CR CX outer P w H s Q E) s
theorem Env0.make {P:Program}{w:World}{K:PySem.W.Frag}{mg:Str→Option Value}{base:Heap}{A:Around}{outer:List Env}{s:Shared}{H:Hp}(e:Env0 P w K mg base A outer s H) (C:Addr) (us:List Value) (kw:List (Str×Value)) :
 Env0 P w K mg base (A.under (.builtin "type.__call__" ⟨.ref C::us,kw⟩)) outer s H:=⟨by first | exact e.frames | (simpa [Around.under,Code.envs,Code.isFrame,pushEnvs] using e.frames),e.mod,e.bs,e.bsz,e.funs,e.frf,e.hok,e.bare⟩
section
variable {X:Cx}{pins:List (Addr×Obj)}{σ:St} {H:Hp}{s s':Shared}
theorem Inv.env0 (I:Inv X pins σ H s):Env0 X.prog X.w X.K X.mg X.base X.A X.stack s H :=
 ⟨I.ok.frames,I.ok.mod,I.bs,Nat.le_trans I.ok.bsz I.sz,I.stack,I.stkFree,I.hok,I.bare⟩
theorem Inv.after {Q:VK}{u:Value}(I:Inv X pins σ H s) (h:CE X.stack X.prog X.w H s Q u s'):EP X pins σ Q u s':=by
 obtain ⟨v,H',os,bare,un,hok,r,q⟩:=h
 obtain ⟨hh,g,d,t,os'⟩:=s'
 obtain rfl:os'=s.os:=os
 exact ⟨v,H',I.call (h':=hh) (g':=g) (d':=d) (t':=t) (ch:=[]) un hok bare (fun b z=>absurd z (by simp)),r,q⟩
end
def tCall (sp:Sp) (dvs:List V) (E:XK) (t:TA):TE:=fun σ H Q=>t σ H fun vs H1=>sp (vs++dvs) H1 Q E
def tMeth (C:Addr) (m:Str) (sp:Sp) (dvs:List V) (E:XK) (ta:TE) (t:TA):TE:=fun σ H Q=>ta σ H fun x H1=>∃ a dx fs,x=.ref a∧H1 a=some (.ins C dx fs)∧fs.lookup m=none ∧
 t σ H1 fun vs H2=>sp (x::(vs++dvs)) H2 Q E
def tMake (C:Addr) (sp:Sp) (dvs:List V) (E:XK) (t:TA):TE:=fun σ H Q=>t σ H fun vs H1=>∀ x dx,H1 x=none→H1 dx=none→dx≠x →
 sp (.ref x::(vs++dvs)) (upd (upd H1 dx (.own x)) x (.ins C dx [])) (fun v H2=>v=.non∧Q (.ref x) H2) E
def Binds (K:PySem.W.Frag) (fd:FuncData) (ps:List Str) (ds:List Value):Prop :=
 ∀ (s:Shared) (us:List Value),K.In s.heap→(us++ds).length=ps.length→BindsTo s fd ⟨us,[]⟩ (ps.zip (us++ds))
theorem Binds.all {K:PySem.W.Frag}{fd:FuncData}{ps:List Str}(h:∀ us:List Value,us.length=ps.length→bindArgs fd ⟨us,[]⟩=pure (ps.zip us)):Binds K fd ps []:=fun s us _ hl=>by
 rw [List.append_nil] at hl ⊢
 exact .of_eq (h us hl)
def Passes (CX:CXT) (X:Cx) (E:XK):Prop:=∀ (pins:List (Addr×Obj)) (σ:St) (H:Hp) (s:Shared) (e:Value) (s':Shared),Inv X pins σ H s→CX X.stack H s E e s'→X.xe e s'
section
variable {X:Cx}{CX:CXT}{k:Nat}{f C:Addr}{fd:FuncData}{ps:List Str}{sp:Sp}{dvs:List V}{ds:List Value}{E:XK}{x m:Str}{p pos apos:Pos}{e o:Expr}{es:List Expr}{ta:TE}{t:TA}
theorem bj2 {pins:List (Addr×Obj)}{σ:St} {H:Hp}{s:Shared}{Q:VK}{us:List Value}{vs:List V}(F:FnOk X.prog X.w X.K X.mg X.base CX k f fd ps sp) (hr:Room k X.A) (hb:Binds X.K fd ps ds) (hd:Vals dvs ds) (hx:Passes CX X E)
 (I:Inv X pins σ H s) (r:Vals vs us) (h:sp (vs++dvs) H Q E):wpAny (model X.prog X.w) X.A (call (.ref f) us) (EP X pins σ Q) X.xe s:=by
 have r2:Vals (vs++dvs) (us++ds):=r.append hd
 have hl:(us++ds).length=ps.length:=by rw [← r2.length]; exact F.len _ _ _ _ h
 refine wpAny_call (codeAny_mono (F.run X.A X.stack s H ⟨us,[]⟩ (us++ds) (vs++dvs) Q E hr I.env0 (hb s us I.kIn hl) r2 h) fun r s' hq=>?_)
 cases r with
 | error e=>exact hx pins σ H s e s' I hq
 | ok fl =>
   cases fl with
   | ret u=>exact I.after hq
   | next=>exact False.elim hq
   | brk=>exact False.elim hq
   | cont=>exact False.elim hq
theorem a50 (F:FnOk X.prog X.w X.K X.mg X.base CX k f fd ps sp) (hr:Room k X.A) (hg:Gl X x) (hm:X.mg x=some (.ref f)) (hk:PySem.W.keepIn X.K (.ref f)=true) (hb:Binds X.K fd ps ds) (hd:Vals dvs ds) (hx:Passes CX X E)
 (ha:PA X (e::es) t) (hdb:(x == ("__debug__":Str))=false:=by decide) (he:starEach (e::es) X.env=(false,eval e X.env)::starEach es X.env:=by rfl) (hpl:(backTo pos (starEach es X.env)).any (·.1)=false:=by rfl) :
 PE X (.Call (.Name x p) (e::es) [] pos) (tCall sp dvs E t):=by
 intro pins s σ H Q I h
 refine wpAny_Call_Name_kw (b57 I hg hm ?_ hdb)
 refine PySem.W.callWith_K (h₀:=X.base) I.ok.mod.kin hk (thn (ha pos pins s σ H _ I h) fun us s1 ⟨vs,H1,I1,r,q⟩=>⟨I1.kIn,?_⟩) he hpl
 exact bj2 F hr hb hd hx I1 r q
theorem ah2 {pl:Sem Bool}(he:PE X o ta) (c:Cls X.K C) (hm:Meth X.K C m f) (F:FnOk X.prog X.w X.K X.mg X.base CX k f fd ps sp) (hr:Room k X.A) (hb:Binds X.K fd ps ds) (hd:Vals dvs ds) (hx:Passes CX X E) (ha:PA X (e::es) t)
 (hst:starEach (e::es) X.env=(false,eval e X.env)::starEach es X.env:=by rfl) (hpl:(backTo pos (starEach es X.env)).any (·.1)=false:=by rfl)
 (ht:eval (.Call (.Attribute o m apos) (e::es) [] pos) X.env=(do
  let ov←eval o X.env
  standAt apos.atName
  let (f,first)←holding [ov] (getMethod ov m pl)
  callWith pos f first (backTo pos (starEach (e::es) X.env)) (backToKw pos (keywordEach [] X.env))):=by rfl) :
 PE X (.Call (.Attribute o m apos) (e::es) [] pos) (tMeth C m sp dvs E ta t):=by
 intro pins s σ H Q I h
 refine PySem.W.methodCall_KW (pl:=pl) (thn (he pins s σ H _ I h) fun u s1 ⟨x,H1,I1,rx,a,dx,fs,ex,ea,l,q⟩=>?_) ht
 subst ex
 obtain rfl:u=Value.ref a:=rx
 refine b08 I1 ea c hm l ?_
 refine PySem.W.callWith_K (first:=[.ref a]) (h₀:=X.base) I.ok.mod.kin hm.kp (thn (ha pos pins s1 σ H1 _ I1 q) fun us s2 ⟨vs,H2,I2,r,q2⟩=>⟨I2.kIn,?_⟩) hst hpl
 exact bj2 (us:=.ref a::us) (vs:=.ref a::vs) F hr hb hd hx I2 (.cons rfl r) q2
structure Mk (K:PySem.W.Frag) (C f:Addr):Prop where
 makes:PySem.W.makesIn K C=true
 init:PySem.W.findIn K (.ref C) "__init__"=some (some (.ref f))
 fn:PySem.W.isFn K (.ref f)=true
 kp:PySem.W.keepIn K (.ref C)=true
theorem be5 {pins:List (Addr×Obj)}{σ:St} {H:Hp}{s:Shared}{Q:VK}{us:List Value}{vs:List V}(M:Mk X.K C f) (F:FnOk X.prog X.w X.K X.mg X.base CX k f fd ps sp) (hr:Room (k+1) X.A) (hb:Binds X.K fd ps ds) (hd:Vals dvs ds)
 (hx:Passes CX X E) (I:Inv X pins σ H s) (r:Vals vs us)
 (h:∀ x dx,H x=none→H dx=none→dx≠x→sp (.ref x::(vs++dvs)) (upd (upd H dx (.own x)) x (.ins C dx [])) (fun v H2=>v=.non∧Q (.ref x) H2) E) :
 wpAny (model X.prog X.w) X.A (call (.ref C) us) (EP X pins σ Q) X.xe s:=by
 have hq:=h (s.heap.objs.size+1) s.heap.objs.size (I.hok.fresh (Nat.le_succ _)) (I.hok.fresh (Nat.le_refl _)) (Nat.ne_of_lt (Nat.lt_succ_self _))
 have I2:=Inv.made (C:=C) I
 have r2:Vals (V.ref (s.heap.objs.size+1)::(vs++dvs)) (Value.ref (s.heap.objs.size+1)::(us++ds)):=.cons rfl (r.append hd)
 have hl:(Value.ref (s.heap.objs.size+1)::us++ds).length=ps.length:=by
  have e:=r2.length
  rw [F.len _ _ _ _ hq] at e
  exact e.symm
 refine wpAny_call (be4 (f:=f) I.kIn M.makes M.init (beq_iff_eq.mp M.fn) (codeAny_mono (F.run _ X.stack _ _ ⟨Value.ref (s.heap.objs.size+1)::us,[]⟩ (Value.ref (s.heap.objs.size+1)::(us++ds)) _ _ E (hr.make C us [])
  (I2.env0.make C us []) (hb _ (Value.ref (s.heap.objs.size+1)::us) I2.kIn hl) r2 hq) fun r s' hq'=>?_))
 cases r with
 | error e=>exact hx pins σ _ _ e s' I2 hq'
 | ok fl =>
   cases fl with
   | ret u =>
     obtain ⟨v,H',I3,rv,ev,q3⟩:=I2.after hq'
     subst ev
     exact ⟨rv,⟨V.ref (s.heap.objs.size+1),H',I3,rfl,q3⟩⟩
   | next=>exact False.elim hq'
   | brk=>exact False.elim hq'
   | cont=>exact False.elim hq'
theorem bm1 (M:Mk X.K C f) (F:FnOk X.prog X.w X.K X.mg X.base CX k f fd ps sp) (hr:Room (k+1) X.A) (hg:Gl X x) (hm:X.mg x=some (.ref C)) (hb:Binds X.K fd ps ds) (hd:Vals dvs ds) (hx:Passes CX X E)
 (ha:PA X (e::es) t) (hdb:(x == ("__debug__":Str))=false:=by decide) (he:starEach (e::es) X.env=(false,eval e X.env)::starEach es X.env:=by rfl) (hpl:(backTo pos (starEach es X.env)).any (·.1)=false:=by rfl) :
 PE X (.Call (.Name x p) (e::es) [] pos) (tMake C sp dvs E t):=by
 intro pins s σ H Q I h
 refine wpAny_Call_Name_kw (b57 I hg hm ?_ hdb)
 refine PySem.W.callWith_K (h₀:=X.base) I.ok.mod.kin M.kp (thn (ha pos pins s σ H _ I h) fun us s1 ⟨vs,H1,I1,r,q⟩=>⟨I1.kIn,?_⟩) he hpl
 exact be5 M F hr hb hd hx I1 r q
end
section
variable {X:Cx}{CX:CXT}{k:Nat}{f C:Addr}{fd:FuncData}{ps ks:List Str}{sp:Sp}{E:XK}{x m:Str}{p pos apos kpos:Pos}{e o:Expr}{es:List Expr}{kws:List Keyword}{te ta:TE}{t tk:TA}{nm:Option Str}
variable {g:List Value→List Value→List Value}{gV:List V→List V→List V}
end
structure FnScope (N P:List Str) (sc:Scope):Prop where
 kind:sc.kind=.function
 co:sc.isCoroutine=false
 gen:sc.isGenerator=false
 nd:N.Nodup
 pre:N.take P.length=P
 par:∀ x∈P,sc.names.lookup x=some .local∨sc.names.lookup x=some .cell
 nofree:∀ y∈sc.names,y.2≠.free
theorem ar1 {kindOf:Str→Option NameKind}{x:Str}:∀ {binds:List (Str×Value)}{m:Str→Option Value},(∀ v,(x,v)∉binds)→bindL kindOf binds m x=m x
 | [],_,_=>rfl
 | (n,v)::r,m,h=>by
   unfold bindL
   rw [ar1 fun w hw=>h w (List.mem_cons_of_mem _ hw)]
   split
   · have:x≠n:=by rintro rfl; exact h v List.mem_cons_self
     simp [this]
   · rfl
theorem ar2 {kindOf:Str→Option NameKind}{x:Str}:∀ {binds:List (Str×Value)}{m:Str→Option Value},(∀ v,(x,v)∉binds)→bindC kindOf binds m x=m x
 | [],_,_=>rfl
 | (n,v)::r,m,h=>by
   unfold bindC
   rw [ar2 fun w hw=>h w (List.mem_cons_of_mem _ hw)]
   split
   · rfl
   · have:x≠n:=by rintro rfl; exact h v List.mem_cons_self
     simp [this]
theorem ar3 {kindOf:Str→Option NameKind}{x:Str}{v:Value}:∀ {P:List Str}{vs:List Value}{i:Nat}{m:Str→Option Value},P.Nodup→P[i]?=some x→vs[i]?=some v→kindOf x=some .local →
 bindL kindOf (P.zip vs) m x=some v
 | [],_,_,_,_,h,_,_=>by simp at h
 | _::_,[],_,_,_,_,h,_=>by simp at h
 | p::P,w::vs,0,m,nd,h1,h2,hk=>by
   simp at h1 h2; subst h1; subst h2
   show bindL kindOf ((p,w)::P.zip vs) m p=_
   unfold bindL
   rw [ar1 fun v hv=>(List.nodup_cons.mp nd).1 (List.of_mem_zip hv).1,if_pos hk]
   simp
 | p::P,w::vs,i+1,m,nd,h1,h2,hk=>by
   show bindL kindOf ((p,w)::P.zip vs) m x=_
   unfold bindL
   exact ar3 (i:=i) (List.nodup_cons.mp nd).2 (by simpa using h1) (by simpa using h2) hk
theorem ar4 {kindOf:Str→Option NameKind}{x:Str}{v:Value}:∀ {P:List Str}{vs:List Value}{i:Nat}{m:Str→Option Value},P.Nodup→P[i]?=some x→vs[i]?=some v→kindOf x≠some .local →
 bindC kindOf (P.zip vs) m x=some v
 | [],_,_,_,_,h,_,_=>by simp at h
 | _::_,[],_,_,_,_,h,_=>by simp at h
 | p::P,w::vs,0,m,nd,h1,h2,hk=>by
   simp at h1 h2; subst h1; subst h2
   show bindC kindOf ((p,w)::P.zip vs) m p=_
   unfold bindC
   rw [ar2 fun v hv=>(List.nodup_cons.mp nd).1 (List.of_mem_zip hv).1,if_neg hk]
   simp
 | p::P,w::vs,i+1,m,nd,h1,h2,hk=>by
   show bindC kindOf ((p,w)::P.zip vs) m x=_
   unfold bindC
   exact ar4 (i:=i) (List.nodup_cons.mp nd).2 (by simpa using h1) (by simpa using h2) hk
def start (N:List Str) (vs:List V):St:=vs.map some++List.replicate (N.length - vs.length) none
def cxOf (CX:CXT) (P:Program) (w:World) (K:PySem.W.Frag) (mg:Str→Option Value) (base:Heap) (N:List Str) (qual:Str) (scope:Scope) (f:Addr) (cd:Value) (A:Around) (outer:List Env) (s:Shared) (H:Hp) (E:XK):Cx where
 prog:=P
 w:=w
 K:=K
 mg:=mg
 base:=base
 A:=A.deeper (envOfC qual scope s.heap.objs.size f cd)
 N:=N
 s₀:=s
 H₀:=H
 env:=envOfC qual scope s.heap.objs.size f cd
 outer:=outer
 stack:=envOfC qual scope s.heap.objs.size f cd::outer
 ex:=[]
 calm:=true
 fn:=fun _=>true
 pn:=[]
 xe:=fun e s'=>wpAny (model P w) (A.deeper (envOfC qual scope s.heap.objs.size f cd)) (leaving (envOfC qual scope s.heap.objs.size f cd) e) (fun _ s''=>CX outer H s E e s'') (fun e' s''=>CX outer H s E e' s'') s'
theorem ax6 {sc:Scope}{n:Nat}{x:Str}(h:sc.names.lookup x=some .cell):∃ c,(cellsFrom n sc.names []).lookup x=some c:=by
 have q:=PySem.W.cellsFrom_some sc.names n [] (.inl h)
 exact Option.isSome_iff_exists.mp q
theorem b66 {CX:CXT}{P:Program}{w:World}{K:PySem.W.Frag}{mg:Str→Option Value}{base:Heap}{N ps:List Str}{qual:Str}{scope:Scope}{f:Addr}{cd:Value}{A:Around}{outer:List Env}{s s1:Shared}{H:Hp}{E:XK}{us:List Value}{vs:List V}
 (S:FnScope N ps scope) (hd:A.handled=none) (e0:Env0 P w K mg base A outer s H) (hl:vs.length=ps.length) (r:Vals vs us)
 (x:InCallC s s.heap.objs.size (bindL (envOfC qual scope s.heap.objs.size f cd).kindOf (ps.zip us) fun _=>none) (cellsFrom (s.heap.objs.size+1) scope.names []) (bindC (envOfC qual scope s.heap.objs.size f cd).kindOf (ps.zip us) fun _=>none) s1) :
 Inv (cxOf CX P w K mg base N qual scope f cd A outer s H E) [] (start N vs) H s1:=by
 have hpl:ps.length≤N.length:=by have:=congrArg List.length S.pre; rw [List.length_take] at this; omega
 obtain ⟨h1,tk,rfl,hk⟩:=x.done
 have noA:∀ b:Addr,b∉(cxOf CX P w K mg base N qual scope f cd A outer s H E).ex:=fun b z=>absurd (show b∈([]:List Addr) from z) (by simp)
 refine ⟨⟨e0.mod,S.kind,rfl,rfl,Nat.le_refl _,fun y z c h1 h2=>?_,fun y hy=>?_,fun y c _ h=>?_,fun _=>hd,Around.frames_deeper e0.frames,.inr ⟨rfl,rfl⟩,fun b z=>absurd z (noA b),e0.bs,e0.bsz,fun b _ _=>noA b,fun b z=>absurd z (noA b),e0.funs,e0.frf⟩,
  rfl,e0.bare,Un.kept hk,⟨_,x.toInCall.ns,fun i y v h1 h2 h3=>?_⟩,fun y c h=>⟨_,x.cell y c h⟩,e0.hok.fresh (Nat.le_refl _),fun y c h=>?_,fun p hp=>absurd (show p∈([]:List (Addr×Obj)) from hp) (by simp),e0.hok.kept hk,?_⟩
 · exact name_of_addr x.apart (PySem.mem_of_lookup h1) (PySem.mem_of_lookup h2)
 · have hy:scope.names.lookup y=some .cell∨scope.names.lookup y=some .free:=hy
   rcases hy with hy | hy
   · exact ax6 hy
   · exact absurd rfl (S.nofree _ (PySem.mem_of_lookup hy))
 · exact Nat.le_of_lt (x.above y c (PySem.mem_of_lookup h))
 · have hi:i<vs.length:=by
    unfold start at h2
    by_cases hi:i<vs.length
    · exact hi
    · rw [List.getElem?_append_right (by simpa using hi)] at h2
      rw [List.getElem?_replicate] at h2
      split at h2 <;> cases h2
   have ha:vs[i]?=some v:=by
    unfold start at h2
    rw [List.getElem?_append_left (by simpa using hi),List.getElem?_map] at h2
    cases e:vs[i]? with
    | none=>rw [e] at h2; cases h2
    | some a=>rw [e] at h2; cases h2; rfl
   obtain ⟨u,hu,rv⟩:=r.get ha
   have hp:ps[i]?=some y:=by
    rw [← S.pre,List.getElem?_take_of_lt (by omega)]; exact h1
   have ndP:ps.Nodup:=by rw [← S.pre]; exact S.nd.sublist (List.take_sublist _ _)
   refine ⟨u,rv,?_⟩
   rcases S.par y (List.mem_of_getElem? hp) with k | k
   · exact .inl ⟨k,ar3 ndP hp hu k⟩
   · obtain ⟨c,e⟩:=ax6 (n:=s.heap.objs.size+1) k
     refine .inr ⟨.inl k,c,e,?_⟩
     have q:=x.cell y c e
     rw [ar4 ndP hp hu (by show scope.names.lookup y≠_; rw [k]; decide)] at q
     exact q
 · exact e0.hok.fresh (Nat.le_of_lt (x.above y c (PySem.mem_of_lookup h)))
 · unfold start
   show _=N.length
   rw [List.length_append,List.length_map,List.length_replicate]
   omega
theorem c09 {CX:CXT}{P:Program}{w:World}{K:PySem.W.Frag}{mg:Str→Option Value}{base:Heap}{k:Nat}{f:Addr}{name qual:Str}{params:Arguments}{body:List Stmt}{scope:Scope}{dV kV doc pm cdv ct oc:Value}{an od:Option Addr}
 {osl:Array (Option Value)}{N ps:List Str}{sp:Sp}(lk:K.lookup f=some ⟨oc,od,.func (PySem.W.fnOf name qual params body scope dV kV doc pm an cdv ct),osl⟩) (hcd:PySem.W.codeIn K cdv qual=true) (S:FnScope N ps scope)
 (len:∀ vs H Q E,sp vs H Q E→vs.length=ps.length)
 (hbody:∀ (A:Around) (outer:List Env) (s:Shared) (H:Hp) (vs:List V) (Q:VK) (E:XK),Room k (A.deeper (envOfC qual scope s.heap.objs.size f cdv))→sp vs H Q E →
  ∃ t,PSs (cxOf CX P w K mg base N qual scope f cdv A outer s H E) body t∧t { nx:=fun _ H'=>Q .non H',rt:=Q } (start N vs) H) :
 FnOk P w K mg base CX (k+1) f (PySem.W.fnOf name qual params body scope dV kV doc pm an cdv ct) ps sp:=by
 refine ⟨len,fun A outer s H args us vs Q E hr e0 hb r hsp=>?_⟩
 have hl:=len _ _ _ _ hsp
 have KX:K.In s.heap:=e0.mod.kin.keeps fun b o e=>(e0.bs b o e).1
 have lim:s.heap.NoLimit:=e0.mod.nolimit.keeps fun b o e=>(e0.bs b o e).1
 have hkind:∀ y∈ps.zip us,scope.names.lookup y.1=some .local∨(scope.names.lookup y.1=some .cell∧((cellsFrom (s.heap.objs.size+1) scope.names []).lookup y.1).isSome=true):=fun ⟨n,v⟩ hy=>by
  rcases S.par n (List.of_mem_zip hy).1 with q | q
  · exact .inl q
  · exact .inr ⟨q,PySem.W.cellsFrom_some _ _ _ (.inl q)⟩
 refine codeAny_call_function hr.depth (KX _ _ lk) rfl S.co S.gen rfl (PySem.W.codeRec_of KX hcd) (hb _ _ _ _ ?_)
 refine wpAny_newFunctionEnv_cells S.kind hkind fun env he s1 x=>?_
 subst he
 refine ⟨lim.keeps x.toInCall.keep,codeAny_func ?_⟩
 obtain ⟨t,ht,hq⟩:=hbody A outer s H vs Q E (hr.deeper _) hsp
 have I:Inv (cxOf CX P w K mg base N qual scope f cdv A outer s H E) [] (start N vs) H s1:=b66 S hr.hd e0 hl r x
 refine wpAny_mono (ht [] s1 (start N vs) H _ I hq) (fun fl s' hs=>?_) fun e s' hs=>hs
 have fin:∀ {σ':St} {H':Hp}{v:V}{u:Value},Inv (cxOf CX P w K mg base N qual scope f cdv A outer s H E) [] σ' H' s'→RelV v u→Q v H'→CE outer P w H s Q u s' :=
  fun {σ' H' v u} J rv q=>⟨v,H',J.os,J.bare,J.base,J.hok,rv,q⟩
 cases fl with
 | ret u =>
   obtain ⟨v,σ',H',J,rv,q⟩:=hs
   exact fin J rv q
 | next =>
   obtain ⟨σ',H',J,q⟩:=hs
   exact fin (v:=V.non) (u:=Value.none) J rfl q
 | brk =>
   obtain ⟨_,_,_,q⟩:=hs
   exact False.elim q
 | cont =>
   obtain ⟨_,_,_,q⟩:=hs
   exact False.elim q
section
variable {X:Cx}{x:Str}{p pos:Pos}{e:Expr}{es:List Expr}{t:TA}{id T:String}{r:List V→Hp→VK→Prop}
def tCB (r:List V→Hp→VK→Prop) (t:TA):TE:=fun σ H Q=>t σ H fun vs H1=>r vs H1 Q
theorem a77 (hc:CallR X (.builtin id) r) (hg:Gl X x) (hm:X.mg x=none) (hv:bootBuiltins x=some (.builtin id)) (ha:PA X (e::es) t) (hn:x≠"__name__":=by decide) (hdb:(x == ("__debug__":Str))=false:=by decide)
 (he:starEach (e::es) X.env=(false,eval e X.env)::starEach es X.env:=by rfl) (hpl:(backTo pos (starEach es X.env)).any (·.1)=false:=by rfl):PE X (.Call (.Name x p) (e::es) [] pos) (tCB r t):=by
 intro pins s σ H Q I h
 refine wpAny_Call_Name_kw (ae8 I hg hm hv ?_ hn hdb)
 exact PyProof.Rows.callWith_builtin1 (thn (ha pos pins s σ H _ I h) fun us s1 ⟨vs,H1,I1,r1,q1⟩=>hc pins s1 σ H1 vs us Q I1 r1 q1) he hpl
theorem a78 (hc:CallR X (.type T) r) (hg:Gl X x) (hm:X.mg x=none) (hv:bootBuiltins x=some (.type T)) (ha:PA X (e::es) t) (hn:x≠"__name__":=by decide) (hdb:(x == ("__debug__":Str))=false:=by decide)
 (he:starEach (e::es) X.env=(false,eval e X.env)::starEach es X.env:=by rfl) (hpl:(backTo pos (starEach es X.env)).any (·.1)=false:=by rfl):PE X (.Call (.Name x p) (e::es) [] pos) (tCB r t):=by
 intro pins s σ H Q I h
 refine wpAny_Call_Name_kw (ae8 I hg hm hv ?_ hn hdb)
 exact PyProof.Rows.callWith_type1 (thn (ha pos pins s σ H _ I h) fun us s1 ⟨vs,H1,I1,r1,q1⟩=>hc pins s1 σ H1 vs us Q I1 r1 q1) he hpl
end
end L2
namespace HT
open PySem PyProof.Rows
section
open PySem.SeqAt
open PySem.AutoSeq1 (wpAny_loadPart')
open PySem.MeetsSeq PySem.MeetsSeq2 PySem.MeetsSeq3
end
section
variable {prog:Program}{w:World}{A:Around}{E:Value→Shared→Prop}{s:Shared}
theorem cat_tup {t b:Addr}{vs ws:List Value}{Q:Value→Shared→Prop}(ht:IsTup s.heap t vs.toArray) (hb:IsTup s.heap b ws.toArray) (hv:vs≠[])
 (h1:ws=[]→Q (.ref t) s) (h2:ws≠[]→Q (.ref s.heap.objs.size) { s with heap:=s.heap.push { cls:=.type "tuple",data:=.seq (vs++ws).toArray } })
 (hsz:vs.length+ws.length≤sizeLine):wpAny (model prog w) A (binaryOp .Add (.ref t) (.ref b)) Q E s:=by
 obtain ⟨⟨cls,dd,data,sl⟩,ho,hc,n,hd⟩:=id ht
 obtain ⟨⟨cls2,dd2,data2,sl2⟩,ho2,hc2,n2,hd2⟩:=id hb
 simp only at hc hd hc2 hd2
 subst hc hd hc2 hd2
 have e:vs.toArray++ws.toArray=(vs++ws).toArray:=by simp
 by_cases hw:ws=[]
 · exact concat_meets ⟨_,ho,rfl⟩ ⟨_,ho2,rfl⟩ noFill_tuple_add seq_tuple_add PySem.F.slot_tuple_add PySem.F.entry_tuple_add (PySem.F.args_tuple_add_2 _ _)
    (tuple_addW1 t b vs.toArray ws.toArray n n2 dd dd2 sl sl2 (by simpa using hv) (by simp [hw])) ⟨ho,ho2,h1 hw⟩
 · refine concat_meets ⟨_,ho,rfl⟩ ⟨_,ho2,rfl⟩ noFill_tuple_add seq_tuple_add PySem.F.slot_tuple_add PySem.F.entry_tuple_add (PySem.F.args_tuple_add_2 _ _)
    (tuple_addW2 t b vs.toArray ws.toArray n n2 dd dd2 sl sl2 (by simpa using hv) (by simpa using hw) (by rw [List.size_toArray,List.size_toArray]; exact hsz)) ⟨ho,ho2,?_⟩
   rw [e]
   exact h2 hw
def sIx (n d:Nat):Option Int→Nat
 | none=>d
 | some v=>if v<0 then (v+(n:Int)).toNat else min v.toNat n
theorem sIx_none (n d:Nat):sIx n d none=d:=rfl
theorem bu1 (n d:Nat) (hd:d≤n) (o:Option Int):sIx n d o≤n:=by
 cases o with
 | none=>exact hd
 | some v =>
   show (if v<0 then (v+(n:Int)).toNat else min v.toNat n)≤n
   by_cases hv:v<0
   · rw [if_pos hv]; omega
   · rw [if_neg hv]; exact Nat.min_le_right _ _
theorem b67 (v:Int) (n d:Nat):(if v<0 then max (v+(n:Int)) 0 else min v (n:Int))=((sIx n d (some v):Nat):Int):=by
 show (if v<0 then max (v+(n:Int)) 0 else min v (n:Int))=(((if v<0 then (v+(n:Int)).toNat else min v.toNat n):Nat):Int)
 by_cases hv:v<0
 · simp only [if_pos hv]; omega
 · simp only [if_neg hv]; omega
theorem b30 (lo hi:Option Int) (n:Nat):Builtin.Slice.sliceAdjust lo hi 1 (n:Int)=(((sIx n 0 lo:Nat):Int),((sIx n n hi:Nat):Int)):=by
 have h1:¬ ((1:Int)<0):=by omega
 unfold Builtin.Slice.sliceAdjust
 simp only [h1,if_false]
 refine Prod.ext ?_ ?_
 · cases lo with
   | none=>rfl
   | some v=>exact b67 v n 0
 · cases hi with
   | none=>rfl
   | some v=>exact b67 v n n
theorem b31 (i j:Nat):Builtin.Slice.slicePlaces (i:Int) (j:Int) 1=j - i:=by
 unfold Builtin.Slice.slicePlaces
 have h1:(1:Int) > 0:=by omega
 simp only [h1,if_true,Int.ediv_one]
 split <;> omega
theorem ak9 {v:Value}{o:Option Int}{Q:Option Int→Shared→Prop}(p:IsPart v o) (h:Q o s):wpAny (model prog w) A (Builtin.Slice.slicePartIndex v) Q E s:=by
 cases p with
 | none=>exact slicePart_none h
 | int i t=>exact slicePart_int h
theorem ai2 {sl:Addr}{vl vu:Value}{lo hi:Option Int}{n:Nat}{Q:Int×Int×Nat→Shared→Prop}(hs:s.heap.IsSliceOf sl vl vu .none) (pl:IsPart vl lo) (pu:IsPart vu hi)
 (h:Q (((sIx n 0 lo:Nat):Int),1,sIx n n hi - sIx n 0 lo) s):wpAny (model prog w) A (Builtin.Slice.sliceApplied (.ref sl) (pure (n:Int))) Q E s:=by
 obtain ⟨os,hos,hcs,hds⟩:=id hs
 unfold Builtin.Slice.sliceApplied Builtin.Slice.sliceFields
 refine wpAny_bind (wpAny_bind (wpAny_field hos hds (x:=vl) rfl (wpAny_bind (wpAny_field hos hds (x:=vu) rfl (wpAny_bind (wpAny_field hos hds (x:=.none) rfl (wpAny_pure ?_)))))))
 refine wpAny_bind (slicePart_none ?_)
 show wpAny _ _ (if ((1:Int) == 0)=true then _ else _) _ _ s
 rw [if_neg (by decide)]
 refine wpAny_bind (ak9 pl (wpAny_bind (ak9 pu (wpAny_bind (wpAny_pure ?_)))))
 show wpAny _ _ (match Builtin.Slice.sliceAdjust lo hi 1 (n:Int) with | (lo,hi)=>pure (lo,(1:Int),Builtin.Slice.slicePlaces lo hi 1)) _ _ s
 rw [b30 lo hi n]
 show wpAny _ _ (pure (((sIx n 0 lo:Nat):Int),(1:Int),Builtin.Slice.slicePlaces ((sIx n 0 lo:Nat):Int) ((sIx n n hi:Nat):Int) 1)) _ _ s
 rw [b31]
 exact wpAny_pure h
theorem be6 (xs:Array Value) (i k:Nat):((List.range k).filterMap fun (m:Nat)=>xs[((i:Int)+(m:Int)*1).toNat]?).toArray=((xs.toList.drop i).take k).toArray:=by
 have e:(fun (m:Nat)=>xs[((i:Int)+(m:Int)*1).toNat]?)=fun m=>xs[i+m]?:=by
  funext m
  have:((i:Int)+(m:Int)*1).toNat=i+m:=by omega
  rw [this]
 rw [e]
 have:=pick_run xs i k
 rw [List.filterMap_map] at this
 have e2:((fun x=>xs[x]?)∘fun x=>i+x)=fun m=>xs[i+m]?:=rfl
 rw [e2] at this
 rw [this]
theorem getItem_tuple_cut {t sl:Addr}{items:Array Value}{vl vu:Value}{lo hi:Option Int}{Q:Value→Shared→Prop}(ht:IsTup s.heap t items) (hs:s.heap.IsSliceOf sl vl vu .none) (pl:IsPart vl lo) (pu:IsPart vu hi)
 (hw:¬ (sIx items.size 0 lo=0∧sIx items.size items.size hi=items.size))
 (h:Q (.ref s.heap.objs.size) { s with heap:=s.heap.push { cls:=.type "tuple",data:=.seq ((items.toList.drop (sIx items.size 0 lo)).take (sIx items.size items.size hi - sIx items.size 0 lo)).toArray } })
 (hsz:items.size≤sizeLine):wpAny (model prog w) A (getItem (.ref t) (.ref sl)) Q E s:=by
 have htake:sizeOk (.seq ((items.toList.drop (sIx items.size 0 lo)).take (sIx items.size items.size hi - sIx items.size 0 lo)).toArray):=by
  show ((items.toList.drop (sIx items.size 0 lo)).take (sIx items.size items.size hi - sIx items.size 0 lo)).toArray.size≤sizeLine
  rw [List.size_toArray,List.length_take,List.length_drop,Array.length_toList]
  omega
 have hj:sIx items.size items.size hi≤items.size:=bu1 _ _ (Nat.le_refl _) hi
 obtain ⟨os,hos,hcs,hds⟩:=id hs
 have hTs:s.TypeIs (.ref sl) "slice":=⟨os,hos,hcs⟩
 unfold getItem
 try with_reducible refine wpAny_holding ?_
 first | refine wpAny_bind (wpAny_pure ?_) | skip
 refine wpAny_bind (wpAny_sequenceKey ht.typeIs (by decide) ?_)
 refine wpAny_bind (wpAny_callSpecial?_slot (name:=Str.ofString "__getitem__") ht.typeIs PyProof.Rows.slot_tuple_getitem
  (wpAny_call_entry PyProof.Rows.slot_tuple_getitem ht.typeIs entry_tuple_getitem ?_ (args_tuple_getitem _ _)))
 show wpAny _ _ (Builtin.Tuple.tupleItemsOf (.ref t) >>= _) _ _ s
 refine wpAny_bind (tupleItemsOf_ ht ?_)
 refine wpAny_bind (wpAny_typeOf hTs ?_)
 rw [if_pos (by decide)]
 refine wpAny_bind (ai2 hs pl pu ?_)
 have hno:¬ ((((sIx items.size 0 lo:Nat):Int) == 0 && (1:Int) == 1 && (sIx items.size items.size hi - sIx items.size 0 lo) == items.size)=true):=by
  intro q
  rw [Bool.and_eq_true,Bool.and_eq_true] at q
  have q1:((sIx items.size 0 lo:Nat):Int)=0:=eq_of_beq q.1.1
  have q2:sIx items.size items.size hi - sIx items.size 0 lo=items.size:=eq_of_beq q.2
  exact hw ⟨by omega,by omega⟩
 show wpAny _ _ (if (((sIx items.size 0 lo:Nat):Int) == 0 && (1:Int) == 1 && (sIx items.size items.size hi - sIx items.size 0 lo) == items.size)=true then _ else _) _ _ s
 rw [if_neg hno,be6]
 first
  | exact wpAny_bind (m:=Builtin.Tuple.tupleExact _) (wpAny_newObj_type (wpAny_pure ⟨_,rfl,wpAny_pure h⟩) htake)
  | exact wpAny_bind (m:=Builtin.Tuple.tupleExact _) (wpAny_newObj_type (wpAny_bind (wpAny_pure (wpAny_pure ⟨_,rfl,wpAny_pure h⟩))) htake)
  | exact wpAny_bind (wpAny_bind (m:=Builtin.Tuple.tupleExact _) (wpAny_newObj_type (wpAny_pure (wpAny_pure ⟨_,rfl,wpAny_pure h⟩)) htake))
  | exact wpAny_bind (wpAny_bind (m:=Builtin.Tuple.tupleExact _) (wpAny_newObj_type (wpAny_pure ⟨_,rfl,wpAny_pure h⟩) htake))
end
end HT
namespace L2
open PySem PySem.Spec PyProof.Rows
abbrev TO:=St→Hp→(Option Int→Hp→Prop)→Prop
def PO (X:Cx) (e:Option Expr) (t:TO):Prop :=
 ∀ (pins:List (Addr×Obj)) (s:Shared) (σ:St) (H:Hp) (Q:Option Int→Hp→Prop),Inv X pins σ H s→t σ H Q →
  wpAny (model X.prog X.w) X.A (evalPart e X.env) (fun u s'=>∃ o H',Inv X pins σ H' s'∧IsPart u o∧Q o H') X.xe s
def tNoPart:TO:=fun _ H Q=>Q none H
def tPart (t:TE):TO:=fun σ H Q=>t σ H fun x H1=>∃ i,x=.int i∧Q (some i) H1
section
variable {X:Cx}{e:Expr}{te:TE}{lo hi:Option Expr}{tl th:TO}{pos p2:Pos}
theorem at9:PO X none tNoPart:=by
 intro pins s σ H Q I h
 rw [evalPart_none]
 exact wpAny_pure ⟨none,H,I,.none,h⟩
theorem au0 (h:PE X e te):PO X (some e) (tPart te):=by
 intro pins s σ H Q I hw
 rw [evalPart_some]
 refine thn (h pins s σ H _ I hw) fun u s1 ⟨x,H1,I1,r1,q1⟩=>?_
 obtain ⟨i,rfl,q⟩:=q1
 obtain ⟨t,rfl⟩:=r1
 exact ⟨some i,H1,I1,.int i t,q⟩
def SlR (X:Cx) (r:V→Option Int→Option Int→Hp→VK→Prop):Prop :=
 ∀ (pins:List (Addr×Obj)) (s:Shared) (σ:St) (H:Hp) (x:V) (v vl vu:Value) (lo hi:Option Int) (sl:Addr) (Q:VK),Inv X pins σ H s→RelV x v→s.heap.IsSliceOf sl vl vu .none→IsPart vl lo→IsPart vu hi→r x lo hi H Q →
  ∃ T id,typeLookup (.type T) "__getitem__"=pure (some (.builtin id))∧s.TypeIs v T∧wpAny (model X.prog X.w) X.A (getItem v (.ref sl)) (EP X pins σ Q) X.xe s
def tSl (r:V→Option Int→Option Int→Hp→VK→Prop) (te:TE) (tl th:TO):TE:=fun σ H Q=>te σ H fun x H1=>tl σ H1 fun l H2=>th σ H2 fun u H3=>r x l u H3 Q
theorem am4 {r:V→Option Int→Option Int→Hp→VK→Prop}(hr:SlR X r) (he:PE X e te) (hl:PO X lo tl) (hu:PO X hi th):PE X (.Subscript e (.Slice lo hi none p2) pos) (tSl r te tl th):=by
 intro pins s σ H Q I h
 refine Subscript_ (thn (he pins s σ H _ I h) fun v s1 ⟨x,H1,I1,r1,q1⟩=>?_)
 refine wpAny_Slice (thn (hl pins s1 σ H1 _ I1 q1) fun vl s2 ⟨l,H2,I2,pl,q2⟩=>thn (hu pins s2 σ H2 _ I2 q2) fun vu s3 ⟨u,H3,I3,pu,q3⟩=>?_)
 rw [evalPart_none]
 refine wpAny_pure ?_
 have I4:Inv X pins σ H3 { s3 with heap:=s3.heap.push { cls:=.type "slice",data:=.fields #[vl,vu,.none] } }:=I3.kept (t':=s3.toks) fun b ob q=>Heap.get?_push_of_some _ q
 obtain ⟨T,id,hT,ht,hg⟩:=hr pins { s3 with heap:=s3.heap.push { cls:=.type "slice",data:=.fields #[vl,vu,.none] } } σ H3 x v vl vu l u s3.heap.objs.size Q I4 r1 (Heap.IsSliceOf.new ..) pl pu q3
 show wpAny (model X.prog X.w) X.A (subscriptTail e (.Slice lo hi none p2) v (.ref s3.heap.objs.size)) (EP X pins σ Q) X.xe { s3 with heap:=s3.heap.push { cls:=.type "slice",data:=.fields #[vl,vu,.none] } }
 exact tail_any (ops:=[.ref s3.heap.objs.size,v]) ht hT hg (by with_unfolding_all rfl)
def cutV (xs:List V) (lo hi:Option Int):List V:=(xs.drop (HT.sIx xs.length 0 lo)).take (HT.sIx xs.length xs.length hi - HT.sIx xs.length 0 lo)
theorem au1 (xs:List V) (lo hi:Option Int):(cutV xs lo hi).length≤xs.length:=by
 unfold cutV
 rw [List.length_take,List.length_drop]
 omega
def rSlT (K:PySem.W.Frag):V→Option Int→Option Int→Hp→VK→Prop:=fun x lo hi H Q=>∃ a xs,x=.ref a∧SqT K H a xs ∧
 ¬ (HT.sIx xs.length 0 lo=0∧HT.sIx xs.length xs.length hi=xs.length)∧∀ p,H p=none→Q (.ref p) (upd H p (.tup (cutV xs lo hi)))
theorem bu2:SlR X (rSlT X.K):=by
 intro pins s σ H x v vl vu lo hi sl Q I rx hs pl pu h
 obtain ⟨a,xs,rfl,hx,hw,q⟩:=h
 cases rx
 obtain ⟨its,r,ht,hz⟩:=I.tuple hx
 have hlen:its.toArray.size=xs.length:=by rw [List.size_toArray]; exact r.length.symm
 refine ⟨"tuple",_,PyProof.Rows.slot_tuple_getitem.lookup,ht.typeIs,?_⟩
 refine HT.getItem_tuple_cut ht hs pl pu (by rw [hlen]; exact hw) ?_ (by rw [hlen]; exact hz)
 rw [hlen]
 refine ⟨.ref s.heap.objs.size,_,I.laid (t':=s.toks) (o:=.tup (cutV xs lo hi)) (fun b ob q=>Heap.get?_push_of_some _ q) (Nat.le_refl _) ?_,rfl,q _ (I.hok.fresh (Nat.le_refl _))⟩
 exact ⟨Nat.le_trans (au1 xs lo hi) hz,_,(r.drop (HT.sIx xs.length 0 lo)).take (HT.sIx xs.length xs.length hi - HT.sIx xs.length 0 lo),IsTup.new _ _⟩
def rCatT (K:PySem.W.Frag):R2:=fun x y H Q=>∃ a b xs ys,x=.ref a∧y=.ref b∧SqT K H a xs∧SqT K H b ys∧xs≠[]∧xs.length+ys.length≤sizeLine ∧
 (ys=[]→Q (.ref a) H)∧(ys≠[]→∀ p,H p=none→Q (.ref p) (upd H p (.tup (xs++ys))))
theorem Vals.nil_iff {xs:List V}{us:List Value}(r:Vals xs us):us=[]↔xs=[]:=by
 cases r with
 | nil=>simp
 | cons _ _=>simp
theorem bm2:OpR X (binaryOp .Add) (rCatT X.K):=by
 intro pins s σ H x y v u Q I rx ry h
 obtain ⟨a,b,xs,ys,rfl,rfl,ha,hb,hx,hz,q1,q2⟩:=h
 cases rx
 cases ry
 obtain ⟨its,r1,p1,_⟩:=I.tuple ha
 obtain ⟨its2,r2,p2,_⟩:=I.tuple hb
 refine HT.cat_tup p1 p2 (fun z=>hx (r1.nil_iff.mp z)) (fun z=>⟨.ref a,H,I,rfl,q1 (r2.nil_iff.mp z)⟩) (fun z=>?_) (by rw [← r1.length,←r2.length]; exact hz)
 refine ⟨.ref s.heap.objs.size,_,I.laid (t':=s.toks) (o:=.tup (xs++ys)) (fun b ob q=>Heap.get?_push_of_some _ q) (Nat.le_refl _) ?_,rfl,q2 (fun w=>z (r2.nil_iff.mpr w)) _ (I.hok.fresh (Nat.le_refl _))⟩
 exact ⟨by rw [List.length_append]; exact hz,_,r1.append r2,IsTup.new _ _⟩
end
def ixN (n:Nat) (i:Int):Option Nat:=if 0≤i then (if i<n then some i.toNat else none) else if -(n:Int)≤i then some (i+n).toNat else none
def atI {α:Type}(xs:List α) (i:Int):Option α:=(ixN xs.length i).bind fun j=>xs[j]?
theorem b68 {n:Nat}{i:Int}{j:Nat}(h:ixN n i=some j):seqIndex? i n=some j∧j<n∧-(n:Int)≤i∧i<n:=by
 unfold ixN at h
 by_cases h0:0≤i
 · rw [if_pos h0] at h
   by_cases h1:i<n
   · rw [if_pos h1] at h
     have e:i.toNat=j:=Option.some.inj h
     exact ⟨by rw [seqIndex_of h0 h1,e],by omega,by omega,h1⟩
   · rw [if_neg h1] at h; cases h
 · rw [if_neg h0] at h
   by_cases h1:-(n:Int)≤i
   · rw [if_pos h1] at h
     have e:(i+n).toNat=j:=Option.some.inj h
     exact ⟨by rw [seqIndex_neg (by omega) h1,e],by omega,h1,by omega⟩
   · rw [if_neg h1] at h; cases h
theorem b69 {α:Type}{xs:List α}{i:Int}{v:α}(h:atI xs i=some v):∃ j,seqIndex? i xs.length=some j∧xs[j]?=some v∧j<xs.length∧-(xs.length:Int)≤i∧i<xs.length:=by
 unfold atI at h
 cases e:ixN xs.length i with
 | none=>rw [e] at h; cases h
 | some j =>
   rw [e] at h
   obtain ⟨h1,h2,h3,h4⟩:=b68 e
   exact ⟨j,h1,h,h2,h3,h4⟩
theorem a02 {α:Type}{xs:List α}{j:Nat}{v:α}(h:xs[j]?=some v):atI xs (j:Int)=some v:=by
 have hj:j<xs.length:=(List.getElem?_eq_some_iff.mp h).1
 have e:ixN xs.length (j:Int)=some j:=by
  unfold ixN
  rw [if_pos (by omega),if_pos (by omega)]; simp
 unfold atI; rw [e]; exact h
theorem ai4 {α:Type}(xs:List α) (v:α):atI (xs++[v]) (-1)=some v:=by
 have hl:(xs++[v]).length=xs.length+1:=by simp
 have e:ixN (xs++[v]).length (-1)=some xs.length:=by
  unfold ixN
  rw [hl,if_neg (by decide),if_pos (by omega)]
  congr 1
  omega
 unfold atI
 rw [e]
 show (xs++[v])[xs.length]?=some v
 simp
def PlainIx (b:Expr):Prop:=∀ o i,subscripted b false o i=operate [o,i] (getItem o i)
def IxR (X:Cx) (r:R2):Prop :=
 ∀ (value slice:Expr) (pins:List (Addr×Obj)) (s:Shared) (σ:St) (H:Hp) (x y:V) (v u:Value) (Q:VK),Inv X pins σ H s→RelV x v→RelV y u→r x y H Q →
  subscripted slice false v u=operate [v,u] (getItem v u)→wpAny (model X.prog X.w) X.A (subscriptTail value slice v u) (EP X pins σ Q) X.xe s
def MtR (X:Cx) (id:String) (r:V→List V→Hp→VK→Prop):Prop :=
 ∀ (pins:List (Addr×Obj)) (s:Shared) (σ:St) (H:Hp) (x:V) (xs:List V) (v:Value) (us:List Value) (Q:VK),Inv X pins σ H s→RelV x v→Vals xs us→r x xs H Q →
  wpAny (model X.prog X.w) X.A (call (.builtin id) (v::us)) (EP X pins σ Q) X.xe s
section
variable {X:Cx}{a b:Expr}{ta tb:TE}{pos:Pos}
theorem a29 {r:R2}(hr:IxR X r) (ha:PE X a ta) (hb:PE X b tb) (hs:PlainIx b):PE X (.Subscript a b pos) (tOp r ta tb):=by
 intro pins s σ H Q I h
 exact Subscript_ (binT ha hb I h fun v u s2 x y H2 I2 rx ry q=>hr a b pins s2 σ H2 x y v u Q I2 rx ry q (hs _ _))
def rIxL (K:PySem.W.Frag):R2:=fun x y H Q=>∃ p xs i v,x=.ref p∧y=.int i∧SqL K H p xs∧atI xs i=some v∧Q v H
def rIxT (K:PySem.W.Frag):R2:=fun x y H Q=>∃ p xs i v,x=.ref p∧y=.int i∧SqT K H p xs∧atI xs i=some v∧Q v H
theorem bm3:IxR X (rIxL X.K):=by
 intro value slice pins s σ H x y v u Q I rx ry h hs
 obtain ⟨p,xs,i,z,rfl,rfl,hq,he,q⟩:=h
 cases rx
 obtain ⟨t,rfl⟩:=ry
 obtain ⟨its,r,pl,hz⟩:=I.list hq
 obtain ⟨j,h1,h2,h3,h4,h5⟩:=b69 he
 obtain ⟨w,ew,rw'⟩:=r.get h2
 have hl:=r.length
 have hn:=ar0
 have fin:EP X pins σ Q w s:=⟨z,H,I,rw',q⟩
 by_cases h0:0≤i
 · have hj:i.toNat=j:=by
    rw [seqIndex_of h0 h5] at h1
    exact Option.some.inj h1
   exact item_listR pl.isList h0 (by omega) (by rw [hj]; simpa using ew) fin hs
 · have hj:(i+(its.toArray.size:Int)).toNat=j:=by
    rw [seqIndex_neg (by omega) h4] at h1
    rw [List.size_toArray,←hl]
    exact Option.some.inj h1
   exact subscriptTail_builtinR (x:=w) pl.isList.typeIs slot_list_getitem.lookup
    (wpAny_getItem_list_neg (Q:=fun r s'=>r=w∧EP X pins σ Q r s') pl.isList (by omega) (by rw [List.size_toArray] <;> omega) (by omega) (by rw [hj]; simpa using ew) ⟨rfl,fin⟩) hs
theorem bu3:IxR X (rIxT X.K):=by
 intro value slice pins s σ H x y v u Q I rx ry h hs
 obtain ⟨p,xs,i,z,rfl,rfl,hq,he,q⟩:=h
 cases rx
 obtain ⟨t,rfl⟩:=ry
 obtain ⟨its,r,pl,hz⟩:=I.tuple hq
 obtain ⟨j,h1,h2,h3,h4,h5⟩:=b69 he
 obtain ⟨w,ew,rw'⟩:=r.get h2
 have hl:=r.length
 have hn:=ar0
 have fin:EP X pins σ Q w s:=⟨z,H,I,rw',q⟩
 exact subscriptTail_builtinR (x:=w) pl.typeIs slot_tuple_getitem.lookup
  (getItem_tuple (j:=j) (Q:=fun r s'=>r=w∧EP X pins σ Q r s') pl (by omega) (by omega) (by rw [List.size_toArray,←hl]; exact h1) (by simpa using ew) ⟨rfl,fin⟩) hs
theorem b32 (its:List Value) (n j:Nat) (u:Value):Obj.mapSeq (·.setIfInBounds j u) { cls:=.type "list",data:=.seq its.toArray n }={ cls:=.type "list",data:=.seq (its.set j u).toArray n }:=by
 simp [Obj.mapSeq]
theorem Inv.lst {pins:List (Addr×Obj)}{σ:St} {H:Hp}{s:Shared}{p:Addr}{xs:List V}(I:Inv X pins σ H s) (h:H p=some (.lst xs)) :
 ∃ (its:List Value) (n:Nat),Vals xs its∧s.heap.get? p=some { cls:=.type "list",data:=.seq its.toArray n }∧xs.length≤sizeLine:=by
 obtain ⟨z,its,n,r,e⟩:=I.hok p _ h
 exact ⟨its,n,r,e,z⟩
theorem Inv.lstUpd {pins:List (Addr×Obj)}{σ:St} {H:Hp}{s:Shared}{p:Addr}{xs ys:List V}{its its':List Value}{n n':Nat}{f:Obj→Obj}(I:Inv X pins σ H s) (h:H p=some (.lst xs))
 (ho:s.heap.get? p=some { cls:=.type "list",data:=.seq its.toArray n }) (hf:f { cls:=.type "list",data:=.seq its.toArray n }={ cls:=.type "list",data:=.seq its'.toArray n' }) (r:Vals ys its') (hz:ys.length≤sizeLine) (t:Nat) :
 Inv X pins σ (upd H p (.lst ys)) { s with heap:=s.heap.update p f,toks:=t }:=by
 have e:(s.heap.update p f).get? p=some { cls:=.type "list",data:=.seq its'.toArray n' }:=by
  rw [Heap.get?_update_self f ho (by rw [hf] <;> rfl),hf]
 refine I.write (x:=p) (e:=p) (by rw [h]; trivial) (.inl rfl) (fun b u hb q=>(Heap.get?_update_other _ _ (Ne.symm hb)).trans q) ⟨_,e⟩ ?_
 exact ⟨hz,its',n',r,e⟩
def rSetL:V→V→V→Hp→(Hp→Prop)→Prop:=fun o i v H Q=>∃ p xs k j,o=.ref p∧i=.int k∧H p=some (.lst xs)∧ixN xs.length k=some j∧Q (upd H p (.lst (xs.set j v)))
theorem aa9:PSet X rSetL:=by
 intro pins s σ H o i v ov iv u Q I ro ri rv h
 obtain ⟨p,xs,k,j,rfl,rfl,hp,hj,q⟩:=h
 cases ro
 obtain ⟨t,rfl⟩:=ri
 obtain ⟨its,n,r,ho,hz⟩:=I.lst hp
 obtain ⟨h1,h2,h3,h4⟩:=b68 hj
 have hl:=r.length
 have hn:=ar0
 have I':Inv X pins σ (upd H p (.lst (xs.set j v))) { s with heap:=s.heap.update p (Obj.mapSeq (·.setIfInBounds j u)) } :=
  I.lstUpd hp ho (b32 its n j u) (r.set rv j) (by rw [List.length_set]; exact hz) s.toks
 by_cases h0:0≤k
 · have hk:k.toNat=j:=by
    rw [seqIndex_of h0 h4] at h1
    exact Option.some.inj h1
   exact PySem.W.ki_setAt ho h0 (by omega) (by rw [List.size_toArray,←hl]; exact h4) (by rw [hk]; exact ⟨_,I',q⟩)
 · have hk:(k+(its.toArray.size:Int)).toNat=j:=by
    rw [seqIndex_neg (by omega) h3] at h1
    rw [List.size_toArray,←hl]
    exact Option.some.inj h1
   exact PySem.W.ki_setBack ho (by omega) (by rw [List.size_toArray,←hl]; exact h3) (by omega) (by rw [hk]; exact ⟨_,I',q⟩)
theorem ar5:CallR X (.type "list") (fun xs H Q=>∃ p ys,xs=[.ref p]∧(SqL X.K H p ys∨SqT X.K H p ys)∧∀ l,H l=none→Q (.ref l) (upd H l (.lst ys))):=by
 intro pins s σ H xs us Q I r h
 obtain ⟨p,ys,rfl,hq,q⟩:=h
 obtain ⟨u,rfl,rx⟩:=at8 r
 cases rx
 have fin:∀ (its:List Value),Vals ys its→ys.length≤sizeLine→∀ (h':Heap) (c':Nat),(∀ b o',s.heap.get? b=some o'→h'.get? b=some o') →
  h'.get? s.heap.objs.size=some { cls:=.type "list",dict:=none,data:=.seq its.toArray c',slots:=#[] }→EP X pins σ Q (.ref s.heap.objs.size) { s with heap:=h' }:=fun its r' hz h' c' kp e =>
  ⟨.ref s.heap.objs.size,_,I.laid (t':=s.toks) kp (Nat.le_refl _) (show ObjOk X.prog X.w _ h' _ (.lst ys) from ⟨hz,its,c',r',e⟩),rfl,q _ (I.hok.fresh (Nat.le_refl _))⟩
 rcases hq with hq | hq
 · obtain ⟨its,r',pl,hz⟩:=I.list hq
   have hlen:=r'.length
   obtain ⟨o,ho,hc,n,hd⟩:=pl.isList
   exact call_list_seq p (.inl rfl) ho hc hd (fun h' c' kp e=>fin its r' hz h' c' kp e) (by simp only [List.size_toArray] <;> omega)
 · obtain ⟨its,r',pl,hz⟩:=I.tuple hq
   have hlen:=r'.length
   obtain ⟨o,ho,hc,n,hd⟩:=pl
   exact call_list_seq p (.inr rfl) ho hc hd (fun h' c' kp e=>fin its r' hz h' c' kp e) (by simp only [List.size_toArray] <;> omega)
theorem am5:CallR X (.type "tuple") (fun xs H Q=>∃ p ys,xs=[.ref p]∧((SqL X.K H p ys∧∀ l,H l=none→Q (.ref l) (upd H l (.tup ys)))∨(SqT X.K H p ys∧Q (.ref p) H))):=by
 intro pins s σ H xs us Q I r h
 obtain ⟨p,ys,rfl,h⟩:=h
 obtain ⟨u,rfl,rx⟩:=at8 r
 cases rx
 rcases h with ⟨hq,q⟩ | ⟨hq,q⟩
 · obtain ⟨its,r',pl,hz⟩:=I.list hq
   have hlen:=r'.length
   refine call_tuple_list pl.isList (fun h' kp=>?_) (by simp only [List.size_toArray] <;> omega)
   have I1:Inv X pins σ H { s with heap:=h' }:=I.kept (t':=s.toks) kp
   have I2:Inv X pins σ (upd H h'.objs.size (.tup ys)) { s with heap:=h'.push { cls:=.type "tuple",data:=.seq its.toArray } } :=
    I1.laid (t':=s.toks) (fun b o e=>Heap.get?_push_of_some _ e) (Nat.le_refl _) (show ObjOk X.prog X.w _ _ _ (.tup ys) from ⟨hz,its,r',IsTup.new _ _⟩)
   exact ⟨.ref h'.objs.size,_,I2,rfl,q _ (I1.hok.fresh (Nat.le_refl _))⟩
 · obtain ⟨its,r',pl,hz⟩:=I.tuple hq
   exact call_tuple_same pl ⟨.ref p,H,I,rfl,q⟩
def tyV (K:PySem.W.Frag) (T:String) (x:V) (H:Hp):Prop:=match x with
 | .str _=>T="str"
 | .int _=>T="int"
 | .ref p=>(T="list"∧∃ xs,SqL K H p xs)∨(T="tuple"∧∃ o,K.lookup p=some o∧o.cls=.type "tuple"∧o.dict=none) ∨
  (T="dict"∧((∃ kvs,H p=some (.dK kvs))∨∃ kvs,H p=some (.dT kvs)))∨(T="set"∧∃ S n,H p=some (.set S n))
 | _=>False
theorem bj3 {pins:List (Addr×Obj)}{σ:St} {H:Hp}{s:Shared}{T:String}{x:V}{v:Value}(I:Inv X pins σ H s) (r:RelV x v) (ty:tyV X.K T x H) :
 s.TypeIs v T∧∀ a,v=.ref a→∃ ob,s.heap.get? a=some ob∧ob.dict=none:=by
 cases x with
 | str z =>
   obtain ⟨t,rfl⟩:=r
   cases (show T="str" from ty)
   exact ⟨typeIs_str s z t,fun _ e=>nomatch e⟩
 | int i =>
   obtain ⟨t,rfl⟩:=r
   cases (show T="int" from ty)
   exact ⟨typeIs_int s i t,fun _ e=>nomatch e⟩
 | ref p =>
   cases r
   rcases ty with ⟨rfl,xs,hq⟩ | ⟨rfl,o,hk,hc,hd⟩ | ⟨rfl,hk⟩ | ⟨rfl,S,n,hk⟩
   · obtain ⟨its,_,pl,_⟩:=I.list hq
     refine ⟨pl.isList.typeIs,fun a e=>?_⟩
     cases e
     obtain ⟨o,n,e,c,hd,_⟩:=pl
     exact ⟨o,e,hd⟩
   · refine ⟨⟨o,I.kIn p o hk,hc⟩,fun a e=>?_⟩
     cases e
     exact ⟨o,I.kIn _ o hk,hd⟩
   · have z:∃ o,s.heap.get? p=some o∧o.ExactDict:=by
      rcases hk with ⟨kvs,hk⟩ | ⟨kvs,hk⟩
      · obtain ⟨_,_,_,_,o,_,_,e,ex,_⟩:=I.hok p _ hk
        exact ⟨o,e,ex⟩
      · obtain ⟨_,_,_,_,o,_,_,e,ex,_⟩:=I.hok p _ hk
        exact ⟨o,e,ex⟩
     obtain ⟨o,e,ex⟩:=z
     refine ⟨⟨o,e,ex.1⟩,fun a e2=>?_⟩
     cases e2
     exact ⟨o,e,ex.2.1⟩
   · obtain ⟨o,_,_,_,e,ex,_⟩:=I.hok p _ hk
     refine ⟨⟨o,e,ex.1⟩,fun a e2=>?_⟩
     cases e2
     exact ⟨o,e,ex.2.1⟩
 | _=>exact False.elim ty
def tBM0 (K:PySem.W.Frag) (T:String) (r:V→List V→Hp→VK→Prop) (to:TE):TE:=fun σ H Q=>to σ H fun x H1=>tyV K T x H1∧r x [] H1 Q
def tBM (K:PySem.W.Frag) (T:String) (r:V→List V→Hp→VK→Prop) (to:TE) (t:TA):TE:=fun σ H Q=>to σ H fun x H1=>tyV K T x H1∧t σ H1 fun xs H2=>r x xs H2 Q
variable {o e:Expr}{es:List Expr}{to:TE}{t:TA}{name:Str}{apos cpos:Pos}{T id:String}{r:V→List V→Hp→VK→Prop}
theorem bu4 (pa:PlainAttrs T) (slot:Slot T name id) (hty:typeOf (.builtin id)=pure (.type "method_descriptor")) (hm:MtR X id r) (ho:PE X o to)
 (hbase:attributeBase o name X.env (eval o X.env)=eval o X.env:=by rfl) (hline:(apos.endLine == cpos.line)=true:=by rfl):PE X (.Call (.Attribute o name apos) [] [] cpos) (tBM0 X.K T r to):=by
 intro pins s σ H Q I h
 refine wpAny_Call_method0_late hbase hline (thn (ho pins s σ H _ I h) fun v s1 ⟨x,H1,I1,r1,ty,q1⟩=>?_)
 obtain ⟨h1,h2⟩:=bj3 I1 r1 ty
 exact ⟨T,id,pa,slot,hty,h1,h2,Calls.callWith_builtin rfl (PySem.evalArgs_none (hm pins s1 σ H1 x [] v [] Q I1 r1 .nil q1))⟩
theorem c27 (pa:PlainAttrs T) (slot:Slot T name id) (hty:typeOf (.builtin id)=pure (.type "method_descriptor")) (hm:MtR X id r) (ho:PE X o to) (ha:PA X (e::es) t)
 (hbase:attributeBase o name X.env (eval o X.env)=eval o X.env:=by rfl)
 (hfew:((backTo cpos (starEach (e::es) X.env)).all (fun x=>!x.1) && (backToKw cpos (keywordEach [] X.env)).all (fun x=>x.1.isSome)
  && decide ((e::es).length+([]:List Keyword).length+(if ([]:List Keyword).isEmpty then 0 else 1)<30))=true:=by rfl)
 (hline:(apos.endLine == cpos.line)=true:=by rfl) (hs:starEach (e::es) X.env=(false,eval e X.env)::starEach es X.env:=by rfl) (hplain:(backTo cpos (starEach es X.env)).any (·.1)=false:=by rfl) :
 PE X (.Call (.Attribute o name apos) (e::es) [] cpos) (tBM X.K T r to t):=by
 intro pins s σ H Q I h
 refine wpAny_Call_method_late hbase hfew hline rfl (thn (ho pins s σ H _ I h) fun v s1 ⟨x,H1,I1,r1,ty,q1⟩=>?_)
 obtain ⟨h1,h2⟩:=bj3 I1 r1 ty
 refine ⟨T,id,pa,slot,hty,h1,h2,?_⟩
 have hA:=ha cpos pins s1 σ H1 _ I1 q1
 rw [hs] at hA ⊢
 refine Calls.callWith_builtin (by show (false || (backTo cpos (starEach es X.env)).any (·.1))=false; rw [hplain] <;> rfl) (Calls.evalArgs_plain ?_)
 exact thn hA fun us s2 ⟨vs,H2,I2,r2,q2⟩=>hm pins s2 σ H2 x vs v us Q I2 r1 r2 q2
/- xs.append(e),list.index on a module's tuple .. are MtR facts of 06m -/
end
def MtM (X:Cx) (id:String) (r:V→List V→Hp→VK→Prop):Prop :=
 ∀ (pins:List (Addr×Obj)) (s:Shared) (σ:St) (H:Hp) (x:V) (xs:List V) (v:Value) (us:List Value) (Q:VK),Inv X pins σ H s→RelV x v→Vals xs us→r x xs H Q →
  wpAny (model X.prog X.w) X.A (call (.builtin id) (v::us)) (EP X pins σ Q) X.xe s
theorem Vals.one:∀ {x:V}{us:List Value},Vals [x] us→∃ u,us=[u]∧RelV x u
 | _,_,.cons r .nil=>⟨_,rfl,r⟩
theorem Vals.zero:∀ {us:List Value},Vals [] us→us=[]
 | _,.nil=>rfl
theorem Vals.dropLast {xs:List V}{us:List Value}(h:Vals xs us):Vals xs.dropLast us.dropLast:=by
 induction h with
 | nil=>exact .nil
 | cons r t ih =>
   cases t with
   | nil=>exact .nil
   | cons q t'=>exact .cons r ih
theorem b33 {α:Type}(l:List α):l.eraseIdx (l.length - 1)=l.dropLast:=by
 induction l with
 | nil=>rfl
 | cons a r ih =>
   cases r with
   | nil=>rfl
   | cons b r =>
     have e:(a::b::r).length - 1=((b::r).length - 1)+1:=by
      have h1:(a::b::r).length=r.length+2:=rfl
      have h2:(b::r).length=r.length+1:=rfl
      omega
     rw [e,List.eraseIdx_cons_succ,ih]
     all_goals rfl
section
variable {X:Cx}{pins:List (Addr×Obj)}{σ:St} {H:Hp}{s:Shared}{l b:Addr}{xs ys zs:List V}
theorem Inv.lset {its its':List Value}{n:Nat}{f:Array Value→Array Value}{t':Nat}(I:Inv X pins σ H s) (hH:H l=some (.lst xs))
 (e:s.heap.get? l=some { cls:=.type "list",data:=.seq its.toArray n }) (hf:f its.toArray=its'.toArray) (hv:Vals ys its') (hz:ys.length≤sizeLine) :
 Inv X pins σ (upd H l (.lst ys)) { s with heap:=s.heap.update l (Obj.mapSeq f),toks:=t' }:=by
 have q:=PySem.IsL.update e f
 rw [hf] at q
 refine I.write (x:=l) (e:=l) (by rw [hH]; exact trivial) (.inl rfl) (fun b' u hb hu=>(Heap.get?_update_other s.heap (Obj.mapSeq f) (Ne.symm hb)).trans hu) ⟨_,q⟩ ?_
 exact ⟨hz,its',_,hv,q⟩
theorem Inv.lnew {its:List Value}{t':Nat}(I:Inv X pins σ H s) (hv:Vals ys its) (hz:ys.length≤sizeLine) :
 Inv X pins σ (upd H s.heap.objs.size (.lst ys)) { s with heap:=s.heap.push { cls:=.type "list",data:=.seq its.toArray },toks:=t' } :=
 I.laid (fun _ _ q=>Heap.get?_push_of_some _ q) (Nat.le_refl _) ⟨hz,its,0,hv,Heap.get?_push_size _ rfl⟩
theorem Inv.fresh (I:Inv X pins σ H s):H s.heap.objs.size=none:=I.hok.fresh (Nat.le_refl _)
theorem Inv.lstM (I:Inv X pins σ H s) (hH:H l=some (.lst xs)):xs.length≤sizeLine∧∃ (its:List Value) (n:Nat),Vals xs its∧xs.length=its.length∧s.heap.get? l=some { cls:=.type "list",data:=.seq its.toArray n }:=by
 obtain ⟨z,its,n,r,e⟩:=I.hok l _ hH
 exact ⟨z,its,n,r,r.length,e⟩
theorem notLongL {n:Nat}(h:n≤sizeLine):Builtin.List.listTooLong n=false:=by
 unfold Builtin.List.listTooLong
 exact decide_eq_false (by omega)
end
section
variable {X:Cx}
def rAppend:V→List V→Hp→VK→Prop:=fun x vs H Q=>∃ l xs y,x=.ref l∧vs=[y]∧H l=some (.lst xs)∧xs.length<sizeLine∧Q .non (upd H l (.lst (xs++[y])))
theorem a70:MtM X "list.append" rAppend:=by
 intro pins s σ H x vs v us Q I rx rv h
 obtain ⟨l,xs,y,rfl,rfl,hH,hz,q⟩:=h
 cases rx
 obtain ⟨u,rfl,ru⟩:=rv.one
 obtain ⟨z,its,n,r,hl,e⟩:=I.lstM hH
 refine call_meets F.slot_list_append ⟨_,e,rfl⟩ F.entry_list_append (F.args_list_append_2 _ _) (PySem.list_append l its.toArray n u (by rw [List.size_toArray]; omega)) ⟨e,?_⟩
 refine ⟨.non,_,I.lset (its':=its++[u]) hH e (by simp) (r.append (.cons ru .nil)) ?_,rfl,q⟩
 rw [List.length_append,List.length_singleton]
 omega
def rExtend:V→List V→Hp→VK→Prop:=fun x vs H Q=>∃ l b xs zs,x=.ref l∧vs=[.ref b]∧H l=some (.lst xs)∧H b=some (.lst zs)∧xs.length+zs.length≤sizeLine∧Q .non (upd H l (.lst (xs++zs)))
theorem b70:MtM X "list.extend" rExtend:=by
 intro pins s σ H x vs v us Q I rx rv h
 obtain ⟨l,b,xs,zs,rfl,rfl,hH,hB,hz,q⟩:=h
 cases rx
 obtain ⟨u,rfl,ru⟩:=rv.one
 cases ru
 obtain ⟨z,its,n,r,hl,e⟩:=I.lstM hH
 obtain ⟨z2,its2,n2,r2,hl2,e2⟩:=I.lstM hB
 have hsz:its.toArray.size+its2.toArray.size≤sizeLine:=by rw [List.size_toArray,List.size_toArray]; omega
 have hlong:¬ (!its.toArray.isEmpty && Builtin.List.listTooLong (its.toArray.size+its2.toArray.size))=true:=by
  rw [notLongL hsz,Bool.and_false]
  exact Bool.false_ne_true
 refine call_meets F.slot_list_extend ⟨_,e,rfl⟩ F.entry_list_extend (F.args_list_extend_2 _ _)
  (AutoSeq1.list_extend_list_list_0 l its.toArray n b its2.toArray n2 hlong (by rw [List.size_toArray]; omega) (by omega)) ⟨e,e2,?_⟩
 refine ⟨.non,_,I.lset (its':=its++its2) hH e (by simp) (r.append r2) ?_,rfl,q⟩
 rw [List.length_append]
 omega
def rPop:V→List V→Hp→VK→Prop:=fun x vs H Q=>∃ l xs y,x=.ref l∧vs=[]∧H l=some (.lst xs)∧xs[xs.length - 1]?=some y∧Q y (upd H l (.lst xs.dropLast))
theorem bj4:MtM X "list.pop" rPop:=by
 intro pins s σ H x vs v us Q I rx rv h
 obtain ⟨l,xs,y,rfl,rfl,hH,hy,q⟩:=h
 cases rx
 have hus:=rv.zero
 subst hus
 obtain ⟨z,its,n,r,hl,e⟩:=I.lstM hH
 obtain ⟨u,hu,ru⟩:=r.get hy
 have hy':its.toArray[its.toArray.size - 1]?=some u:=by
  show its.toArray[its.length - 1]?=some u
  rw [← Array.getElem?_toList,←hl]
  exact hu
 refine call_meets F.slot_list_pop ⟨_,e,rfl⟩ F.entry_list_pop (F.args_list_pop_1 _) (MeetsSeq.list_pop_last l its.toArray n u hy' (by rw [List.size_toArray]; omega)) ⟨e,?_⟩
 refine ⟨y,_,I.lset (its':=its.dropLast) hH e ?_ r.dropLast ?_,ru,q⟩
 · show its.toArray.eraseIdxIfInBounds (its.toArray.size - 1)=its.dropLast.toArray
   rw [List.size_toArray,List.eraseIdxIfInBounds_toArray,b33]
 · rw [List.length_dropLast]
   omega
def rClear:V→List V→Hp→VK→Prop:=fun x vs H Q=>∃ l xs,x=.ref l∧vs=[]∧H l=some (.lst xs)∧Q .non (upd H l (.lst []))
theorem ax7:MtM X "list.clear" rClear:=by
 intro pins s σ H x vs v us Q I rx rv h
 obtain ⟨l,xs,rfl,rfl,hH,q⟩:=h
 cases rx
 have hus:=rv.zero
 subst hus
 obtain ⟨z,its,n,r,hl,e⟩:=I.lstM hH
 refine call_meets F.slot_list_clear ⟨_,e,rfl⟩ F.entry_list_clear (F.args_list_clear_1 _) (AutoSeq1.list_clear_list_0 l its.toArray n (by rw [List.size_toArray]; omega)) ⟨e,?_⟩
 exact ⟨.non,_,I.lset (its':=[]) (ys:=[]) hH e rfl .nil (Nat.zero_le _),rfl,q⟩
def rCat:R2:=fun x y H Q=>∃ l b xs zs,x=.ref l∧y=.ref b∧H l=some (.lst xs)∧H b=some (.lst zs)∧xs.length+zs.length≤sizeLine∧∀ p,H p=none→Q (.ref p) (upd H p (.lst (xs++zs)))
theorem bu5:OpR X (binaryOp .Add) rCat:=by
 intro pins s σ H x y v u Q I rx ry h
 obtain ⟨l,b,xs,zs,rfl,rfl,hH,hB,hz,q⟩:=h
 cases rx
 cases ry
 obtain ⟨z,its,n,r,hl,e⟩:=I.lstM hH
 obtain ⟨z2,its2,n2,r2,hl2,e2⟩:=I.lstM hB
 refine PySem.P.add_list e e2 ?_ (by rw [List.size_toArray,List.size_toArray]; omega)
 have ea:its.toArray++its2.toArray=(its++its2).toArray:=by simp
 rw [ea]
 exact ⟨.ref _,_,I.lnew (t':=s.toks) (r.append r2) (by rw [List.length_append]; omega),rfl,q _ I.fresh⟩
end
section
variable {prog:Program}{w:World}{A:Around}{E:Value→Shared→Prop}{s:Shared}
set_option maxRecDepth 100000 in
end
section
variable {X:Cx}
end
end L2
namespace Att
open PySem PySem.W PySem.Calls PyProof.Rows
theorem ai9 {P:Params}{h:Heap}:∀ (ns:List Int) (vs:List Value),WellAll P h vs (ns.map WData.int)→IntsAre vs ns:=by
 intro ns
 induction ns with
 | nil =>
   intro vs w
   rw [List.map_nil] at w
   cases w
   exact .nil
 | cons n ns ih =>
   intro vs w
   rw [List.map_cons] at w
   cases w with
   | cons a b =>
     cases a
     exact .cons _ _ (ih _ b)
theorem b71 {l:OpenLaw}{n:Nat}(hn:l.most=some n) {P:Params}{h:Heap}{args:List WData}{vals:List Value}
 (hpre:l.row.toRowW.claim.pre args=true) (hwl:WellAll P h vals args) :
 ∃ a vs ns,vals=[Value.ref a]∧args=[WData.list (ns.map WData.int)]∧h.get? a=some { cls:=.type "list",data:=.seq vs.toArray }∧IntsAre vs ns∧ns.length≤n:=by
 have hsh:WShape.hasAll [] args [.list .int]=true:=(pre_splitW hpre).1
 have hc:l.pre.holds [] { args:=args }=true:=(pre_splitW hpre).2
 obtain ⟨d,r,rfl,h1,h2⟩:=hasAllW_cons hsh
 obtain rfl:=hasAllW_nil h2
 obtain ⟨xs,rfl,h3⟩:=hasW_list h1
 obtain ⟨ns,rfl⟩:=items_int h3
 have hlen:ns.length≤n:=by
  unfold OpenLaw.pre at hc
  have h4:(WTm.not (.lt (.lit (.int (n:Int))) (.len (.arg 0)))).holds [] { args:=[.list (ns.map .int)] }=true:=by
   have h4:=(holds_andW hc).1
   rw [hn] at h4
   exact h4
  have h5:=condW_of h4 (w_not (w_lt w_lit (w_len_list (w_arg rfl))))
  rw [List.length_map] at h5
  refine Nat.le_of_not_lt fun q=>?_
  have q':(n:Int)<((ns.length:Nat):Int):=by omega
  first
   | (rw [decide_eq_true q'] at h5; exact absurd h5 (by decide))
   | (simp at h5; omega)
 cases hwl with
 | cons w1 w2 =>
   cases w2
   cases w1 with
   | list ho hall=>exact ⟨_,_,ns,rfl,rfl,ho,ai9 ns _ hall,hlen⟩
theorem b72 (l:OpenLaw) (args:List WData):l.row.toRowW.claim.post args (.bool true) args=true :=
 postW_of (r:=l.row.toRowW) (X:=(true == true))
  (show WShape.has [] (.bool true) .bool=true by first | rfl | decide | simp [WShape.has,WShape.arms,WShape.armsAll])
  (show (WTm.eq .res (.lit (.bool true))).value [] { args:=args,res:=some (.bool true),after:=args }=some (.bool (true == true)) from w_eq_bool (w_res rfl) w_lit) rfl
theorem attach_call {l:OpenLaw}{n:Nat}{q:Program}{loose:List Str}{XP:(Str→Option Value)→Heap→Prop}{YP:World→Heap→Prop}{d:DefRec}
 (hn:l.most=some n) (hdf:d.params.defaults=[])
 (call:∀ (w:World) (s₀ s₁:Shared) (mg mb:Str→Option Value) (fa:Addr) (o:Obj) (pm cd doc:Value) (a:Addr) (vs:List Value) (ns:List Int),
  Ground q loose [] XP w s₀ mg mb s₁.heap→YP w s₁.heap →
  s₁.heap.get? fa=some o→o.data=.func (docDef d.name d.params d.body d.scope pm cd doc)→s₁.heap.CodeRec cd d.name→mg d.name=some (.ref fa) →
  s₁.heap.get? a=some { cls:=.type "list",data:=.seq vs.toArray }→IntsAre vs ns→ns.length≤n→s₁.gens=#[] →
  codeAny (model l.prog w) callerA (.call (.ref fa) ⟨[.ref a],[]⟩) (fun r s'=>r=.ok (.ret (.bool true))∧OldK s₁.heap s'.heap∧s'.os=s₁.os∧AllBare s'.gens) s₁) :
 WalkO q loose XP YP l.row.toRowW d [] (fun f vs=>PySem.call f vs):=by
 intro w s₀ s₁ mg mb G Y fa o pm cd doc dV kV ho hd hcd hD hmg hg args vals as hpre hlay hrd hwl hlo
 obtain rfl:dV=.none:=Dflts.none hD hdf
 obtain rfl:kV=.none:=Dflts.noKw hD
 obtain ⟨a,vs,ns,rfl,rfl,hobj,hints,hlen⟩:=b71 hn hpre hwl
 refine enter_call (codeAny_mono (call w s₀ s₁ mg mb fa o pm cd doc a vs ns G Y ho (fd_plain hd) hcd hmg hobj hints hlen hg) fun r s' hq=>?_)
 obtain ⟨rfl,h2,h3,h4⟩:=hq
 exact ⟨.inl ⟨.bool true,.bool true,[],rfl,fun _=>rfl,.bool true,b72 l _,fun _=>⟨List.Pairwise.nil,fun _ hm=>(nomatch hm)⟩⟩,h2,h3,h4⟩
section
variable {prog:Program}{w:World}{A:Around}{E:Value→Shared→Prop}{s:Shared}{K:Frag}
end
end Att
namespace L2
open PySem PySem.Spec PyProof.Rows
theorem ar6:∀ {vs:List Value}{ns:List Int},IntsAre vs ns→Vals (ns.map V.int) vs
 | _,_,.nil=>.nil
 | _,_,.cons n t h=>.cons ⟨t,rfl⟩ (ar6 h)
def Only (H:Hp):Prop:=∀ b,H b=none∨∃ o xs,H b=some (.frz o (.lst xs))
theorem be7 {P:Program}{w:World}{K:PySem.W.Frag}{mg mb:Str→Option Value}{CX:CXT}{k:Nat}{fa a:Addr}{fd:FuncData}{x:Str}{sp:Sp}{s₁:Shared}{vs:List Value}{ns:List Int}
 (KX:K.In s₁.heap) (hns:s₁.heap.Ns mainGlobals mg) (hb:s₁.heap.Ns builtinsNs mb) (hbb:∀ x:Str,x≠"__name__"→mb x=bootBuiltins x) (hlim:s₁.heap.NoLimit) (hg:s₁.gens=#[])
 (ha:s₁.heap.get? a=some { cls:=.type "list",data:=.seq vs.toArray }) (hi:IntsAre vs ns) (hl:ns.length≤sizeLine) (hr:Room k callerA)
 (F:∀ base:Heap,K.In base→base.Ns mainGlobals mg→FnOk P w K mg base CX k fa fd [x] sp) (hbind:∀ (s:Shared) (u:Value),BindsTo s fd ⟨[u],[]⟩ [(x,u)])
 (hsp:∀ H:Hp,Only H→SqL K H a (ns.map V.int)→sp [.ref a] H (fun v _=>v=.bl true) fun _ _ _=>False)
 (hCX:∀ H e s',CX [] H s₁ (fun _ _ _=>False) e s'→False) :
 codeAny (model P w) callerA (.call (.ref fa) ⟨[.ref a],[]⟩) (fun r s'=>r=.ok (.ret (.bool true))∧OldK s₁.heap s'.heap∧s'.os=s₁.os∧AllBare s'.gens) s₁:=by
 have rv:=ar6 hi
 have lenV:=hi.length
 have core:∀ H:Hp,Only H→SqL K H a (ns.map V.int)→HOk P w H s₁.heap→(∀ b,H b≠none→b=a)→(H a≠none→K.lookup a=none) →
  codeAny (model P w) callerA (.call (.ref fa) ⟨[.ref a],[]⟩) (fun r s'=>r=.ok (.ret (.bool true))∧OldK s₁.heap s'.heap∧s'.os=s₁.os∧AllBare s'.gens) s₁:=by
  intro H hO hS hok hA hK
  have base_of:∀ {b:Addr}{o:Obj},s₁.heap.get? b=some o→H b=none→(hidT s₁.heap H).get? b=some o:=fun e n=>bd7 e n
  have noA:∀ {b:Addr}{o:Obj}{es:Array DictEntry}{ep:Nat},s₁.heap.get? b=some o→o.data=.dict es ep→H b=none:=fun {b o es ep} e d=>by
   cases q:H b with
   | none=>rfl
   | some u =>
     have e':b=a:=hA b (by rw [q]; simp)
     subst e'
     rw [ha] at e; cases e
     have d':Data.seq vs.toArray _=Data.dict es ep:=d
     cases d'
  have nsK:∀ {b:Addr}{m:Str→Option Value},s₁.heap.Ns b m→(hidT s₁.heap H).Ns b m:=fun {b m} ⟨o,es,ep,e,d,r⟩=>⟨o,es,ep,base_of e (noA e d),d,r⟩
  have hKb:K.In (hidT s₁.heap H):=fun b o e=>base_of (KX b o e) (by
   cases q:H b with
   | none=>rfl
   | some u =>
     have e':b=a:=hA b (by rw [q]; simp)
     subst e'
     rw [hK (by rw [q]; simp)] at e; cases e)
  have hM:Mod K mg (hidT s₁.heap H):=⟨hKb,nsK hns,⟨mb,nsK hb,hbb⟩,let ⟨mc,h1,h2⟩:=hlim; ⟨mc,nsK h1,h2⟩⟩
  have e0:Env0 P w K mg (hidT s₁.heap H) callerA [] s₁ H:=⟨rfl,hM,fun b o e=>bl2 e,Nat.le_of_eq (b56 _ _),trivial,fun b hb=>absurd (show b∈([]:List Addr) from hb) (by simp),hok,.of_eq hg⟩
  refine codeAny_mono ((F _ hKb (nsK hns)).run callerA [] s₁ H ⟨[.ref a],[]⟩ [.ref a] [.ref a] _ _ hr e0 (hbind s₁ (.ref a)) (.cons rfl .nil) (hsp H hO hS)) fun r s' h=>?_
  cases r with
  | error e=>exact (hCX H e s' h).elim
  | ok fl =>
    cases fl with
    | next=>exact False.elim h
    | brk=>exact False.elim h
    | cont=>exact False.elim h
    | ret u =>
      obtain ⟨v,H',os,bare,un,hok',r',q⟩:=h
      have q':v=.bl true:=q
      subst q'
      obtain rfl:u=Value.bool true:=r'
      refine ⟨rfl,OldK.of_keep fun b o e=>?_,os,bare⟩
      cases q:H b with
      | none=>exact un.keep b o e q (by intro z; exact absurd (show b∈([]:List Addr) from z) (by simp)) (by simp)
      | some u =>
        rcases hO b with z | ⟨ob,xs,z⟩
        · rw [q] at z; cases z
        · have z2:=un.frzs b ob _ z
          obtain ⟨e1,_⟩:=hok b _ z
          obtain ⟨e2,_⟩:=hok' b _ z2
          rw [e] at e1; cases e1
          exact e2
 cases hk:K.lookup a with
 | some o =>
   have e:=KX a o hk
   rw [ha] at e
   cases e
   refine core (fun _=>none) (fun _=>.inl rfl) (.inr ⟨_,vs.toArray,_,hk,rfl,rfl,rfl,by rw [List.size_toArray,lenV]; exact hl,by simpa using rv⟩) (fun b u z=>by have z':(none:Option HO)=some u:=z; cases z') (fun b z=>absurd rfl z) fun z=>absurd rfl z
 | none =>
   refine core (fun b=>if b=a then some (.frz { cls:=.type "list",data:=.seq vs.toArray } (.lst (ns.map V.int))) else none) (fun b=>?_) (.inl (.inr ⟨{ cls:=.type "list",data:=.seq vs.toArray },if_pos rfl⟩)) (fun b u z=>?_) (fun b z=>?_) fun _=>hk
   · by_cases hb:b=a
     · exact .inr ⟨_,_,if_pos hb⟩
     · exact .inl (if_neg hb)
   · by_cases hb:b=a
     · have z':=(if_pos hb).symm.trans z
       cases z'
       subst hb
       exact ⟨ha,by rw [List.length_map]; exact hl,vs,_,rv,ha⟩
     · have z':=(if_neg hb).symm.trans z
       cases z'
   · by_cases hb:b=a
     · exact hb
     · exact absurd (if_neg hb) z
theorem walk_of {l:PySem.W.OpenLaw}{n k:Nat}{q:Program}{loose:List Str}{XP:(Str→Option Value)→Heap→Prop}{YP:World→Heap→Prop}{d:DefRec}{K:Params→PySem.W.Frag}{CX:World→CXT}{sp:World→Sp}{x:Str}
 (hn:l.most=some n) (hn2:n≤sizeLine) (hdf:d.params.defaults=[]) (hr:Room k callerA)
 (hY:∀ (w:World) (h:Heap),YP w h→(K w.params).In h)
 (F:∀ (w:World) (mg:Str→Option Value) (fa:Addr) (h:Heap),(K w.params).In h→h.Ns mainGlobals mg→mg d.name=some (.ref fa) →
  ∃ fd:FuncData,(∀ (s:Shared) (u:Value),BindsTo s fd ⟨[u],[]⟩ [(x,u)]) ∧
   ∀ base:Heap,(K w.params).In base→base.Ns mainGlobals mg→FnOk l.prog w (K w.params) mg base (CX w) k fa fd [x] (sp w))
 (hsp:∀ (w:World) (H:Hp) (a:Addr) (ns:List Int),ns.length≤n→Only H→SqL (K w.params) H a (ns.map V.int)→sp w [.ref a] H (fun v _=>v=.bl true) fun _ _ _=>False)
 (hCX:∀ (w:World) (H:Hp) (s:Shared) (e:Value) (s':Shared),CX w [] H s (fun _ _ _=>False) e s'→False) :
 PySem.W.WalkO q loose XP YP l.row.toRowW d [] (fun f vs=>PySem.call f vs):=by
 refine Att.attach_call hn hdf fun w s₀ s₁ mg mb fa o pm cd doc a vs ns G Y ho hd hcd hmg hobj hints hlen hg=>?_
 have KX:=hY w _ Y
 obtain ⟨fd,hb,hF⟩:=F w mg fa _ KX G.T.g hmg
 exact be7 KX G.T.g G.T.b G.T.builtins G.T.nolimit hg hobj hints (Nat.le_trans hlen hn2) hr hF hb (fun H hO hS=>hsp w H a ns hlen hO hS) fun H e s'=>hCX w H s₁ e s'
def inClass (s:Stmt) (j:Nat):Stmt:=match s with
 | .ClassDef _ _ _ body _ _ _ _ _ _ _=>body.getD j (.Pass ⟨0,0,0,0⟩)
 | _=>.Pass ⟨0,0,0,0⟩
def defArgs (s:Stmt):Arguments:=match s with
 | .FunctionDef _ a _ _ _ _ _ _ _ _=>a
 | _=>{ posonlyargs:=[],args:=[],vararg:=none,kwonlyargs:=[],kw_defaults:=[],kwarg:=none,defaults:=[] }
def defBody (s:Stmt):List Stmt:=match s with
 | .FunctionDef _ _ b _ _ _ _ _ _ _=>b
 | _=>[]
def defScope (s:Stmt):Scope:=match s with
 | .FunctionDef _ _ _ _ _ _ sc _ _ _=>sc
 | _=>{ kind:=.function,names:=[],isGenerator:=false,isCoroutine:=false }
abbrev CX0:CXT:=fun _ _ _ _ _ _=>False
abbrev E0:XK:=fun _ _ _=>False
theorem a85 {X:Cx}:Passes CX0 X E0:=fun _ _ _ _ _ _ _ h=>h.elim
structure Fun (K:PySem.W.Frag) (x qual:Str) (st:Stmt) (f:Addr) (fd:FuncData):Prop where
 ex:∃ (oc:Value) (od:Option Addr) (kV doc pm:Value) (an:Option Addr) (cdv ct:Value) (osl:Array (Option Value)),
  fd=PySem.W.fnOf x qual (defArgs st) (defBody st) (defScope st) .none kV doc pm an cdv ct∧K.lookup f=some ⟨oc,od,.func fd,osl⟩∧PySem.W.codeIn K cdv qual=true
 kp:PySem.W.keepIn K (.ref f)=true
section
variable {P:Program}{w:World}{K:PySem.W.Frag}{mg:Str→Option Value}{base:Heap}
theorem Fun.ok {x qual:Str}{st:Stmt}{f:Addr}{fd:FuncData}{N ps:List Str}{k:Nat}{sp:Sp}(F:Fun K x qual st f fd) (S:FnScope N ps (defScope st)) (len:∀ vs H Q E,sp vs H Q E→vs.length=ps.length)
 (hbody:∀ (cdv:Value) (A:Around) (outer:List Env) (s:Shared) (H:Hp) (vs:List V) (Q:VK) (E:XK),Room k (A.deeper (envOfC qual (defScope st) s.heap.objs.size f cdv))→sp vs H Q E →
  ∃ t,PSs (cxOf CX0 P w K mg base N qual (defScope st) f cdv A outer s H E).nox (defBody st) t∧t { nx:=fun _ H'=>Q .non H',rt:=Q } (start N vs) H):FnOk P w K mg base CX0 (k+1) f fd ps sp:=by
 obtain ⟨oc,od,kV,doc,pm,an,cdv,ct,osl,rfl,lk,hcd⟩:=F.ex
 refine c09 lk hcd S len fun A outer s H vs Q E hr hsp=>?_
 obtain ⟨t,h,q⟩:=hbody cdv A outer s H vs Q E hr hsp
 exact ⟨t,h.nox,q⟩
theorem Fun.binds {x qual:Str}{st:Stmt}{f:Addr}{fd:FuncData}{ps:List Str}(F:Fun K x qual st f fd)
 (h:∀ (kV doc pm:Value) (an:Option Addr) (cdv ct:Value) (us:List Value),us.length=ps.length→bindArgs (PySem.W.fnOf x qual (defArgs st) (defBody st) (defScope st) .none kV doc pm an cdv ct) ⟨us,[]⟩=pure (ps.zip us)):Binds K fd ps []:=by
 obtain ⟨oc,od,kV,doc,pm,an,cdv,ct,osl,rfl,lk,hcd⟩:=F.ex
 exact .all (h kV doc pm an cdv ct)
theorem a79 {x qual:Str}{st:Stmt}{f:Addr}{oc:Value}{od an:Option Addr}{osl:Array (Option Value)}{kV doc pm cdv ct:Value}(l:K.lookup f=some ⟨oc,od,.func (PySem.W.fnOf x qual (defArgs st) (defBody st) (defScope st) .none kV doc pm an cdv ct),osl⟩)
 (c:PySem.W.codeIn K cdv qual=true) (k:PySem.W.keepIn K (.ref f)=true):Fun K x qual st f (PySem.W.fnOf x qual (defArgs st) (defBody st) (defScope st) .none kV doc pm an cdv ct):=⟨⟨oc,od,kV,doc,pm,an,cdv,ct,osl,rfl,l,c⟩,k⟩
end
theorem bu6 {A:Around}{k:Nat}(hr:Room k A):A.units+1<cLine:=Nat.lt_of_le_of_lt (Nat.add_le_add_left (by decide:1≤64) _) hr.units
section
variable {X:Cx}
theorem pv (i:Nat) {x:Str}{pos:Pos}(hN:X.N[i]?=some x:=by rfl) (hv:Vis X.env.scope x:=by first | exact Or.inl rfl | exact Or.inr (Or.inl rfl) | exact Or.inr (Or.inr rfl)) (hd:(x == ("__debug__":Str))=false:=by decide)
 (hcd:(x == ("__classdict__":Str))=false:=by decide):PE X (.Name x pos) (tVar i):=bs8 hN hv hd hcd
end
theorem iteF {A B:Prop}(h:B):if false=true then A else B:=by
 rw [if_neg Bool.false_ne_true]
 exact h
theorem iteT {A B:Prop}(h:A):if true=true then A else B:=by
 rw [if_pos rfl]
 exact h
theorem ite2 {c A B:Prop} [Decidable c] (h1:c→A) (h2:¬ c→B):if c then A else B:=by
 by_cases h:c
 · rw [if_pos h]
   exact h1 h
 · rw [if_neg h]
   exact h2 h
def Same (H H':Hp):Prop:=∀ b o,H b=some o→H' b=some o
theorem Same.refl (H:Hp):Same H H:=fun _ _ h=>h
theorem Same.trans {H H1 H2:Hp}(a:Same H H1) (b:Same H1 H2):Same H H2:=fun c o h=>b c o (a c o h)
theorem Same.free {H H':Hp}(e:Same H H') {l:Addr}(h:H' l=Option.none):H l=Option.none:=by
 cases q:H l with
 | none=>rfl
 | some o =>
   rw [e l o q] at h
   cases h
theorem Same.seq {K:PySem.W.Frag}{H H':Hp}{a:Addr}{xs:List V}(e:Same H H') (h:SqL K H a xs):SqL K H' a xs:=by
 rcases h with (h | ⟨o,h⟩) | h
 · exact .inl (.inl (e _ _ h))
 · exact .inl (.inr ⟨o,e _ _ h⟩)
 · exact .inr h
end L2
namespace K42
open PySem L2
def top (i:Nat):Stmt:=PySem.Challenge.pw_callmill_k42_alike_nodes.main.body.getD i (.Pass ⟨0,0,0,0⟩)
def view:Program:={ PySem.Challenge.pw_callmill_k42_alike_nodes with main:={ PySem.Challenge.pw_callmill_k42_alike_nodes.main with body:=[top 1,top 2,top 4,top 5,top 6,top 7,top 8,top 9,top 10,top 11,top 13,top 14,top 15,top 16,top 17,top 18,top 19,top 20,top 21,top 22,top 23,top 24] } }
abbrev a74:Stmt:=top 1
abbrev a62:Stmt:=top 2
abbrev a98:Stmt:=top 4
abbrev a55:Stmt:=top 5
abbrev a86:Stmt:=top 6
abbrev a95:Stmt:=top 7
abbrev aa4:Stmt:=top 8
abbrev a42:Stmt:=inClass (top 9) 0
abbrev a51:Stmt:=inClass (top 9) 1
abbrev a43:Stmt:=inClass (top 9) 2
abbrev a39:Stmt:=inClass (top 9) 3
abbrev a46:Stmt:=inClass (top 9) 4
abbrev a37:Stmt:=inClass (top 9) 5
abbrev a63:Stmt:=top 10
abbrev a64:Stmt:=top 11
abbrev a61:Stmt:=top 13
abbrev a89:Stmt:=top 14
abbrev a90:Stmt:=top 15
abbrev a91:Stmt:=top 16
abbrev a92:Stmt:=top 17
abbrev a81:Stmt:=top 18
abbrev a87:Stmt:=top 19
abbrev a75:Stmt:=top 20
abbrev a69:Stmt:=top 21
abbrev a93:Stmt:=top 22
abbrev a71:Stmt:=top 23
abbrev aj0:Stmt:=top 24
def al0 (K:PySem.W.Frag):Sp:=fun vs H Q _=>∃ (a:Addr) (ns:List Int),vs=[.ref a]∧SqL K H a (ns.map V.int)∧ns.length≤63∧∀ H',Q (.bl true) H'
theorem walk {l:PySem.W.OpenLaw}{q:Program}{loose:List Str}{XP:(Str→Option Value)→Heap→Prop}{YP:World→Heap→Prop}{d:DefRec}{K:Params→PySem.W.Frag}(hn:l.most=some 63) (hdf:d.params.defaults=[])
 (hY:∀ (w:World) (h:Heap),YP w h→(K w.params).In h)
 (F:∀ (w:World) (mg:Str→Option Value) (fa:Addr) (h:Heap),(K w.params).In h→h.Ns mainGlobals mg→mg d.name=some (.ref fa) →
  ∃ fd:FuncData,(∀ (s:Shared) (u:Value),BindsTo s fd ⟨[u],[]⟩ [("script",u)])∧∀ base:Heap,(K w.params).In base→base.Ns mainGlobals mg→FnOk l.prog w (K w.params) mg base CX0 8 fa fd ["script"] (al0 (K w.params))) :
 PySem.W.WalkO q loose XP YP l.row.toRowW d [] (fun f vs=>PySem.call f vs) :=
 L2.walk_of (n:=63) (k:=8) (x:="script") (CX:=fun _=>CX0) (sp:=fun w=>al0 (K w.params)) hn (by decide) hdf ⟨rfl,by decide,by decide⟩ hY F (fun _ _ a ns hl _ hS=>⟨a,ns,rfl,hS,hl,fun _=>rfl⟩) fun _ _ _ _ _ z=>z
def HF (P:Params) (K:PySem.W.Frag):Prop:=∀ R:Prop,(∀
 {C_Grouping:Addr}(aC_Grouping:PySem.W.nsIn K mainGlobals "Grouping"=some (some (.ref C_Grouping)))
 (pg_Grouping:PySem.W.plainGet K C_Grouping Str.empty=true) (hd_Grouping:PySem.W.hasDictIn K C_Grouping=true) (po_Grouping:PySem.W.plainOver K C_Grouping=true) (sa_Grouping:PySem.W.findIn K (.ref C_Grouping) "__setattr__"=some (some (.builtin "object.__setattr__"))) (mk_Grouping:PySem.W.makesIn K C_Grouping=true) (kc_Grouping:PySem.W.keepIn K (.ref C_Grouping)=true)
 (nF_Grouping_groups:PySem.W.findIn K (.ref C_Grouping) "groups"=some none)
 (nF_Grouping_members:PySem.W.findIn K (.ref C_Grouping) "members"=some none)
 (nF_Grouping_sources:PySem.W.findIn K (.ref C_Grouping) "sources"=some none)
 (nF_Grouping_touched:PySem.W.findIn K (.ref C_Grouping) "touched"=some none)
 (nF_Grouping_waiting:PySem.W.findIn K (.ref C_Grouping) "waiting"=some none)
 (nF_Grouping_ways:PySem.W.findIn K (.ref C_Grouping) "ways"=some none)
 {f0:Addr}{od0 an0:Option Addr}{sl0:Array (Option Value)}{oc0 kV0 dc0 pm0 cd0 ct0:Value}
 {f1:Addr}{od1 an1:Option Addr}{sl1:Array (Option Value)}{oc1 kV1 dc1 pm1 cd1 ct1:Value}
 {f2:Addr}{od2 an2:Option Addr}{sl2:Array (Option Value)}{oc2 kV2 dc2 pm2 cd2 ct2:Value}
 {f3:Addr}{od3 an3:Option Addr}{sl3:Array (Option Value)}{oc3 kV3 dc3 pm3 cd3 ct3:Value}
 {f4:Addr}{od4 an4:Option Addr}{sl4:Array (Option Value)}{oc4 kV4 dc4 pm4 cd4 ct4:Value}
 {f5:Addr}{od5 an5:Option Addr}{sl5:Array (Option Value)}{oc5 kV5 dc5 pm5 cd5 ct5:Value}
 {f6:Addr}{od6 an6:Option Addr}{sl6:Array (Option Value)}{oc6 kV6 dc6 pm6 cd6 ct6:Value}
 {f7:Addr}{od7 an7:Option Addr}{sl7:Array (Option Value)}{oc7 kV7 dc7 pm7 cd7 ct7:Value}
 {f8:Addr}{od8 an8:Option Addr}{sl8:Array (Option Value)}{oc8 kV8 dc8 pm8 cd8 ct8:Value}
 {f9:Addr}{od9 an9:Option Addr}{sl9:Array (Option Value)}{oc9 kV9 dc9 pm9 cd9 ct9:Value}
 {f10:Addr}{od10 an10:Option Addr}{sl10:Array (Option Value)}{oc10 kV10 dc10 pm10 cd10 ct10:Value}
 {f11:Addr}{od11 an11:Option Addr}{sl11:Array (Option Value)}{oc11 kV11 dc11 pm11 cd11 ct11:Value}
 {f12:Addr}{od12 an12:Option Addr}{sl12:Array (Option Value)}{oc12 kV12 dc12 pm12 cd12 ct12:Value}
 {f13:Addr}{od13 an13:Option Addr}{sl13:Array (Option Value)}{oc13 kV13 dc13 pm13 cd13 ct13:Value}
 {f14:Addr}{od14 an14:Option Addr}{sl14:Array (Option Value)}{oc14 kV14 dc14 pm14 cd14 ct14:Value}
 {f15:Addr}{od15 an15:Option Addr}{sl15:Array (Option Value)}{oc15 kV15 dc15 pm15 cd15 ct15:Value}
 {f16:Addr}{od16 an16:Option Addr}{sl16:Array (Option Value)}{oc16 kV16 dc16 pm16 cd16 ct16:Value}
 {f17:Addr}{od17 an17:Option Addr}{sl17:Array (Option Value)}{oc17 kV17 dc17 pm17 cd17 ct17:Value}
 {f18:Addr}{od18 an18:Option Addr}{sl18:Array (Option Value)}{oc18 kV18 dc18 pm18 cd18 ct18:Value}
 {f19:Addr}{od19 an19:Option Addr}{sl19:Array (Option Value)}{oc19 kV19 dc19 pm19 cd19 ct19:Value}
 {f20:Addr}{od20 an20:Option Addr}{sl20:Array (Option Value)}{oc20 kV20 dc20 pm20 cd20 ct20:Value}
 {f21:Addr}{od21 an21:Option Addr}{sl21:Array (Option Value)}{oc21 kV21 dc21 pm21 cd21 ct21:Value}
 {f22:Addr}{od22 an22:Option Addr}{sl22:Array (Option Value)}{oc22 kV22 dc22 pm22 cd22 ct22:Value}
 {f23:Addr}{od23 an23:Option Addr}{sl23:Array (Option Value)}{oc23 kV23 dc23 pm23 cd23 ct23:Value}
 {f24:Addr}{od24 an24:Option Addr}{sl24:Array (Option Value)}{oc24 kV24 dc24 pm24 cd24 ct24:Value}
 {f25:Addr}{od25 an25:Option Addr}{sl25:Array (Option Value)}{oc25 kV25 dc25 pm25 cd25 ct25:Value}
 {f26:Addr}{od26 an26:Option Addr}{sl26:Array (Option Value)}{oc26 kV26 dc26 pm26 cd26 ct26:Value}
 (a0:PySem.W.nsIn K mainGlobals "next_ones"=some (some (.ref f0))) (l0:K.lookup f0=some ⟨oc0,od0,.func (PySem.W.fnOf "next_ones" "next_ones" (defArgs a74) (defBody a74) (defScope a74) .none kV0 dc0 pm0 an0 cd0 ct0),sl0⟩) (c0:PySem.W.codeIn K cd0 "next_ones"=true) (k0:PySem.W.keepIn K (.ref f0)=true)
 (a1:PySem.W.nsIn K mainGlobals "renumbered"=some (some (.ref f1))) (l1:K.lookup f1=some ⟨oc1,od1,.func (PySem.W.fnOf "renumbered" "renumbered" (defArgs a62) (defBody a62) (defScope a62) .none kV1 dc1 pm1 an1 cd1 ct1),sl1⟩) (c1:PySem.W.codeIn K cd1 "renumbered"=true) (k1:PySem.W.keepIn K (.ref f1)=true)
 (a2:PySem.W.nsIn K mainGlobals "share"=some (some (.ref f2))) (l2:K.lookup f2=some ⟨oc2,od2,.func (PySem.W.fnOf "share" "share" (defArgs a98) (defBody a98) (defScope a98) .none kV2 dc2 pm2 an2 cd2 ct2),sl2⟩) (c2:PySem.W.codeIn K cd2 "share"=true) (k2:PySem.W.keepIn K (.ref f2)=true)
 (a3:PySem.W.nsIn K mainGlobals "put_together"=some (some (.ref f3))) (l3:K.lookup f3=some ⟨oc3,od3,.func (PySem.W.fnOf "put_together" "put_together" (defArgs a55) (defBody a55) (defScope a55) .none kV3 dc3 pm3 an3 cd3 ct3),sl3⟩) (c3:PySem.W.codeIn K cd3 "put_together"=true) (k3:PySem.W.keepIn K (.ref f3)=true)
 (a4:PySem.W.nsIn K mainGlobals "numbered"=some (some (.ref f4))) (l4:K.lookup f4=some ⟨oc4,od4,.func (PySem.W.fnOf "numbered" "numbered" (defArgs a86) (defBody a86) (defScope a86) .none kV4 dc4 pm4 an4 cd4 ct4),sl4⟩) (c4:PySem.W.codeIn K cd4 "numbered"=true) (k4:PySem.W.keepIn K (.ref f4)=true)
 (a5:PySem.W.nsIn K mainGlobals "counted"=some (some (.ref f5))) (l5:K.lookup f5=some ⟨oc5,od5,.func (PySem.W.fnOf "counted" "counted" (defArgs a95) (defBody a95) (defScope a95) .none kV5 dc5 pm5 an5 cd5 ct5),sl5⟩) (c5:PySem.W.codeIn K cd5 "counted"=true) (k5:PySem.W.keepIn K (.ref f5)=true)
 (a6:PySem.W.nsIn K mainGlobals "firsts"=some (some (.ref f6))) (l6:K.lookup f6=some ⟨oc6,od6,.func (PySem.W.fnOf "firsts" "firsts" (defArgs aa4) (defBody aa4) (defScope aa4) .none kV6 dc6 pm6 an6 cd6 ct6),sl6⟩) (c6:PySem.W.codeIn K cd6 "firsts"=true) (k6:PySem.W.keepIn K (.ref f6)=true)
 (a7:PySem.W.findIn K (.ref C_Grouping) "__init__"=some (some (.ref f7))) (i7:PySem.W.isFn K (.ref f7)=true) (l7:K.lookup f7=some ⟨oc7,od7,.func (PySem.W.fnOf "__init__" "Grouping.__init__" (defArgs a42) (defBody a42) (defScope a42) .none kV7 dc7 pm7 an7 cd7 ct7),sl7⟩) (c7:PySem.W.codeIn K cd7 "Grouping.__init__"=true) (k7:PySem.W.keepIn K (.ref f7)=true)
 (a8:PySem.W.findIn K (.ref C_Grouping) "part"=some (some (.ref f8))) (i8:PySem.W.isFn K (.ref f8)=true) (l8:K.lookup f8=some ⟨oc8,od8,.func (PySem.W.fnOf "part" "Grouping.part" (defArgs a51) (defBody a51) (defScope a51) .none kV8 dc8 pm8 an8 cd8 ct8),sl8⟩) (c8:PySem.W.codeIn K cd8 "Grouping.part"=true) (k8:PySem.W.keepIn K (.ref f8)=true)
 (a9:PySem.W.findIn K (.ref C_Grouping) "parts_of"=some (some (.ref f9))) (i9:PySem.W.isFn K (.ref f9)=true) (l9:K.lookup f9=some ⟨oc9,od9,.func (PySem.W.fnOf "parts_of" "Grouping.parts_of" (defArgs a43) (defBody a43) (defScope a43) .none kV9 dc9 pm9 an9 cd9 ct9),sl9⟩) (c9:PySem.W.codeIn K cd9 "Grouping.parts_of"=true) (k9:PySem.W.keepIn K (.ref f9)=true)
 (a10:PySem.W.findIn K (.ref C_Grouping) "led_groups"=some (some (.ref f10))) (i10:PySem.W.isFn K (.ref f10)=true) (l10:K.lookup f10=some ⟨oc10,od10,.func (PySem.W.fnOf "led_groups" "Grouping.led_groups" (defArgs a39) (defBody a39) (defScope a39) .none kV10 dc10 pm10 an10 cd10 ct10),sl10⟩) (c10:PySem.W.codeIn K cd10 "Grouping.led_groups"=true) (k10:PySem.W.keepIn K (.ref f10)=true)
 (a11:PySem.W.findIn K (.ref C_Grouping) "regroup"=some (some (.ref f11))) (i11:PySem.W.isFn K (.ref f11)=true) (l11:K.lookup f11=some ⟨oc11,od11,.func (PySem.W.fnOf "regroup" "Grouping.regroup" (defArgs a46) (defBody a46) (defScope a46) .none kV11 dc11 pm11 an11 cd11 ct11),sl11⟩) (c11:PySem.W.codeIn K cd11 "Grouping.regroup"=true) (k11:PySem.W.keepIn K (.ref f11)=true)
 (a12:PySem.W.findIn K (.ref C_Grouping) "touch_sources"=some (some (.ref f12))) (i12:PySem.W.isFn K (.ref f12)=true) (l12:K.lookup f12=some ⟨oc12,od12,.func (PySem.W.fnOf "touch_sources" "Grouping.touch_sources" (defArgs a37) (defBody a37) (defScope a37) .none kV12 dc12 pm12 an12 cd12 ct12),sl12⟩) (c12:PySem.W.codeIn K cd12 "Grouping.touch_sources"=true) (k12:PySem.W.keepIn K (.ref f12)=true)
 (a13:PySem.W.nsIn K mainGlobals "sources_of"=some (some (.ref f13))) (l13:K.lookup f13=some ⟨oc13,od13,.func (PySem.W.fnOf "sources_of" "sources_of" (defArgs a63) (defBody a63) (defScope a63) .none kV13 dc13 pm13 an13 cd13 ct13),sl13⟩) (c13:PySem.W.codeIn K cd13 "sources_of"=true) (k13:PySem.W.keepIn K (.ref f13)=true)
 (a14:PySem.W.nsIn K mainGlobals "members_of"=some (some (.ref f14))) (l14:K.lookup f14=some ⟨oc14,od14,.func (PySem.W.fnOf "members_of" "members_of" (defArgs a64) (defBody a64) (defScope a64) .none kV14 dc14 pm14 an14 cd14 ct14),sl14⟩) (c14:PySem.W.codeIn K cd14 "members_of"=true) (k14:PySem.W.keepIn K (.ref f14)=true)
 (a15:PySem.W.nsIn K mainGlobals "_law_cell_at"=some (some (.ref f15))) (l15:K.lookup f15=some ⟨oc15,od15,.func (PySem.W.fnOf "_law_cell_at" "_law_cell_at" (defArgs a61) (defBody a61) (defScope a61) .none kV15 dc15 pm15 an15 cd15 ct15),sl15⟩) (c15:PySem.W.codeIn K cd15 "_law_cell_at"=true) (k15:PySem.W.keepIn K (.ref f15)=true)
 (a16:PySem.W.nsIn K mainGlobals "_law_expr"=some (some (.ref f16))) (l16:K.lookup f16=some ⟨oc16,od16,.func (PySem.W.fnOf "_law_expr" "_law_expr" (defArgs a89) (defBody a89) (defScope a89) .none kV16 dc16 pm16 an16 cd16 ct16),sl16⟩) (c16:PySem.W.codeIn K cd16 "_law_expr"=true) (k16:PySem.W.keepIn K (.ref f16)=true)
 (a17:PySem.W.nsIn K mainGlobals "_law_cond"=some (some (.ref f17))) (l17:K.lookup f17=some ⟨oc17,od17,.func (PySem.W.fnOf "_law_cond" "_law_cond" (defArgs a90) (defBody a90) (defScope a90) .none kV17 dc17 pm17 an17 cd17 ct17),sl17⟩) (c17:PySem.W.codeIn K cd17 "_law_cond"=true) (k17:PySem.W.keepIn K (.ref f17)=true)
 (a18:PySem.W.nsIn K mainGlobals "_law_wait"=some (some (.ref f18))) (l18:K.lookup f18=some ⟨oc18,od18,.func (PySem.W.fnOf "_law_wait" "_law_wait" (defArgs a91) (defBody a91) (defScope a91) .none kV18 dc18 pm18 an18 cd18 ct18),sl18⟩) (c18:PySem.W.codeIn K cd18 "_law_wait"=true) (k18:PySem.W.keepIn K (.ref f18)=true)
 (a19:PySem.W.nsIn K mainGlobals "_law_node"=some (some (.ref f19))) (l19:K.lookup f19=some ⟨oc19,od19,.func (PySem.W.fnOf "_law_node" "_law_node" (defArgs a92) (defBody a92) (defScope a92) .none kV19 dc19 pm19 an19 cd19 ct19),sl19⟩) (c19:PySem.W.codeIn K cd19 "_law_node"=true) (k19:PySem.W.keepIn K (.ref f19)=true)
 (a20:PySem.W.nsIn K mainGlobals "_law_graph"=some (some (.ref f20))) (l20:K.lookup f20=some ⟨oc20,od20,.func (PySem.W.fnOf "_law_graph" "_law_graph" (defArgs a81) (defBody a81) (defScope a81) .none kV20 dc20 pm20 an20 cd20 ct20),sl20⟩) (c20:PySem.W.codeIn K cd20 "_law_graph"=true) (k20:PySem.W.keepIn K (.ref f20)=true)
 (a21:PySem.W.nsIn K mainGlobals "_law_look"=some (some (.ref f21))) (l21:K.lookup f21=some ⟨oc21,od21,.func (PySem.W.fnOf "_law_look" "_law_look" (defArgs a87) (defBody a87) (defScope a87) .none kV21 dc21 pm21 an21 cd21 ct21),sl21⟩) (c21:PySem.W.codeIn K cd21 "_law_look"=true) (k21:PySem.W.keepIn K (.ref f21)=true)
 (a22:PySem.W.nsIn K mainGlobals "_law_nexts"=some (some (.ref f22))) (l22:K.lookup f22=some ⟨oc22,od22,.func (PySem.W.fnOf "_law_nexts" "_law_nexts" (defArgs a75) (defBody a75) (defScope a75) .none kV22 dc22 pm22 an22 cd22 ct22),sl22⟩) (c22:PySem.W.codeIn K cd22 "_law_nexts"=true) (k22:PySem.W.keepIn K (.ref f22)=true)
 (a23:PySem.W.nsIn K mainGlobals "_law_part"=some (some (.ref f23))) (l23:K.lookup f23=some ⟨oc23,od23,.func (PySem.W.fnOf "_law_part" "_law_part" (defArgs a69) (defBody a69) (defScope a69) .none kV23 dc23 pm23 an23 cd23 ct23),sl23⟩) (c23:PySem.W.codeIn K cd23 "_law_part"=true) (k23:PySem.W.keepIn K (.ref f23)=true)
 (a24:PySem.W.nsIn K mainGlobals "_law_new"=some (some (.ref f24))) (l24:K.lookup f24=some ⟨oc24,od24,.func (PySem.W.fnOf "_law_new" "_law_new" (defArgs a93) (defBody a93) (defScope a93) .none kV24 dc24 pm24 an24 cd24 ct24),sl24⟩) (c24:PySem.W.codeIn K cd24 "_law_new"=true) (k24:PySem.W.keepIn K (.ref f24)=true)
 (a25:PySem.W.nsIn K mainGlobals "_law_copied"=some (some (.ref f25))) (l25:K.lookup f25=some ⟨oc25,od25,.func (PySem.W.fnOf "_law_copied" "_law_copied" (defArgs a71) (defBody a71) (defScope a71) .none kV25 dc25 pm25 an25 cd25 ct25),sl25⟩) (c25:PySem.W.codeIn K cd25 "_law_copied"=true) (k25:PySem.W.keepIn K (.ref f25)=true)
 (a26:PySem.W.nsIn K mainGlobals "law"=some (some (.ref f26))) (l26:K.lookup f26=some ⟨oc26,od26,.func (PySem.W.fnOf "law" "law" (defArgs aj0) (defBody aj0) (defScope aj0) .none kV26 dc26 pm26 an26 cd26 ct26),sl26⟩) (c26:PySem.W.codeIn K cd26 "law"=true) (k26:PySem.W.keepIn K (.ref f26)=true)
 (z_any:PySem.W.nsIn K mainGlobals "any"=some none)
 (z_dict:PySem.W.nsIn K mainGlobals "dict"=some none)
 (z_enumerate:PySem.W.nsIn K mainGlobals "enumerate"=some none)
 (z_isinstance:PySem.W.nsIn K mainGlobals "isinstance"=some none)
 (z_len:PySem.W.nsIn K mainGlobals "len"=some none)
 (z_list:PySem.W.nsIn K mainGlobals "list"=some none)
 (z_min:PySem.W.nsIn K mainGlobals "min"=some none)
 (z_range:PySem.W.nsIn K mainGlobals "range"=some none)
 (z_sorted:PySem.W.nsIn K mainGlobals "sorted"=some none)
 (z_tuple:PySem.W.nsIn K mainGlobals "tuple"=some none)
 (z_zip:PySem.W.nsIn K mainGlobals "zip"=some none),R)→R
theorem walk2 {l:PySem.W.OpenLaw}{q:Program}{loose:List Str}{XP:(Str→Option Value)→Heap→Prop}{YP:World→Heap→Prop}{d:DefRec}{K:Params→PySem.W.Frag}(hn:l.most=some 63) (hdf:d.params.defaults=[]) (hd:d.name="law") (hl:l=PySem.Challenge.rw_callmill_k42_alike_nodes) (hY:∀ (w:World) (h:Heap),YP w h→(K w.params).In h) (hF:∀ P,HF P (K P)) (G:∀ K:Params→PySem.W.Frag,(∀ P,HF P (K P))→(∀ (w:World) (mg:Str→Option Value) (fa:Addr) (h:Heap),(K w.params).In h→h.Ns mainGlobals mg→mg "law"=some (.ref fa)→∃ fd:FuncData,(∀ (s:Shared) (u:Value),BindsTo s fd ⟨[u],[]⟩ [("script",u)])∧∀ base:Heap,(K w.params).In base→base.Ns mainGlobals mg→FnOk PySem.Challenge.rw_callmill_k42_alike_nodes.prog w (K w.params) mg base CX0 8 fa fd ["script"] (al0 (K w.params)))):PySem.W.WalkO q loose XP YP l.row.toRowW d [] (fun f vs=>PySem.call f vs):=walk hn hdf hY (by rw [hd,hl]; exact G K hF)
section
open PySem PySem.W PyProof.Rows
local macro_rules | `(tactic| o_head $H) => `(tactic| refine holds_open (q := K42.view) (loose := []) (Xt := fun s => xlAt K42.view [] s && recOk (RowW.records _) s) (XP := XL K42.view []) (Yf := Hook.obs $H) (Ya := Hook.val $H) (YP := Hook.says $H) (N := 8000) ?hl (Hook.of $H) (Hook.keeps $H) (fun s e => xl_of s (Bool.and_eq_true_iff.mp e).1) XL.keeps (by rfl) (by rfl) (by rfl) (fun s e => recFacts_of (Bool.and_eq_true_iff.mp e).2) (by rfl) (by first | assumption | decide +kernel) (by decide +kernel) ⟨rfl, rfl, rfl, rfl, rfl, by decide +kernel⟩ ?hw ?hc)
def bt:List Obj→Nat→BT→BT
 | [],_,t=>t
 | o::l,i,t=>bt l (i+1) (t.ins i o)
noncomputable def T0 (P:Params):BT:=bt (boot_heap P).objs.toList 0 .nil
def runT (tb:String→Option Builtin) (p:Program) (w:World) (n₀:Nat) (ann:Option Value):Nat→SharedT→Thread→Option SharedT
 | 0,_,_=>none
 | n+1,s,t=>match through t with
   | true=>some s
   | false=>match stepOk n₀ ann t with
     | false=>none
     | true=>match stepT (denote tb) p w s t with
       | some (s',t')=>runT tb p w n₀ ann n s' t'
       | none=>none
theorem b73 {tb:String→Option Builtin}{p:Program}{w:World}{n₀:Nat}{ann:Option Value}:∀ {n:Nat}{s s':SharedT}{t:Thread},runT tb p w n₀ ann n s t=some s'→topRun tb p w n₀ ann n s.abs t=some s'.abs
 | 0,_,_,_,h=>by cases h
 | n+1,s,s',t,h=>by
   unfold runT at h
   unfold topRun
   cases he:through t with
   | true=>rw [he] at h; cases h; rfl
   | false =>
     rw [he] at h
     cases hk:stepOk n₀ ann t with
     | false=>rw [hk] at h; cases h
     | true =>
       rw [hk] at h
       cases hs:stepT (denote tb) p w s t with
       | none=>rw [hs] at h; cases h
       | some r=>obtain ⟨s₂,t₂⟩:=r; rw [hs] at h; rw [stepT_spec hs]; exact b73 h
theorem b74 {p q:Program}{loose:List Str}{Xt:Shared→Bool}{α:Type}{Yf:Shared→α}{Ya:World→α}{N:Nat}{g0:Bool}{m₀:Nat}{ann:Option Value}(e:opening p=plainProg p.main.scope.names) (hN:Nat.ble 600 N=true) (f:∀ s,fenceModules? p s=some s)
 (b:∀ P,boot_heap P=absHeap (T0 P) m₀ (boot_heap P).life) (z:∀ w:World,(boot_heap w.params).isNs mainGlobals=true∧(boot_heap w.params).objs.size=m₀∧(boot_heap w.params).nsMap mainGlobals "__annotations__"=ann)
 (h:∀ (w:World) (os:OsState),(runT treeTable p w m₀ ann N ⟨T0 w.params,m₀,(boot_heap w.params).life,Array.mk [],boot_drawn,boot_toks,os⟩ (topStub p)).map (fun s=>(staticsOk (importedModules p.main.body) (boot_heap w.params) s.abs.heap && namesBound p s.abs.heap && gensDone s.abs && laidKept (boot_heap w.params) s.abs.heap,openSeen q loose (importedModules p.main.body) Xt g0 s.abs,Yf s.abs))=some (true,openGood q loose,Ya w)):LeftO p q loose Xt Yf Ya N g0:=fun w=>by
 obtain ⟨⟨hp,g,d,k,os⟩,hs,hv⟩:=Option.map_eq_some_iff.mp (boot_open e hN f w)
 injection hv with v1 v2
 injection v2 with v2 v3
 injection v3 with v3 v4
 dsimp only at v1 v2 v3 v4
 subst v1 v2 v3 v4
 obtain ⟨z1,z2,z3⟩:=z w
 obtain ⟨s',h1,h2⟩:=Option.map_eq_some_iff.mp (h w os)
 obtain ⟨l1,l2,l3⟩:_∧_∧_:=by simpa only [Prod.mk.injEq] using h2
 have r:=b73 h1
 have r':topRun treeTable p w m₀ ann N ⟨boot_heap w.params,Array.mk [],boot_drawn,boot_toks,os⟩ (topStub p)=some s'.abs:=by
  rw [b w.params]
  exact r
 unfold openEnds
 rw [hs]
 show (topFrom treeTable p w N _).map _=_
 unfold topFrom
 dsimp only
 rw [z1,z2,z3,r']
 show (match staticsOk (importedModules p.main.body) (boot_heap w.params) s'.abs.heap && namesBound p s'.abs.heap && gensDone s'.abs && laidKept (boot_heap w.params) s'.abs.heap with | true=>some s'.abs | false=>none).map _=_
 rw [l1]
 exact congrArg some (Prod.ext l2 l3)
theorem bu7 (P:Params):boot_heap P=absHeap (T0 P) 11 (boot_heap P).life:=by kernel_rfl
theorem bu8 (w:World):(boot_heap w.params).isNs mainGlobals=true∧(boot_heap w.params).objs.size=11∧(boot_heap w.params).nsMap mainGlobals "__annotations__"=some (.ref 6):=⟨by kernel_rfl,by kernel_rfl,by kernel_rfl⟩
set_option maxRecDepth 100000 in
set_option maxHeartbeats 0 in
theorem head (G:∀ K:Params→PySem.W.Frag,(∀ P,HF P (K P))→(∀ (w:World) (mg:Str→Option Value) (fa:Addr) (h:Heap),(K w.params).In h→h.Ns mainGlobals mg→mg "law"=some (.ref fa)→∃ fd:FuncData,(∀ (s:Shared) (u:Value),BindsTo s fd ⟨[u],[]⟩ [("script",u)])∧∀ base:Heap,(K w.params).In base→base.Ns mainGlobals mg→FnOk PySem.Challenge.rw_callmill_k42_alike_nodes.prog w (K w.params) mg base CX0 8 fa fd ["script"] (al0 (K w.params)))):PySem.Challenge.rw_callmill_k42_alike_nodes.Holds:=by
 w_on; o_law; k_head; (case hw=>w_witness2); (case hl=>exact b74 rfl rfl (fun _=>rfl) bu7 bu8 (by intro w os; kernel_rfl))
 k_fill
 refine K42.walk2 (l:=PySem.Challenge.rw_callmill_k42_alike_nodes) rfl rfl rfl rfl (fun w h Y=>PySem.W.kIn_of Y) ?facts G
 case facts =>
  intro P R kk
  refine' kk ?aC_Grouping ?pg_Grouping ?hd_Grouping ?po_Grouping ?sa_Grouping ?mk_Grouping ?kc_Grouping ?nF_Grouping_groups ?nF_Grouping_members ?nF_Grouping_sources ?nF_Grouping_touched ?nF_Grouping_waiting ?nF_Grouping_ways ?a0 ?l0 ?c0 ?k0 ?a1 ?l1 ?c1 ?k1 ?a2 ?l2 ?c2 ?k2 ?a3 ?l3 ?c3 ?k3 ?a4 ?l4 ?c4 ?k4 ?a5 ?l5 ?c5 ?k5 ?a6 ?l6 ?c6 ?k6 ?a7 ?i7 ?l7 ?c7 ?k7 ?a8 ?i8 ?l8 ?c8 ?k8 ?a9 ?i9 ?l9 ?c9 ?k9 ?a10 ?i10 ?l10 ?c10 ?k10 ?a11 ?i11 ?l11 ?c11 ?k11 ?a12 ?i12 ?l12 ?c12 ?k12 ?a13 ?l13 ?c13 ?k13 ?a14 ?l14 ?c14 ?k14 ?a15 ?l15 ?c15 ?k15 ?a16 ?l16 ?c16 ?k16 ?a17 ?l17 ?c17 ?k17 ?a18 ?l18 ?c18 ?k18 ?a19 ?l19 ?c19 ?k19 ?a20 ?l20 ?c20 ?k20 ?a21 ?l21 ?c21 ?k21 ?a22 ?l22 ?c22 ?k22 ?a23 ?l23 ?c23 ?k23 ?a24 ?l24 ?c24 ?k24 ?a25 ?l25 ?c25 ?k25 ?a26 ?l26 ?c26 ?k26 ?z_any ?z_dict ?z_enumerate ?z_isinstance ?z_len ?z_list ?z_min ?z_range ?z_sorted ?z_tuple ?z_zip
  (case aC_Grouping=>k_is)
  (case pg_Grouping=>k_is)
  (case hd_Grouping=>k_is)
  (case po_Grouping=>k_is)
  (case sa_Grouping=>k_is)
  (case mk_Grouping=>k_is)
  (case kc_Grouping=>k_is)
  (case nF_Grouping_groups=>k_is)
  (case nF_Grouping_members=>k_is)
  (case nF_Grouping_sources=>k_is)
  (case nF_Grouping_touched=>k_is)
  (case nF_Grouping_waiting=>k_is)
  (case nF_Grouping_ways=>k_is)
  (case a0=>k_is)
  (case l0=>k_is)
  (case c0=>k_is)
  (case k0=>k_is)
  (case a1=>k_is)
  (case l1=>k_is)
  (case c1=>k_is)
  (case k1=>k_is)
  (case a2=>k_is)
  (case l2=>k_is)
  (case c2=>k_is)
  (case k2=>k_is)
  (case a3=>k_is)
  (case l3=>k_is)
  (case c3=>k_is)
  (case k3=>k_is)
  (case a4=>k_is)
  (case l4=>k_is)
  (case c4=>k_is)
  (case k4=>k_is)
  (case a5=>k_is)
  (case l5=>k_is)
  (case c5=>k_is)
  (case k5=>k_is)
  (case a6=>k_is)
  (case l6=>k_is)
  (case c6=>k_is)
  (case k6=>k_is)
  (case a7=>k_is)
  (case i7=>k_is)
  (case l7=>k_is)
  (case c7=>k_is)
  (case k7=>k_is)
  (case a8=>k_is)
  (case i8=>k_is)
  (case l8=>k_is)
  (case c8=>k_is)
  (case k8=>k_is)
  (case a9=>k_is)
  (case i9=>k_is)
  (case l9=>k_is)
  (case c9=>k_is)
  (case k9=>k_is)
  (case a10=>k_is)
  (case i10=>k_is)
  (case l10=>k_is)
  (case c10=>k_is)
  (case k10=>k_is)
  (case a11=>k_is)
  (case i11=>k_is)
  (case l11=>k_is)
  (case c11=>k_is)
  (case k11=>k_is)
  (case a12=>k_is)
  (case i12=>k_is)
  (case l12=>k_is)
  (case c12=>k_is)
  (case k12=>k_is)
  (case a13=>k_is)
  (case l13=>k_is)
  (case c13=>k_is)
  (case k13=>k_is)
  (case a14=>k_is)
  (case l14=>k_is)
  (case c14=>k_is)
  (case k14=>k_is)
  (case a15=>k_is)
  (case l15=>k_is)
  (case c15=>k_is)
  (case k15=>k_is)
  (case a16=>k_is)
  (case l16=>k_is)
  (case c16=>k_is)
  (case k16=>k_is)
  (case a17=>k_is)
  (case l17=>k_is)
  (case c17=>k_is)
  (case k17=>k_is)
  (case a18=>k_is)
  (case l18=>k_is)
  (case c18=>k_is)
  (case k18=>k_is)
  (case a19=>k_is)
  (case l19=>k_is)
  (case c19=>k_is)
  (case k19=>k_is)
  (case a20=>k_is)
  (case l20=>k_is)
  (case c20=>k_is)
  (case k20=>k_is)
  (case a21=>k_is)
  (case l21=>k_is)
  (case c21=>k_is)
  (case k21=>k_is)
  (case a22=>k_is)
  (case l22=>k_is)
  (case c22=>k_is)
  (case k22=>k_is)
  (case a23=>k_is)
  (case l23=>k_is)
  (case c23=>k_is)
  (case k23=>k_is)
  (case a24=>k_is)
  (case l24=>k_is)
  (case c24=>k_is)
  (case k24=>k_is)
  (case a25=>k_is)
  (case l25=>k_is)
  (case c25=>k_is)
  (case k25=>k_is)
  (case a26=>k_is)
  (case l26=>k_is)
  (case c26=>k_is)
  (case k26=>k_is)
  (case z_any=>k_is)
  (case z_dict=>k_is)
  (case z_enumerate=>k_is)
  (case z_isinstance=>k_is)
  (case z_len=>k_is)
  (case z_list=>k_is)
  (case z_min=>k_is)
  (case z_range=>k_is)
  (case z_sorted=>k_is)
  (case z_tuple=>k_is)
  (case z_zip=>k_is)
end
end K42
namespace L2
open PySem PySem.Spec PyProof.Rows
section
variable {κ:Type} [DecidableEq κ]
def valV (kvs:List (κ×V)) (k:κ):Option V:=(kvs.find? fun kv=>decide (kv.1=k)).map (·.2)
def putK (kvs:List (κ×V)) (k:κ) (v:V):List (κ×V) :=
 if (kvs.any fun kv=>decide (kv.1=k))=true then kvs.map (fun kv=>if kv.1=k then (kv.1,v) else kv) else kvs++[(k,v)]
theorem ad8 {p:κ×V}{r:List (κ×V)}{k:κ}(e:p.1=k):valV (p::r) k=some p.2:=by simp [valV,List.find?_cons,e]
theorem ad9 {p:κ×V}{r:List (κ×V)}{k:κ}(e:¬ p.1=k):valV (p::r) k=valV r k:=by simp [valV,List.find?_cons,e]
theorem ae0 (k:κ):∀ kvs:List (κ×V),(kvs.any fun kv=>decide (kv.1=k))=(valV kvs k).isSome
 | []=>rfl
 | p::r=>by
   rw [List.any_cons]
   by_cases e:p.1=k
   · simp only [ad8 e,decide_eq_true e,Bool.true_or,Option.isSome_some]
   · rw [ad9 e,decide_eq_false e,Bool.false_or]; exact ae0 k r
theorem af2 (kvs:List (κ×V)) (k:κ) (v:V):(putK kvs k v).length≤kvs.length+1:=by
 unfold putK
 split
 · rw [List.length_map]; omega
 · rw [List.length_append,List.length_cons,List.length_nil]; omega
theorem be8 {kvs:List (κ×V)}{k:κ}(v:V) (h:valV kvs k=none):putK kvs k v=kvs++[(k,v)]:=by
 unfold putK
 rw [ae0,h]
 exact if_neg (by decide)
theorem RelO.isSome_eq {o:Option V}{u:Option Value}(r:RelO o u):o.isSome=u.isSome:=by
 cases o with
 | none=>cases u with
   | none=>rfl
   | some _=>exact (show False from r).elim
 | some _=>cases u with
   | none=>exact (show False from r).elim
   | some _=>rfl
theorem KV.val {kvs:List (κ×V)}{vs:List (κ×Value)}(r:KV kvs vs) (k:κ):RelO (valV kvs k) (valueAt vs k):=by
 unfold KV at r
 induction r with
 | nil=>exact True.intro
 | @cons p q ps qs h t ih =>
   obtain ⟨h1,h2⟩:=h
   by_cases e:p.1=k
   · have e':q.1=k:=h1.symm.trans e
     have b:valueAt (q::qs) k=some q.2:=by simp [valueAt,List.find?_cons,e']
     rw [ad8 e,b]; exact h2
   · have e':¬ q.1=k:=fun z=>e (h1.trans z)
     have b:valueAt (q::qs) k=valueAt qs k:=by simp [valueAt,List.find?_cons,e']
     rw [ad9 e,b]; exact ih
theorem KV.any {kvs:List (κ×V)}{vs:List (κ×Value)}(r:KV kvs vs) (k:κ):(kvs.any fun kv=>decide (kv.1=k))=vs.any fun kv=>decide (kv.1=k):=by
 unfold KV at r
 induction r with
 | nil=>rfl
 | cons h t ih=>rw [List.any_cons,List.any_cons,ih,h.1]
theorem KV.repl {kvs:List (κ×V)}{vs:List (κ×Value)}(r:KV kvs vs) (k:κ) {y:V}{u:Value}(ry:RelV y u) :
 KV (kvs.map fun kv=>if kv.1=k then (kv.1,y) else kv) (vs.map fun kv=>if kv.1=k then (kv.1,u) else kv):=by
 unfold KV at r ⊢
 induction r with
 | nil=>exact .nil
 | @cons p q ps qs h t ih =>
   rw [List.map_cons,List.map_cons]
   refine .cons ?_ ih
   obtain ⟨h1,h2⟩:=h
   by_cases e:p.1=k
   · rw [if_pos e,if_pos (h1.symm.trans e)]; exact ⟨h1,ry⟩
   · rw [if_neg e,if_neg (fun z=>e (h1.trans z))]; exact ⟨h1,h2⟩
theorem KV.put {kvs:List (κ×V)}{vs:List (κ×Value)}(r:KV kvs vs) (k:κ) {y:V}{u:Value}(ry:RelV y u):KV (putK kvs k y) (stored vs k u):=by
 unfold putK stored
 rw [r.any k]
 by_cases e:(vs.any fun kv=>decide (kv.1=k))=true
 · rw [if_pos e,if_pos e]; exact r.repl k ry
 · rw [if_neg e,if_neg e]; exact Paired.snoc r ⟨rfl,ry⟩
theorem KV.keys {kvs:List (κ×V)}{vs:List (κ×Value)}(r:KV kvs vs):kvs.map (·.1)=vs.map (·.1):=by
 unfold KV at r
 induction r with
 | nil=>rfl
 | cons h t ih=>rw [List.map_cons,List.map_cons,ih,h.1]
theorem KV.length {kvs:List (κ×V)}{vs:List (κ×Value)}(r:KV kvs vs):kvs.length=vs.length:=Paired.length r
end
theorem be9 {P:Program}{w:World}{k:Key}{u:Value}(r:RelV (kV k) u):(mixKind P w).is k u=true:=by
 cases k with
 | inl i=>obtain ⟨t,e⟩:=(show ∃ t,u=Value.int i t from r); subst e; exact at5 P w i t
 | inr x=>obtain ⟨t,e⟩:=(show ∃ t,u=Value.str x t from r); subst e; exact at6 P w x t
theorem ar7 {P:Program}{w:World}:∀ {ks:List Key}{us:List Value},Vals (ks.map kV) us→ItemsAre (mixKind P w) ks us
 | [],_,r=>by rw [List.map_nil] at r; cases r; exact .nil
 | k::ks,_,r=>by
   rw [List.map_cons] at r
   cases r with
   | cons h t=>exact .cons (be9 h) (ar7 t)
abbrev KT (H:Hp):List (List Key×V)→List (List Key×Addr×Value)→Prop:=Paired fun p q=>p.1=q.1∧H q.2.1=some (.tup (p.1.map kV))∧RelV p.2 q.2.2
theorem KT.val {H:Hp}{kvs:List (List Key×V)}{xs:List (List Key×Addr×Value)}(r:KT H kvs xs) (k:List Key):RelO (valV kvs k) ((atKey xs k).map (·.2)):=by
 induction r with
 | nil=>exact True.intro
 | @cons p q ps qs h t ih =>
   obtain ⟨h1,_,h2⟩:=h
   by_cases e:p.1=k
   · have e':q.1=k:=h1.symm.trans e
     have b:atKey (q::qs) k=some q.2:=by simp [atKey,List.find?_cons,e']
     rw [ad8 e,b]; exact h2
   · have e':¬ q.1=k:=fun z=>e (h1.trans z)
     have b:atKey (q::qs) k=atKey qs k:=by simp [atKey,List.find?_cons,e']
     rw [ad9 e,b]; exact ih
theorem KT.repl {H:Hp}{kvs:List (List Key×V)}{xs:List (List Key×Addr×Value)}(r:KT H kvs xs) (k:List Key) {y:V}{u:Value}(ry:RelV y u) :
 KT H (kvs.map fun kv=>if kv.1=k then (kv.1,y) else kv) (xs.map (putAt k u)):=by
 induction r with
 | nil=>exact .nil
 | @cons p q ps qs h t ih =>
   rw [List.map_cons,List.map_cons]
   refine .cons ?_ ih
   obtain ⟨h1,h2,h3⟩:=h
   unfold putAt
   by_cases e:p.1=k
   · rw [if_pos e,if_pos (h1.symm.trans e)]; exact ⟨h1,h2,ry⟩
   · rw [if_neg e,if_neg (fun z=>e (h1.trans z))]; exact ⟨h1,h2,h3⟩
theorem KT.put {H:Hp}{kvs:List (List Key×V)}{xs:List (List Key×Addr×Value)}(r:KT H kvs xs) (k:List Key) {b:Addr}{y:V}{u:Value}(hb:H b=some (.tup (k.map kV))) (ry:RelV y u) :
 KT H (putK kvs k y) (storedH xs k b u):=by
 have e:(kvs.any fun kv=>decide (kv.1=k))=(atKey xs k).isSome:=by
  rw [ae0,(r.val k).isSome_eq,Option.isSome_map]
 unfold putK storedH
 rw [e]
 by_cases q:(atKey xs k).isSome=true
 · rw [if_pos q,if_pos q]; exact r.repl k ry
 · rw [if_neg q,if_neg q]; exact Paired.snoc r ⟨rfl,hb,ry⟩
theorem KT.keeps {H H':Hp}{kvs:List (List Key×V)}{xs:List (List Key×Addr×Value)}(r:KT H kvs xs) (ht:∀ b ys,H b=some (.tup ys)→H' b=some (.tup ys)):KT H' kvs xs :=
 Paired.mapP r fun _ _ z=>⟨z.1,ht _ _ z.2.1,z.2.2⟩
section
variable {P:Program}{w:World}{H:Hp}{h:Heap}{a:Addr}
theorem bu9 {u:HO}(ok:HOk P w H h) (e:Rd H a u):ObjOk P w H h a u:=e.ok ok
theorem bm4 {kvs:List (Key×V)}(ok:HOk P w H h) (e:Rd H a (.dK kvs)):kvs.length≤sizeLine∧(a == sysModules)=false∧∃ vs,KV kvs vs∧h.DictOf (mixKind P w) a vs :=
 show ObjOk P w H h a (.dK kvs) from bu9 ok e
theorem bv0 {kvs:List (Key×V)}(ok:HOk P w H h) (e:H a=some (.dK kvs)):kvs.length≤sizeLine∧(a == sysModules)=false∧∃ vs,KV kvs vs∧h.DictOf (mixKind P w) a vs:=bm4 ok (.inl e)
theorem b75 {ks:List Key}(ok:HOk P w H h) (e:H a=some (.tup (ks.map kV))):(tupleKind (mixKind P w)).is h ks a:=by
 obtain ⟨_,its,r,o,h1,h2,n,h3⟩:=(show ObjOk P w H h a (.tup (ks.map kV)) from ok a _ e)
 exact ⟨o,its.toArray,n,h1,h2,h3,by simpa using ar7 r⟩
theorem bv1 {kvs:List (List Key×V)}(ok:HOk P w H h) (e:Rd H a (.dT kvs)):kvs.length≤sizeLine∧(a == sysModules)=false ∧
 ∃ xs,KT H kvs xs∧h.DictOfH (tupleKind (mixKind P w)) a xs:=by
 obtain ⟨z,y,xs,r,o,es,ep,h1,h2,h3,h4,h5⟩:=(show ObjOk P w H h a (.dT kvs) from bu9 ok e)
 refine ⟨z,y,xs,r,o,es,ep,h1,h2,h3,h4,fun x hx=>?_,h5⟩
 have all:∀ {l:List (List Key×V)}{m:List (List Key×Addr×Value)},KT H l m→∀ x∈m,(tupleKind (mixKind P w)).is h x.1 x.2.1:=by
  intro l m q
  induction q with
  | nil=>intro x hx; exact nomatch hx
  | @cons p q ps qs hq t ih =>
    intro x hx
    rcases List.mem_cons.mp hx with e | hx
    · subst e
      exact b75 ok (by rw [← hq.1]; exact hq.2.1)
    · exact ih x hx
 exact all r x hx
theorem c28 {kvs:List (List Key×V)}(ok:HOk P w H h) (e:H a=some (.dT kvs)):kvs.length≤sizeLine∧(a == sysModules)=false ∧
 ∃ xs,KT H kvs xs∧h.DictOfH (tupleKind (mixKind P w)) a xs:=bv1 ok (.inl e)
end
def DGet (H:Hp) (a:Addr) (y:V) (r:Option V):Prop :=
 (∃ kvs k,Rd H a (.dK kvs)∧y=kV k∧r=valV kvs k)∨∃ kvs k b,Rd H a (.dT kvs)∧y=.ref b∧H b=some (.tup (k.map kV))∧r=valV kvs k
def DPut (H:Hp) (a:Addr) (y v:V) (H':Hp):Prop :=
 (∃ kvs k,H a=some (.dK kvs)∧y=kV k∧kvs.length<sizeLine∧H'=upd H a (.dK (putK kvs k v))) ∨
 ∃ kvs k b,H a=some (.dT kvs)∧y=.ref b∧H b=some (.tup (k.map kV))∧kvs.length<sizeLine∧H'=upd H a (.dT (putK kvs k v))
theorem DGet.k {H:Hp}{a:Addr}{kvs:List (Key×V)}{k:Key}(e:H a=some (.dK kvs)):DGet H a (kV k) (valV kvs k):=.inl ⟨kvs,k,.inl e,rfl,rfl⟩
theorem DPut.k {H:Hp}{a:Addr}{kvs:List (Key×V)}{k:Key}{v:V}(e:H a=some (.dK kvs)) (hl:kvs.length<sizeLine):DPut H a (kV k) v (upd H a (.dK (putK kvs k v))):=.inl ⟨kvs,k,e,rfl,hl,rfl⟩
section
variable {X:Cx}{pins:List (Addr×Obj)}{σ:St} {H:Hp}{s:Shared}{a:Addr}{y v:V}{u r:Value}{o:Option V}{A:Around}{E:Value→Shared→Prop}
theorem Inv.big (I:Inv X pins σ H s):sysModules<s.heap.objs.size:=by
 have h:mainGlobals<s.heap.objs.size:=(I.mod.glob.keeps I.bk).lt
 exact Nat.lt_trans (by decide) h
theorem bm5 {Q:Value→Shared→Prop}(hu:A.units+1<cLine) (I:Inv X pins σ H s) (g:DGet H a y o) (ry:RelV y u) (h:∀ s',Inv X pins σ H s'→Q (.bool (!o.isSome)) s') :
 wpAny (model X.prog X.w) A (compareOp .NotIn u (.ref a)) Q E s:=by
 rcases g with ⟨kvs,k,e,ey,l⟩ | ⟨kvs,k,b,e,ey,eb,l⟩
 · subst ey
   obtain ⟨z,hd,vs,rel,dd⟩:=bm4 I.hok e
   refine wpAny_notIn_of (be9 ry) hd dd.mapOf ?_
   rw [← (rel.val k).isSome_eq,←l]
   exact h _ (I.tok _)
 · subst ey
   cases (show u=Value.ref b from ry)
   obtain ⟨z,hd,xs,rel,dd⟩:=bv1 I.hok e
   refine wpAny_notIn_heap (tupleKind_room_in1 hu) (b75 I.hok eb) hd dd ?_
   have q:=(rel.val k).isSome_eq
   rw [Option.isSome_map] at q
   rw [← q,←l]
   exact h _ (I.tok _)
theorem am6 {h':Heap}{t':Nat}{ob:HO}(I:Inv X pins σ H s) (mu:Mut (H a)) (hs:Heap.SameBut a s.heap h') (he:∃ q,h'.get? a=some q) (new:ObjOk X.prog X.w (upd H a ob) h' a ob) :
 Inv X pins σ (upd H a ob) { s with heap:=h',toks:=t' } :=
 I.write (x:=a) (e:=a) mu (.inl rfl) (fun b q hb z=>(hs.2 b hb).trans z) he new
theorem bj5 {P:Program}{w:World}{H':Hp}{h':Heap}{kvs:List (Key×V)}{vs:List (Key×Value)}(z:kvs.length≤sizeLine) (hd:(a == sysModules)=false) (rel:KV kvs vs) (dd:h'.DictOf (mixKind P w) a vs) :
 ObjOk P w H' h' a (.dK kvs):=⟨z,hd,vs,rel,dd⟩
theorem b76 {H':Hp}{Q:Unit→Shared→Prop}(hu:A.units+1<cLine) (I:Inv X pins σ H s) (g:DPut H a y v H') (ry:RelV y u) (rv:RelV v r) (h:∀ s',Inv X pins σ H' s'→Q () s') :
 wpAny (model X.prog X.w) A (setItem (.ref a) u r) Q E s:=by
 rcases g with ⟨kvs,k,e,ey,l,eH⟩ | ⟨kvs,k,b,e,ey,eb,l,eH⟩
 · subst ey eH
   obtain ⟨z,hd,vs,rel,dd⟩:=bv0 I.hok e
   have hz:vs.length≤sizeLine:=by rw [← rel.length]; exact z
   have hl:(putK kvs k v).length≤sizeLine:=by have:=af2 kvs k v; omega
   refine wpAny_setItem_pairs (hsz:=hz) (be9 ry) dd fun h' dd' hs=>h _ ?_
   have he:∃ q,h'.get? a=some q:=let ⟨q,_,_,hq,_⟩:=dd'; ⟨q,hq⟩
   exact am6 I (by rw [e]; exact True.intro) hs he (bj5 hl hd (rel.put k rv) dd')
 · subst ey eH
   cases (show u=Value.ref b from ry)
   obtain ⟨z,hd,xs,rel,dd⟩:=c28 I.hok e
   have hz:xs.length≤sizeLine:=by rw [← Paired.length rel]; exact z
   have hl:(putK kvs k v).length≤sizeLine:=by have:=af2 kvs k v; omega
   refine wpAny_setItem_heap (hsz:=hz) (tupleKind_room_in1 hu) (b75 I.hok eb) dd fun h' dd' hs=>h _ ?_
   obtain ⟨q,es,ep,hq,h2,h3,h4,_,h5⟩:=dd'
   refine am6 I (by rw [e]; exact True.intro) hs ⟨q,hq⟩ ⟨hl,hd,_,(rel.put k eb rv).keeps fun c ys ec=>?_,q,es,ep,hq,h2,h3,h4,h5⟩
   rw [a06 (ad0 ec e (fun z=>nomatch z))]
   exact ec
end
section
variable {X:Cx}{pins:List (Addr×Obj)}{σ:St} {H:Hp}{s:Shared}{a:Addr}{kvs:List (Key×V)}{k:Key}{u:Value}{A:Around}{E:Value→Shared→Prop}
theorem c29 {Q:Value→Shared→Prop}(I:Inv X pins σ H s) (e:Rd H a (.dK kvs)) (h:∀ t s',Inv X pins σ H s'→Q (.int kvs.length t) s'):wpAny (model X.prog X.w) A (call (.builtin "len") [.ref a]) Q E s:=by
 obtain ⟨z,hd,vs,rel,dd⟩:=bm4 I.hok e
 refine call_len_dict hd dd (by rw [← rel.length]; rw [sizeLine_eq] at z; omega) ?_
 rw [← rel.length]
 exact h _ _ (I.tok _)
end
def NoSl (i:Expr):Prop:=∀ ov iv,subscripted i false ov iv=operate [ov,iv] (getItem ov iv)
theorem bm6 {prog:Program}{w:World}{A:Around}{E:Value→Shared→Prop}{s:Shared}{env:Env}{value slice:Expr}{pos:Pos}{T id:String}{Q:Value→Shared→Prop}
 (hl:typeLookup (.type T) "__getitem__"=pure (some (.builtin id))) (hs:NoSl slice)
 (h:wpAny (model prog w) A (eval value env) (fun o s₁=>wpAny (model prog w) A (eval slice env) (fun i s₂=>s₂.TypeIs o T∧wpAny (model prog w) A (getItem o i) Q E s₂) E s₁) E s) :
 wpAny (model prog w) A (eval (.Subscript value slice pos) env) Q E s:=by
 refine Subscript_ (wpAny_mono h (fun o s₁ h₁=>wpAny_mono h₁ (fun i s₂ h₂=>?_) fun _ _ x=>x) fun _ _ x=>x)
 obtain ⟨hT,h₂⟩:=h₂
 unfold subscriptTail
 refine wpAny_bind ?_
 rw [getitemInPython_of_ne hT.not_modules]
 refine wpAny_bind (wpAny_specialOf hT hl ?_)
 have fin:wpAny (model prog w) A (subscripted slice false o i) (fun r s₃=>wpAny (model prog w) A (letTemporaryGo value o r >>= fun _=>pure r) Q E s₃) E s₂:=by
  rw [hs o i]
  exact wpAny_operating (wpAny_mono h₂ (fun r s₃ h₃=>wpAny_bind (wpAny_letTemporaryGo (wpAny_pure h₃))) fun _ _ x=>x)
 first
  | exact wpAny_pure (wpAny_bind fin)
  | exact wpAny_bind (wpAny_pure (wpAny_bind fin))
  | exact wpAny_bind fin
def tDNotIn (ty td:TE):TE:=fun σ H Q=>ty σ H fun y H1=>td σ H1 fun x H2=>∃ a o,x=.ref a∧DGet H2 a y o∧Q (.bl (!o.isSome)) H2
def sDPut (td ty tv:TE):TS:=fun D σ H=>tv σ H fun v H1=>td σ H1 fun x H2=>ty σ H2 fun y H3=>∃ a H4,x=.ref a∧DPut H3 a y v H4∧D.nx σ H4
section
variable {X:Cx}{o i e value:Expr}{pos pos' tpos:Pos}{td ty tv:TE}
theorem b77 (hu:X.A.units+1<cLine) (hi:PE X i ty) (ho:PE X o td):PC X .NotIn i o (tDNotIn ty td):=by
 intro pins s σ H Q I h
 refine thn (hi pins s σ H _ I h) fun iv s1 ⟨y,H1,I1,ry,q1⟩=>thn (ho pins s1 σ H1 _ I1 q1) fun u s2 ⟨x,H2,I2,rx,a,ov,ex,g,q2⟩=>?_
 subst ex
 obtain rfl:u=Value.ref a:=rx
 exact bm5 hu I2 g ry fun s3 I3=>⟨.bl (!ov.isSome),H2,I3,rfl,q2⟩
theorem bm7 (hu:X.A.units+1<cLine) (ho:PE X o td) (hi:PE X i ty) (hv:PE X value tv) (hs:swapsWith value (some (.Subscript o i pos')) pos.line X.env=pure false) :
 PS X (.Assign [.Subscript o i pos'] value pos) (sDPut td ty tv):=by
 intro pins s σ H D I h
 refine wpAny_Assign_Subscript (thn (hv pins s σ H _ I h) fun r s1 ⟨v,H1,I1,rv,q1⟩=>thn (ho pins s1 σ H1 _ I1 q1) fun u s2 ⟨x,H2,I2,rx,q2⟩=>thn (hi pins s2 σ H2 _ I2 q2) fun iv s3 ⟨y,H3,I3,ry,a,H4,ex,g,q3⟩=>?_) hs
 subst ex
 obtain rfl:u=Value.ref a:=rx
 exact b76 hu I3 g ry rv fun s4 I4=>⟨σ,H4,I4,q3⟩
end
theorem bf0 {P:Program}{w:World}{H:Hp}(h:Heap) (hb:sysModules<h.objs.size):ObjOk P w H (h.push { cls:=.type "dict",data:=.dict #[] }) h.objs.size (.dK []) :=
 ⟨Nat.zero_le _,beq_eq_false_iff_ne.mpr (Ne.symm (Nat.ne_of_lt hb)),[],.nil,Heap.DictOf.new h⟩
def tDNewK:TE:=fun _ H Q=>∀ p,H p=none→Q (.ref p) (upd H p (.dK []))
section
variable {X:Cx}{pos:Pos}
theorem bf1:PE X (.Dict [] [] pos) tDNewK:=fun pins s σ H Q I h =>
 wpAny_Dict_empty ⟨.ref s.heap.objs.size,_,I.laid (a:=s.heap.objs.size) (o:=.dK []) (t':=s.toks) (fun _ _ q=>Heap.get?_push_of_some _ q) (Nat.le_refl _) (bf0 s.heap I.big),rfl,h _ (I.hok.fresh (Nat.le_refl _))⟩
end
def mergeK (kvs more:List (Key×V)):List (Key×V):=more.foldl (fun acc kv=>putK acc kv.1 kv.2) kvs
theorem KV.merge:∀ {more:List (Key×V)}{rs:List (Key×Value)}{kvs:List (Key×V)}{vs:List (Key×Value)},KV more rs→KV kvs vs→KV (mergeK kvs more) (merged vs rs):=by
 intro more rs kvs vs r
 unfold KV at r
 induction r generalizing kvs vs with
 | nil=>intro q; exact q
 | @cons p q ps qs h t ih =>
   intro r0
   have e:KV (putK kvs p.1 p.2) (stored vs q.1 q.2):=by
    have:=r0.put p.1 h.2
    rw [← h.1]; exact this
   exact ih e
theorem ag4:∀ (more kvs:List (Key×V)),(mergeK kvs more).length≤kvs.length+more.length
 | [],kvs=>by show kvs.length≤kvs.length+0; omega
 | p::r,kvs=>by
   have h1:=ag4 r (putK kvs p.1 p.2)
   have h2:=af2 kvs p.1 p.2
   show (mergeK (putK kvs p.1 p.2) r).length≤_
   rw [List.length_cons]; omega
structure M1 (X:Cx) (o:Expr) (m:Str) (apos:Pos) (e:Expr) (cpos:Pos):Prop where
 base:attributeBase o m X.env (eval o X.env)=eval o X.env
 few:((backTo cpos (starEach [e] X.env)).all (fun x=>!x.1) && (backToKw cpos (keywordEach [] X.env)).all (fun x=>x.1.isSome)
  && decide (([e]:List Expr).length+([]:List Keyword).length+(if ([]:List Keyword).isEmpty then 0 else 1)<30))=true
 line:(apos.endLine == cpos.line)=true
 trees:backTo cpos (starEach [e] X.env)=[(false,eval e X.env)]
structure M2 (X:Cx) (o:Expr) (m:Str) (apos:Pos) (e f:Expr) (cpos:Pos):Prop where
 base:attributeBase o m X.env (eval o X.env)=eval o X.env
 few:((backTo cpos (starEach [e,f] X.env)).all (fun x=>!x.1) && (backToKw cpos (keywordEach [] X.env)).all (fun x=>x.1.isSome)
  && decide (([e,f]:List Expr).length+([]:List Keyword).length+(if ([]:List Keyword).isEmpty then 0 else 1)<30))=true
 line:(apos.endLine == cpos.line)=true
 trees:backTo cpos (starEach [e,f] X.env)=[(false,eval e X.env),(false,eval f X.env)]
section
variable {X:Cx}{pins:List (Addr×Obj)}{σ:St} {H:Hp}{s:Shared}{a:Addr}{y d:V}{u r:Value}{o:Option V}{A:Around}{E:Value→Shared→Prop}
end
section
variable {X:Cx}{o e f:Expr}{apos cpos:Pos}{td ty tx:TE}
end
section
variable {X:Cx}{pins:List (Addr×Obj)}{σ:St} {H:Hp}{s:Shared}{a:Addr}{kvs:List (Key×V)}{A:Around}{E:Value→Shared→Prop}
end
section
variable {X:Cx}{pins:List (Addr×Obj)}{σ:St} {H:Hp}{s:Shared}{a:Addr}{y:V}{u:Value}{A:Around}{E:Value→Shared→Prop}
end
section
variable {κ:Type} [DecidableEq κ]
theorem ax8 {kvs:List (κ×V)}{k:κ}(h:valV kvs k=none):¬ k∈kvs.map (·.1):=by
 intro m
 obtain ⟨p,hp,e⟩:=List.mem_map.mp m
 have q:(kvs.any fun kv=>decide (kv.1=k))=true:=List.any_eq_true.mpr ⟨p,hp,decide_eq_true e⟩
 rw [ae0,h] at q
 exact absurd q (by simp)
theorem bm8 {kvs:List (κ×V)}{k:κ}{v:V}(h:valV kvs k=some v):k∈kvs.map (·.1):=by
 have q:(kvs.any fun kv=>decide (kv.1=k))=true:=by
  rw [ae0,h]
  all_goals rfl
 obtain ⟨p,hp,e⟩:=List.any_eq_true.mp q
 exact List.mem_map.mpr ⟨p,hp,of_decide_eq_true e⟩
theorem aa6:∀ {l:List κ}{k:κ},l.Nodup→¬ k∈l→(l++[k]).Nodup
 | [],k,_,_=>by simp
 | a::r,k,h,hk=>by
   obtain ⟨h1,h2⟩:=List.nodup_cons.mp h
   show (a::(r++[k])).Nodup
   refine List.nodup_cons.mpr ⟨fun m=>?_,aa6 h2 fun m=>hk (List.mem_cons.mpr (Or.inr m))⟩
   rcases List.mem_append.mp m with q | q
   · exact h1 q
   · exact hk (List.mem_cons.mpr (Or.inl (List.mem_singleton.mp q).symm))
end
def cxC (X:Cx) (N:List Str) (scope:Scope) (cl:List (Str×Addr)) (C:Addr) (s0:Shared) (H0:Hp) (ex:List Addr):Cx :=
 { X with N:=N,s₀:=s0,H₀:=H0,env:=compEnvC scope cl C X.env,outer:=X.stack,stack:=X.stack,ex:=ex,fn:=fun x=>scope.names.lookup x == some .cell,pn:=[],xe:=fun _ _=>False }
theorem al1 {env : Env} (has : ∀ x, (env.kindOf x = some .cell ∨ env.kindOf x = some .free) → ∃ c, env.cells.lookup x = some c) {scope : Scope}
    (hf : ∀ y ∈ scope.names, y.2 = .free → env.kindOf y.1 = some .cell ∨ env.kindOf y.1 = some .free) :
    ∃ cl, closureFor scope env = pure cl ∧ (∀ x c, cl.lookup x = some c → env.cells.lookup x = some c) ∧ (∀ y ∈ scope.names, y.2 = .free → ∃ c, cl.lookup y.1 = some c) := by
  have gen : ∀ (names : List (Str × NameKind)) (cs : List (Str × Addr)), (∀ y ∈ names, y.2 = .free → env.kindOf y.1 = some .cell ∨ env.kindOf y.1 = some .free) →
      (∀ x c, cs.lookup x = some c → env.cells.lookup x = some c) →
      ∃ cl, (forIn (m := Sem) names cs fun p r => do
          match p with
          | (name, kind) => if kind == .free then do let c ← cellOf env name; pure (ForInStep.yield ((name, c) :: r)) else pure (ForInStep.yield r)) = pure cl ∧
        (∀ x c, cl.lookup x = some c → env.cells.lookup x = some c) ∧ (∀ x c, cs.lookup x = some c → ∃ c, cl.lookup x = some c) ∧ (∀ y ∈ names, y.2 = .free → ∃ c, cl.lookup y.1 = some c) := by
    intro names
    induction names with
    | nil => intro cs _ h; exact ⟨cs, rfl, h, fun x c e => ⟨c, e⟩, fun y hy => nomatch hy⟩
    | cons p r ih =>
      intro cs hp h
      obtain ⟨n, k⟩ := p
      by_cases hk : k = .free
      · subst hk
        obtain ⟨c, hc⟩ := has n (hp (n, .free) List.mem_cons_self rfl)
        have h' : ∀ x d, ((n, c) :: cs).lookup x = some d → env.cells.lookup x = some d := by
          intro x d e
          rw [List.lookup_cons] at e
          cases hx : x == n with
          | true =>
            rw [hx] at e
            have : x = n := by simpa using hx
            cases e; rw [this]; exact hc
          | false => rw [hx] at e; exact h x d e
        obtain ⟨cl, e1, e2, e3, e4⟩ := ih ((n, c) :: cs) (fun y hy => hp y (List.mem_cons_of_mem _ hy)) h'
        have hn : ∃ d, cl.lookup n = some d := e3 n c (by simp [List.lookup_cons])
        refine ⟨cl, ?_, e2, fun x d e => ?_, fun y hy hyk => ?_⟩
        · rw [List.forIn_cons]
          have : cellOf env n = pure c := by unfold cellOf; rw [hc]
          simp only [beq_self_eq_true, if_true, this]
          exact e1
        · by_cases hx : x = n
          · subst hx; exact hn
          · exact e3 x d (by rw [List.lookup_cons]; have : (x == n) = false := by simpa using hx
                             rw [this]; exact e)
        · rcases List.mem_cons.mp hy with rfl | hy
          · exact hn
          · exact e4 y hy hyk
      · obtain ⟨cl, e1, e2, e3, e4⟩ := ih cs (fun y hy => hp y (List.mem_cons_of_mem _ hy)) h
        refine ⟨cl, ?_, e2, e3, fun y hy hyk => ?_⟩
        · rw [List.forIn_cons]
          have : (k == NameKind.free) = false := by simpa using hk
          simp only [this]
          exact e1
        · rcases List.mem_cons.mp hy with rfl | hy
          · exact absurd hyk hk
          · exact e4 y hy hyk
  obtain ⟨cl, e1, e2, _, e4⟩ := gen scope.names [] hf (fun x c e => nomatch e)
  refine ⟨cl, ?_, e2, e4⟩
  unfold closureFor
  simp only []
  exact congrArg (· >>= fun cs => pure cs) e1 |>.trans rfl
theorem ar8 {scope:Scope}{env:Env}{x:Str}{k:NameKind}(h:(relabel scope env).names.lookup x=some k) (hk:k=.cell∨k=.free):∃ y∈scope.names,y.1=x∧(y.2=.free∨y.2=.cell):=by
 have gen:∀ names:List (Str×NameKind),(names.map fun (n,k)=>if (k == NameKind.free && env.scope.kind == .function && env.kindOf n == some .cell) then (n,NameKind.cell) else (n,k)).lookup x=some k →
  ∃ y∈names,y.1=x∧(y.2=.free∨y.2=.cell):=by
  intro names
  induction names with
  | nil=>intro h; cases h
  | cons p r ih =>
    obtain ⟨n,j⟩:=p
    intro h
    rw [List.map_cons,List.lookup_cons] at h
    have e1:(if (j == NameKind.free && env.scope.kind == .function && env.kindOf n == some .cell)=true then (n,NameKind.cell) else (n,j)).1=n:=by split <;> rfl
    dsimp only at h
    rw [e1] at h
    cases hx:x == n with
    | false =>
      rw [hx] at h
      obtain ⟨y,hy,q⟩:=ih h
      exact ⟨y,List.mem_cons_of_mem _ hy,q⟩
    | true =>
      rw [hx] at h
      have ex:x=n:=by simpa using hx
      refine ⟨(n,j),List.mem_cons_self,ex.symm,?_⟩
      by_cases hc:(j == NameKind.free && env.scope.kind == .function && env.kindOf n == some .cell)=true
      · have:=(Bool.and_eq_true _ _).mp ((Bool.and_eq_true _ _).mp hc).1
        exact .inl (by simpa using this.1)
      · rw [if_neg hc] at h
        cases h
        exact hk.symm
 exact gen scope.names h
theorem ac2:∀ (names:List (Str×NameKind)) (n:Nat) (a b:List (Str×Addr)),cellsFrom n names (a++b)=cellsFrom n names a++b
 | [],_,_,_=>rfl
 | (x,k)::r,n,a,b=>by
   unfold cellsFrom
   split
   · exact ac2 r (n+1) ((x,n)::a) b
   · exact ac2 r n a b
theorem ac3:∀ (names:List (Str×NameKind)) (n:Nat) (a:List (Str×Addr)) (x:Str) (c:Addr),(x,c)∈cellsFrom n names a→(x,c)∈a∨(x,NameKind.cell)∈names
 | [],_,_,_,_,h=>.inl h
 | (y,k)::r,n,a,x,c,h=>by
   unfold cellsFrom at h
   split at h
   · next hk =>
     rcases ac3 r (n+1) _ x c h with z | z
     · rcases List.mem_cons.mp z with e | z
       · cases e
         have:k=.cell:=by simpa using hk
         subst this
         exact .inr List.mem_cons_self
       · exact .inl z
     · exact .inr (List.mem_cons_of_mem _ z)
   · rcases ac3 r n a x c h with z | z
     · exact .inl z
     · exact .inr (List.mem_cons_of_mem _ z)
theorem ag5 {α:Type}:∀ {l:List (Str×α)}{x:Str}{c:α},(x,c)∈l→∃ d,l.lookup x=some d
 | [],_,_,h=>nomatch h
 | (y,d)::l,x,c,h=>by
   rw [List.lookup_cons]
   cases hx:x == y with
   | true=>exact ⟨d,rfl⟩
   | false =>
     rcases List.mem_cons.mp h with e | h
     · cases e
       simp at hx
     · exact ag5 h
theorem ah3 {α:Type}{x:Str}:∀ {a b:List (Str×α)},(a++b).lookup x=(a.lookup x).or (b.lookup x)
 | [],_=>rfl
 | (y,d)::a,b=>by
   rw [List.cons_append,List.lookup_cons,List.lookup_cons]
   cases hx:x == y with
   | true=>rfl
   | false=>exact ah3 (a:=a) (b:=b)
theorem ac4:∀ (names:List (Str×NameKind)) (n:Nat) (a:List (Str×Addr)) (p:Str×Addr),p∈a→p∈cellsFrom n names a
 | [],_,_,_,h=>h
 | (y,k)::r,n,a,p,h=>by
   unfold cellsFrom
   split
   · exact ac4 r (n+1) _ p (List.mem_cons_of_mem _ h)
   · exact ac4 r n a p h
theorem ac5:∀ (names:List (Str×NameKind)) (n:Nat) (a:List (Str×Addr)) (x:Str),(x,NameKind.cell)∈names→∃ c,(x,c)∈cellsFrom n names a
 | (y,k)::r,n,a,x,h=>by
   unfold cellsFrom
   rcases List.mem_cons.mp h with e | h
   · cases e
     exact ⟨n,ac4 r (n+1) _ _ List.mem_cons_self⟩
   · split
     · exact ac5 r (n+1) _ x h
     · exact ac5 r n a x h
structure CellsR (X:Cx) (scope:Scope) (Nf:List Str) (r:List (Str×Addr)) (C:Addr) (h1:Heap):Prop where
 sp:∀ x c,r.lookup x=some c→(C<c∧h1.IsCell c none)∨X.env.cells.lookup x=some c
 inj:∀ x y c,r.lookup x=some c→r.lookup y=some c→x=y
 has:∀ y∈scope.names,(y.2=.free∨y.2=.cell)→∃ c,r.lookup y.1=some c
 cab:∀ x c,scope.names.lookup x=some .cell→r.lookup x=some c→C<c
 cap:∀ x∈Nf,∀ c,r.lookup x=some c→X.env.cells.lookup x=some c
theorem bm9 {X:Cx}{scope:Scope}{Nf:List Str}{cl:List (Str×Addr)}{h:Heap}{C:Addr}(hC:h.objs.size=C+1) (hX:∀ x c,X.env.cells.lookup x=some c→c<C) (hinj:∀ x y c,X.env.cells.lookup x=some c→X.env.cells.lookup y=some c→x=y)
 (hcl:∀ x c,cl.lookup x=some c→X.env.cells.lookup x=some c) (hcf:∀ y∈scope.names,y.2=.free→∃ c,cl.lookup y.1=some c) (hnx:∀ x∈Nf,(x,NameKind.cell)∉scope.names) :
 CellsR X scope Nf (cellsFrom (C+1) scope.names cl) C (pushCells h scope.names):=by
 have e0:cellsFrom (C+1) scope.names cl=cellsFrom (C+1) scope.names []++cl:=ac2 scope.names (C+1) [] cl
 have ok:=cellsFrom_ok scope.names h (C+1) [] ⟨fun _ _ hm=>(nomatch hm),List.Pairwise.nil⟩ (by rw [hC]; exact Nat.le_refl _)
 rw [hC] at ok
 have hmem:∀ x c,(x,c)∈cellsFrom (C+1) scope.names []→(x,NameKind.cell)∈scope.names:=fun x c h=>by
  rcases ac3 _ _ _ x c h with z | z
  · exact nomatch z
  · exact z
 have ho:∀ x,(x,NameKind.cell)∈scope.names→∃ c,(cellsFrom (C+1) scope.names []).lookup x=some c:=fun x hx=>by
  obtain ⟨c,hc⟩:=ac5 scope.names (C+1) [] x hx
  exact ag5 hc
 rw [e0]
 generalize cellsFrom (C+1) scope.names []=own at ok hmem e0 ho
 have spl:∀ x c,(own++cl).lookup x=some c→(own.lookup x=some c∧C<c)∨(own.lookup x=none∧cl.lookup x=some c):=fun x c e=>by
  rw [ah3] at e
  cases hx:own.lookup x with
  | none=>rw [hx] at e; exact .inr ⟨rfl,e⟩
  | some d =>
    rw [hx] at e
    cases e
    exact .inl ⟨rfl,(ok.empty x c (PySem.mem_of_lookup hx)).2⟩
 refine ⟨fun x c e=>?_,fun x y c e1 e2=>?_,fun y hy hk=>?_,fun x c hk e=>?_,fun x hx c e=>?_⟩
 · rcases spl x c e with ⟨e1,h1⟩ | ⟨_,e1⟩
   · exact .inl ⟨h1,(ok.empty x c (PySem.mem_of_lookup e1)).1⟩
   · exact .inr (hcl x c e1)
 · rcases spl x c e1 with ⟨a1,b1⟩ | ⟨_,a1⟩ <;> rcases spl y c e2 with ⟨a2,b2⟩ | ⟨_,a2⟩
   · exact name_of_addr ok.apart (PySem.mem_of_lookup a1) (PySem.mem_of_lookup a2)
   · exact absurd (hX y c (hcl y c a2)) (Nat.not_lt.mpr (Nat.le_of_lt b1))
   · exact absurd (hX x c (hcl x c a1)) (Nat.not_lt.mpr (Nat.le_of_lt b2))
   · exact hinj x y c (hcl x c a1) (hcl y c a2)
 · rw [ah3]
   cases hx:own.lookup y.1 with
   | some d=>exact ⟨d,rfl⟩
   | none =>
     rcases hk with hk | hk
     · exact hcf y hy hk
     · obtain ⟨c,hc⟩:=ho y.1 (by rw [← hk]; exact hy)
       rw [hx] at hc
       cases hc
 · obtain ⟨d,hd⟩:=ho x (PySem.mem_of_lookup hk)
   rcases spl x c e with ⟨_,h1⟩ | ⟨z,_⟩
   · exact h1
   · rw [hd] at z
     cases z
 · rcases spl x c e with ⟨h1,_⟩ | ⟨_,e1⟩
   · exact absurd (hmem x c (PySem.mem_of_lookup h1)) (hnx x hx)
   · exact hcl x c e1
section
variable {X:Cx}{pins:List (Addr×Obj)}{σ:St} {H:Hp}{s:Shared}{N:List Str}{scope:Scope}{cl:List (Str×Addr)}{C:Addr}{ex:List Addr}{Nf:List Str}{h1:Heap}
theorem bv2 (I:Inv X pins σ H s) (hC:s.heap.objs.size≤C) (hkind:scope.kind=.function) (R:CellsR X scope Nf cl C h1)
 (hex:∀ b∈ex,FpOk X pins H b) (hexl:∀ b∈ex,b<s.heap.objs.size):(cxC X N scope cl C s H ex).Ok where
 mod:=I.ok.mod
 kind:=hkind
 glob:=I.ok.glob
 blt:=I.ok.blt
 above:=hC
 inj:=R.inj
 has:=fun x hx=>by
  have hx':∃ k,(relabel scope X.env).names.lookup x=some k∧(k=.cell∨k=.free):=by
   rcases hx with h | h
   · exact ⟨_,h,.inl rfl⟩
   · exact ⟨_,h,.inr rfl⟩
  obtain ⟨k,h,hk⟩:=hx'
  obtain ⟨y,hy,e1,e2⟩:=ar8 h hk
  rw [← e1]
  exact R.has y hy e2
 cab:=fun x c h e=>Nat.le_trans hC (Nat.le_of_lt (R.cab x c (by have h':(scope.names.lookup x == some NameKind.cell)=true:=h; simpa using h') e))
 hd:=I.ok.hd
 frames:=I.ok.frames
 stk:=.inl rfl
 exf:=fun b hb=>⟨Nat.ne_of_lt (Nat.lt_of_lt_of_le (hexl b hb) hC),fun x c e=>by
  rcases R.sp x c e with ⟨z,_⟩ | z
  · exact Nat.ne_of_gt (Nat.lt_trans (Nat.lt_of_lt_of_le (hexl b hb) hC) z)
  · exact (hex b hb).2.2.2.2.1 x c z⟩
 bs:=I.bs
 bsz:=Nat.le_trans I.ok.bsz I.sz
 noex:=fun b o e hb=>by
  rcases (hex b hb).2.2.2.1 with z | z
  · exact I.ok.noex b o e z
  · have h1:=Heap.lt_size e
    have h2:=I.ok.bsz
    exact absurd (Nat.lt_of_lt_of_le h1 (Nat.le_trans h2 z)) (Nat.lt_irrefl _)
 exfs:=fun b hb z=>by
  have h1:=I.stkSub b z
  rcases List.mem_cons.mp h1 with z | z
  · exact (hex b hb).2.1 z
  · exact (hex b hb).2.2.1 z
 funs:=I.stack
 frf:=I.stkFree
def capV (caps:List Nat) (σ:St):St:=caps.map fun j=>(σ[j]?).join
def cSt (n:Nat) (caps:List Nat) (σ:St):St:=List.replicate n none++capV caps σ
theorem bn0 {caps:List Nat}{Nt:List Str}{s1:Shared}{m:Str→Option Value}(I:Inv X pins σ H s) (ok:(cxC X (Nt++Nf) scope cl C s H ex).Ok)
 (R:CellsR X scope Nf cl C s1.heap)
 (hcap:caps.map (fun j=>X.N[j]?)=Nf.map some)
 (hvis:∀ x∈Nf,scope.names.lookup x=some .free) (hXv:∀ x∈Nf,X.env.kindOf x=some .cell∨X.env.kindOf x=some .free) (hcf:∀ x∈Nf,∃ c,cl.lookup x=some c)
 (hos:s1.os=s.os) (hgens:s1.gens=s.gens) (hk:∀ b o,s.heap.get? b=some o→s1.heap.get? b=some o) (hns:s1.heap.Ns C m) (hC:s.heap.objs.size≤C) :
 Inv (cxC X (Nt++Nf) scope cl C s H ex) [] (cSt Nt.length caps σ) H s1:=by
 have hlen:caps.length=Nf.length:=by
  have:=congrArg List.length hcap
  simpa using this
 refine ⟨ok,hos,by rw [hgens]; exact I.bare,Un.kept hk,⟨m,hns,fun i x v h1 h2 h3=>?_⟩,fun x c e=>?_,I.hok.fresh hC,fun x c e=>by
  rcases R.sp x c e with ⟨z,_⟩ | z
  · exact I.hok.fresh (Nat.le_trans hC (Nat.le_of_lt z))
  · exact I.freeC x c z,fun p hp=>absurd (show p∈([]:List (Addr×Obj)) from hp) (by simp),I.hok.kept hk,?_⟩
 · -- a captured name
   have hi:Nt.length≤i:=by
    refine Nat.le_of_not_lt fun q=>?_
    unfold cSt at h2
    rw [List.getElem?_append_left (by simpa using q),List.getElem?_replicate] at h2
    split at h2 <;> cases h2
   have h1':Nf[i - Nt.length]?=some x:=by
    have:(Nt++Nf)[i]?=some x:=h1
    rwa [List.getElem?_append_right hi] at this
   unfold cSt at h2
   rw [List.getElem?_append_right (by simpa using hi)] at h2
   have e0:i - (List.replicate Nt.length (none:Option V)).length=i - Nt.length:=by simp
   rw [e0] at h2
   generalize hj:i - Nt.length=j at h1' h2
   unfold capV at h2
   rw [List.getElem?_map] at h2
   cases hc:caps[j]? with
   | none=>rw [hc] at h2; cases h2
   | some jj =>
     rw [hc] at h2
     have h2':(σ[jj]?).join=some v:=Option.some.inj h2
     have h2'':σ[jj]?=some (some v):=by
      cases q:σ[jj]? with
      | none=>rw [q] at h2'; cases h2'
      | some z=>rw [q] at h2'; cases z with
        | none=>cases h2'
        | some z'=>cases h2'; rfl
     have hN:X.N[jj]?=some x:=by
      have q:=congrArg (fun l=>l[j]?) hcap
      simp only [List.getElem?_map,hc,h1',Option.map_some] at q
      exact Option.some.inj q
     have hx:x∈Nf:=List.mem_of_getElem? h1'
     have hXk:=hXv x hx
     obtain ⟨mX,_,hl⟩:=I.loc
     obtain ⟨u,ru,lk⟩:=hl jj x v hN h2'' (by
      rcases hXk with z | z
      · exact .inr (.inl z)
      · exact .inr (.inr z))
     refine ⟨u,ru,.inr ?_⟩
     rcases lk with ⟨z,_⟩ | ⟨_,c,hc1,hcell⟩
     · rcases hXk with y | y <;> (rw [z] at y; cases y)
     · obtain ⟨c',hc'⟩:=hcf x hx
       have e:=R.cap x hx c' hc'
       rw [hc1] at e; cases e
       refine ⟨?_,c,hc',?_⟩
       · rcases h3 with z | z | z
         · -- not a local of the block
           exfalso
           have hfree:=hvis x hx
           have z':(relabel scope X.env).names.lookup x=some .local:=z
           have gen:∀ names:List (Str×NameKind),names.lookup x=some .free→(names.map fun (n,k)=>if (k == NameKind.free && X.env.scope.kind == .function && X.env.kindOf n == some .cell) then (n,NameKind.cell) else (n,k)).lookup x≠some .local:=by
            intro names
            induction names with
            | nil=>intro h; cases h
            | cons p r ih =>
              obtain ⟨n,k⟩:=p
              intro h
              rw [List.map_cons,List.lookup_cons]
              rw [List.lookup_cons] at h
              have e1:(if (k == NameKind.free && X.env.scope.kind == .function && X.env.kindOf n == some .cell)=true then (n,NameKind.cell) else (n,k)).1=n:=by split <;> rfl
              dsimp only
              rw [e1]
              cases hx:x == n with
              | false=>rw [hx] at h; exact ih h
              | true =>
                rw [hx] at h
                cases h
                show some (if _ then (n,NameKind.cell) else (n,NameKind.free)).2≠some .local
                split <;> (intro q; cases q)
           exact gen scope.names hfree z'
         · exact .inl z
         · exact .inr z
       · obtain ⟨o,eo,d⟩:=hcell
         exact ⟨o,hk _ _ eo,d⟩
 · rcases R.sp x c e with ⟨_,z⟩ | z
   · exact ⟨none,z⟩
   · obtain ⟨v,q⟩:=I.cell x c z
     obtain ⟨o,eo,d⟩:=q
     exact ⟨v,o,hk _ _ eo,d⟩
 · show (cSt Nt.length caps σ).length=(Nt++Nf).length
   unfold cSt capV
   simp [hlen]
end
abbrev askIfs (ifs:List Expr) (env:Env):Sem Bool:=forIn ifs true fun c r=>if r=true then do let ok←isTrue c env (eval c env); pure (ForInStep.yield ok) else pure (ForInStep.yield r)
abbrev NoX:Value→Shared→Prop:=fun _ _=>False
theorem ar9 {P:Program}{w:World}{B:Around}{R:Result→Shared→Prop}{s:Shared}{y tg l:Expr}{cs:List Expr}{sc:Scope}{ps:Pos}{iv av:Value}{en:Env}(G:Nat→Shared→Prop)
 (one:∀ n s,G n s→wpAny (model P w) B (pyNext iv) (fun r s1=>match r with
  | none=>R (.ok .next) s1
  | some v=>wpAny (model P w) B (letOwnedTupleGo tg iv v) (fun _ s1=>wpAny (model P w) B (assign tg en v) (fun _ s2=>wpAny (model P w) B (askIfs cs en) (fun k s3 =>
   if k=true then wpAny (model P w) B (eval y en) (fun x s4=>wpAny (model P w) B (call (.builtin "list.append") [av,x]) (fun _ s5=>∃ m,m<n∧G m s5) NoX s4) NoX s3
   else ∃ m,m<n∧G m s3) NoX s2) NoX s1) NoX s1) NoX s) (n:Nat) (h:G n s) :
 codeAny (model P w) B (.compLoop (.ListComp y [⟨tg,l,cs,0⟩] sc ps) 0 iv av en) R s:=by
 refine codeAny_loop rfl G (fun n s hG=>?_) n h
 show wpAny _ B ((compTurn (.ListComp y [⟨tg,l,cs,0⟩] sc ps) 0 iv av en).onRaise (fun x=>do noteFrame x en; theTreesLotGoes x)) _ _ s
 refine wpAny_noted ?_
 rw [compTurn_list]
 refine wpAny_bind (wpAny_standAt (wpAny_bind (wpAny_mono (one n s hG) (fun r s1 h1=>?_) fun _ _ z=>z.elim)))
 cases r with
 | none=>exact wpAny_pure h1
 | some v =>
   refine wpAny_bind (wpAny_mono h1 (fun _ s1' h1'=>?_) fun _ _ z=>z.elim)
   refine wpAny_bind (wpAny_mono h1' (fun _ s2 h2=>wpAny_bind (wpAny_mono h2 (fun k s3 h3=>?_) fun _ _ z=>z.elim)) fun _ _ z=>z.elim)
   cases k with
   | false=>exact wpAny_pure ⟨rfl,h3⟩
   | true=>exact wpAny_bind (wpAny_bind (wpAny_mono h3 (fun x s4 h4=>wpAny_bind (wpAny_mono h4 (fun _ s5 h5=>wpAny_pure (wpAny_pure ⟨rfl,h5⟩)) fun _ _ z=>z.elim)) fun _ _ z=>z.elim))
def PTs (X:Cx) (ifs:List Expr) (t:TT):Prop :=
 ∀ (pins:List (Addr×Obj)) (s:Shared) (σ:St) (H:Hp) (Q:Bool→Hp→Prop),Inv X pins σ H s→t σ H Q →
  wpAny (model X.prog X.w) X.A (askIfs ifs X.env) (TP X pins σ Q) X.xe s
def tNoIf:TT:=fun _ H Q=>Q true H
theorem a82 {X:Cx}:PTs X [] tNoIf:=fun pins s σ H Q I h=>wpAny_tests_nil ⟨H,I,h⟩
theorem b78 {X:Cx}{c:Expr}{t:TT}(h:PT X c t):PTs X [c] t:=fun pins s σ H Q I q=>wpAny_tests_one (h pins s σ H Q I q)
section
variable {X:Cx}{pins:List (Addr×Obj)}{σ:St} {H:Hp}{s:Shared}
theorem Inv.adopt {D:Addr}{o:HO}(I:Inv X pins σ H s) (hD:H D=none) (h1:X.s₀.heap.objs.size≤D) (h2:D≠X.env.locals) (h3:∀ x c,X.env.cells.lookup x=some c→c≠D) (h4:∀ p∈X.pn++pins,p.1≠D)
 (new:ObjOk X.prog X.w (upd H D o) s.heap D o):Inv X pins σ (upd H D o) s:=by
 have old:∀ {b:Addr}{q:Obj},X.s₀.heap.get? b=some q→b≠D:=fun e=>Nat.ne_of_lt (Nat.lt_of_lt_of_le (Heap.lt_size e) h1)
 refine ⟨I.ok,I.os,I.bare,⟨I.base.keep,I.base.slot,fun b q e n hx=>by rw [a06 (old e)]; exact I.base.free b q e n hx,I.base.there,fun b xs e=>?_,fun b q u e=>?_,fun b ps e=>?_⟩,I.loc,I.cell,by rw [a06 (Ne.symm h2)]; exact I.free,fun x c e=>by rw [a06 (h3 x c e)]; exact I.freeC x c e,fun p hp=>?_,fun b u e=>?_,I.len⟩
 · have e':=I.base.tups b xs e
   rw [a06 (a30 e' hD)]; exact e'
 · have e':=I.base.frzs b q u e
   rw [a06 (a30 e' hD)]; exact e'
 · obtain ⟨more,e'⟩:=I.base.tbls b ps e
   exact ⟨more,by rw [a06 (a30 e' hD)]; exact e'⟩
 · obtain ⟨a1,a2,a3,a4,a5⟩:=I.pin p hp
   exact ⟨a1,by rw [a06 (h4 p hp)]; exact a2,a3,a4,a5⟩
 · by_cases hb:b=D
   · subst hb; rw [a27] at e; cases e; exact new
   · rw [a06 hb] at e
     exact (I.hok b u e).stay (fun c v _ q=>q) (fun c q=>by rw [a06 (a30 q hD)]; exact q) fun c xs q=>by rw [a06 (a30 q hD)]; exact q
def tLC (wi:TI) (g:TG) (tt:TT) (te:TE) (n:Nat) (caps:List Nat):TE:=fun σ H Q=>wi σ H fun J H1=>∃ W:Nat→Nat→List V→St→Hp→Prop,(∃ m,W 0 m [] (cSt n caps σ) H1)∧∀ i m acc σ' H',W i m acc σ' H' →
 (J.stop i H'∧∀ l,H' l=none→Q (.ref l) (upd H' l (.lst acc))) ∨
 (J.go i H'∧acc.length<sizeLine∧∃ N:List V→St→Hp→Prop,(∀ ac σ2 H2,N ac σ2 H2→∃ m',m'<m∧W (i+1) m' ac σ2 H2)∧∀ x H2,J.yld i H' x H2→g x σ' H2 fun σ3 H3=>tt σ3 H3 fun b H4=>if b=true then te σ3 H4 fun y H5=>N (acc++[y]) σ3 H5 else N acc σ3 H4)
structure CompOk (X:Cx) (scope:Scope) (Nt Nf:List Str) (caps:List Nat):Prop where
 kind:scope.kind=.function
 nx:∀ x∈Nf,(x,NameKind.cell)∉scope.names
 nm:∀ y∈scope.names,y.2=.local→scope.names.lookup y.1=some .local
 fr:∀ y∈scope.names,y.2=.free→X.env.kindOf y.1=some .cell∨X.env.kindOf y.1=some .free
 cap:caps.map (fun j=>X.N[j]?)=Nf.map some
 vis:∀ x∈Nf,scope.names.lookup x=some .free
theorem b34 {M:Model}{A:Around}{E:Value→Shared→Prop}{scope:Scope}{globals:Addr}{closure:List (Str×Addr)}{qual:Str}{func:Option Addr}{code:Value}{env:Env}{builtins:Addr}{Q:Env→Shared→Prop}
 (hQ:Q (newEnv scope s.heap.objs.size globals (cellsFrom (s.heap.objs.size+1) scope.names closure) qual func code (some env) builtins) { s with heap:=pushCells (s.heap.push { cls:=.type "dict",data:=.dict #[] }) scope.names }) :
 wpAny M A (newFunctionEnv scope globals closure [] qual func code (some env) builtins) Q E s:=by
 simp only [newFunctionEnv,Option.isSome_some,if_true]
 refine wpAny_bind (wpAny_alloc ?_)
 refine wpAny_bind (wpAny_layCells _ (fun name kind cells=>by cases hkc:kind == NameKind.cell <;> simp [hkc]) _ _ _ _ ?_)
 rw [show ({ s with heap:=s.heap.push { cls:=.type "dict",data:=.dict #[] } }:Shared).heap.objs.size=s.heap.objs.size+1 from Heap.size_push ..]
 rw [List.forIn_nil]
 exact wpAny_bind (wpAny_pure (wpAny_pure hQ))
theorem al2 {tg iter elt:Expr}{ifs:List Expr}{scope:Scope}{pos:Pos}{g:TG}{tt:TT}{te:TE}{Nt Nf:List Str}{caps:List Nat}{cl:List (Str×Addr)}{it:Addr}{fp:List Addr}{tn:Nat→Heap→Prop}{J:It}{Q:VK}{E:Value→Shared→Prop}
 {RR:Value→Addr→Result→Shared→Prop}
 (hc:X.calm=true) (S:CompOk X scope Nt Nf caps)
 (hg:∀ cl C s0 H0 ex,PG (cxC X (Nt++Nf) scope cl C s0 H0 ex) tg g)
 (ht:∀ cl C s0 H0 ex,PTs (cxC X (Nt++Nf) scope cl C s0 H0 ex) ifs tt)
 (he:∀ cl C s0 H0 ex,PE (cxC X (Nt++Nf) scope cl C s0 H0 ex) elt te)
 (hcl:∀ x c,cl.lookup x=some c→X.env.cells.lookup x=some c) (hcf:∀ y∈scope.names,y.2=.free→∃ c,cl.lookup y.1=some c)
 (I:Inv X pins σ H s) (T:Turn X.prog X.w X.K tg J fp it tn) (st:tn 0 s.heap) (hfp:∀ b∈fp,FpOk X pins H b)
 (hW:∃ W:Nat→Nat→List V→St→Hp→Prop,(∃ m,W 0 m [] (cSt Nt.length caps σ) H)∧∀ i m acc σ' H',W i m acc σ' H' →
  (J.stop i H'∧∀ l,H' l=none→Q (.ref l) (upd H' l (.lst acc))) ∨
  (J.go i H'∧acc.length<sizeLine∧∃ N:List V→St→Hp→Prop,(∀ ac σ2 H2,N ac σ2 H2→∃ m',m'<m∧W (i+1) m' ac σ2 H2)∧∀ x H2,J.yld i H' x H2→g x σ' H2 fun σ3 H3=>tt σ3 H3 fun b H4=>if b=true then te σ3 H4 fun y H5=>N (acc++[y]) σ3 H5 else N acc σ3 H4))
 (fin:∀ D C m s' H',Inv X pins σ H' s'→Q (.ref D) H'→s'.heap.Ns C m→H' C=none→C≠X.env.locals→X.s₀.heap.objs.size≤C→(∀ x c,X.env.cells.lookup x=some c→c≠C)→(∀ p∈X.pn++pins,p.1≠C)→RR (.ref D) C (.ok .next) s') :
 wpAny (model X.prog X.w) X.A (newList []) (fun acc s₃=>wpAny (model X.prog X.w) X.A (newFunctionEnv scope X.env.globals cl [] X.env.qual none .none (some X.env)) (fun cenv s₄ =>
  codeAny (model X.prog X.w) X.A (.compStart (.ListComp elt [⟨tg,iter,ifs,0⟩] scope pos) 0 (.ref it) acc { cenv with scope:=relabel scope X.env }) (RR acc cenv.locals) s₄) E s₃) E s:=by
 obtain ⟨W,⟨m0,w0⟩,turn⟩:=hW
 refine wpAny_newObj_type (b34 ?_)
 dsimp only
 generalize hH2:s.heap.push { cls:=.type "list",dict:=none,data:=.seq ([]:List Value).toArray }=P2
 have hCs:P2.objs.size=s.heap.objs.size+1:=by rw [← hH2,Heap.size_push]
 have hDC:s.heap.objs.size≠P2.objs.size:=by rw [hCs]; exact Nat.ne_of_lt (Nat.lt_succ_self _)
 have hCle:s.heap.objs.size≤P2.objs.size:=by rw [hCs]; exact Nat.le_succ _
 have below:∀ b,b<s.heap.objs.size→b≠P2.objs.size:=fun b hb=>by rw [hCs]; exact Nat.ne_of_lt (Nat.lt_succ_of_lt hb)
 have kp:=pushCells_keeps scope.names (P2.push { cls:=.type "dict",data:=.dict #[] })
 have hns₁:=(Heap.Ns.new P2 (.type "dict")).keeps kp
 have old:∀ b o,s.heap.get? b=some o→(pushCells (P2.push { cls:=.type "dict",data:=.dict #[] }) scope.names).get? b=some o:=fun b o e=>kp _ _ (Heap.get?_push_of_some _ (hH2 ▸ Heap.get?_push_of_some _ e))
 have hacc:(pushCells (P2.push { cls:=.type "dict",data:=.dict #[] }) scope.names).PlainList s.heap.objs.size #[]:=⟨_,kp _ _ (Heap.get?_push_of_some _ (hH2 ▸ Heap.get?_push_size _ rfl))⟩
 have R:=bm9 (X:=X) (scope:=scope) (Nf:=Nf) (cl:=cl) (h:=P2.push { cls:=.type "dict",data:=.dict #[] }) (C:=P2.objs.size) (Heap.size_push ..) (fun x c e=>by
  obtain ⟨v,q⟩:=I.cell x c e
  exact Nat.lt_of_lt_of_le q.lt hCle) I.ok.inj hcl hcf S.nx
 generalize cellsFrom (P2.objs.size+1) scope.names cl=r at R ⊢
 generalize pushCells (P2.push { cls:=.type "dict",data:=.dict #[] }) scope.names=h₁ at R hns₁ old hacc ⊢
 have fpl:∀ b∈fp,b<s.heap.objs.size:=fun b hb=>by
  obtain ⟨o,e,_⟩:=T.obj _ _ st b hb
  exact Heap.lt_size e
 have st₁:tn 0 h₁:=T.keep _ _ _ st fun b _ o e=>old b o e
 generalize hCe:P2.objs.size=C at hns₁ R hDC hCle below ⊢
 generalize hDe:s.heap.objs.size=D at hacc hDC hCle ⊢
 have hDl:X.env.locals<D:=by rw [← hDe]; exact I.lt
 have hDs:X.s₀.heap.objs.size≤D:=by rw [← hDe]; exact I.sz
 have hcD:∀ x c,X.env.cells.lookup x=some c→c<D:=fun x c e=>by
  obtain ⟨v,q⟩:=I.cell x c e
  rw [← hDe]; exact q.lt
 have hpD:∀ p∈X.pn++pins,p.1<D:=fun p hp=>by rw [← hDe]; exact Heap.lt_size (I.pin p hp).1
 let Y:Cx:=cxC X (Nt++Nf) scope r C s H fp
 have okY:Y.Ok:=bv2 I (by rw [hDe]; exact hCle) S.kind R hfp fpl
 have hfsY:∀ b,b∈Y.fs→b<D:=fun b hb=>by
  rcases List.mem_cons.mp (I.stkSub b hb) with z | z
  · rw [z]; exact hDl
  · refine Nat.lt_of_lt_of_le ?_ hDs
    have:=(I.ok.funs.mem z)
    refine Nat.lt_of_not_le fun q=>?_
    exact absurd z (fun z=>by
     have:=I.nofs (a:=b)
     by_cases hb2:s.heap.objs.size≤b
     · exact this hb2 z
     · obtain ⟨_,o,e,_⟩:=I.ok.funs.mem z
       exact absurd (Heap.lt_size e) (Nat.not_lt.mpr q))
 have loop:∀ s₃:Shared,s₃={ s with heap:=h₁ } →
  codeAny (model X.prog X.w) X.A (.compLoop (.ListComp elt [⟨tg,iter,ifs,0⟩] scope pos) 0 (.ref it) (.ref D) Y.env) (RR (.ref D) C) s₃:=by
  rintro s₃ rfl
  have I0:Inv Y [] (cSt Nt.length caps σ) H { s with heap:=h₁ } :=
   bn0 I okY R S.cap S.vis (fun x hx=>S.fr (x,.free) (PySem.mem_of_lookup (S.vis x hx)) rfl) (fun x hx=>R.has (x,.free) (PySem.mem_of_lookup (S.vis x hx)) (.inl rfl)) rfl rfl old hns₁ (by rw [hDe]; exact hCle)
  have fpY:∀ {H':Hp},(∀ b∈fp,H' b=none)→∀ b∈fp,FpOk Y [] H' b:=fun hn b hb =>
   ⟨hn b hb,Nat.ne_of_lt (Nat.lt_of_lt_of_le (fpl b hb) (by rw [hDe]; exact hCle)),okY.exfs b hb,.inl hb,fun x c e=>by
    rcases R.sp x c e with ⟨z,_⟩ | z
    · exact Nat.ne_of_gt (Nat.lt_trans (Nat.lt_of_lt_of_le (fpl b hb) (by rw [hDe]; exact hCle)) z)
    · exact (hfp b hb).2.2.2.2.1 x c z,fun p hp=>absurd (show p∈([]:List (Addr×Obj)) from hp) (by simp)⟩
  have fpD:∀ b∈fp,b≠D:=fun b hb=>Nat.ne_of_lt (by rw [← hDe]; exact fpl b hb)
  refine ar9 (fun n s'=>∃ i acc its σ' H',Inv Y [] σ' H' s'∧tn i s'.heap∧(∀ b∈fp,H' b=none)∧s'.heap.PlainList D its∧H' D=none∧Vals acc its.toList∧acc.length≤sizeLine∧W i n acc σ' H') ?_ m0
   ⟨0,[],#[],cSt Nt.length caps σ,H,I0,st₁,fun b hb=>(hfp b hb).1,hacc,by rw [← hDe]; exact I.hok.fresh (Nat.le_refl _),.nil,Nat.zero_le _,w0⟩
  rintro n s3 ⟨i,acc,its,σ3,H3,I3,st3,fr3,⟨nd,e3⟩,hD3,rv3,hl3,w3⟩
  have cD:C≠D:=Ne.symm hDC
  have pinOk:∀ {H':Hp}{s':Shared}{o:Obj},s'.heap.get? D=some o→H' D=none→(∀ v,o.data≠.cell v)→s'.heap.get? D=some o∧H' D=none∧D≠Y.env.locals∧D∉Y.fs∧∀ v,o.data≠.cell v:=fun e n d =>
   ⟨e,n,hDC,fun z=>absurd (hfsY D z) (Nat.lt_irrefl _),d⟩
  have I3':Inv Y [(D,{ cls:=.type "list",data:=.seq its nd })] σ3 H3 s3:=I3.pins_of fun p hp=>by
   obtain rfl:p=(D,({ cls:=.type "list",data:=.seq its nd }:Obj)):=List.mem_singleton.mp hp
   exact pinOk e3 hD3 (fun v z=>by cases z)
  have fpY':∀ {H':Hp},(∀ b∈fp,H' b=none)→∀ b∈fp,FpOk Y [(D,{ cls:=.type "list",data:=.seq its nd })] H' b:=fun hn b hb=>by
   obtain ⟨a1,a2,a3,a4,a5,_⟩:=fpY hn b hb
   refine ⟨a1,a2,a3,a4,a5,fun p hp=>?_⟩
   obtain rfl:p=(D,({ cls:=.type "list",data:=.seq its nd }:Obj)):=List.mem_singleton.mp hp
   exact Ne.symm (fpD b hb)
  rcases turn i n acc σ3 H3 w3 with ⟨stop,qn⟩ | ⟨go,hlt,N,hN,step⟩
  · refine thn (T.done Y rfl rfl rfl hc i _ s3 σ3 H3 _ I3' (fpY' fr3) st3 stop) fun r s4 ⟨hr,I4⟩=>?_
    subst hr
    have e4:=(I4.pin (D,{ cls:=.type "list",data:=.seq its nd }) (List.mem_append_right _ List.mem_cons_self)).1
    have IX:Inv X pins σ H3 s4:=I.call' (ch:=fp) I4.os I4.base I4.hok I4.bare fun b hb=>by
     obtain ⟨_,a2,_,a4,a5,a6⟩:=hfp b hb
     exact ⟨a4,a2,a5,a6⟩
    have IA:=IX.adopt (o:=.lst acc) hD3 hDs (Nat.ne_of_gt hDl) (fun x c e=>Nat.ne_of_lt (hcD x c e)) (fun p hp=>Nat.ne_of_lt (hpD p hp)) ⟨hl3,its.toList,nd,rv3,e4⟩
    obtain ⟨m,nsC,_⟩:=I4.loc
    refine fin D C m s4 _ IA (qn D hD3) nsC (by rw [a06 cD]; exact I4.free) ?_ ?_ ?_ ?_
    · exact Nat.ne_of_gt (Nat.lt_of_lt_of_le hDl hCle)
    · exact Nat.le_trans hDs hCle
    · exact fun x c e=>Nat.ne_of_lt (Nat.lt_of_lt_of_le (hcD x c e) hCle)
    · exact fun p hp=>Nat.ne_of_lt (Nat.lt_of_lt_of_le (hpD p hp) hCle)
  · refine thn (T.item Y rfl rfl rfl hc i _ s3 σ3 H3 _ I3' (fpY' fr3) st3 go) fun r s4 ⟨u,hr,h4⟩=>?_
    subst hr
    refine thn h4 fun _ s5 ⟨x,H5,I5,r5,y5,st5,fr5⟩=>?_
    have I5':=I5.pinned (fpY' fr5) (T.obj _ _ st5)
    refine thn (hg r C s H fp _ s5 σ3 H5 x u _ I5' r5 (step x H5 y5)) fun _ s6 ⟨σ6,H6,I6,q6⟩=>?_
    refine thn (ht r C s H fp _ s6 σ6 H6 _ I6 q6) fun b s7 ⟨H7,I7,q7⟩=>?_
    have back:∀ {σ':St} {H':Hp}{s':Shared},Inv Y ([(D,{ cls:=.type "list",data:=.seq its nd })]++pinsAt fp s5.heap) σ' H' s' →
     s'.heap.get? D=some { cls:=.type "list",data:=.seq its nd }∧H' D=none∧tn (i+1) s'.heap∧∀ b∈fp,H' b=none:=fun {σ' H' s'} J7=>by
     have hd:=J7.pin (D,{ cls:=.type "list",data:=.seq its nd }) (List.mem_append_right _ (List.mem_append_left _ List.mem_cons_self))
     refine ⟨hd.1,hd.2.1,T.keep _ _ _ st5 fun b hb o e=>(J7.pin (b,o) (List.mem_append_right _ (List.mem_append_right _ (ad7 hb e)))).1,fun b hb=>?_⟩
     obtain ⟨o,e,d⟩:=T.obj _ _ st5 b hb
     exact (J7.pin (b,o) (List.mem_append_right _ (List.mem_append_right _ (ad7 hb e)))).2.1
    cases b with
    | false =>
      rw [if_neg Bool.false_ne_true]
      rw [if_neg Bool.false_ne_true] at q7
      obtain ⟨m',hm,w7⟩:=hN _ _ _ q7
      obtain ⟨b1,b2,b3,b4⟩:=back I7
      exact ⟨m',hm,i+1,acc,its,σ6,H7,I7.pins_of (fun p hp=>nomatch hp),b3,b4,⟨nd,b1⟩,b2,rv3,hl3,w7⟩
    | true =>
      rw [if_pos rfl]
      rw [if_pos rfl] at q7
      refine thn (he r C s H fp _ s7 σ6 H7 _ I7 q7) fun u8 s8 ⟨y,H8,I8,r8,n8⟩=>?_
      obtain ⟨m',hm,w8⟩:=hN _ _ _ n8
      obtain ⟨b1,b2,b3,b4⟩:=back I8
      have hsz:its.size≤sizeLine:=by
       have h1:=rv3.length
       have h2:its.toList.length=its.size:=by simp
       omega
      refine wpAny_list_append_plain (hsz:=hsz) ⟨nd,b1⟩ fun h' pl' sb'=>?_
      have I8':Inv Y [] σ6 H8 s8:=I8.pins_of (fun p hp=>nomatch hp)
      refine ⟨m',hm,i+1,acc++[y],its.push u8,σ6,H8,I8'.turned (t':=s8.toks) (fun b o hb e=>(sb'.2 b hb).trans e) b2 hDC (.inr (by show s.heap.objs.size≤D; rw [hDe]; exact Nat.le_refl _)) (fun x c e=>by
       rcases R.sp x c e with ⟨z,_⟩ | z
       · exact Nat.ne_of_gt (Nat.lt_of_le_of_lt hCle z)
       · exact Nat.ne_of_lt (hcD x c z)) (fun p hp=>absurd (show p∈([]:List (Addr×Obj)) from hp) (by simp)),?_,b4,pl',b2,?_,?_,w8⟩
      · exact T.keep _ _ _ b3 fun b hb o e=>(sb'.2 b (fpD b hb)).trans e
      · rw [Array.toList_push]
        exact rv3.append (.cons r8 .nil)
      · rw [List.length_append,List.length_singleton]
        omega
 exact codeAny_compStart_list (loop _ rfl) (T.self _ _ _ _ _ st₁ (loop _ rfl))
theorem ae4 {tg iter elt:Expr}{ifs:List Expr}{scope:Scope}{pos:Pos}{wi:TI}{g:TG}{tt:TT}{te:TE}{Nt Nf:List Str}{caps:List Nat}(hc:X.calm=true) (S:CompOk X scope Nt Nf caps) (hi:PI X tg iter wi)
 (hg:∀ cl C s0 H0 ex,PG (cxC X (Nt++Nf) scope cl C s0 H0 ex) tg g)
 (ht:∀ cl C s0 H0 ex,PTs (cxC X (Nt++Nf) scope cl C s0 H0 ex) ifs tt)
 (he:∀ cl C s0 H0 ex,PE (cxC X (Nt++Nf) scope cl C s0 H0 ex) elt te)
 (hs:∀ x,foldedSetIterable iter X.env x=pure x:=by intro _; rfl):PE X (.ListComp elt [⟨tg,iter,ifs,0⟩] scope pos) (tLC wi g tt te Nt.length caps):=by
 intro pins s σ H Q I h
 obtain ⟨cl,hclos,hcl,hcf⟩:=al1 I.ok.has S.fr
 rw [eval_ListComp]
 refine wpAny_comprehension_free (use:=none) rfl hs hclos S.kind S.nm (thn (hi pins s σ H _ I h) fun v s1 h1=>thn h1 fun itv s2 h2=>?_)
 obtain ⟨it,fp,tn,J,H2,e,I2,T,st2,f2,hW⟩:=h2
 subst e
 refine al2 (RR:=fun acc C=>compPost (model X.prog X.w) X.A X.xe none (EP X pins σ Q) acc C) (Q:=Q) hc S hg ht he hcl hcf I2 T st2 f2 hW ?_
 intro D C m s' H' I' q nsC hCn hCl hCs hCc hCp
 exact ⟨m,nsC,fun h' sb=>⟨.ref D,H',I'.turned (t':=s'.toks) (fun b o hb e=>(sb.2 b hb).trans e) hCn hCl (.inr hCs) hCc hCp,rfl,q⟩⟩
theorem b79 {tg iter elt:Expr}{ifs:List Expr}{scope:Scope}{pos spos py:Pos}{y:Str}{i:Nat}{wi:TI}{g:TG}{tt:TT}{te:TE}{Nt Nf:List Str}{caps:List Nat}(hc:X.calm=true) (S:CompOk X scope Nt Nf caps) (hi:PI X tg iter wi)
 (hg:∀ cl C s0 H0 ex,PG (cxC X (Nt++Nf) scope cl C s0 H0 ex) tg g)
 (ht:∀ cl C s0 H0 ex,PTs (cxC X (Nt++Nf) scope cl C s0 H0 ex) ifs tt)
 (he:∀ cl C s0 H0 ex,PE (cxC X (Nt++Nf) scope cl C s0 H0 ex) elt te)
 (hN:X.N.Nodup) (hy:X.N[i]?=some y) (hx:Loc X.env.scope y)
 (hsw:swapsWith (.ListComp elt [⟨tg,iter,ifs,0⟩] scope pos) (some (.Name y py)) spos.line X.env=pure true)
 (hf:X.fn y=true∨X.env.scope.names.lookup y=some .local:=by first | exact .inl rfl | exact .inr rfl | assumption)
 (hs:∀ x,foldedSetIterable iter X.env x=pure x:=by intro _; rfl):PS X (.Assign [.Name y py] (.ListComp elt [⟨tg,iter,ifs,0⟩] scope pos) spos) (tAsg (tLC wi g tt te Nt.length caps) (gName i)):=by
 intro pins s σ H D I h
 obtain ⟨cl,hclos,hcl,hcf⟩:=al1 I.ok.has S.fr
 rw [exec_Assign_Name_used _ _ _ _ hsw]
 refine wpAny_bind (wpAny_standAt (wpAny_bind ?_))
 show wpAny _ X.A (do let _←comprehension (.ListComp elt [⟨tg,iter,ifs,0⟩] scope pos) scope X.env _ (newList []) false (eval iter X.env) (some (assign (.Name y py) X.env))) _ _ s
 refine wpAny_bind (wpAny_mono (wpAny_comprehension_free (use:=some (assign (.Name y py) X.env)) (Q:=fun _ s'=>SP X pins D .next s') rfl hs hclos S.kind S.nm
  (thn (hi pins s σ H _ I h) fun v s1 h1=>thn h1 fun itv s2 h2=>?_)) (fun _ s' hq=>wpAny_pure (wpAny_pure hq)) fun _ _ e=>e)
 obtain ⟨it,fp,tn,J,H2,e,I2,T,st2,f2,hW⟩:=h2
 subst e
 refine al2 (RR:=fun acc C=>compPost (model X.prog X.w) X.A X.xe (some (assign (.Name y py) X.env)) (fun _ s'=>SP X pins D .next s') acc C) (Q:=fun x H1=>gName i x σ H1 D.nx) hc S hg ht he hcl hcf I2 T st2 f2 hW ?_
 intro l C m s' H' I' q nsC hCn hCl hCs hCc hCp
 show wpAny _ X.A (assign (.Name y py) X.env (.ref l)) _ _ _
 refine wpAny_assign_Name (aq6 (v:=.ref l) I' hN hy hx rfl (fun s'' I'' ⟨a,sb,ha⟩=>?_) hf)
 have haC:C≠a:=by
  rcases ha with z | z
  · rw [z]; exact hCl
  · exact fun e=>hCc y a z e.symm
 refine ⟨m,nsC.sameBut sb haC,fun h' sb'=>⟨_,H',I''.turned (t':=s''.toks) (fun b o hb e=>(sb'.2 b hb).trans e) hCn hCl (.inr hCs) hCc hCp,q⟩⟩
end
section
variable {X:Cx}{tg:Expr}
end
section
variable {X:Cx}
def CBig (i j:Int):Prop:=(i.natAbs<2 ^ 4096∧j.natAbs<2 ^ 4096)∨CMul i j
theorem b80 {i:Int}{n:Nat}(h:i.natAbs<2 ^ n):Builtin.Int.intBits i≤n:=by
 unfold Builtin.Int.intBits
 split
 · exact Nat.zero_le _
 · rename_i h0
   have h1:i.natAbs≠0:=by simpa using h0
   have:=(Nat.log2_lt h1).mpr h
   omega
theorem CBig.ok {i j:Int}(h:CBig i j):IntMulOk i j:=by
 rcases h with ⟨h1,h2⟩ | h
 · exact IntMulOk.of_bits (Nat.le_trans (b80 h1) (by decide)) (Nat.le_trans (b80 h2) (by decide))
 · exact h.ok
theorem bv3:OpR X (binaryOp .Mult) (rI CBig fun i j=>.int (i*j)):=opI fun _ _ _ _ _ _ _ hc q=>mul_int q hc.ok
theorem bf2:CallR X (.builtin "isinstance") (fun xs H Q=>∃ x n t b,xs=[x,.ty n]∧TyOf X.K H x t∧PySem.W.kitOne X.K t (.type n)=some b∧Q (.bl b) H):=by
 intro pins s σ H xs us Q I r h
 obtain ⟨x,n,t,b,rfl,ty,e,q⟩:=h
 obtain ⟨u,w',rfl,rx,ry⟩:=be1 r
 cases (show w'=Value.type n from ry)
 exact b65 I rx ty e fun tk=>⟨.bl b,H,I.tok _,rfl,q⟩
def blsV (bs:List Bool):List V:=bs.map V.bl
theorem b81:∀ {bs:List Bool}{us:List Value},Vals (blsV bs) us→∀ (i:Nat) (v:Value),us[i]?=some v→∃ b,bs[i]?=some b∧v=.bool b
 | [],_,r,i,v,e=>by cases r; simp at e
 | b::bs,_,r,i,v,e=>by
   cases r with
   | cons r1 r2 =>
     cases i with
     | zero =>
       simp at e; subst e
       exact ⟨b,rfl,r1⟩
     | succ i=>exact b81 (bs:=bs) r2 i v (by simpa using e)
end
section
variable {X:Cx}{e:Expr}{te:TE}{pos:Pos}
end
abbrev New (H:Hp) (o:HO) (Q:VK):Prop:=∀ p H',H p=none→Same H H'→H' p=some o→Q (.ref p) H'
theorem Same.new {H:Hp}{p:Addr}{o:HO}(h:H p=none):Same H (upd H p o):=fun b u e=>by rw [a06 (a30 e h)]; exact e
theorem New.to {H:Hp}{Q:VK}{o:HO}(h:New H o Q):∀ p,H p=none→Q (.ref p) (upd H p o):=fun p hp=>h p _ hp (Same.new hp) a27
section
variable {X:Cx}{es:List Expr}{t:TA}{pos:Pos}
def tLstN (t:TA):TE:=fun σ H Q=>t σ H fun xs H1=>xs.length≤sizeLine∧New H1 (.lst xs) Q
def tTupN (t:TA):TE:=fun σ H Q=>t σ H fun xs H1=>xs.length≤sizeLine∧New H1 (.tup xs) Q
theorem a33 {x1}(h:PA X es t):PE X (.Tuple es x1 pos) (tTupN t):=by
 intro pins s σ H Q I hq
 refine wpAny_Tuple_spliced (thn (h pos pins s σ H _ I hq) fun us s1 ⟨xs,H1,I1,r,z,q⟩=>⟨by rw [← r.length]; exact z,?_⟩)
 refine ⟨.ref s1.heap.objs.size,upd H1 s1.heap.objs.size (.tup xs),I1.laid (t':=s1.toks) (fun b u e=>Heap.get?_push_of_some _ e) (Nat.le_refl _) ?_,rfl,New.to q _ (I1.hok.fresh (Nat.le_refl _))⟩
 exact ⟨z,us,r,⟨_,Heap.get?_push_size _ rfl,rfl,_,rfl⟩⟩
theorem a52 (h:PA X es t):PE X (.List es pos) (tLstN t):=by
 intro pins s σ H Q I hq
 refine wpAny_List_spliced (thn (h pos pins s σ H _ I hq) fun us s1 ⟨xs,H1,I1,r,z,q⟩=>⟨by rw [← r.length]; exact z,?_⟩)
 refine ⟨.ref s1.heap.objs.size,upd H1 s1.heap.objs.size (.lst xs),I1.laid (t':=s1.toks) (fun b u e=>Heap.get?_push_of_some _ e) (Nat.le_refl _) ?_,rfl,New.to q _ (I1.hok.fresh (Nat.le_refl _))⟩
 exact ⟨z,us,0,r,Heap.get?_push_size _ rfl⟩
theorem b35:CallR X (.type "list") (fun xs H Q=>∃ p ys,xs=[.ref p]∧(SqL X.K H p ys∨SqT X.K H p ys)∧New H (.lst ys) Q):=by
 intro pins s σ H xs us Q I r h
 obtain ⟨p,ys,e,h1,h2⟩:=h
 exact ar5 pins s σ H xs us Q I r ⟨p,ys,e,h1,New.to h2⟩
theorem au2:CallR X (.type "tuple") (fun xs H Q=>∃ p ys,xs=[.ref p]∧SqL X.K H p ys∧New H (.tup ys) Q):=by
 intro pins s σ H xs us Q I r h
 obtain ⟨p,ys,e,h1,h2⟩:=h
 exact am5 pins s σ H xs us Q I r ⟨p,ys,e,.inl ⟨h1,New.to h2⟩⟩
end
def rIsi (K:PySem.W.Frag):List V→Hp→VK→Prop:=fun xs H Q=>∃ x n t b,xs=[x,.ty n]∧TyOf K H x t∧PySem.W.kitOne K t (.type n)=some b∧Q (.bl b) H
def tTru (K:PySem.W.Frag) (ta:TE):TT:=fun σ H Q=>ta σ H fun x H'=>∃ k,TruV K x H' k∧Q k H'
def rLen (K:PySem.W.Frag):List V→Hp→VK→Prop:=fun xs H Q=>∃ x n,xs=[x]∧LenV K x H n∧Q (.int n) H
def rListN (K:PySem.W.Frag):List V→Hp→VK→Prop:=fun xs H Q=>∃ p ys,xs=[.ref p]∧(SqL K H p ys∨SqT K H p ys)∧New H (.lst ys) Q
def rTupleN (K:PySem.W.Frag):List V→Hp→VK→Prop:=fun xs H Q=>∃ p ys,xs=[.ref p]∧SqL K H p ys∧New H (.tup ys) Q
section
variable {X:Cx}{a:Expr}{ta:TE}
theorem bv4:CallR X (.builtin "isinstance") (rIsi X.K):=bf2
theorem bv5 (ha:PE X a ta) (he:∀ whole,isTrue a X.env whole=(do let v←whole; standAt a.pos; holding [v] (truthy v))):PT X a (tTru X.K ta):=be0 ha he
theorem bv6:CallR X (.builtin "len") (rLen X.K):=be2
theorem bn1:CallR X (.type "list") (rListN X.K):=b35
theorem bf3:CallR X (.type "tuple") (rTupleN X.K):=au2
end
def rPlus:R2:=fun x y H Q=>match x,y with
 | .int i,.int j=>Q (.int (i+j)) H
 | .str i,.str j=>i.length+j.length≤sizeLine∧Q (.str (i++j)) H
 | .ref l,.ref b=>∃ xs zs,H l=some (.lst xs)∧H b=some (.lst zs)∧xs.length+zs.length≤sizeLine∧New H (.lst (xs++zs)) Q
 | _,_=>False
def rTimes:R2:=fun x y H Q=>match x,y with
 | .int i,.int j=>CBig i j∧Q (.int (i*j)) H
 | .str z,.int n=>MulOk z n∧Q (.str (Txt.mul z n)) H
 | _,_=>False
def rStr:List V→Hp→VK→Prop:=fun xs H Q=>match xs with
 | [.int i]=>i.natAbs.log2<1920∧Q (.str (toString i)) H
 | [.str z]=>Q (.str z) H
 | _=>False
section
variable {X:Cx}
theorem a57:OpR X (binaryOp .Add) rPlus:=by
 intro pins s σ H x y v u Q I rx ry h
 cases x with
 | int i=>cases y with
   | int j=>exact bt6 pins s σ H _ _ v u Q I rx ry ⟨i,j,rfl,rfl,h⟩
   | _=>exact (show False from h).elim
 | str i=>cases y with
   | str j=>exact b06 pins s σ H _ _ v u Q I rx ry ⟨i,j,rfl,rfl,h⟩
   | _=>exact (show False from h).elim
 | ref l=>cases y with
   | ref b =>
     obtain ⟨xs,zs,h1,h2,h3,h4⟩:=h
     exact bu5 pins s σ H _ _ v u Q I rx ry ⟨l,b,xs,zs,rfl,rfl,h1,h2,h3,New.to h4⟩
   | _=>exact (show False from h).elim
 | _=>exact (show False from h).elim
theorem am7:OpR X (binaryOp .Mult) rTimes:=by
 intro pins s σ H x y v u Q I rx ry h
 cases x with
 | int i=>cases y with
   | int j=>exact bv3 pins s σ H _ _ v u Q I rx ry ⟨i,j,rfl,rfl,h⟩
   | _=>exact (show False from h).elim
 | str z=>cases y with
   | int n =>
     obtain ⟨t,rfl⟩:=rx
     obtain ⟨t',rfl⟩:=ry
     exact SB.mul h.1 fun t2 k=>⟨.str _,H,I.tok _,⟨_,rfl⟩,h.2⟩
   | _=>exact (show False from h).elim
 | _=>exact (show False from h).elim
theorem am8 {scope sc:Scope}{Nt Nf:List Str}{caps:List Nat}(hsc:X.env.scope=sc) (kind:scope.kind=.function) (nx:∀ x∈Nf,(x,NameKind.cell)∉scope.names) (nm:∀ y∈scope.names,y.2=.local→scope.names.lookup y.1=some .local)
 (fr:∀ y∈scope.names,y.2=.free→sc.names.lookup y.1=some .cell∨sc.names.lookup y.1=some .free) (cap:caps.map (fun j=>X.N[j]?)=Nf.map some) (vis:∀ x∈Nf,scope.names.lookup x=some .free):CompOk X scope Nt Nf caps :=
 ⟨kind,nx,nm,fun y hy h=>by show X.env.scope.names.lookup y.1=_∨X.env.scope.names.lookup y.1=_; rw [hsc]; exact fr y hy h,cap,vis⟩
theorem a83 {scope sc:Scope}{Nt Nf:List Str}{caps:List Nat}(hsc:X.env.scope=sc) (kind:scope.kind=.function) (nc:∀ y∈scope.names,y.2≠.cell) (nm:∀ y∈scope.names,y.2=.local→scope.names.lookup y.1=some .local)
 (fr:∀ y∈scope.names,y.2=.free→sc.names.lookup y.1=some .cell∨sc.names.lookup y.1=some .free) (cap:caps.map (fun j=>X.N[j]?)=Nf.map some) (vis:∀ x∈Nf,scope.names.lookup x=some .free):CompOk X scope Nt Nf caps :=
 am8 hsc kind (fun x _ h=>nc (x,.cell) h rfl) nm fr cap vis
abbrev LcEnd (J:It) (te:TE) (tt:TT) (caps:List Nat) (σ:St) (H:Hp) (Q:VK):Prop:=∃ W:Nat→Nat→List V→St→Hp→Prop,(∃ m,W 0 m [] (cSt 1 caps σ) H)∧∀ i m acc σ' H',W i m acc σ' H' →
 (J.stop i H'∧∀ l,H' l=none→Q (.ref l) (upd H' l (.lst acc))) ∨
 (J.go i H'∧acc.length<sizeLine∧∃ N:List V→St→Hp→Prop,(∀ ac σ2 H2,N ac σ2 H2→∃ m',m'<m∧W (i+1) m' ac σ2 H2)∧∀ x H2,J.yld i H' x H2→gName 0 x σ' H2 fun σ3 H3=>tt σ3 H3 fun b H4=>if b=true then te σ3 H4 fun y H5=>N (acc++[y]) σ3 H5 else N acc σ3 H4)
theorem bj6 {J:It}{te:TE}{tt:TT}{caps:List Nat}{σ:St} {H:Hp}{Q:VK}(n:Nat) (hz:n≤sizeLine) (Pv:Nat→List V→Hp→Prop) (h0:Pv 0 [] H) (hl:∀ i acc H,Pv i acc H→acc.length≤i)
 (hgo:∀ i acc H,i<n→Pv i acc H→J.go i H) (hst:∀ acc H,Pv n acc H→J.stop n H)
 (hs:∀ i x acc H H2,i<n→Pv i acc H→J.yld i H x H2→tt (some x::capV caps σ) H2 fun b H4=>if b=true then te (some x::capV caps σ) H4 fun y H5=>Pv (i+1) (acc++[y]) H5 else Pv (i+1) acc H4)
 (hd:∀ acc H,Pv n acc H→New H (.lst acc) Q):LcEnd J te tt caps σ H Q:=by
 refine ⟨fun i m acc σ' H=>m=n - i∧i≤n∧(∃ v,σ'=v::capV caps σ)∧Pv i acc H,⟨n,by simp,Nat.zero_le _,⟨none,rfl⟩,h0⟩,?_⟩
 rintro i m acc σ' H' ⟨rfl,hi,⟨v,rfl⟩,p⟩
 by_cases hlt:i<n
 · refine .inr ⟨hgo i acc H' hlt p,?_,fun ac σ2 H2=>(∃ v,σ2=v::capV caps σ)∧Pv (i+1) ac H2,fun ac σ2 H2 ⟨e,p'⟩=>⟨n - (i+1),by omega,rfl,hlt,e,p'⟩,fun x H2 y=>?_⟩
   · have:=hl i acc H' p
     omega
   · have eN:∀ ac H5,((∃ u,some x::capV caps σ=u::capV caps σ)∧Pv (i+1) ac H5)=Pv (i+1) ac H5:=fun ac H5=>propext ⟨And.right,fun p=>⟨⟨_,rfl⟩,p⟩⟩
     show tt (some x::capV caps σ) H2 fun b H4=>if b=true then te (some x::capV caps σ) H4 fun y H5=>((∃ u,some x::capV caps σ=u::capV caps σ)∧Pv (i+1) (acc++[y]) H5) else ((∃ u,some x::capV caps σ=u::capV caps σ)∧Pv (i+1) acc H4)
     simp only [eN]
     exact hs i x acc H' H2 hlt p y
 · have e:i=n:=by omega
   subst e
   exact .inl ⟨hst acc H' p,New.to (hd acc H' p)⟩
theorem bn2 {K:PySem.W.Frag}{a:Addr}{xs:List V}{te:TE}{tt:TT}{caps:List Nat}{σ:St} {H:Hp}{Q:VK}(hz:xs.length≤sizeLine) (Pv:Nat→List V→Hp→Prop) (h0:Pv 0 [] H) (hl:∀ i acc H,Pv i acc H→acc.length≤i∧SqL K H a xs)
 (hs:∀ i x acc H,xs[i]?=some x→Pv i acc H→tt (some x::capV caps σ) H fun b H4=>if b=true then te (some x::capV caps σ) H4 fun y H5=>Pv (i+1) (acc++[y]) H5 else Pv (i+1) acc H4)
 (hd:∀ acc H,Pv xs.length acc H→New H (.lst acc) Q):LcEnd (Itl K a) te tt caps σ H Q:=by
 refine bj6 xs.length hz Pv h0 (fun i acc H p=>(hl i acc H p).1) (fun i acc H hi p=>⟨xs,xs[i],(hl i acc H p).2,by simp [hi]⟩) (fun acc H p=>⟨xs,(hl _ acc H p).2,Nat.le_refl _⟩) ?_ hd
 rintro i x acc H1 H2 hi p ⟨rfl,y⟩
 exact hs i x acc _ (y xs (hl i acc _ p).2) p
theorem bf4 {lo:Int}{n:Nat}{te:TE}{tt:TT}{caps:List Nat}{σ:St} {H:Hp}{Q:VK}(hz:n≤sizeLine) (Pv:Nat→List V→Hp→Prop) (h0:Pv 0 [] H) (hl:∀ i acc H,Pv i acc H→acc.length≤i)
 (hs:∀ i acc H,i<n→Pv i acc H→tt (some (.int (lo+i))::capV caps σ) H fun b H4=>if b=true then te (some (.int (lo+i))::capV caps σ) H4 fun y H5=>Pv (i+1) (acc++[y]) H5 else Pv (i+1) acc H4)
 (hd:∀ acc H,Pv n acc H→New H (.lst acc) Q):LcEnd (Itr lo n) te tt caps σ H Q:=by
 refine bj6 n hz Pv h0 hl (fun i acc H hi p=>hi) (fun acc H p=>Nat.le_refl _) ?_ hd
 rintro i x acc H1 H2 hi p ⟨rfl,rfl⟩
 exact hs i acc _ hi p
end
end L2
namespace L2
open PySem
theorem ex_some_and {α:Type}{a:α}{p:α→Prop}:(∃ v,some (some a)=some (some v)∧p v)↔p a:=⟨fun ⟨_,e,h⟩=>by cases e; exact h,fun h=>⟨a,rfl,h⟩⟩
def ForEnd (J:It) (g:TG) (tb:TS) (D:Ends) (σ:St) (H1:Hp):Prop:=∃ W:Nat→Nat→St→Hp→Prop,(∃ m,W 0 m σ H1)∧∀ i m σ H,W i m σ H →
 (J.stop i H∧D.nx σ H)∨(J.go i H∧∃ N:St→Hp→Prop,(∀ σ' H',N σ' H'→∃ m',m'<m∧W (i+1) m' σ' H')∧∀ x H',J.yld i H x H'→g x σ H' fun σ2 H2=>tb { D with nx:=N,ct:=N,bk:=D.nx } σ2 H2)
def CompEnd (J:It) (g:TG) (tt:TT) (te:TE) (n:Nat) (caps:List Nat) (σ:St) (H:Hp) (Q:VK):Prop:=∃ W:Nat→Nat→List V→St→Hp→Prop,(∃ m,W 0 m [] (cSt n caps σ) H)∧∀ i m acc σ' H',W i m acc σ' H' →
 (J.stop i H'∧∀ l,H' l=none→Q (.ref l) (upd H' l (.lst acc))) ∨
 (J.go i H'∧acc.length<sizeLine∧∃ N:List V→St→Hp→Prop,(∀ ac σ2 H2,N ac σ2 H2→∃ m',m'<m∧W (i+1) m' ac σ2 H2)∧∀ x H2,J.yld i H' x H2→g x σ' H2 fun σ3 H3=>tt σ3 H3 fun b H4=>if b=true then te σ3 H4 fun y H5=>N (acc++[y]) σ3 H5 else N acc σ3 H4)
section
variable {K:PySem.W.Frag}{a:Addr}{xs:List V}{te:TE}{tt:TT}{caps:List Nat}{σ:St} {H:Hp}{Q:VK}{z:Str}{lo:Int}{n:Nat}
theorem aa2 (hz:xs.length≤sizeLine) (Pv:Nat→List V→Hp→Prop) (h0:Pv 0 [] H) (hl:∀ i acc H,Pv i acc H→acc.length≤i∧SqL K H a xs)
 (hs:∀ i x acc H,xs[i]?=some x→Pv i acc H→tt (some x::capV caps σ) H fun b H4=>if b=true then te (some x::capV caps σ) H4 fun y H5=>Pv (i+1) (acc++[y]) H5 else Pv (i+1) acc H4)
 (hd:∀ acc H,Pv xs.length acc H→New H (.lst acc) Q):CompEnd (Itl K a) (gName 0) tt te 1 caps σ H Q:=bn2 hz Pv h0 hl hs hd
theorem am9 (hz:n≤sizeLine) (Pv:Nat→List V→Hp→Prop) (h0:Pv 0 [] H) (hl:∀ i acc H,Pv i acc H→acc.length≤i)
 (hs:∀ i acc H,i<n→Pv i acc H→tt (some (.int (lo+i))::capV caps σ) H fun b H4=>if b=true then te (some (.int (lo+i))::capV caps σ) H4 fun y H5=>Pv (i+1) (acc++[y]) H5 else Pv (i+1) acc H4)
 (hd:∀ acc H,Pv n acc H→New H (.lst acc) Q):CompEnd (Itr lo n) (gName 0) tt te 1 caps σ H Q:=bf4 hz Pv h0 hl hs hd
end
theorem cxOf_K {CX:CXT}{P:Program}{w:World}{K:PySem.W.Frag}{mg:Str→Option Value}{base:Heap}{N:List Str}{qual:Str}{scope:Scope}{f:Addr}{cd:Value}{A:Around}{outer:List Env}{s:Shared}{H:Hp}{E:XK} :
 (cxOf CX P w K mg base N qual scope f cd A outer s H E).K=K:=rfl
theorem cxC_K {X:Cx}{N:List Str}{scope:Scope}{cl:List (Str×Addr)}{C:Addr}{s0:Shared}{H0:Hp}{ex:List Addr}:(cxC X N scope cl C s0 H0 ex).K=X.K:=rfl
section
variable {X:Cx}
theorem a07 (K:PySem.W.Frag) (hK:X.K=K:=by rfl):IxR X (rIxL K):=hK ▸ bm3
theorem a09 (K:PySem.W.Frag) (hK:X.K=K:=by rfl):IxR X (rIxT K):=hK ▸ bu3
theorem bn3 (K:PySem.W.Frag) (hK:X.K=K:=by rfl):CallR X (.builtin "isinstance") (rIsi K):=hK ▸ bv4
theorem ab1 (K:PySem.W.Frag) (hK:X.K=K:=by rfl):CallR X (.builtin "len") (rLen K):=hK ▸ bv6
theorem ao0 (K:PySem.W.Frag) (hK:X.K=K:=by rfl):CallR X (.type "list") (rListN K):=hK ▸ bn1
theorem ad3 (K:PySem.W.Frag) (hK:X.K=K:=by rfl):CallR X (.type "tuple") (rTupleN K):=hK ▸ bf3
theorem aj1 (K:PySem.W.Frag) {a:Expr}{ta:TE}(ha:PE X a ta) (he:∀ whole,isTrue a X.env whole=(do let v←whole; standAt a.pos; holding [v] (truthy v))) (hK:X.K=K:=by rfl):PT X a (tTru K ta):=hK ▸ bv5 ha he
theorem a59 (K:PySem.W.Frag) {tg l:Expr}{tl:TE}(hl:PE X l tl) (hK:X.K=K:=by rfl):PI X tg l (iList K tl):=hK ▸ bl4 hl
theorem aj2 (K:PySem.W.Frag) {tg l:Expr}{tl:TE}(hl:PE X l tl) (hK:X.K=K:=by rfl):PI X tg l (iTup K tl):=hK ▸ bt3 hl
theorem ab2 (K:PySem.W.Frag) {pos:Pos}{es:List Expr}{k:Nat}{t:TGs}{n:Nat}(hc:X.calm=true) (h:PGs X es t) (hn:(assignEach es X.env).length=n:=by rfl) (hst:(assignEach es X.env).findIdx? (·.1)=none:=by rfl) (hK:X.K=K:=by rfl) :
 PG X (.Tuple es k pos) (gTup K n t):=hK ▸ bt2 hc h hn hst
theorem ao1 (K:PySem.W.Frag) {o:Expr}{to:TE}{name:Str}{apos cpos:Pos}{T id:String}{r:V→List V→Hp→VK→Prop}(pa:PlainAttrs T) (slot:Slot T name id) (hty:typeOf (.builtin id)=pure (.type "method_descriptor")) (hm:MtR X id r) (ho:PE X o to)
 (hbase:attributeBase o name X.env (eval o X.env)=eval o X.env:=by rfl) (hline:(apos.endLine == cpos.line)=true:=by rfl) (hK:X.K=K:=by rfl):PE X (.Call (.Attribute o name apos) [] [] cpos) (tBM0 K T r to):=hK ▸ bu4 pa slot hty hm ho hbase hline
theorem aa7 (K:PySem.W.Frag) {o e:Expr}{es:List Expr}{to:TE}{t:TA}{name:Str}{apos cpos:Pos}{T id:String}{r:V→List V→Hp→VK→Prop}(pa:PlainAttrs T) (slot:Slot T name id) (hty:typeOf (.builtin id)=pure (.type "method_descriptor")) (hm:MtR X id r) (ho:PE X o to) (ha:PA X (e::es) t)
 (hbase:attributeBase o name X.env (eval o X.env)=eval o X.env:=by rfl)
 (hfew:((backTo cpos (starEach (e::es) X.env)).all (fun x=>!x.1) && (backToKw cpos (keywordEach [] X.env)).all (fun x=>x.1.isSome) && decide ((e::es).length+([]:List Keyword).length+(if ([]:List Keyword).isEmpty then 0 else 1)<30))=true:=by rfl)
 (hline:(apos.endLine == cpos.line)=true:=by rfl) (hs:starEach (e::es) X.env=(false,eval e X.env)::starEach es X.env:=by rfl) (hplain:(backTo cpos (starEach es X.env)).any (·.1)=false:=by rfl) (hK:X.K=K:=by rfl) :
 PE X (.Call (.Attribute o name apos) (e::es) [] cpos) (tBM K T r to t):=hK ▸ c27 pa slot hty hm ho ha hbase hfew hline hs hplain
end
theorem ab6:bootBuiltins "len"=some (.builtin "len"):=by decide +kernel
theorem bv7:bootBuiltins "any"=some (.builtin "any"):=by decide +kernel
theorem ao2:bootBuiltins "isinstance"=some (.builtin "isinstance"):=by decide +kernel
theorem b82:bootBuiltins "sorted"=some (.builtin "sorted"):=by decide +kernel
theorem bj7:bootBuiltins "min"=some (.builtin "min"):=by decide +kernel
theorem af3:bootBuiltins "list"=some (.type "list"):=by decide +kernel
theorem ae1:bootBuiltins "tuple"=some (.type "tuple"):=by decide +kernel
theorem bn4:bootBuiltins "dict"=some (.type "dict"):=by decide +kernel
theorem bf5:bootBuiltins "range"=some (.type "range"):=by decide +kernel
end L2
local macro_rules | `(tactic| walk_at "rd") => `(tactic| simp only [L2.tCB, L2.tCons, L2.tNil, L2.tVar, L2.rStr, L2.tNoIf, L2.capV, List.map_nil, List.getElem?_cons_zero, L2.ex_some_and, if_true])
namespace L2
open PySem
theorem le_line {n:Nat}(h:n≤1000000):n≤sizeLine:=Nat.le_trans h (by decide)
theorem nox_K {X:Cx}:X.nox.K=X.K:=rfl
theorem wish_K {X:Cx}{E:Value→Shared→Prop}:(X.wish E).K=X.K:=rfl
section
variable {σ:St} {H:Hp}{Q:VK}{D:Ends}{nn bb cc:St→Hp→Prop}{rr:VK}{t u:TS}{ta tb tc te:TE}{tA tB:TT}{g:TG}{QT:Bool→Hp→Prop}{QA:List V→Hp→Prop}{QS:St→Hp→Prop}
theorem c30 (h:t ⟨u ⟨nn,rr,bb,cc⟩,rr,bb,cc⟩ σ H):tSeq t u ⟨nn,rr,bb,cc⟩ σ H:=h
theorem c31 (h:te σ H fun x H1=>g x σ H1 nn):tAsg te g ⟨nn,rr,bb,cc⟩ σ H:=h
theorem i_name {i:Nat}{v:V}(h:QS (σ.set i (some v)) H):gName i v σ H QS:=h
theorem i_var {i:Nat}{v:V}(e:σ[i]?=some (some v)) (h:Q v H):tVar i σ H Q:=⟨v,e,h⟩
theorem i_c {v:V}(h:Q v H):tC v σ H Q:=h
theorem i_op {r:R2}(h:ta σ H fun x H1=>tb σ H1 fun y H2=>r x y H2 Q):tOp r ta tb σ H Q:=h
theorem i_un {r:V→Hp→VK→Prop}(h:ta σ H fun x H1=>r x H1 Q):tUn r ta σ H Q:=h
theorem i_rU {f:Int→V}{i:Int}(h:Q (f i) H):rU f (.int i) H Q:=⟨i,rfl,h⟩
theorem i_rI {C:Int→Int→Prop}{f:Int→Int→V}{i j:Int}(c:C i j) (h:Q (f i j) H):rI C f (.int i) (.int j) H Q:=⟨i,j,rfl,rfl,c,h⟩
theorem c32 {f:Int→Int→V}{i j:Int}(h:Q (f i j) H):rI0 f (.int i) (.int j) H Q:=⟨i,j,rfl,rfl,h⟩
theorem bn5 {i j:Int}(h:Q (.int (i+j)) H):rPlus (.int i) (.int j) H Q:=h
theorem b83 {l b:Addr}{xs zs:List V}(h1:H l=some (.lst xs)) (h2:H b=some (.lst zs)) (z:xs.length+zs.length≤sizeLine) (h:New H (.lst (xs++zs)) Q):rPlus (.ref l) (.ref b) H Q:=⟨xs,zs,h1,h2,z,h⟩
theorem ai5 {i j:Int}(c:CBig i j) (h:Q (.int (i*j)) H):rTimes (.int i) (.int j) H Q:=⟨c,h⟩
theorem decI (i j:Int):decide (V.int i=V.int j)=decide (i=j):=by rw [Bool.eq_iff_iff]; simp
theorem decS (i j:Str):decide (V.str i=V.str j)=decide (i=j):=by rw [Bool.eq_iff_iff]; simp
theorem c33 {i j:Int}(h:Q (.bl (decide (i=j))) H):rEq (.int i) (.int j) H Q:=⟨rfl,by rw [decI]; exact h⟩
theorem c34 {i j:Str}(h:Q (.bl (decide (i=j))) H):rEq (.str i) (.str j) H Q:=⟨rfl,by rw [decS]; exact h⟩
theorem bv8 (h:te σ H fun x H'=>∃ k,x=.bl k∧QT k H'):tTest te σ H QT:=h
theorem i_bl {k:Bool}{p:Bool→Prop}(h:p k):∃ j,V.bl k=V.bl j∧p j:=⟨k,rfl,h⟩
theorem c35 (h:tA σ H fun b H1=>if b=true then t D σ H1 else u D σ H1):tIfS tA t u D σ H:=h
theorem c36 (h:te σ H rr):tRet te ⟨nn,rr,bb,cc⟩ σ H:=h
theorem bv9 (h:nn σ H):tNext ⟨nn,rr,bb,cc⟩ σ H:=h
theorem bw0 (h:te σ H fun _ H1=>nn σ H1):tDrop te ⟨nn,rr,bb,cc⟩ σ H:=h
theorem bw1 {tr:TA}(h:te σ H fun x H1=>tr σ H1 fun xs H2=>QA (x::xs) H2):tCons te tr σ H QA:=h
theorem c37 (h:QA [] H):tNil σ H QA:=h
theorem i_cb {r:List V→Hp→VK→Prop}{ts:TA}(h:ts σ H fun vs H1=>r vs H1 Q):tCB r ts σ H Q:=h
theorem bw2 {sp:Sp}{dvs:List V}{E:XK}{ts:TA}(h:ts σ H fun vs H1=>sp (vs++dvs) H1 Q E):tCall sp dvs E ts σ H Q:=h
theorem c38 {ts:TA}(h:ts σ H fun xs H1=>xs.length≤sizeLine∧New H1 (.lst xs) Q):tLstN ts σ H Q:=h
theorem c39 {ts:TA}(h:ts σ H fun xs H1=>xs.length≤sizeLine∧New H1 (.tup xs) Q):tTupN ts σ H Q:=h
theorem bw3 {n:Nat}{P:Prop}(h:n≤sizeLine) (p:P):n≤sizeLine∧P:=⟨h,p⟩
theorem i_rgA {j:Int}{P:Prop}(h:-(2 ^ 62)≤j) (h':j<2 ^ 62) (p:P):-(2 ^ 62)≤j∧j<2 ^ 62∧P:=⟨h,h',p⟩
theorem bw4 (h:QT true H):tNoIf σ H QT:=h
theorem c40 (h:tA σ H fun c H1=>QT (!c) H1):tNot tA σ H QT:=h
theorem c41 (h:tA σ H fun c H1=>if c=true then tB σ H1 QT else QT false H1):tAnd tA tB σ H QT:=h
theorem i_or (h:tA σ H fun c H1=>if c=true then QT true H1 else tB σ H1 QT):tOr tA tB σ H QT:=h
theorem bw5 (h:ta σ H fun x H1=>∃ c,x=.bl c∧if c=true then tb σ H1 Q else Q (.bl false) H1):tAndV ta tb σ H Q:=h
theorem c42 {wi:TI}(h:wi σ H fun J H1=>ForEnd J g t D σ H1):tFor wi g t D σ H:=h
theorem i_lc {wi:TI}{n:Nat}{caps:List Nat}(h:wi σ H fun J H1=>CompEnd J g tA te n caps σ H1 Q):tLC wi g tA te n caps σ H Q:=h
theorem bw6 {R:It→Hp→Prop}{ts:TA}(h:ts σ H fun vs H1=>∃ j:Int,vs=[.int j]∧-(2 ^ 62)≤j∧j<2 ^ 62∧R (Itr 0 j.toNat) H1):bt4 ts σ H R:=h
theorem bn6 {K:PySem.W.Frag}{R:It→Hp→Prop}(h:te σ H fun x H1=>∃ a,x=.ref a∧(∃ xs,SqL K H1 a xs)∧R (Itl K a) H1):iList K te σ H R:=h
theorem bw7 {K:PySem.W.Frag}{R:It→Hp→Prop}(h:te σ H fun x H1=>∃ a,x=.ref a∧(∃ xs,SqT K H1 a xs)∧R (Itt K a) H1):iTup K te σ H R:=h
theorem c43 {j:Int}{p:Int→Prop}(h:p j):∃ i:Int,[V.int j]=[V.int i]∧p i:=⟨j,rfl,h⟩
theorem c44 {a:Addr}{p:Addr→Prop}(h:p a):∃ b,V.ref a=V.ref b∧p b:=⟨a,rfl,h⟩
theorem i_bm {K:PySem.W.Frag}{T:String}{r:V→List V→Hp→VK→Prop}{to:TE}{ts:TA}(h:to σ H fun x H1=>tyV K T x H1∧ts σ H1 fun xs H2=>r x xs H2 Q):tBM K T r to ts σ H Q:=h
theorem c45 {K:PySem.W.Frag}{T:String}{r:V→List V→Hp→VK→Prop}{to:TE}(h:to σ H fun x H1=>tyV K T x H1∧r x [] H1 Q):tBM0 K T r to σ H Q:=h
theorem a49 {K:PySem.W.Frag}{p:Addr}{xs:List V}{i:Int}{v:V}(h1:SqL K H p xs) (h2:atI xs i=some v) (h:Q v H):rIxL K (.ref p) (.int i) H Q:=⟨p,xs,i,v,rfl,rfl,h1,h2,h⟩
theorem a32 {K:PySem.W.Frag}{p:Addr}{xs:List V}{i:Int}{v:V}(h1:SqT K H p xs) (h2:atI xs i=some v) (h:Q v H):rIxT K (.ref p) (.int i) H Q:=⟨p,xs,i,v,rfl,rfl,h1,h2,h⟩
theorem i_sl {r:V→Option Int→Option Int→Hp→VK→Prop}{tl th:TO}(h:te σ H fun x H1=>tl σ H1 fun l H2=>th σ H2 fun u H3=>r x l u H3 Q):tSl r te tl th σ H Q:=h
theorem bf6 {QO:Option Int→Hp→Prop}(h:QO none H):tNoPart σ H QO:=h
theorem bw8 {QO:Option Int→Hp→Prop}(h:te σ H fun x H1=>∃ i,x=.int i∧QO (some i) H1):tPart te σ H QO:=h
theorem c46 {i:Int}{p:Int→Prop}(h:p i):∃ j,V.int i=V.int j∧p j:=⟨i,rfl,h⟩
theorem bw9 {A B:Prop}(h:A):if true=true then A else B:=iteT h
theorem bx0 {A B:Prop}(h:B):if false=true then A else B:=iteF h
theorem bx1 {A B:Prop}(h:B):if (!true)=true then A else B:=iteF h
theorem bx2 {A B:Prop}(h:A):if (!false)=true then A else B:=iteT h
theorem a66 {c A B:Prop} [Decidable c] (hc:c) (h:A):if decide c=true then A else B:=by rw [decide_eq_true hc]; exact iteT h
theorem a34 {c A B:Prop} [Decidable c] (hc:¬ c) (h:B):if decide c=true then A else B:=by rw [decide_eq_false hc]; exact iteF h
theorem bx3 (h:QS σ H):gNil [] σ H QS:=⟨rfl,h⟩
theorem bn7 {gt:TG}{us:TGs}{v:V}{r:List V}(h:gt v σ H fun σ' H'=>us r σ' H' QS):gCons gt us (v::r) σ H QS:=⟨v,r,rfl,h⟩
theorem c47 {K:PySem.W.Frag}(h:te σ H fun x H'=>∃ k,TruV K x H' k∧QT k H'):tTru K te σ H QT:=h
theorem bx4 {K:PySem.W.Frag}{k:Bool}{p:Bool→Prop}(h:p k):∃ j,TruV K (.bl k) H j∧p j:=⟨k,rfl,h⟩
theorem ae9 {K:PySem.W.Frag}{p:Addr}{xs:List V}(h1:SqL K H p xs) (h:Q (.int xs.length) H):rLen K [V.ref p] H Q:=⟨_,_,rfl,.inl ⟨xs,h1,rfl⟩,h⟩
theorem au3 {K:PySem.W.Frag}{p:Addr}{ys:List V}(h1:SqL K H p ys) (h:New H (.lst ys) Q):rListN K [.ref p] H Q:=⟨p,ys,rfl,.inl h1,h⟩
theorem ag6 {K:PySem.W.Frag}{p:Addr}{ys:List V}(h1:SqL K H p ys) (h:New H (.tup ys) Q):rTupleN K [.ref p] H Q:=⟨p,ys,rfl,h1,h⟩
end
end L2
namespace L2
open PySem PySem.Spec PyProof.Rows
section
variable {X:Cx}
end
theorem bf7 {K:PySem.W.Frag}{a:Addr}{xs:List V}{te:TE}{tt:TT}{caps:List Nat}{σ:St} {H:Hp}{Q:VK}(hz:xs.length≤sizeLine) (Pv:Nat→List V→Hp→Prop) (h0:Pv 0 [] H) (hl:∀ i acc H,Pv i acc H→acc.length≤i∧SqL K H a xs)
 (hs:∀ i x acc H,xs[i]?=some x→Pv i acc H→∃ p u v,x=.ref p∧SqT K H p [u,v]∧tt (some u::some v::capV caps σ) H fun b H4=>if b=true then te (some u::some v::capV caps σ) H4 fun y H5=>Pv (i+1) (acc++[y]) H5 else Pv (i+1) acc H4)
 (hd:∀ acc H,Pv xs.length acc H→New H (.lst acc) Q):CompEnd (Itl K a) (gTup K 2 (gCons (gName 0) (gCons (gName 1) gNil))) tt te 2 caps σ H Q:=by
 refine ⟨fun i m acc σ' H=>m=xs.length - i∧i≤xs.length∧(∃ u v,σ'=u::v::capV caps σ)∧Pv i acc H,⟨xs.length,by simp,Nat.zero_le _,⟨none,none,rfl⟩,h0⟩,?_⟩
 rintro i m acc σ' H' ⟨rfl,hi,⟨u0,v0,rfl⟩,p⟩
 obtain ⟨hl1,hq⟩:=hl i acc H' p
 by_cases hlt:i<xs.length
 · refine .inr ⟨⟨xs,xs[i],hq,by simp [hlt]⟩,by omega,fun ac σ2 H2=>(∃ u v,σ2=u::v::capV caps σ)∧Pv (i+1) ac H2,fun ac σ2 H2 ⟨e,p'⟩=>⟨xs.length - (i+1),by omega,rfl,hlt,e,p'⟩,fun x H2 y=>?_⟩
   obtain ⟨e,y⟩:=y
   subst e
   obtain ⟨q,u,v,rfl,hT,hst⟩:=hs i x acc _ (y xs hq) p
   have eN:∀ ac H5,((∃ u1 v1,some u::some v::capV caps σ=u1::v1::capV caps σ)∧Pv (i+1) ac H5)=Pv (i+1) ac H5:=fun ac H5=>propext ⟨And.right,fun p=>⟨⟨_,_,rfl⟩,p⟩⟩
   refine ⟨q,[u,v],rfl,hT,rfl,u,[v],rfl,v,[],rfl,rfl,?_⟩
   show tt (some u::some v::capV caps σ) _ fun b H4=>if b=true then te (some u::some v::capV caps σ) H4 fun y H5=>((∃ u1 v1,some u::some v::capV caps σ=u1::v1::capV caps σ)∧Pv (i+1) (acc++[y]) H5) else ((∃ u1 v1,some u::some v::capV caps σ=u1::v1::capV caps σ)∧Pv (i+1) acc H4)
   simp only [eN]
   exact hst
 · have e:i=xs.length:=by omega
   subst e
   exact .inl ⟨⟨xs,hq,Nat.le_refl _⟩,New.to (hd acc H' p)⟩
section
variable {σ:St} {H:Hp}{Q:VK}
theorem a84 {l:Addr}{xs:List V}{y:V}(h1:H l=some (.lst xs)) (hz:xs.length<sizeLine) (h:Q .non (upd H l (.lst (xs++[y])))):rAppend (.ref l) [y] H Q:=⟨l,xs,y,rfl,rfl,h1,hz,h⟩
theorem bx5 {l:Addr}{xs:List V}{y:V}(h1:H l=some (.lst (xs++[y]))) (h:Q y (upd H l (.lst xs))):rPop (.ref l) [] H Q:=⟨l,xs++[y],y,rfl,rfl,h1,by simp,by simpa using h⟩
theorem ab3 {K:PySem.W.Frag}{l:Addr}{xs:List V}{P:Prop}(h1:SqL K H l xs) (h:P):tyV K "list" (.ref l) H∧P:=⟨.inl ⟨rfl,xs,h1⟩,h⟩
end
def Tups (H H':Hp):Prop:=∀ b xs,H b=some (.tup xs)→H' b=some (.tup xs)
theorem Same.tups {H H':Hp}(s:Same H H'):Tups H H':=fun b xs h=>s b _ h
theorem Tups.trans {H H1 H2:Hp}(a:Tups H H1) (b:Tups H1 H2):Tups H H2:=fun c xs h=>b c xs (a c xs h)
theorem Tups.upd {H:Hp}{l:Addr}{xs:List V}{o:HO}(h:H l=some (.lst xs)):Tups H (upd H l o):=fun b ys e=>by rw [a06 (ad0 e h (fun z=>nomatch z))]; exact e
end L2
namespace L2
open PySem
theorem Same.updNew {H H1:Hp}{l:Addr}{o:HO}(s:Same H H1) (h:H l=none):Same H (upd H1 l o):=fun b u e=>by rw [a06 (a30 e h)]; exact s b u e
inductive Ex where
 | num (i:Int)
 | box (n:Str)
 | two (k:Bool) (a b:Ex)
def Ex.h:Ex→Nat
 | .num _=>0
 | .box _=>0
 | .two _ a b=>max a.h b.h+1
def Ex.ok (ns:List Str):Ex→Prop
 | .num i=>0≤i∧i<10
 | .box n=>n∈ns
 | .two _ a b=>a.ok ns∧b.ok ns
def markS (k:Bool):Str:=if k then "plus" else "less"
end L2
namespace L2
open PySem PySem.Spec PyProof.Rows
inductive Cd where
 | cmp (k:Bool) (a b:Ex)
 | nt (c:Cd)
 | both (c d:Cd)
def Cd.h:Cd→Nat
 | .cmp _ _ _=>0
 | .nt c=>c.h+1
 | .both c d=>max c.h d.h+1
def Cd.ok (ns:List Str) (n:Nat):Cd→Prop
 | .cmp _ a b=>(a.ok ns∧a.h≤n)∧b.ok ns∧b.h≤n
 | .nt c=>c.ok ns n
 | .both c d=>c.ok ns n∧d.ok ns n
def markC (k:Bool):Str:=if k then "same" else "under"
def jl (c:Nat):List (List Nat)→List Nat
 | []=>[]
 | [x]=>x
 | x::y::r=>x++c::jl c (y::r)
end L2
namespace L2
open PySem
end L2
namespace L2
open PySem PySem.Spec PyProof.Rows
end L2
namespace L2
open PySem
inductive Tr where
 | non
 | int (i:Int)
 | str (s:Str)
 | tup (xs:List Tr)
 | lst (xs:List Tr)
mutual
def Tr.At (H:Hp):Tr→V→List Addr→Prop
 | .non,v,fs=>v=.non∧fs=[]
 | .int i,v,fs=>v=.int i∧fs=[]
 | .str s,v,fs=>v=.str s∧fs=[]
 | .tup xs,v,fs=>∃ a vs,v=.ref a∧H a=some (.tup vs)∧Tr.Ats H xs vs fs
 | .lst xs,v,fs=>∃ a vs gs,v=.ref a∧H a=some (.lst vs)∧Tr.Ats H xs vs gs∧fs=a::gs
def Tr.Ats (H:Hp):List Tr→List V→List Addr→Prop
 | [],vs,fs=>vs=[]∧fs=[]
 | x::xs,vs,fs=>∃ v ws f g,vs=v::ws∧fs=f++g∧Tr.At H x v f∧Tr.Ats H xs ws g
end
def Keep (fs:List Addr) (H H':Hp):Prop:=Tups H H'∧∀ a∈fs,∀ xs,H a=some (.lst xs)→H' a=some (.lst xs)
theorem Same.keep {H H':Hp}(s:Same H H') (fs:List Addr):Keep fs H H':=⟨s.tups,fun a _ xs h=>s a _ h⟩
theorem Keep.sub {fs gs:List Addr}{H H':Hp}(k:Keep fs H H') (h:∀ a∈gs,a∈fs):Keep gs H H':=⟨k.1,fun a m=>k.2 a (h a m)⟩
mutual
theorem Tr.At.mono {H H':Hp}:∀ {x:Tr}{v:V}{fs:List Addr},x.At H v fs→Keep fs H H'→x.At H' v fs
 | .non,_,_,h,_=>by simpa only [Tr.At] using h
 | .int _,_,_,h,_=>by simpa only [Tr.At] using h
 | .str _,_,_,h,_=>by simpa only [Tr.At] using h
 | .tup xs,v,fs,h,k=>by
   simp only [Tr.At] at h ⊢
   obtain ⟨a,vs,e,g,r⟩:=h
   exact ⟨a,vs,e,k.1 _ _ g,Tr.Ats.mono r k⟩
 | .lst xs,v,fs,h,k=>by
   simp only [Tr.At] at h ⊢
   obtain ⟨a,vs,gs,e,g,r,rfl⟩:=h
   exact ⟨a,vs,gs,e,k.2 _ (by simp) _ g,Tr.Ats.mono r (k.sub fun b m=>by simp [m]),rfl⟩
theorem Tr.Ats.mono {H H':Hp}:∀ {xs:List Tr}{vs:List V}{fs:List Addr},Tr.Ats H xs vs fs→Keep fs H H'→Tr.Ats H' xs vs fs
 | [],_,_,h,_=>by simpa only [Tr.Ats] using h
 | x::xs,vs,fs,h,k=>by
   simp only [Tr.Ats] at h ⊢
   obtain ⟨v,ws,f,g,e,rfl,a,b⟩:=h
   exact ⟨v,ws,f,g,e,rfl,Tr.At.mono a (k.sub fun c m=>by simp [m]),Tr.Ats.mono b (k.sub fun c m=>by simp [m])⟩
end
theorem Tr.Ats.snoc {H:Hp}:∀ {xs:List Tr}{vs:List V}{fs gs:List Addr}{x:Tr}{v:V},Tr.Ats H xs vs fs→x.At H v gs→Tr.Ats H (xs++[x]) (vs++[v]) (fs++gs)
 | [],vs,fs,gs,x,v,h,a=>by
   simp only [Tr.Ats] at h
   obtain ⟨rfl,rfl⟩:=h
   simp only [List.nil_append,Tr.Ats]
   exact ⟨v,[],gs,[],rfl,by simp,a,rfl,rfl⟩
 | y::xs,vs,fs,gs,x,v,h,a=>by
   simp only [Tr.Ats] at h
   obtain ⟨w,ws,f,g,rfl,rfl,b,c⟩:=h
   simp only [List.cons_append,Tr.Ats]
   exact ⟨w,ws++[v],f,g++gs,rfl,by simp,b,c.snoc a⟩
theorem Tr.Ats.len {H:Hp}:∀ {xs:List Tr}{vs:List V}{fs:List Addr},Tr.Ats H xs vs fs→vs.length=xs.length
 | [],vs,fs,h=>by
   simp only [Tr.Ats] at h
   obtain ⟨rfl,rfl⟩:=h
   rfl
 | y::xs,vs,fs,h=>by
   simp only [Tr.Ats] at h
   obtain ⟨w,ws,f,g,rfl,rfl,b,c⟩:=h
   simp [c.len]
theorem Tr.Ats.get {H:Hp}:∀ {xs:List Tr}{vs:List V}{fs:List Addr},Tr.Ats H xs vs fs→∀ (i:Nat) (v:V),vs[i]?=some v→∃ x f,xs[i]?=some x∧x.At H v f∧∀ a∈f,a∈fs
 | [],vs,fs,h,i,v,e=>by
   simp only [Tr.Ats] at h
   obtain ⟨rfl,rfl⟩:=h
   simp at e
 | y::xs,vs,fs,h,i,v,e=>by
   simp only [Tr.Ats] at h
   obtain ⟨w,ws,f,g,rfl,rfl,b,c⟩:=h
   cases i with
   | zero =>
     simp at e
     subst e
     exact ⟨y,f,rfl,b,fun a m=>by simp [m]⟩
   | succ i =>
     obtain ⟨x,f',h1,h2,h3⟩:=c.get i v (by simpa using e)
     exact ⟨x,f',by simpa using h1,h2,fun a m=>by simp [h3 a m]⟩
end L2
namespace L2
open PySem PySem.Spec PyProof.Rows
mutual
def Tr.h:Tr→Nat
 | .non=>0
 | .int _=>0
 | .str _=>0
 | .tup xs=>Tr.hs xs+1
 | .lst xs=>Tr.hs xs+1
def Tr.hs:List Tr→Nat
 | []=>0
 | x::xs=>max x.h (Tr.hs xs)
end
theorem bj8 (n:Nat):((List.range n).all fun _=>true)=true:=by simp
theorem a72 (A:Around):A.in1.units=A.units+1:=rfl
section
variable {X:Cx}{pins:List (Addr×Obj)}{σ:St} {H:Hp}{s:Shared}
mutual
theorem Tr.eqAt (I:Inv X pins σ H s):∀ {t:Tr}{A:Around}{v w:V}{fs gs:List Addr}{u z:Value},t.At H v fs→t.At H w gs→RelV v u→RelV w z→A.units+t.h<cLine→SeqAt.EqAt A s u z true
 | .non,A,v,w,fs,gs,u,z,h1,h2,r1,r2,hu=>by
   simp only [Tr.At] at h1 h2
   obtain ⟨rfl,-⟩:=h1
   obtain ⟨rfl,-⟩:=h2
   cases r1
   cases r2
   exact SeqAt.EqAt.same _
 | .int i,A,v,w,fs,gs,u,z,h1,h2,r1,r2,hu=>by
   simp only [Tr.At] at h1 h2
   obtain ⟨rfl,-⟩:=h1
   obtain ⟨rfl,-⟩:=h2
   obtain ⟨t1,rfl⟩:=r1
   obtain ⟨t2,rfl⟩:=r2
   have:=SeqAt.EqAt.int_int (A:=A) (s:=s) i t1 i t2
   simpa using this
 | .str i,A,v,w,fs,gs,u,z,h1,h2,r1,r2,hu=>by
   simp only [Tr.At] at h1 h2
   obtain ⟨rfl,-⟩:=h1
   obtain ⟨rfl,-⟩:=h2
   obtain ⟨t1,rfl⟩:=r1
   obtain ⟨t2,rfl⟩:=r2
   have:=SeqAt.EqAt.str_str (A:=A) (s:=s) i t1 i t2
   simpa using this
 | .tup xs,A,v,w,fs,gs,u,z,h1,h2,r1,r2,hu=>by
   simp only [Tr.At] at h1 h2
   obtain ⟨a,vs,rfl,e1,c1⟩:=h1
   obtain ⟨b,ws,rfl,e2,c2⟩:=h2
   cases r1
   cases r2
   by_cases hab:a=b
   · subst hab
     exact SeqAt.EqAt.same _
   refine SeqAt.EqAt.of_refs hab ?_
   obtain ⟨is1,q1,p1,_⟩:=I.tuple (SqT.of e1)
   obtain ⟨is2,q2,p2,_⟩:=I.tuple (SqT.of e2)
   simp only [Tr.h] at hu
   have hl:is1.length=is2.length:=by rw [← q1.length,←q2.length,c1.len,c2.len]
   have:=SeqAt.RcAt.tuples (A:=A) (s:=s) (e:=fun _=>true) p1 p2 (by omega) (fun j h1 h2=>by
    have:=Tr.eqAts I (A:=A.in1) c1 c2 q1 q2 (by rw [a72]; omega) j (by simpa using h1) (by simpa using h2)
    simpa using this)
   simpa [hl,bj8] using this
 | .lst xs,A,v,w,fs,gs,u,z,h1,h2,r1,r2,hu=>by
   simp only [Tr.At] at h1 h2
   obtain ⟨a,vs,_,rfl,e1,c1,_⟩:=h1
   obtain ⟨b,ws,_,rfl,e2,c2,_⟩:=h2
   cases r1
   cases r2
   by_cases hab:a=b
   · subst hab
     exact SeqAt.EqAt.same _
   refine SeqAt.EqAt.of_refs hab ?_
   obtain ⟨is1,q1,p1,_⟩:=I.list (SqL.of e1)
   obtain ⟨is2,q2,p2,_⟩:=I.list (SqL.of e2)
   simp only [Tr.h] at hu
   have hl:is1.length=is2.length:=by rw [← q1.length,←q2.length,c1.len,c2.len]
   have:=SeqAt.RcAt.lists (A:=A) (s:=s) (e:=fun _=>true) p1.isList p2.isList (by simpa using hl) (by omega) (fun j h1 h2=>by
    have:=Tr.eqAts I (A:=A.in1) c1 c2 q1 q2 (by rw [a72]; omega) j (by simpa using h1) (by simpa using h2)
    simpa using this)
   simpa [bj8] using this
theorem Tr.eqAts (I:Inv X pins σ H s):∀ {ts:List Tr}{A:Around}{vs ws:List V}{fs gs:List Addr}{us zs:List Value},Tr.Ats H ts vs fs→Tr.Ats H ts ws gs→Vals vs us→Vals ws zs→A.units+Tr.hs ts<cLine →
 ∀ (j:Nat) (h1:j<us.length) (h2:j<zs.length),SeqAt.EqAt A s us[j] zs[j] true
 | [],A,vs,ws,fs,gs,us,zs,c1,c2,q1,q2,hu,j,h1,h2=>by
   simp only [Tr.Ats] at c1
   obtain ⟨rfl,-⟩:=c1
   cases q1
   exact absurd h1 (by simp)
 | t::ts,A,vs,ws,fs,gs,us,zs,c1,c2,q1,q2,hu,j,h1,h2=>by
   simp only [Tr.Ats] at c1 c2
   obtain ⟨v,vs,f,g,rfl,rfl,a1,b1⟩:=c1
   obtain ⟨w,ws,f',g',rfl,rfl,a2,b2⟩:=c2
   cases q1 with
   | cons r1 q1 =>
   cases q2 with
   | cons r2 q2 =>
   simp only [Tr.hs] at hu
   cases j with
   | zero=>exact Tr.eqAt I a1 a2 r1 r2 (by omega)
   | succ j=>exact Tr.eqAts I b1 b2 q1 q2 (by omega) j (by simpa using h1) (by simpa using h2)
end
def rEqT:R2:=fun x y H Q=>∃ t fs gs,(Tr.tup t).At H x fs∧(Tr.tup t).At H y gs∧Tr.hs t≤60∧Q (.bl true) H
theorem b84 (hu:X.A.units+64<cLine):OpR X (compareOp .Eq) rEqT:=by
 intro pins s σ H x y v u Q I rx ry h
 obtain ⟨t,fs,gs,h1,h2,hh,q⟩:=h
 simp only [Tr.At] at h1 h2
 obtain ⟨a,vs,rfl,e1,c1⟩:=h1
 obtain ⟨b,ws,rfl,e2,c2⟩:=h2
 cases rx
 cases ry
 obtain ⟨is1,q1,p1,_⟩:=I.tuple (SqT.of e1)
 obtain ⟨is2,q2,p2,_⟩:=I.tuple (SqT.of e2)
 have hl:is1.length=is2.length:=by rw [← q1.length,←q2.length,c1.len,c2.len]
 have:=SeqAt.RcAt.tuples (A:=X.A) (s:=s) (e:=fun _=>true) p1 p2 (by omega) (fun j h1 h2=>by
  have:=Tr.eqAts I (A:=X.A.in1) c1 c2 q1 q2 (by rw [a72]; omega) j (by simpa using h1) (by simpa using h2)
  simpa using this)
 refine this X.prog X.w X.xe (EP X pins σ Q) ⟨.bl true,H,I,?_,q⟩
 rw [show ((List.range (min is1.toArray.size is2.toArray.size)).all (fun _=>true) && is1.toArray.size == is2.toArray.size)=true by simp [hl]]
 rfl
theorem bx6 {H:Hp}{Q:VK}{x y:V}{t:List Tr}{fs gs:List Addr}(h1:(Tr.tup t).At H x fs) (h2:(Tr.tup t).At H y gs) (hh:Tr.hs t≤60) (h:Q (.bl true) H):rEqT x y H Q:=⟨t,fs,gs,h1,h2,hh,h⟩
end
section
variable {prog:Program}{w:World}{A:Around}{E:Value→Shared→Prop}
end
section
variable {X:Cx}{pos:Pos}
end
inductive Pt where
 | s (z:Str)
 | i (n:Int)
theorem ax9 {H:Hp}{Q:VK}{l b:Addr}{xs zs:List V}(h1:H l=some (.lst xs)) (h2:H b=some (.lst zs)) (hz:xs.length+zs.length≤sizeLine) (h:Q .non (upd H l (.lst (xs++zs)))):rExtend (.ref l) [.ref b] H Q:=⟨l,b,xs,zs,rfl,rfl,h1,h2,hz,h⟩
end L2
namespace L2
open PySem
def Pt.tr:Pt→Tr
 | .s z=>.str z
 | .i n=>.int n
def Ex.tr:Ex→Tr
 | .num i=>.tup [.str "number",.int i]
 | .box n=>.tup [.str "box",.str n]
 | .two k a b=>.tup [.str (markS k),a.tr,b.tr]
def Cd.tr:Cd→Tr
 | .cmp k a b=>.tup [.str (markC k),a.tr,b.tr]
 | .nt c=>.tup [.str "not",c.tr]
 | .both c d=>.tup [.str "both",c.tr,d.tr]
section
variable {H:Hp}{v:V}{fs:List Addr}
end
def boxT (x:Str×Int):Tr:=.tup [.str x.1,.int x.2]
section
variable {H:Hp}{v:V}{fs:List Addr}
end
end L2
namespace L2
open PySem PySem.Spec PyProof.Rows
section
variable {X:Cx}
end
theorem ad4 {K:PySem.W.Frag}{a:Addr}{xs:List V}{te:TE}{tt:TT}{caps:List Nat}{σ:St} {H:Hp}{Q:VK}(hz:xs.length≤sizeLine) (Pv:Nat→List V→Hp→Prop) (h0:Pv 0 [] H) (hl:∀ i acc H,Pv i acc H→acc.length≤i∧SqT K H a xs)
 (hs:∀ i x acc H,xs[i]?=some x→Pv i acc H→∃ p u v,x=.ref p∧SqT K H p [u,v]∧tt (some u::some v::capV caps σ) H fun b H4=>if b=true then te (some u::some v::capV caps σ) H4 fun y H5=>Pv (i+1) (acc++[y]) H5 else Pv (i+1) acc H4)
 (hd:∀ acc H,Pv xs.length acc H→New H (.lst acc) Q):CompEnd (Itt K a) (gTup K 2 (gCons (gName 0) (gCons (gName 1) gNil))) tt te 2 caps σ H Q:=by
 refine ⟨fun i m acc σ' H=>m=xs.length - i∧i≤xs.length∧(∃ u v,σ'=u::v::capV caps σ)∧Pv i acc H,⟨xs.length,by simp,Nat.zero_le _,⟨none,none,rfl⟩,h0⟩,?_⟩
 rintro i m acc σ' H' ⟨rfl,hi,⟨u0,v0,rfl⟩,p⟩
 obtain ⟨hl1,hq⟩:=hl i acc H' p
 by_cases hlt:i<xs.length
 · refine .inr ⟨⟨xs,xs[i],hq,by simp [hlt]⟩,by omega,fun ac σ2 H2=>(∃ u v,σ2=u::v::capV caps σ)∧Pv (i+1) ac H2,fun ac σ2 H2 ⟨e,p'⟩=>⟨xs.length - (i+1),by omega,rfl,hlt,e,p'⟩,fun x H2 y=>?_⟩
   obtain ⟨e,y⟩:=y
   subst e
   obtain ⟨q,u,v,rfl,hT,hst⟩:=hs i x acc _ (y xs hq) p
   have eN:∀ ac H5,((∃ u1 v1,some u::some v::capV caps σ=u1::v1::capV caps σ)∧Pv (i+1) ac H5)=Pv (i+1) ac H5:=fun ac H5=>propext ⟨And.right,fun p=>⟨⟨_,_,rfl⟩,p⟩⟩
   refine ⟨q,[u,v],rfl,hT,rfl,u,[v],rfl,v,[],rfl,rfl,?_⟩
   show tt (some u::some v::capV caps σ) _ fun b H4=>if b=true then te (some u::some v::capV caps σ) H4 fun y H5=>((∃ u1 v1,some u::some v::capV caps σ=u1::v1::capV caps σ)∧Pv (i+1) (acc++[y]) H5) else ((∃ u1 v1,some u::some v::capV caps σ=u1::v1::capV caps σ)∧Pv (i+1) acc H4)
   simp only [eN]
   exact hst
 · have e:i=xs.length:=by omega
   subst e
   exact .inl ⟨⟨xs,hq,Nat.le_refl _⟩,New.to (hd acc H' p)⟩
end L2
namespace L2
def keptP (ws:List (Option Nat)) (n:Nat):List Nat:=(List.range n).filter fun i=>decide (ws[i]?=some none)
def kept (ws:List (Option Nat)):List Nat:=keptP ws ws.length
end L2
namespace L2
open PySem
section
variable {prog:Program}{w:World}{K:Type} [DecidableEq K] {knd:KeyKind prog w K}{A:Around}{E:Value→Shared→Prop}{s:Shared}
theorem ag7:plainId "dict.update.loop"=true:=by decide +kernel
theorem as0:entryFor table "dict.update.loop"=some Builtin.«dict.update.loop»:=entryFor_of_fast (by kernel_rfl)
theorem b85:typeLookup (.type "list") "keys"=pure none:=am_miss_of_fast (by decide +kernel)
theorem getAttr?_miss_list {a:Addr}{o:Obj}{xs:Array Value}{k:Nat}{name:Str}{Q:Option Value→Shared→Prop}
 (hx:s.heap.get? a=some o) (hc:o.cls=.type "list") (hdat:o.data=.seq xs k) (hd:o.dict=none) (hmiss:typeLookup (.type "list") name=pure none) (hname:(["__module__","__name__","__qualname__","__doc__","__annotations__"]:List Str).contains name=false) (hA:A.handled=none)
 (h:∀ h' tk,(∀ b o,s.heap.get? b=some o→h'.get? b=some o)→Q none { s with heap:=h',toks:=tk }) (hsz:name.length+100≤sizeLine:=by size_fits) :
 wpAny (model prog w) A (getAttr? (.ref a) name) Q E s:=by
 obtain ⟨c,dct,dat,sl⟩:=o
 simp only at hc hdat hd
 subst hc hdat hd
 obtain ⟨hp,g,d,tk,os⟩:=s
 have hT:∀ tk',(⟨hp,g,d,tk',os⟩:Shared).TypeIs (.ref a) "list":=fun _=>⟨_,hx,rfl⟩
 have f1:=sub_AttributeError
 have f3:=F.slot_list_getattribute.lookup
 have f4:=F.slot_list_getattribute.bind (.ref a)
 have f5:=am_list_getattr_none
 unfold getAttr? getAttrBy? getAttrBy
 repeat (any_goals (first | assumption | exact hT _ | ((with_reducible show wpAny _ _ (call (Value.builtin "list.__getattribute__") _ _) _ _ _); refine call_meets F.slot_list_getattribute (hT _) am_entry_list_getattribute (F.args_list_getattribute_2 _ _) (meets_getattribute_miss_list a xs k sl name _ hmiss hname hsz) ⟨hx,hA,fun h' tk' e hx'=>?_⟩) | wp_step))
 obtain ⟨t',u',he⟩:=hx'.there
 show wpAny _ _ (getattributeRaised _ _ _ _ _ _ _) _ _ _
 unfold getattributeRaised
 repeat (any_goals (first | assumption | wp_step))
 exact h _ _ hx'.keeps
end
section
variable {prog:Program}{w:World}{K:Type} [DecidableEq K] {knd:KeyKind prog w K}{A:Around}{E:Value→Shared→Prop}{s:Shared}
def PairsAt (knd:KeyKind prog w K) (h:Heap) (items:Array Value) (ps:List (K×Value)) (no:List Addr):Prop :=
 ps.length=items.size∧∀ (j:Nat) (x:Value),items[j]?=some x→∃ T k key v,x=.ref T∧T∉no∧h.IsTuple T #[key,v]∧knd.is k key=true∧ps[j]?=some (k,v)
theorem PairsAt.mono {h h':Heap}{items:Array Value}{ps:List (K×Value)}{no:List Addr}(p:PairsAt knd h items ps no) (k:∀ b o,b∉no→h.get? b=some o→h'.get? b=some o):PairsAt knd h' items ps no :=
 ⟨p.1,fun j x e=>by
  obtain ⟨T,k1,key,v,h1,h2,⟨o,h3,h3'⟩,h4,h5⟩:=p.2 j x e
  exact ⟨T,k1,key,v,h1,h2,⟨o,k T o h2 h3,h3'⟩,h4,h5⟩⟩
theorem au4 {R:Result→Shared→Prop}{d it l:Addr}{items:Array Value}{ps:List (K×Value)}{res:Value}(hdi:d≠it) (hli:l≠it) (hld:l≠d) (hA:A.handled=none) :
 ∀ (n i:Nat) (s:Shared) (kvs:List (K×Value)),items.size - i=n→i≤items.size→s.heap.IsListIter it l i→s.heap.IsList l items→s.heap.DictOf knd d kvs→kvs.length+n≤sizeLine→PairsAt knd s.heap items ps [d,it] →
 (∀ h' tk,h'.DictOf knd d (merged kvs (ps.drop i))→(∀ b o,b≠d→b≠it→s.heap.get? b=some o→h'.get? b=some o)→R (.ok (.ret res)) { s with heap:=h',toks:=tk }) →
 codeAny (model prog w) A (.builtin "dict.update.loop" ⟨[.ref d,.ref it,rawInt i,res],[]⟩) R s:=by
 intro n
 induction n with
 | zero =>
   intro i s kvs hn hi hit hl hd hz hp hR
   have e:i=items.size:=by omega
   subst e
   refine codeAny_builtin as0 ?_
   rw [Around.under_plainId ag7 _]
   show wpAny _ A.in1 (pyNext (.ref it) >>= _) _ _ s
   refine wpAny_bind (wpAny_pyNext_list_end (by exact hA) hit hl (Array.getElem?_eq_none (Nat.le_refl _)) fun h' hx=>?_)
   show wpAny _ _ (Builtin.Dict.addKeywords d [] >>= _) _ _ _
   refine wpAny_bind (wpAny_pure (wpAny_pure ?_))
   refine hR h' s.toks ?_ fun b o _ h2 e=>hx b o h2 e
   rw [List.drop_of_length_le (Nat.le_of_eq hp.1)]
   exact hd.extBut hx hdi
 | succ n ih =>
   intro i s kvs hn hi hit hl hd hz hp hR
   have hlt:i<items.size:=by omega
   obtain ⟨T,k,key,v,e1,e2,hT,hk,hv⟩:=hp.2 i items[i] (by simp [hlt])
   refine codeAny_builtin as0 ?_
   rw [Around.under_plainId ag7 _]
   show wpAny _ A.in1 (pyNext (.ref it) >>= _) _ _ s
   refine wpAny_bind (wpAny_pyNext_list_item hit hl (x:=items[i]) (by simp [hlt]) fun h1 hit1 hs1=>?_)
   rw [e1]
   have hTd:T≠d:=fun z=>e2 (by simp [z])
   have hTi:T≠it:=fun z=>e2 (by simp [z])
   obtain ⟨oT,hoT,cT,nT,dT⟩:=hT
   have hoT1:h1.get? T=some oT:=(hs1.2 T hTi).trans hoT
   have tT:({ s with heap:=h1 }:Shared).TypeIs (.ref T) "tuple":=⟨oT,hoT1,cT⟩
   show wpAny _ _ (holding [Value.ref T] _ >>= _) _ _ _
   refine wpAny_bind (wpAny_holding ?_)
   refine wpAny_bind (wpAny_tryCatch ?_)
   unfold Builtin.Dict.pairItems
   refine wpAny_bind (wpAny_typeOf tT ?_)
   rw [if_pos (by decide)]
   refine wpAny_bind (wpAny_seqItems hoT1 dT (wpAny_pure ?_))
   show wpAny _ _ (holding [key,v] (dictSet d key v)) _ _ _
   refine wpAny_holding ?_
   have hd1:h1.DictOf knd d kvs:=hd.sameBut hs1 hdi
   refine wpAny_dictSet_pairs (hsz:=by omega) hk hd1 fun h2 hd2 hs2=>?_
   refine wpAny_pure ⟨plainId_quiet ag7 _,?_⟩
   have kp:∀ b o,b≠d→b≠it→s.heap.get? b=some o→h2.get? b=some o:=fun b o hb1 hb2 e=>(hs2.2 b hb1).trans ((hs1.2 b hb2).trans e)
   have hit2:h2.IsListIter it l (i+1):=let ⟨o,e,r⟩:=hit1; ⟨o,(hs2.2 it (Ne.symm hdi)).trans e,r⟩
   have hl2:h2.IsList l items:=let ⟨o,e,r⟩:=hl; ⟨o,kp l o hld hli e,r⟩
   have:=ih (i+1) { s with heap:=h2,toks:=s.toks+1 } (stored kvs k v) (by omega) (by omega) hit2 hl2 hd2 (by have:=stored_length_le kvs k v; omega) (hp.mono fun b o hb e=>kp b o (fun z=>hb (by simp [z])) (fun z=>hb (by simp [z])) e) (fun h' tk hd' kp'=>?_)
   · exact this
   · refine hR h' tk ?_ fun b o h3 h4 e=>kp' b o h3 h4 (kp b o h3 h4 e)
     have hdr:ps.drop i=(k,v)::ps.drop (i+1):=by
      obtain ⟨hj,ej⟩:=List.getElem?_eq_some_iff.mp hv
      rw [List.drop_eq_getElem_cons hj,ej]
     rw [hdr]
     exact hd'
theorem aj3 {l:Addr}{o:Obj}{items:Array Value}{n:Nat}{ps:List (K×Value)}{Q:Value→Shared→Prop}(ho:s.heap.get? l=some o) (hc:o.cls=.type "list") (hd:o.dict=none) (hdat:o.data=.seq items n)
 (hA:A.handled=none) (hp:PairsAt knd s.heap items ps []) (hz:items.size≤sizeLine)
 (h:∀ h' tk,h'.DictOf knd s.heap.objs.size (merged [] ps)→(∀ b o,s.heap.get? b=some o→h'.get? b=some o)→Q (.ref s.heap.objs.size) { s with heap:=h',toks:=tk }) :
 wpAny (model prog w) A (call (.type "dict") [.ref l]) Q E s:=by
 refine callType_codes (Q₁:=fun obj s₁=>obj=.ref s.heap.objs.size∧s₁={ s with heap:=s.heap.push { cls:=.type "dict",data:=.dict #[] } }) F.kt_called_dict (F.kt_typeCall_dict_1 _) F.entry_dict_init (kt_code_dict_new _ ⟨rfl,rfl⟩) ?_
 rintro obj s₁ ⟨rfl,rfl⟩
 have hnew:(s.heap.push { cls:=.type "dict",data:=.dict #[] }).DictOf knd s.heap.objs.size []:=Heap.DictOf.new s.heap
 have hlt:=Heap.lt_size ho
 have ho':(s.heap.push { cls:=.type "dict",data:=.dict #[] }).get? l=some o:=Heap.get?_push_of_some _ ho
 refine ⟨hnew.typeIs,F.args_dict_init_2 _ _,?_⟩
 unfold Builtin.«dict.__init__»
 refine wpAny_bind ?_
 unfold Builtin.Dict.selfAndRest
 refine wpAny_bind (wpAny_notOrdered_dict hnew.typeIs ?_)
 show wpAny _ _ (pure (s.heap.objs.size,[Value.ref l])) _ _ _
 refine wpAny_pure ?_
 show wpAny _ _ (Builtin.Dict.updateFrom "dict.__init__" s.heap.objs.size (.ref l) [] .none) _ _ _
 unfold Builtin.Dict.updateFrom
 refine wpAny_bind (wpAny_typeOf (T:="list") ⟨o,ho',hc⟩ ?_)
 rw [if_pos (by decide)]
 refine wpAny_bind (getAttr?_miss_list ho' hc hdat hd b85 (by decide) (by exact hA) fun h1 tk1 k1=>?_)
 show wpAny _ _ (rule _ >>= _) _ _ _
 refine wpAny_bind (wpAny_rule ?_)
 have k0:∀ b q,s.heap.get? b=some q→h1.get? b=some q:=fun b q e=>k1 b q (Heap.get?_push_of_some _ e)
 have hl1:h1.IsList l items:=⟨o,k0 l o ho,hc,n,hdat⟩
 refine wpAny_bind (wpAny_pyIter_list hl1 (wpAny_pure ⟨plainId_quiet ag7 _,?_⟩))
 have hd1:h1.DictOf knd s.heap.objs.size []:=by
  obtain ⟨q,es,ep,e1,e2,e3⟩:=hnew
  exact ⟨q,es,ep,k1 _ _ e1,e2,e3⟩
 have hds:s.heap.objs.size<h1.objs.size:=by
  obtain ⟨q,es,ep,e1,_⟩:=hd1
  exact Heap.lt_size e1
 have hl1s:l<h1.objs.size:=Heap.lt_size (k0 l o ho)
 refine au4 (knd:=knd) (items:=items) (ps:=ps) (d:=s.heap.objs.size) (it:=h1.objs.size) (l:=l) (Nat.ne_of_lt hds) (Nat.ne_of_lt hl1s) (Nat.ne_of_lt hlt) (by exact hA) items.size 0 _ [] (by omega) (Nat.zero_le _) ⟨_,Heap.get?_push_size _ rfl,rfl,rfl⟩ (hl1.push _) (hd1.push _) (by simpa using hz) ⟨hp.1,fun j x e=>?_⟩ fun h' tk hd' kp=>?_
 · obtain ⟨T,k,key,v,e1,_,⟨oT,e2,e3⟩,e4,e5⟩:=hp.2 j x e
   refine ⟨T,k,key,v,e1,?_,⟨oT,Heap.get?_push_of_some _ (k0 _ _ e2),e3⟩,e4,e5⟩
   have h1:=Heap.lt_size e2
   have h2:=Heap.lt_size (k0 _ _ e2)
   simp only [List.mem_cons,List.not_mem_nil,or_false,not_or]
   exact ⟨Nat.ne_of_lt h1,Nat.ne_of_lt h2⟩
 · exact ⟨rfl,h h' tk hd' fun b q e=>kp b q (Nat.ne_of_lt (Heap.lt_size e)) (Nat.ne_of_lt (Heap.lt_size (k0 _ _ e))) (Heap.get?_push_of_some _ (k0 b q e))⟩
end
end L2
namespace L2
open PySem PySem.Spec PyProof.Rows
section
variable {X:Cx}{pins:List (Addr×Obj)}{σ:St} {H:Hp}{s:Shared}
theorem Inv.turnedL {t':Nat}{h':Heap}{ch:List Addr}(I:Inv X pins σ H s) (k:∀ b o,b∉ch→s.heap.get? b=some o→h'.get? b=some o) (hf:∀ b∈ch,FpOk X pins H b):Inv X pins σ H { s with heap:=h',toks:=t' }:=by
 have nit:∀ b u,H b=some u→b∉ch:=fun b u e z=>by rw [(hf b z).1] at e; cases e
 refine I.step (g':=s.gens) (d':=s.drawn) (ch:=ch) (fun b hb=>⟨(hf b hb).2.2.2.1,(hf b hb).2.1,(hf b hb).2.2.2.2.1,(hf b hb).2.2.2.2.2⟩) (fun b o _ _ hc e _=>k b o hc e) (fun b o _ _ hc e _=>⟨o.slots,k b o hc e⟩) (fun _ _ _ _ n=>n)
  (fun b o hc e=>⟨o,k b o hc e⟩) (fun _ _ e=>e) (fun _ _ _ e=>e) (fun b ps e=>⟨#[],by rw [e]; simp⟩) (fun m hm=>?_) (fun b u e=>?_) I.bare
 · obtain ⟨o,es,ep,ho,r⟩:=hm
   exact ⟨o,es,ep,k _ o (fun z=>(hf _ z).2.1 rfl) ho,r⟩
 · refine (I.hok b u e).stay (fun c v hc q=>k c v ?_ q) (fun _ q=>q) fun _ _ q=>q
   rcases hc with z | z
   · rw [z]; exact nit b u e
   · exact nit c _ z
end
def Ite (K:PySem.W.Frag) (a:Addr):It :=
 ⟨fun i H=>∃ xs x,SqL K H a xs∧xs[i]?=some x,fun i H v H'=>∃ p y,v=.ref p∧H p=none∧Same H H'∧H' p=some (.tup [.int (i:Nat),y])∧∀ xs,SqL K H a xs→xs[i]?=some y,fun i H=>∃ xs,SqL K H a xs∧xs.length≤i⟩
theorem b86 {P:Program}{w:World}{K:PySem.W.Frag}{elts:List Expr}{x1:Nat}{pos:Pos}(a e it:Addr) (hne:e≠it) :
 Turn P w K (.Tuple elts x1 pos) (Ite K a) [e,it] e (fun i h=>(∃ old,IsEnum h e it (i:Nat) old)∧h.IsListIter it a i) where
 mem:=by simp
 obj:=fun i h st b hb=>by
  obtain ⟨⟨old,he⟩,o,e2,c,d⟩:=st
  rcases (by simpa using hb:b=e∨b=it) with rfl | rfl
  · exact ⟨_,he,fun v z=>by cases z⟩
  · exact ⟨o,e2,fun v z=>by rw [d] at z; cases z⟩
 keep:=fun i h h' st k=>⟨let ⟨old,he⟩:=st.1; ⟨old,k e (by simp) _ he⟩,st.2.at fun o x=>k it (by simp) o x⟩
 item:=by
  intro X hP hw hK hc i pins s σ H E I hf st hg
  subst hP hw hK
  obtain ⟨xs,x,hq,hx⟩:=hg
  obtain ⟨its,rv,p,hz⟩:=I.list hq
  obtain ⟨u,hu,ru⟩:=rv.get hx
  obtain ⟨⟨old,he⟩,hit⟩:=st
  have helt:e<s.heap.objs.size:=Heap.lt_size he
  have hilt:it<s.heap.objs.size:=by obtain ⟨_,q,_⟩:=hit; exact Heap.lt_size q
  refine wpAny_pyNext_enum_item he hit p.isList (x:=u) (by simpa using hu) hne fun h' ho hit' hT hsz hk=>?_
  have fr:H s.heap.objs.size=none:=I.hok.fresh (Nat.le_refl _)
  have I1:Inv X pins σ H { s with heap:=h',toks:=s.toks+1 }:=I.turnedL (ch:=[e,it]) (fun b o hb q=>hk b o (fun z=>hb (by simp [z])) (fun z=>hb (by simp [z])) q) hf
  have I2:Inv X pins σ (upd H s.heap.objs.size (.tup [.int (i:Nat),x])) { s with heap:=h',toks:=s.toks+1 }:=I1.adopt (o:=.tup [.int (i:Nat),x]) fr I.sz (Nat.ne_of_gt I.lt) (fun y c ec z=>by
   obtain ⟨v,q⟩:=I.cell y c ec
   exact absurd q.lt (by rw [z]; exact Nat.lt_irrefl _)) (fun q hq z=>absurd (Heap.lt_size (I.pin q hq).1) (by rw [z]; exact Nat.lt_irrefl _))
   ⟨le_line (by simp),[.int (i:Nat) s.toks,u],.cons ⟨_,rfl⟩ (.cons ru .nil),⟨_,hT,rfl,_,rfl⟩⟩
  have ne:∀ b∈[e,it],b≠s.heap.objs.size:=fun b hb=>by
   rcases (by simpa using hb:b=e∨b=it) with rfl | rfl
   · exact Nat.ne_of_lt helt
   · exact Nat.ne_of_lt hilt
  have hf2:∀ b∈[e,it],FpOk X pins (upd H s.heap.objs.size (.tup [.int (i:Nat),x])) b:=fun b hb=>⟨by rw [a06 (ne b hb)]; exact (hf b hb).1,(hf b hb).2⟩
  refine ⟨_,rfl,wpAny_letOwnedTupleGo_enum ho fun h2 he2 hs2=>⟨.ref s.heap.objs.size,_,I2.turnedL (t':=s.toks+1) (ch:=[e]) (fun b o hb q=>(hs2.2 b (fun z=>hb (by simp [z]))).trans q) (fun b hb=>hf2 b (by simp at hb; simp [hb])),rfl,⟨s.heap.objs.size,x,rfl,fr,Same.new fr,a27,fun ys hy=>by rw [I.list_inj hy hq]; exact hx⟩,⟨⟨_,by simpa using he2⟩,hit'.at fun o q=>(hs2.2 it (Ne.symm hne)).trans q⟩,fun b hb=>(hf2 b hb).1⟩⟩
 done:=by
  intro X hP hw hK hc i pins s σ H E I hf st hg
  subst hP hw hK
  obtain ⟨xs,hq,hx⟩:=hg
  obtain ⟨its,rv,p,hz⟩:=I.list hq
  obtain ⟨⟨old,he⟩,hit⟩:=st
  have hl:=rv.length
  exact wpAny_pyNext_enum_end (I.ok.hd hc) he hit p.isList (by simp; omega) fun h' eb=>⟨rfl,I.turnedL (t':=s.toks) (ch:=[it]) (fun b o hb q=>eb b o (fun z=>hb (by simp [z])) q) (fun b hb=>hf b (by simp at hb; simp [hb]))⟩
 self:=fun A i s Q E st h=>let ⟨old,he⟩:=st.1; wpAny_pyIter_enum he h
section
variable {X:Cx}{elts:List Expr}{x1:Nat}{tpos:Pos}
def iEnum (K:PySem.W.Frag) (ta:TA):TI:=fun σ H R=>ta σ H fun vs H1=>∃ a,vs=[.ref a]∧(∃ xs,SqL K H1 a xs)∧R (Ite K a) H1
theorem au5 (K:PySem.W.Frag) {a:Expr}{ta:TA}{p pos:Pos}(hg:Gl X "enumerate") (hm:X.mg "enumerate"=none) (ha:PA X [a] ta) (hs:starEach [a] X.env=[(false,eval a X.env)]:=by rfl) (hK:X.K=K:=by rfl):PI X (.Tuple elts x1 tpos) (.Call (.Name "enumerate" p) [a] [] pos) (iEnum K ta):=by
 subst hK
 intro pins s σ H R I h
 refine Call_ (ae8 I hg hm boot_enumerate (PyProof.Rows.callWith_type1 (thn (ha pos pins s σ H _ I h) fun us s1 ⟨vs,H1,I1,r1,q1⟩=>?_) hs rfl))
 obtain ⟨l,e,⟨xs,hq⟩,q⟩:=q1
 subst e
 obtain ⟨u,rfl,ru⟩:=at8 r1
 cases ru
 obtain ⟨its,rv,pl,hz⟩:=I1.list hq
 refine call_enumerate_list pl.isList fun h' he hit hsz hk=>?_
 refine wpAny_pyIter_enum he ?_
 refine ⟨s1.heap.objs.size+1,[s1.heap.objs.size+1,s1.heap.objs.size],_,_,H1,rfl,I1.kept (t':=s1.toks) hk,b86 l _ _ (Nat.succ_ne_self _),⟨⟨_,he⟩,hit⟩,fun b hb=>?_,q⟩
 have hb':s1.heap.objs.size≤b:=by
  rcases (by simpa using hb:b=s1.heap.objs.size+1∨b=s1.heap.objs.size) with rfl | rfl <;> omega
 exact I1.fpOk hb' (I1.hok.fresh hb')
theorem bx7 {K:PySem.W.Frag}{σ:St} {H:Hp}{R:It→Hp→Prop}{ts:TA}(h:ts σ H fun vs H1=>∃ a,vs=[.ref a]∧(∃ xs,SqL K H1 a xs)∧R (Ite K a) H1):iEnum K ts σ H R:=h
theorem bx8 {a:Addr}{p:Addr→Prop}(h:p a):∃ b,[V.ref a]=[V.ref b]∧p b:=⟨a,rfl,h⟩
end
inductive PrK (H:Hp):List V→List (Key×V)→Prop
 | nil:PrK H [] []
 | cons {p:Addr}{k:Key}{v:V}{vs:List V}{kvs:List (Key×V)}:H p=some (.tup [kV k,v])→PrK H vs kvs→PrK H (.ref p::vs) ((k,v)::kvs)
theorem PrK.mono {H H':Hp}(t:Tups H H') {vs:List V}{kvs:List (Key×V)}(h:PrK H vs kvs):PrK H' vs kvs:=by
 induction h with
 | nil=>exact .nil
 | cons e _ ih=>exact .cons (t _ _ e) ih
theorem PrK.snoc {H:Hp}{vs:List V}{kvs:List (Key×V)}{p:Addr}{k:Key}{v:V}(h:PrK H vs kvs) (e:H p=some (.tup [kV k,v])):PrK H (vs++[.ref p]) (kvs++[(k,v)]):=by
 induction h with
 | nil=>exact .cons e .nil
 | cons e' _ ih=>exact .cons e' ih
def rDictP (K:PySem.W.Frag):List V→Hp→VK→Prop:=fun xs H Q=>∃ l vs kvs,xs=[.ref l]∧SqL K H l vs∧PrK H vs kvs∧New H (.dK (mergeK [] kvs)) Q
section
variable {X:Cx}
theorem PrK.at_ {pins:List (Addr×Obj)}{σ:St} {H:Hp}{s:Shared}(I:Inv X pins σ H s):∀ {vs:List V}{kvs:List (Key×V)}{us:List Value},PrK H vs kvs→Vals vs us →
 ∃ ps:List (Key×Value),KV kvs ps∧ps.length=us.length∧∀ (j:Nat) (x:Value),us[j]?=some x→∃ T k key v,x=.ref T∧T∉([]:List Addr)∧s.heap.IsTuple T #[key,v]∧(mixKind X.prog X.w).is k key=true∧ps[j]?=some (k,v)
 | _,_,_,.nil,r=>by
   cases r
   exact ⟨[],.nil,rfl,fun j x e=>by simp at e⟩
 | _,_,_,.cons (p:=p) (k:=k) (v:=v) e h,r=>by
   cases r with
   | cons r1 r2 =>
     cases r1
     obtain ⟨ps,h1,h2,h3⟩:=PrK.at_ I h r2
     obtain ⟨its,q1,q2,_⟩:=I.tuple (SqT.of e)
     obtain ⟨u1,u2,rfl,ra,rb⟩:=be1 q1
     refine ⟨(k,u2)::ps,.cons ⟨rfl,rb⟩ h1,by simp [h2],fun j x ej=>?_⟩
     cases j with
     | zero =>
       simp at ej
       subst ej
       exact ⟨p,k,u1,u2,rfl,by simp,q2,be9 ra,rfl⟩
     | succ j=>exact h3 j x (by simpa using ej)
theorem bf8 (K:PySem.W.Frag) (hh:X.calm=true:=by rfl) (hK:X.K=K:=by rfl):CallR X (.type "dict") (rDictP K):=by
 subst hK
 intro pins s σ H xs us Q I r h
 obtain ⟨l,vs,kvs,rfl,hq,hp,q⟩:=h
 obtain ⟨u,rfl,ru⟩:=at8 r
 cases ru
 obtain ⟨its,rv,⟨o,n,e1,e2,e3,e4⟩,hz⟩:=I.list hq
 obtain ⟨ps,k1,k2,k3⟩:=PrK.at_ I hp rv
 have hl:=rv.length
 refine aj3 (knd:=mixKind X.prog X.w) e1 e2 e3 e4 (I.ok.hd hh) ⟨by simpa using k2,fun j x e=>k3 j x (by simpa using e)⟩ (by simpa using hl ▸ hz) fun h' tk hd kk=>?_
 have hz2:(mergeK [] kvs).length≤sizeLine:=by
  have h1:=ag4 kvs []
  have h2:kvs.length=ps.length:=k1.length
  simp only [List.length_nil] at h1
  omega
 refine ⟨.ref s.heap.objs.size,upd H s.heap.objs.size (.dK (mergeK [] kvs)),I.laid (t':=tk) kk (Nat.le_refl _) (bj5 hz2 (beq_eq_false_iff_ne.mpr (Ne.symm (Nat.ne_of_lt I.big))) (k1.merge .nil) hd),rfl,New.to q _ (I.hok.fresh (Nat.le_refl _))⟩
theorem bn8 {K:PySem.W.Frag}{H:Hp}{Q:VK}{l:Addr}{vs:List V}{kvs:List (Key×V)}(h1:SqL K H l vs) (h2:PrK H vs kvs) (h:New H (.dK (mergeK [] kvs)) Q):rDictP K [.ref l] H Q:=⟨l,vs,kvs,rfl,h1,h2,h⟩
def bx9:List V→Hp→VK→Prop:=fun xs H Q=>∃ a b:Int,xs=[.int a,.int b]∧Q (.int (min a b)) H
theorem al3 (hh:X.calm=true:=by rfl):CallR X (.builtin "min") bx9:=by
 intro pins s σ H xs us Q I r h
 obtain ⟨a,b,rfl,q⟩:=h
 obtain ⟨u,v,rfl,⟨t1,rfl⟩,⟨t2,rfl⟩⟩:=be1 r
 refine min_two_ints (I.ok.hd hh) fun h' tk hk=>?_
 have I1:Inv X pins σ H { s with heap:=h',toks:=tk }:=I.kept hk
 by_cases c:b<a
 · rw [if_pos c]
   exact ⟨.int b,H,I1,⟨_,rfl⟩,by rw [show min a b=b by omega] at q; exact q⟩
 · rw [if_neg c]
   exact ⟨.int a,H,I1,⟨_,rfl⟩,by rw [show min a b=a by omega] at q; exact q⟩
theorem by0 {H:Hp}{Q:VK}{a b:Int}(h:Q (.int (min a b)) H):bx9 [.int a,.int b] H Q:=⟨a,b,rfl,h⟩
def rSlTN (K:PySem.W.Frag):V→Option Int→Option Int→Hp→VK→Prop:=fun x lo hi H Q=>∃ a xs,x=.ref a∧SqT K H a xs∧¬ (HT.sIx xs.length 0 lo=0∧HT.sIx xs.length xs.length hi=xs.length)∧New H (.tup (cutV xs lo hi)) Q
theorem au6 (K:PySem.W.Frag) (hK:X.K=K:=by rfl):SlR X (rSlTN K):=by
 subst hK
 intro pins s σ H x v vl vu lo hi sl Q I rx hs pl pu h
 obtain ⟨a,xs,e,h1,h2,h3⟩:=h
 exact bu2 pins s σ H x v vl vu lo hi sl Q I rx hs pl pu ⟨a,xs,e,h1,h2,New.to h3⟩
theorem ay0 (xs:List V) (y:V):cutV (xs++[y]) none (some (-1))=xs∧HT.sIx (xs++[y]).length (xs++[y]).length (some (-1))=xs.length:=by
 have e:HT.sIx (xs++[y]).length (xs++[y]).length (some (-1))=xs.length:=by
  unfold HT.sIx
  simp only []
  rw [if_pos (by decide),List.length_append]
  simp only [List.length_cons,List.length_nil]
  omega
 refine ⟨?_,e⟩
 unfold cutV
 rw [e,HT.sIx_none,List.drop_zero,Nat.sub_zero,List.take_left']
 rfl
theorem ao3 {K:PySem.W.Frag}{H:Hp}{Q:VK}{a:Addr}{xs:List V}{y:V}(h1:SqT K H a (xs++[y])) (h:New H (.tup xs) Q):rSlTN K (.ref a) none (some (-1)) H Q:=by
 refine ⟨a,xs++[y],rfl,h1,fun z=>?_,by rw [(ay0 xs y).1]; exact h⟩
 have:=(ay0 xs y).2
 rw [z.2,List.length_append] at this
 simp at this
def rCatTN (K:PySem.W.Frag):R2:=fun x y H Q=>∃ a b xs ys,x=.ref a∧y=.ref b∧SqT K H a xs∧SqT K H b ys∧xs≠[]∧ys≠[]∧xs.length+ys.length≤sizeLine∧New H (.tup (xs++ys)) Q
theorem ay1 (K:PySem.W.Frag) (hK:X.K=K:=by rfl):OpR X (binaryOp .Add) (rCatTN K):=by
 subst hK
 intro pins s σ H x y v u Q I rx ry h
 obtain ⟨a,b,xs,ys,e1,e2,h1,h2,h3,h4,h5,h6⟩:=h
 exact bm2 pins s σ H x y v u Q I rx ry ⟨a,b,xs,ys,e1,e2,h1,h2,h3,h5,fun z=>absurd z h4,fun _=>New.to h6⟩
theorem bj9 {K:PySem.W.Frag}{H:Hp}{Q:VK}{a b:Addr}{xs ys:List V}(h1:SqT K H a xs) (h2:SqT K H b ys) (h3:xs≠[]) (h4:ys≠[]) (h5:xs.length+ys.length≤sizeLine) (h:New H (.tup (xs++ys)) Q):rCatTN K (.ref a) (.ref b) H Q:=⟨a,b,xs,ys,rfl,rfl,h1,h2,h3,h4,h5,h⟩
theorem b87 {H:Hp}{Q:VK}{l:Addr}{xs:List V}(h1:H l=some (.lst xs)) (h:Q .non (upd H l (.lst []))):rClear (.ref l) [] H Q:=⟨l,xs,rfl,rfl,h1,h⟩
theorem by1 {K:PySem.W.Frag}{H:Hp}{Q:VK}{a:Addr}{xs:List V}(e:H a=some (.tup xs)) (h:Q (.bl true) H):rIsi K [V.ref a,V.ty "tuple"] H Q:=⟨_,_,_,true,rfl,.tup e,rfl,h⟩
theorem by2 {to ti:TE}{t:TSet}{v:V}{σ:St} {H:Hp}{Q:St→Hp→Prop}(h:to σ H fun o H1=>ti σ H1 fun i H2=>t o i v H2 fun H3=>Q σ H3):gSub to ti t v σ H Q:=h
theorem ai0 {H:Hp}{Q:Hp→Prop}{p:Addr}{xs:List V}{k:Int}{j:Nat}{v:V}(h1:H p=some (.lst xs)) (h2:ixN xs.length k=some j) (h:Q (upd H p (.lst (xs.set j v)))):rSetL (.ref p) (.int k) v H Q:=⟨p,xs,k,j,rfl,rfl,h1,h2,h⟩
def rNeU:R2:=fun x y H Q=>∃ t fs gs,(Tr.tup t).At H x fs∧(Tr.tup t).At H y gs∧Tr.hs t≤60∧Q (.bl false) H
theorem b88 (hu:X.A.units+64<cLine):OpR X (compareOp .NotEq) rNeU:=by
 intro pins s σ H x y v u Q I rx ry h
 obtain ⟨t,fs,gs,h1,h2,hh,q⟩:=h
 simp only [Tr.At] at h1 h2
 obtain ⟨a,vs,rfl,e1,c1⟩:=h1
 obtain ⟨b,ws,rfl,e2,c2⟩:=h2
 cases rx
 cases ry
 obtain ⟨is1,q1,p1,_⟩:=I.tuple (SqT.of e1)
 obtain ⟨is2,q2,p2,_⟩:=I.tuple (SqT.of e2)
 have hl:is1.length=is2.length:=by rw [← q1.length,←q2.length,c1.len,c2.len]
 have:=SeqAt.RcNeAt.tuples (A:=X.A) (s:=s) (e:=fun _=>true) p1 p2 (by omega) (fun j h1 h2=>by
  have:=Tr.eqAts I (A:=X.A.in1) c1 c2 q1 q2 (by rw [a72]; omega) j (by simpa using h1) (by simpa using h2)
  simpa using this)
 refine this X.prog X.w X.xe (EP X pins σ Q) ⟨.bl false,H,I,?_,q⟩
 rw [show ((List.range (min is1.toArray.size is2.toArray.size)).all (fun _=>true) && is1.toArray.size == is2.toArray.size)=true by simp [hl]]
 rfl
theorem by3 {H:Hp}{Q:VK}{x y:V}{t:List Tr}{fs gs:List Addr}(h1:(Tr.tup t).At H x fs) (h2:(Tr.tup t).At H y gs) (hh:Tr.hs t≤60) (h:Q (.bl false) H):rNeU x y H Q:=⟨t,fs,gs,h1,h2,hh,h⟩
def tSeqC (t u:TS):TS:=fun D σ H=>∃ R:St→Hp→Prop,t { D with nx:=R } σ H∧∀ σ' H',R σ' H'→u D σ' H'
theorem ab7 {st:Stmt}{rest:List Stmt}{t u:TS}(h1:PS X st t) (h2:PSs X rest u):PSs X (st::rest) (tSeqC t u):=by
 intro pins s σ H D I h
 obtain ⟨R,ha,hb⟩:=h
 refine wpAny_execs_cons (thn (h1 pins s σ H _ I ha) fun f s1 q=>?_)
 cases f with
 | next=>obtain ⟨σ1,H1,I1,q1⟩:=q; exact h2 pins s1 σ1 H1 D I1 (hb σ1 H1 q1)
 | brk=>exact q
 | cont=>exact q
 | ret v=>exact q
theorem al4 {t u:TS}{nn bb cc:St→Hp→Prop}{rr:VK}{σ:St} {H:Hp}(R:St→Hp→Prop) (h1:t ⟨R,rr,bb,cc⟩ σ H) (h2:∀ σ' H',R σ' H'→u ⟨nn,rr,bb,cc⟩ σ' H'):tSeqC t u ⟨nn,rr,bb,cc⟩ σ H:=⟨R,h1,h2⟩
def tPure (t:TT):TT:=t
theorem ao4 {e:Expr}{t:TT}(h:PT X e t):PT X e (tPure t):=h
theorem ay2 {t:TT}{σ:St} {H:Hp}{QT:Bool→Hp→Prop}(c:Prop) [Decidable c] (h:∀ R:Bool→Hp→Prop,R (decide c) H→t σ H R) (h2:QT (decide c) H):tPure t σ H QT:=h QT h2
theorem rT {R:Bool→Hp→Prop}{H:Hp}{c:Prop} [Decidable c] (h:R (decide c) H) (hc:c):R true H:=by rw [decide_eq_true hc] at h; exact h
theorem rF {R:Bool→Hp→Prop}{H:Hp}{c:Prop} [Decidable c] (h:R (decide c) H) (hc:¬ c):R false H:=by rw [decide_eq_false hc] at h; exact h
theorem b89 {c:TT}{tb:TS}{nn bb cc:St→Hp→Prop}{rr:VK}{σ:St} {H:Hp}(W:Nat→St→Hp→Prop) (m:Nat) (h0:W m σ H)
 (hs:∀ m σ H,W m σ H→c σ H fun b H1=>if b=true then ∃ N:St→Hp→Prop,(∀ σ' H',N σ' H'→∃ m',m'<m∧W m' σ' H')∧tb ⟨N,rr,nn,N⟩ σ H1 else nn σ H1):tWhile c tb ⟨nn,rr,bb,cc⟩ σ H:=⟨W,⟨m,h0⟩,hs⟩
end
end L2
namespace L2
open PySem
inductive Nd where
 | say (w:Str) (n:Nat)
 | hand (l:Int) (w:Str) (n:Nat)
 | put (b:Str) (e:Ex) (n:Nat)
 | test (c:Cd) (m n:Nat)
 | wait (l:Int) (bs:List (List Pt×Nat)) (n:Nat)
 | call (m n:Nat)
 | back
 | stop
def brT (b:List Pt×Nat):Tr:=.tup [.tup (b.1.map Pt.tr),.int (b.2:Nat)]
def Nd.its:Nd→List Tr
 | .say w n=>[.str "say",.str w,.int (n:Nat)]
 | .hand l w n=>[.str "hand",.int l,.str w,.int (n:Nat)]
 | .put b e n=>[.str "put",.str b,e.tr,.int (n:Nat)]
 | .test c m n=>[.str "test",c.tr,.int (m:Nat),.int (n:Nat)]
 | .wait l bs n=>[.str "wait",.int l,.tup (bs.map brT),.int (n:Nat)]
 | .call m n=>[.str "call",.int (m:Nat),.int (n:Nat)]
 | .back=>[.str "back"]
 | .stop=>[.str "stop"]
def Nd.tr (d:Nd):Tr:=.tup d.its
def renB (f:Nat→Nat) (b:List Pt×Nat):List Pt×Nat:=(b.1,f b.2)
def Nd.ren (f:Nat→Nat):Nd→Nd
 | .say w n=>.say w (f n)
 | .hand l w n=>.hand l w (f n)
 | .put b e n=>.put b e (f n)
 | .test c m n=>.test c (f m) (f n)
 | .wait l bs n=>.wait l (bs.map (renB f)) (f n)
 | .call m n=>.call (f m) (f n)
 | .back=>.back
 | .stop=>.stop
def Nd.nexts:Nd→List Nat
 | .say _ n=>[n]
 | .hand _ _ n=>[n]
 | .put _ _ n=>[n]
 | .test _ m n=>[m,n]
 | .wait _ bs n=>bs.map (·.2)++[n]
 | .call m n=>[m,n]
 | .back=>[]
 | .stop=>[]
abbrev bxs:List Str:=["many","mana"]
abbrev bxs3:List Str:=["many","mana","mano"]
def Nd.okAt (n i:Nat):Nd→Prop
 | .say _ k=>i<k∧k<n
 | .hand _ _ k=>i<k∧k<n
 | .put b e k=>(i<k∧k<n)∧(e.ok bxs∧e.h≤4)∧b∈bxs3
 | .test c a b=>(i<a∧a<n)∧(i<b∧b<n)∧c.ok bxs 5∧c.h≤3
 | .wait _ bs k=>(∀ b∈bs,b.2<n)∧k<n∧bs.length≤3
 | .call a b=>(i<a∧a<n)∧i<b∧b<n
 | .back=>True
 | .stop=>True
theorem Nd.okAt.lt {n i:Nat}{d:Nd}(h:d.okAt n i):∀ k∈d.nexts,k<n:=by
 intro k hk
 cases d with
 | say w m=>simp only [Nd.nexts,List.mem_singleton] at hk; subst hk; exact h.2
 | hand l w m=>simp only [Nd.nexts,List.mem_singleton] at hk; subst hk; exact h.2
 | put b e m=>simp only [Nd.nexts,List.mem_singleton] at hk; subst hk; exact h.1.2
 | test c a b =>
   simp only [Nd.nexts,List.mem_cons,List.not_mem_nil,or_false] at hk
   rcases hk with rfl | rfl
   · exact h.1.2
   · exact h.2.1.2
 | wait l bs m =>
   simp only [Nd.nexts,List.mem_append,List.mem_map,List.mem_singleton] at hk
   rcases hk with ⟨b,hb,rfl⟩ | rfl
   · exact h.1 b hb
   · exact h.2.1
 | call a b =>
   simp only [Nd.nexts,List.mem_cons,List.not_mem_nil,or_false] at hk
   rcases hk with rfl | rfl
   · exact h.1.2
   · exact h.2.2
 | back=>simp [Nd.nexts] at hk
 | stop=>simp [Nd.nexts] at hk
def Nd.one?:Nd→Option (Str×List Tr×Nat)
 | .say w n=>some ("say",[.str w],n)
 | .hand l w n=>some ("hand",[.int l,.str w],n)
 | .put b e n=>some ("put",[.str b,e.tr],n)
 | _=>none
theorem Nd.one_its {d:Nd}{k:Str}{r:List Tr}{n:Nat}(h:d.one?=some (k,r,n)):d.its=.str k::(r++[.int (n:Nat)])∧(∀ f,(d.ren f).its=.str k::(r++[.int (f n:Nat)]))∧d.nexts=[n] ∧
 k≠"wait"∧k≠"test"∧k≠"call"∧k≠"back"∧k≠"stop"∧r.length≤2:=by
 cases d with
 | say w m=>cases h; exact ⟨rfl,fun _=>rfl,rfl,by decide +kernel,by decide +kernel,by decide +kernel,by decide +kernel,by decide +kernel,by simp⟩
 | hand l w m=>cases h; exact ⟨rfl,fun _=>rfl,rfl,by decide +kernel,by decide +kernel,by decide +kernel,by decide +kernel,by decide +kernel,by simp⟩
 | put b e m=>cases h; exact ⟨rfl,fun _=>rfl,rfl,by decide +kernel,by decide +kernel,by decide +kernel,by decide +kernel,by decide +kernel,by simp⟩
 | _=>cases h
section
variable {H:Hp}{x:Tr}{xs:List Tr}{v:V}{vs ws:List V}
theorem ats_nil0:Tr.Ats H [] vs []↔vs=[]:=by simp [Tr.Ats]
theorem ats_cons0:Tr.Ats H (x::xs) vs []↔∃ v ws,vs=v::ws∧x.At H v []∧Tr.Ats H xs ws []:=by
 simp only [Tr.Ats]
 constructor
 · rintro ⟨v,ws,f,g,h1,h2,h3,h4⟩
   obtain ⟨rfl,rfl⟩:=List.append_eq_nil_iff.mp h2.symm
   exact ⟨v,ws,h1,h3,h4⟩
 · rintro ⟨v,ws,h1,h3,h4⟩
   exact ⟨v,ws,[],[],h1,rfl,h3,h4⟩
theorem at_tup0:(Tr.tup xs).At H v []↔∃ a vs,v=.ref a∧H a=some (.tup vs)∧Tr.Ats H xs vs []:=by simp only [Tr.At]
theorem at_int0 {i:Int}:(Tr.int i).At H v []↔v=.int i:=by simp [Tr.At]
theorem at_str0 {i:Str}:(Tr.str i).At H v []↔v=.str i:=by simp [Tr.At]
theorem ats_app0:∀ {xs ys:List Tr}{vs:List V},Tr.Ats H (xs++ys) vs []↔∃ us ws,vs=us++ws∧Tr.Ats H xs us []∧Tr.Ats H ys ws []
 | [],ys,vs=>by
   constructor
   · intro h; exact ⟨[],vs,rfl,ats_nil0.mpr rfl,h⟩
   · rintro ⟨us,ws,rfl,h1,h2⟩
     rw [ats_nil0.mp h1]
     exact h2
 | x::xs,ys,vs=>by
   constructor
   · intro h
     obtain ⟨v,ws,rfl,h1,h2⟩:=ats_cons0.mp h
     obtain ⟨us,zs,rfl,h3,h4⟩:=ats_app0.mp h2
     exact ⟨v::us,zs,rfl,ats_cons0.mpr ⟨v,us,rfl,h1,h3⟩,h4⟩
   · rintro ⟨us,ws,rfl,h1,h2⟩
     obtain ⟨v,us',rfl,h3,h4⟩:=ats_cons0.mp h1
     exact ats_cons0.mpr ⟨v,us'++ws,rfl,h3,ats_app0.mpr ⟨us',ws,rfl,h4,h2⟩⟩
theorem Tr.At.same {H H':Hp}(h:x.At H v []) (s:Same H H'):x.At H' v []:=h.mono (s.keep _)
theorem Tr.Ats.same {H H':Hp}(h:Tr.Ats H xs vs []) (s:Same H H'):Tr.Ats H' xs vs []:=h.mono (s.keep _)
theorem Tr.At.tups {H H':Hp}(h:x.At H v []) (s:Tups H H'):x.At H' v []:=h.mono ⟨s,fun _ m=>by simp at m⟩
theorem Tr.Ats.tups {H H':Hp}(h:Tr.Ats H xs vs []) (s:Tups H H'):Tr.Ats H' xs vs []:=h.mono ⟨s,fun _ m=>by simp at m⟩
end
section
variable {H:Hp}{v:V}{a:Addr}
theorem au7 {x:Tr}{u:V}(e:H a=some (.tup [u])) (h:x.At H u []):(Tr.tup [x]).At H (.ref a) []:=at_tup0.mpr ⟨a,_,rfl,e,ats_cons0.mpr ⟨_,_,rfl,h,ats_nil0.mpr rfl⟩⟩
theorem a99 {x y:Tr}{u v:V}(e:H a=some (.tup [u,v])) (h:x.At H u []) (h2:y.At H v []):(Tr.tup [x,y]).At H (.ref a) []:=at_tup0.mpr ⟨a,_,rfl,e,ats_cons0.mpr ⟨_,_,rfl,h,ats_cons0.mpr ⟨_,_,rfl,h2,ats_nil0.mpr rfl⟩⟩⟩
theorem af4 {x y z:Tr}{u v w:V}(e:H a=some (.tup [u,v,w])) (h:x.At H u []) (h2:y.At H v []) (h3:z.At H w []):(Tr.tup [x,y,z]).At H (.ref a) []:=at_tup0.mpr ⟨a,_,rfl,e,ats_cons0.mpr ⟨_,_,rfl,h,ats_cons0.mpr ⟨_,_,rfl,h2,ats_cons0.mpr ⟨_,_,rfl,h3,ats_nil0.mpr rfl⟩⟩⟩⟩
theorem ac6 {x y z q:Tr}{u v w p:V}(e:H a=some (.tup [u,v,w,p])) (h:x.At H u []) (h2:y.At H v []) (h3:z.At H w []) (h4:q.At H p []):(Tr.tup [x,y,z,q]).At H (.ref a) []:=at_tup0.mpr ⟨a,_,rfl,e,ats_cons0.mpr ⟨_,_,rfl,h,ats_cons0.mpr ⟨_,_,rfl,h2,ats_cons0.mpr ⟨_,_,rfl,h3,ats_cons0.mpr ⟨_,_,rfl,h4,ats_nil0.mpr rfl⟩⟩⟩⟩⟩
theorem a58 {i:Int}:(Tr.int i).At H (.int i) []:=at_int0.mpr rfl
theorem a47 {i:Str}:(Tr.str i).At H (.str i) []:=at_str0.mpr rfl
theorem Nd.test_at {c:Cd}{m n:Nat}(h:(Nd.test c m n).tr.At H v []):∃ a u,v=.ref a∧H a=some (.tup [.str "test",u,.int (m:Nat),.int (n:Nat)])∧c.tr.At H u []:=by
 obtain ⟨a,vs,rfl,e,h⟩:=at_tup0.mp h
 obtain ⟨v1,w1,rfl,h1,h⟩:=ats_cons0.mp h
 obtain ⟨v2,w2,rfl,h2,h⟩:=ats_cons0.mp h
 obtain ⟨v3,w3,rfl,h3,h⟩:=ats_cons0.mp h
 obtain ⟨v4,w4,rfl,h4,h⟩:=ats_cons0.mp h
 obtain rfl:=ats_nil0.mp h
 obtain rfl:=at_str0.mp h1
 obtain rfl:=at_int0.mp h3
 obtain rfl:=at_int0.mp h4
 exact ⟨a,v2,rfl,e,h2⟩
theorem Nd.call_at {m n:Nat}(h:(Nd.call m n).tr.At H v []):∃ a,v=.ref a∧H a=some (.tup [.str "call",.int (m:Nat),.int (n:Nat)]):=by
 obtain ⟨a,vs,rfl,e,h⟩:=at_tup0.mp h
 obtain ⟨v1,w1,rfl,h1,h⟩:=ats_cons0.mp h
 obtain ⟨v2,w2,rfl,h2,h⟩:=ats_cons0.mp h
 obtain ⟨v3,w3,rfl,h3,h⟩:=ats_cons0.mp h
 obtain rfl:=ats_nil0.mp h
 obtain rfl:=at_str0.mp h1
 obtain rfl:=at_int0.mp h2
 obtain rfl:=at_int0.mp h3
 exact ⟨a,rfl,e⟩
theorem Nd.wait_at {l:Int}{bs:List (List Pt×Nat)}{n:Nat}(h:(Nd.wait l bs n).tr.At H v []):∃ a b us,v=.ref a∧H a=some (.tup [.str "wait",.int l,.ref b,.int (n:Nat)])∧H b=some (.tup us)∧Tr.Ats H (bs.map brT) us []:=by
 obtain ⟨a,vs,rfl,e,h⟩:=at_tup0.mp h
 obtain ⟨v1,w1,rfl,h1,h⟩:=ats_cons0.mp h
 obtain ⟨v2,w2,rfl,h2,h⟩:=ats_cons0.mp h
 obtain ⟨v3,w3,rfl,h3,h⟩:=ats_cons0.mp h
 obtain ⟨v4,w4,rfl,h4,h⟩:=ats_cons0.mp h
 obtain rfl:=ats_nil0.mp h
 obtain rfl:=at_str0.mp h1
 obtain rfl:=at_int0.mp h2
 obtain rfl:=at_int0.mp h4
 obtain ⟨b,us,rfl,e2,h3⟩:=at_tup0.mp h3
 exact ⟨a,b,us,rfl,e,e2,h3⟩
theorem Nd.back_at (h:Nd.back.tr.At H v []):∃ a,v=.ref a∧H a=some (.tup [.str "back"]):=by
 obtain ⟨a,vs,rfl,e,h⟩:=at_tup0.mp h
 obtain ⟨v1,w1,rfl,h1,h⟩:=ats_cons0.mp h
 obtain rfl:=ats_nil0.mp h
 obtain rfl:=at_str0.mp h1
 exact ⟨a,rfl,e⟩
theorem Nd.stop_at (h:Nd.stop.tr.At H v []):∃ a,v=.ref a∧H a=some (.tup [.str "stop"]):=by
 obtain ⟨a,vs,rfl,e,h⟩:=at_tup0.mp h
 obtain ⟨v1,w1,rfl,h1,h⟩:=ats_cons0.mp h
 obtain rfl:=ats_nil0.mp h
 obtain rfl:=at_str0.mp h1
 exact ⟨a,rfl,e⟩
theorem Nd.one_at {d:Nd}{k:Str}{r:List Tr}{n:Nat}(ho:d.one?=some (k,r,n)) (h:d.tr.At H v []):∃ a us,v=.ref a∧H a=some (.tup ((V.str k::us)++[.int (n:Nat)]))∧Tr.Ats H r us []∧us.length≤2:=by
 obtain ⟨e1,_,_,_,_,_,_,_,hl⟩:=Nd.one_its ho
 unfold Nd.tr at h
 rw [e1] at h
 obtain ⟨a,vs,rfl,e,h⟩:=at_tup0.mp h
 obtain ⟨v1,w1,rfl,h1,h⟩:=ats_cons0.mp h
 obtain ⟨us,ws,rfl,h2,h3⟩:=ats_app0.mp h
 obtain ⟨v4,w4,rfl,h4,h⟩:=ats_cons0.mp h3
 obtain rfl:=ats_nil0.mp h
 obtain rfl:=at_str0.mp h1
 obtain rfl:=at_int0.mp h4
 exact ⟨a,us,rfl,e,h2,by rw [h2.len]; exact hl⟩
def Nd.word:Nd→Str
 | .say _ _=>"say"
 | .hand _ _ _=>"hand"
 | .put _ _ _=>"put"
 | .test _ _ _=>"test"
 | .wait _ _ _=>"wait"
 | .call _ _=>"call"
 | .back=>"back"
 | .stop=>"stop"
theorem Nd.word_at {d:Nd}(h:d.tr.At H v []):∃ a us,v=.ref a∧H a=some (.tup (.str d.word::us)):=by
 obtain ⟨a,vs,rfl,e,h⟩:=at_tup0.mp h
 have:∃ r,d.its=.str d.word::r:=by cases d <;> exact ⟨_,rfl⟩
 obtain ⟨r,hr⟩:=this
 rw [hr] at h
 obtain ⟨v1,w1,rfl,h1,h⟩:=ats_cons0.mp h
 obtain rfl:=at_str0.mp h1
 exact ⟨a,w1,rfl,e⟩
end
def natsV (l:List Nat):List V:=l.map fun k=>V.int (k:Nat)
theorem a08 (l:List Nat):(natsV l).length=l.length:=by simp [natsV]
theorem a60 {l:List Nat}{k:Nat}(h:k<l.length):atI (natsV l) (k:Nat)=some (.int (l.getD k 0:Nat)):=a02 (by simp [natsV,h])
theorem a53 (l:List Nat) (k:Nat):natsV l++[V.int (k:Nat)]=natsV (l++[k]):=by simp [natsV]
def natsT (l:List Nat):List Tr:=l.map fun k=>Tr.int (k:Nat)
theorem ao5 {H:Hp}:∀ l:List Nat,Tr.Ats H (natsT l) (natsV l) []
 | []=>by simp [natsT,natsV,Tr.Ats]
 | k::l=>ats_cons0.mpr ⟨_,_,rfl,a58,ao5 l⟩
theorem au8:∀ l:List Nat,Tr.hs (natsT l)=0
 | []=>by simp [natsT,Tr.hs]
 | k::l=>by
   have:=au8 l
   simp only [natsT,List.map_cons,Tr.hs,Tr.h] at this ⊢
   omega
def graphT (bs:List (Str×Int)) (ns:List Nd) (f:Nat):List Tr:=[.lst (bs.map boxT),.lst (ns.map Nd.tr),.int (f:Nat)]
structure GAt (H:Hp) (v:V) (bs:List (Str×Int)) (ns:List Nd) (f:Nat) (b n:Addr):Prop where
 ex:∃ a ub un,v=.ref a∧H a=some (.tup [.ref b,.ref n,.int (f:Nat)])∧H b=some (.lst ub)∧Tr.Ats H (bs.map boxT) ub []∧H n=some (.lst un)∧Tr.Ats H (ns.map Nd.tr) un []
theorem GAt.mono {H H':Hp}{v:V}{bs:List (Str×Int)}{ns:List Nd}{f:Nat}{b n:Addr}(g:GAt H v bs ns f b n) (t:Tups H H') (kb:∀ o,H b=some o→H' b=some o) (kn:∀ o,H n=some o→H' n=some o):GAt H' v bs ns f b n:=by
 obtain ⟨a,ub,un,h1,h2,h3,h4,h5,h6⟩:=g.ex
 exact ⟨a,ub,un,h1,t _ _ h2,kb _ h3,h4.tups t,kn _ h5,h6.tups t⟩
theorem GAt.same {H H':Hp}{v:V}{bs:List (Str×Int)}{ns:List Nd}{f:Nat}{b n:Addr}(g:GAt H v bs ns f b n) (s:Same H H'):GAt H' v bs ns f b n:=g.mono s.tups (fun o h=>s _ _ h) (fun o h=>s _ _ h)
theorem GAt.tree {H:Hp}{v:V}{bs:List (Str×Int)}{ns:List Nd}{f:Nat}{b n:Addr}(g:GAt H v bs ns f b n):(Tr.tup (graphT bs ns f)).At H v [b,n]:=by
 obtain ⟨a,ub,un,h1,h2,h3,h4,h5,h6⟩:=g.ex
 simp only [graphT,Tr.At,Tr.Ats]
 exact ⟨a,_,h1,h2,.ref b,[.ref n,.int (f:Nat)],[b],[n],rfl,rfl,⟨b,ub,[],rfl,h3,h4,rfl⟩,.ref n,[.int (f:Nat)],[n],[],rfl,rfl,⟨n,un,[],rfl,h5,h6,rfl⟩,.int (f:Nat),[],[],[],rfl,rfl,⟨rfl,rfl⟩,rfl,rfl⟩
theorem aj4:∀ ps:List Pt,Tr.hs (ps.map Pt.tr)=0
 | []=>by simp [Tr.hs]
 | p::ps=>by
   have:p.tr.h=0:=by cases p <;> simp [Pt.tr,Tr.h]
   simp [Tr.hs,aj4 ps,this]
theorem ai1:∀ e:Ex,e.tr.h=e.h+1
 | .num _=>by simp [Ex.tr,Tr.h,Tr.hs,Ex.h]
 | .box _=>by simp [Ex.tr,Tr.h,Tr.hs,Ex.h]
 | .two k a b=>by
   have h1:=ai1 a
   have h2:=ai1 b
   simp only [Ex.tr,Tr.h,Tr.hs,Ex.h,h1,h2]
   omega
theorem ay3 {ys:List Str}:∀ {c:Cd},c.ok ys 5→c.tr.h≤c.h+7
 | .cmp k a b,h=>by
   have h1:=ai1 a
   have h2:=ai1 b
   have h3:=h.1.2
   have h4:=h.2.2
   simp only [Cd.tr,Tr.h,Tr.hs,Cd.h,h1,h2]
   omega
 | .nt c,h=>by
   have h1:=ay3 (c:=c) h
   simp only [Cd.tr,Tr.h,Tr.hs,Cd.h]
   omega
 | .both c d,h=>by
   have h1:=ay3 (c:=c) h.1
   have h2:=ay3 (c:=d) h.2
   simp only [Cd.tr,Tr.h,Tr.hs,Cd.h]
   omega
theorem nd_h {n i:Nat}{d:Nd}(h:d.okAt n i):d.tr.h≤11:=by
 cases d with
 | say w m=>simp [Nd.tr,Nd.its,Tr.h,Tr.hs]
 | hand l w m=>simp [Nd.tr,Nd.its,Tr.h,Tr.hs]
 | put b e m =>
   have h1:=h.2.1.2
   have h2:=ai1 e
   simp only [Nd.tr,Nd.its,Tr.h,Tr.hs]
   omega
 | test c a b =>
   have h1:=h.2.2.2
   have h2:=ay3 h.2.2.1
   simp only [Nd.tr,Nd.its,Tr.h,Tr.hs]
   omega
 | wait l bs m =>
   have hb:∀ bs:List (List Pt×Nat),Tr.hs (bs.map brT)≤2:=fun bs=>by
    induction bs with
    | nil=>simp [Tr.hs]
    | cons b bs ih=>simp only [List.map_cons,Tr.hs,brT,Tr.h,aj4]; omega
   have:=hb bs
   simp only [Nd.tr,Nd.its,Tr.h,Tr.hs]
   omega
 | call a b=>simp [Nd.tr,Nd.its,Tr.h,Tr.hs]
 | back=>simp [Nd.tr,Nd.its,Tr.h,Tr.hs]
 | stop=>simp [Nd.tr,Nd.its,Tr.h,Tr.hs]
structure Gok (ns:List Nd) (f:Nat):Prop where
 at_:∀ (i:Nat) (d:Nd),ns[i]?=some d→d.okAt ns.length i
 first:f<ns.length
 few:ns.length≤100
theorem Gok.hs {ns:List Nd}{f:Nat}(g:Gok ns f):Tr.hs (ns.map Nd.tr)≤11:=by
 have:∀ l:List Nd,(∀ d∈l,d.tr.h≤11)→Tr.hs (l.map Nd.tr)≤11:=fun l=>by
  induction l with
  | nil=>intro _; simp [Tr.hs]
  | cons d l ih =>
    intro h
    have h1:=h d (by simp)
    have h2:=ih fun x m=>h x (by simp [m])
    simp only [List.map_cons,Tr.hs]
    omega
 refine this ns fun d hd=>?_
 obtain ⟨i,hi,e⟩:=List.getElem_of_mem hd
 exact nd_h (g.at_ i d (by rw [List.getElem?_eq_getElem hi,e]))
theorem ao6:∀ bs:List (Str×Int),Tr.hs (bs.map boxT)≤1
 | []=>by simp [Tr.hs]
 | b::bs=>by
   have:=ao6 bs
   simp only [List.map_cons,Tr.hs,boxT,Tr.h]
   omega
theorem Gok.ghs {bs:List (Str×Int)}{ns:List Nd}{f:Nat}(g:Gok ns f):Tr.hs (graphT bs ns f)≤13:=by
 have h1:=g.hs
 have h2:=ao6 bs
 simp only [graphT,Tr.hs,Tr.h]
 omega
structure OutAt (H:Hp) (v:V) (bs:List (Str×Int)) (ns:List Nd) (f:Nat) (sf:List Nat) (b n l:Addr):Prop where
 ex:∃ a g,v=.ref a∧H a=some (.tup [.ref g,.ref l])∧GAt H (.ref g) bs ns f b n∧H l=some (.lst (natsV sf))
def outT (bs:List (Str×Int)) (ns:List Nd) (f:Nat) (sf:List Nat):List Tr:=[.tup (graphT bs ns f),.lst (natsT sf)]
theorem OutAt.tree {H:Hp}{v:V}{bs:List (Str×Int)}{ns:List Nd}{f:Nat}{sf:List Nat}{b n l:Addr}(o:OutAt H v bs ns f sf b n l):(Tr.tup (outT bs ns f sf)).At H v [b,n,l]:=by
 obtain ⟨a,g,rfl,h1,h2,h3⟩:=o.ex
 have h4:=h2.tree
 rw [outT,Tr.At]
 refine ⟨a,_,rfl,h1,?_⟩
 rw [Tr.Ats]
 refine ⟨_,_,[b,n],[l],rfl,rfl,h4,?_⟩
 rw [Tr.Ats]
 refine ⟨_,_,[l],[],rfl,rfl,?_,by simp [Tr.Ats]⟩
 rw [Tr.At]
 exact ⟨l,_,[],rfl,h3,ao5 sf,rfl⟩
theorem OutAt.mono {H H':Hp}{v:V}{bs:List (Str×Int)}{ns:List Nd}{f:Nat}{sf:List Nat}{b n l:Addr}(o:OutAt H v bs ns f sf b n l) (s:Same H H'):OutAt H' v bs ns f sf b n l:=by
 obtain ⟨a,g,h0,h1,h2,h3⟩:=o.ex
 exact ⟨a,g,h0,s _ _ h1,h2.same s,s _ _ h3⟩
theorem Nd.ren_h {d:Nd}(f:Nat→Nat) (h:d.tr.h≤11):(d.ren f).tr.h≤11:=by
 cases d with
 | wait l bs m =>
   have hb:∀ bs:List (List Pt×Nat),Tr.hs (bs.map brT)≤2:=fun bs=>by
    induction bs with
    | nil=>simp [Tr.hs]
    | cons b bs ih=>simp only [List.map_cons,Tr.hs,brT,Tr.h,aj4]; omega
   have:=hb (bs.map (renB f))
   simp only [Nd.ren,Nd.tr,Nd.its,Tr.h,Tr.hs]
   omega
 | _=>exact h
def leftN (ns:List Nd) (ks sf:List Nat):List Nd:=ks.map fun i=>(ns.getD i .back).ren fun k=>sf.getD k 0
theorem Gok.left_hs {bs:List (Str×Int)}{ns:List Nd}{f f':Nat}(g:Gok ns f) (ks sf:List Nat):Tr.hs (outT bs (leftN ns ks sf) f' sf)≤20:=by
 have hd:∀ i,(ns.getD i .back).tr.h≤11:=fun i=>by
  rw [List.getD_eq_getElem?_getD]
  cases e:ns[i]? with
  | none=>simp [Nd.tr,Nd.its,Tr.h,Tr.hs]
  | some d=>exact nd_h (g.at_ i d e)
 have h1:∀ ks:List Nat,Tr.hs ((leftN ns ks sf).map Nd.tr)≤11:=fun ks=>by
  induction ks with
  | nil=>simp [leftN,Tr.hs]
  | cons k ks ih =>
    have h2:=Nd.ren_h (fun k=>sf.getD k 0) (hd k)
    simp only [leftN,List.map_cons,Tr.hs] at ih ⊢
    omega
 have h2:=h1 ks
 have h3:=ao6 bs
 have h4:=au8 sf
 simp only [outT,graphT,Tr.hs,Tr.h]
 omega
theorem au9 {H:Hp}{l m:Addr}{xs zs:List V}(h:H l=some (.lst xs)):∃ ys,upd H m (.lst zs) l=some (.lst ys):=by
 by_cases e:l=m
 · subst e; exact ⟨zs,a27⟩
 · exact ⟨xs,by rw [a06 e]; exact h⟩
end L2
namespace L2
open PySem PySem.Spec PyProof.Rows
def tDNewN:TE:=fun _ H Q=>New H (.dK []) Q
theorem ay4 {X:Cx}{pos:Pos}:PE X (.Dict [] [] pos) tDNewN:=fun pins s σ H Q I h=>bf1 pins s σ H Q I (New.to h)
section
variable {σ:St} {H:Hp}{Q:VK}{QT:Bool→Hp→Prop}{td ty tv te:TE}{nn bb cc:St→Hp→Prop}{rr:VK}
theorem by4 (h:New H (.dK []) Q):tDNewN σ H Q:=h
theorem i_tB (h:te σ H fun x H1=>∃ c,x=.bl c∧QT c H1):tB te σ H QT:=h
theorem bf9 (h:ty σ H fun y H1=>td σ H1 fun x H2=>∃ a o,x=.ref a∧DGet H2 a y o∧Q (.bl (!o.isSome)) H2):tDNotIn ty td σ H Q:=h
theorem by5 (h:tv σ H fun v H1=>td σ H1 fun x H2=>ty σ H2 fun y H3=>∃ a H4,x=.ref a∧DPut H3 a y v H4∧nn σ H4):sDPut td ty tv ⟨nn,rr,bb,cc⟩ σ H:=h
theorem b90 {d:Addr}{kvs:List (Key×V)}{o:HO}(h:H d=some (.dK kvs)):Tups H (upd H d o):=fun b ys e=>by rw [a06 (ad0 e h (fun z=>nomatch z))]; exact e
end
end L2
namespace L2
def addAll (row:List Nat) (ks:List Nat):List Nat:=ks.foldl (fun r k=>if k∈r then r else r++[k]) row
theorem pigeon:∀ (n:Nat) (l:List Nat),l.Nodup→(∀ k∈l,k<n)→l.length≤n
 | 0,l,_,h=>by
   cases l with
   | nil=>simp
   | cons a l=>exact absurd (h a (by simp)) (Nat.not_lt_zero _)
 | n+1,l,hn,h=>by
   by_cases hm:n∈l
   · have h1:=List.length_erase_of_mem hm
     have h2:=pigeon n (l.erase n) (hn.erase n) (fun k hk=>by
      have h3:=hn.mem_erase_iff.mp hk
      have:=h k h3.2
      have:=h3.1
      omega)
     have:0<l.length:=List.length_pos_of_mem hm
     omega
   · have:=pigeon n l hn (fun k hk=>by
      have h1:=h k hk
      have:k≠n:=fun z=>hm (z ▸ hk)
      omega)
     omega
def bfs (nx:Nat→List Nat):Nat→Nat→List Nat→List Nat
 | 0,_,row=>row
 | fuel+1,p,row=>match row[p]? with
   | none=>row
   | some k=>bfs nx fuel (p+1) (addAll row (nx k))
theorem bn9 {row:List Nat}{k:Nat}(h:k∈row):row[row.idxOf k]?=some k:=by
 have h1:=List.idxOf_lt_length_of_mem h
 rw [List.getElem?_eq_getElem h1]
 simp
theorem by6 {row:List Nat}(hn:row.Nodup) {i k:Nat}(e:row[i]?=some k):row.idxOf k=i:=by
 have hm:k∈row:=List.mem_of_getElem? e
 have h1:=bn9 hm
 obtain ⟨a1,b1⟩:=List.getElem?_eq_some_iff.mp e
 obtain ⟨a2,b2⟩:=List.getElem?_eq_some_iff.mp h1
 have:=List.nodup_iff_pairwise_ne.mp hn
 rw [List.pairwise_iff_getElem] at this
 rcases Nat.lt_trichotomy (row.idxOf k) i with h | h | h
 · exact absurd (b2.trans b1.symm) (this _ _ a2 a1 h)
 · exact h
 · exact absurd (b1.trans b2.symm) (this _ _ a1 a2 h)
end L2
namespace L2
open PySem PySem.Spec PyProof.Rows
section
variable {X:Cx}{σ:St} {H:Hp}{Q:VK}{QT:Bool→Hp→Prop}{td ty tv te:TE}{nn bb cc:St→Hp→Prop}{rr:VK}
end
section
variable {X:Cx}{elts:List Expr}{x1:Nat}{tpos:Pos}
theorem b91:bootBuiltins "zip"=some (.type "zip"):=by decide +kernel
end
end L2
namespace L2
open PySem
end L2
namespace L2
open PySem PySem.Spec PyProof.Rows
noncomputable instance trDec:DecidableEq Tr:=fun _ _=>Classical.propDecidable _
def IntIn (z:Int) (u:Value):Prop:=(∃ t,u=.int z t)∨∃ b:Bool,u=.bool b∧z=(if b=true then 1 else 0)
mutual
def Tr.In (h:Heap):Tr→Value→Prop
 | .non,u=>u=.none
 | .int z,u=>IntIn z u
 | .str x,u=>∃ t,u=.str x t
 | .tup ts,u=>∃ a us,u=.ref a∧h.IsTuple a us∧Tr.Ins h ts us.toList
 | .lst _,_=>False
def Tr.Ins (h:Heap):List Tr→List Value→Prop
 | [],us=>us=[]
 | t::ts,us=>∃ u r,us=u::r∧Tr.In h t u∧Tr.Ins h ts r
end
theorem Tr.Ins.len {h:Heap}:∀ {ts:List Tr}{us:List Value},Tr.Ins h ts us→us.length=ts.length
 | [],us,e=>by simp only [Tr.Ins] at e; rw [e]; rfl
 | t::ts,us,e=>by
   simp only [Tr.Ins] at e
   obtain ⟨u,r,rfl,_,e⟩:=e
   simp [e.len]
theorem av0 {h:Heap}{a:Addr}{us vs:Array Value}(x:h.IsTuple a us) (y:h.IsTuple a vs):us=vs:=by
 obtain ⟨o,e,_,n,d⟩:=x
 obtain ⟨o',e',_,n',d'⟩:=y
 rw [e] at e'; cases e'
 rw [d] at d'
 injection d' with d1 _
mutual
theorem Tr.In.inj {h:Heap}:∀ {t r:Tr}{u:Value},Tr.In h t u→Tr.In h r u→t=r
 | .non,r,u,e,f=>by
   simp only [Tr.In] at e
   subst e
   cases r <;> simp [Tr.In,IntIn] at f ⊢
 | .int z,r,u,e,f=>by
   simp only [Tr.In] at e
   rcases e with ⟨t,rfl⟩ | ⟨b,rfl,rfl⟩
   · cases r <;> simp [Tr.In,IntIn] at f ⊢
     exact f
   · cases r <;> simp [Tr.In,IntIn] at f ⊢
     exact f.symm
 | .str x,r,u,e,f=>by
   simp only [Tr.In] at e
   obtain ⟨t,rfl⟩:=e
   cases r <;> simp [Tr.In,IntIn] at f ⊢
   exact f
 | .lst _,r,u,e,f=>e.elim
 | .tup ts,.tup rs,u,e,f=>by
   simp only [Tr.In] at e f
   obtain ⟨a,us,rfl,e2,e3⟩:=e
   obtain ⟨b,vs,hb,f2,f3⟩:=f
   cases hb
   cases av0 e2 f2
   rw [Tr.Ins.inj e3 f3]
 | .tup ts,.non,u,e,f=>by
   simp only [Tr.In] at e f
   obtain ⟨a,us,rfl,e2,e3⟩:=e
   cases f
 | .tup ts,.int _,u,e,f=>by
   simp only [Tr.In] at e f
   obtain ⟨a,us,rfl,e2,e3⟩:=e
   rcases f with ⟨_,f⟩ | ⟨_,f,_⟩ <;> cases f
 | .tup ts,.str _,u,e,f=>by
   simp only [Tr.In] at e f
   obtain ⟨a,us,rfl,e2,e3⟩:=e
   obtain ⟨_,f⟩:=f
   cases f
 | .tup ts,.lst _,u,e,f=>f.elim
theorem Tr.Ins.inj {h:Heap}:∀ {ts rs:List Tr}{us:List Value},Tr.Ins h ts us→Tr.Ins h rs us→ts=rs
 | [],rs,us,e,f=>by
   simp only [Tr.Ins] at e
   subst e
   cases rs with
   | nil=>rfl
   | cons r rs=>simp [Tr.Ins] at f
 | t::ts,rs,us,e,f=>by
   simp only [Tr.Ins] at e
   obtain ⟨u,r,rfl,e1,e2⟩:=e
   cases rs with
   | nil=>simp [Tr.Ins] at f
   | cons q qs =>
     simp only [Tr.Ins] at f
     obtain ⟨u',r',hh,f1,f2⟩:=f
     cases hh
     rw [e1.inj f1,Tr.Ins.inj e2 f2]
end
theorem b92 {H:Hp}{ts:List Tr}{v:V}{h:(Tr.lst ts).At H v []}:False:=by
 simp only [Tr.At] at h
 obtain ⟨a,vs,_,rfl,e1,c1,e⟩:=h
 simp at e
section
variable {X:Cx}{pins:List (Addr×Obj)}{σ:St} {H:Hp}{s:Shared}
mutual
theorem Tr.At.isIn (I:Inv X pins σ H s):∀ {t:Tr}{v:V}{u:Value},t.At H v []→RelV v u→Tr.In s.heap t u
 | .non,v,u,h,r=>by
   obtain ⟨rfl,-⟩:=(by simpa only [Tr.At] using h)
   cases r
   exact rfl
 | .int z,v,u,h,r=>by
   obtain ⟨rfl,-⟩:=(by simpa only [Tr.At] using h)
   obtain ⟨t,rfl⟩:=r
   exact .inl ⟨t,rfl⟩
 | .str z,v,u,h,r=>by
   obtain ⟨rfl,-⟩:=(by simpa only [Tr.At] using h)
   obtain ⟨t,rfl⟩:=r
   exact ⟨t,rfl⟩
 | .lst _,v,u,h,r=>(b92 (h:=h)).elim
 | .tup ts,v,u,h,r=>by
   simp only [Tr.At] at h
   obtain ⟨a,vs,rfl,e1,c1⟩:=h
   cases r
   obtain ⟨is1,q1,p1,_⟩:=I.tuple (SqT.of e1)
   simp only [Tr.In]
   exact ⟨a,is1.toArray,rfl,p1,by simpa using Tr.Ats.isIns I c1 q1⟩
theorem Tr.Ats.isIns (I:Inv X pins σ H s):∀ {ts:List Tr}{vs:List V}{us:List Value},Tr.Ats H ts vs []→Vals vs us→Tr.Ins s.heap ts us
 | [],vs,us,c,q=>by
   simp only [Tr.Ats] at c
   obtain ⟨rfl,-⟩:=c
   cases q
   exact rfl
 | t::ts,vs,us,c,q=>by
   simp only [Tr.Ats] at c
   obtain ⟨v,vs,f,g,rfl,e,a1,b1⟩:=c
   have hf:f=[]∧g=[]:=by simpa using e.symm
   obtain ⟨rfl,rfl⟩:=hf
   cases q with
   | cons r1 q1 =>
   simp only [Tr.Ins]
   exact ⟨_,_,rfl,a1.isIn I r1,b1.isIns I q1⟩
end
end
theorem b93 {n:Nat}{e:Nat→Bool}:(List.range n).all e=true↔∀ j,j<n→e j=true:=by simp [List.all_eq_true]
theorem by7 {ts rs:List Tr}:((List.range (min ts.length rs.length)).all (fun j=>decide (ts.getD j .non=rs.getD j .non)) && ts.length == rs.length)=decide (ts=rs):=by
 rw [Bool.eq_iff_iff,Bool.and_eq_true,b93,decide_eq_true_iff,beq_iff_eq]
 constructor
 · rintro ⟨h1,h2⟩
   refine List.ext_getElem h2 fun j h3 h4=>?_
   have:=of_decide_eq_true (h1 j (by omega))
   simpa [h3,h4] using this
 · rintro rfl
   exact ⟨fun j _=>decide_eq_true rfl,rfl⟩
section
variable {s:Shared}
mutual
theorem Tr.In.eqAt:∀ {t r:Tr}{A:Around}{u z:Value},Tr.In s.heap t u→Tr.In s.heap r z→A.units+t.h+r.h<cLine→SeqAt.EqAt A s u z (decide (t=r))
 | .non,r,A,u,z,h1,h2,hu=>by
   simp only [Tr.In] at h1
   subst h1
   cases r with
   | non =>
     simp only [Tr.In] at h2
     subst h2
     rw [decide_eq_true rfl]
     exact SeqAt.EqAt.same _
   | int i =>
     rw [decide_eq_false (by simp)]
     rcases h2 with ⟨t2,rfl⟩ | ⟨b2,rfl,rfl⟩
     · exact SeqAt.EqAt.none_int _ _
     · exact SeqAt.EqAt.none_bool _
   | str i =>
     obtain ⟨t2,rfl⟩:=h2
     rw [decide_eq_false (by simp)]
     exact SeqAt.EqAt.none_str _ _
   | tup rs =>
     simp only [Tr.In] at h2
     obtain ⟨a,us,rfl,p,_⟩:=h2
     rw [decide_eq_false (by simp)]
     exact SeqAt.EqAt.none_tuple p (by omega)
   | lst rs=>exact h2.elim
 | .int i,r,A,u,z,h1,h2,hu=>by
   cases r with
   | non =>
     simp only [Tr.In] at h2
     subst h2
     rw [decide_eq_false (by simp)]
     rcases h1 with ⟨t1,rfl⟩ | ⟨b1,rfl,rfl⟩
     · exact SeqAt.EqAt.int_none _ _
     · exact SeqAt.EqAt.bool_none _
   | int j =>
     rw [show decide (Tr.int i=Tr.int j)=(i == j) from Bool.eq_iff_iff.mpr (by simp)]
     rcases h1 with ⟨t1,rfl⟩ | ⟨b1,rfl,rfl⟩
     · rcases h2 with ⟨t2,rfl⟩ | ⟨b2,rfl,rfl⟩
       · exact SeqAt.EqAt.int_int _ _ _ _
       · exact SeqAt.EqAt.int_bool _ _ _
     · rcases h2 with ⟨t2,rfl⟩ | ⟨b2,rfl,rfl⟩
       · exact SeqAt.EqAt.bool_int _ _ _
       · have:=SeqAt.EqAt.bool_bool (A:=A) (s:=s) b1 b2
         cases b1 <;> cases b2 <;> exact this
   | str j =>
     obtain ⟨t2,rfl⟩:=h2
     rw [decide_eq_false (by simp)]
     rcases h1 with ⟨t1,rfl⟩ | ⟨b1,rfl,rfl⟩
     · exact SeqAt.EqAt.int_str _ _ _ _
     · exact SeqAt.EqAt.bool_str _ _ _
   | tup rs =>
     simp only [Tr.In] at h2
     obtain ⟨a,us,rfl,p,_⟩:=h2
     rw [decide_eq_false (by simp)]
     rcases h1 with ⟨t1,rfl⟩ | ⟨b1,rfl,rfl⟩
     · exact SeqAt.EqAt.int_tuple _ _ p (by omega)
     · exact SeqAt.EqAt.bool_tuple _ p (by omega)
   | lst rs=>exact h2.elim
 | .str i,r,A,u,z,h1,h2,hu=>by
   obtain ⟨t1,rfl⟩:=h1
   cases r with
   | non =>
     simp only [Tr.In] at h2
     subst h2
     rw [decide_eq_false (by simp)]
     exact SeqAt.EqAt.str_none _ _
   | int j =>
     rw [decide_eq_false (by simp)]
     rcases h2 with ⟨t2,rfl⟩ | ⟨b2,rfl,rfl⟩
     · exact SeqAt.EqAt.str_int _ _ _ _
     · exact SeqAt.EqAt.str_bool _ _ _
   | str j =>
     obtain ⟨t2,rfl⟩:=h2
     have:=SeqAt.EqAt.str_str (A:=A) (s:=s) i t1 j t2
     rw [show (i == j)=decide (Tr.str i=Tr.str j) from Bool.eq_iff_iff.mpr (by simp)] at this
     exact this
   | tup rs =>
     simp only [Tr.In] at h2
     obtain ⟨a,us,rfl,p,_⟩:=h2
     rw [decide_eq_false (by simp)]
     exact SeqAt.EqAt.str_tuple _ _ p (by omega)
   | lst rs=>exact h2.elim
 | .lst _,r,A,u,z,h1,h2,hu=>h1.elim
 | .tup ts,r,A,u,z,h1,h2,hu=>by
   have h1':=h1
   simp only [Tr.In] at h1
   obtain ⟨a,us,rfl,p1,c1⟩:=h1
   cases r with
   | non =>
     simp only [Tr.In] at h2
     subst h2
     rw [decide_eq_false (by simp)]
     exact SeqAt.EqAt.tuple_none p1 (by omega)
   | int j =>
     rw [decide_eq_false (by simp)]
     rcases h2 with ⟨t2,rfl⟩ | ⟨b2,rfl,rfl⟩
     · exact SeqAt.EqAt.tuple_int _ _ p1 (by omega)
     · exact SeqAt.EqAt.tuple_bool _ p1 (by omega)
   | str j =>
     obtain ⟨t2,rfl⟩:=h2
     rw [decide_eq_false (by simp)]
     exact SeqAt.EqAt.tuple_str _ _ p1 (by omega)
   | lst rs=>exact h2.elim
   | tup rs =>
     have h2':=h2
     simp only [Tr.In] at h2
     obtain ⟨b,vs,rfl,p2,c2⟩:=h2
     by_cases hab:a=b
     · subst hab
       rw [decide_eq_true (h1'.inj h2')]
       exact SeqAt.EqAt.same _
     refine SeqAt.EqAt.of_refs hab ?_
     simp only [Tr.h] at hu
     have l1:=c1.len
     have l2:=c2.len
     simp only [Array.length_toList] at l1 l2
     have:=SeqAt.RcAt.tuples (A:=A) (s:=s) (e:=fun j=>decide (ts.getD j .non=rs.getD j .non)) p1 p2 (by omega) (fun j h1 h2=>by
      have:=Tr.Ins.eqAts (A:=A.in1) c1 c2 (by rw [a72]; omega) j (by simpa using h1) (by simpa using h2)
      simpa using this)
     rw [l1,l2,by7] at this
     rw [show decide (Tr.tup ts=Tr.tup rs)=decide (ts=rs) from Bool.eq_iff_iff.mpr (by simp)]
     exact this
theorem Tr.Ins.eqAts:∀ {ts rs:List Tr}{A:Around}{us zs:List Value},Tr.Ins s.heap ts us→Tr.Ins s.heap rs zs→A.units+Tr.hs ts+Tr.hs rs<cLine →
 ∀ (j:Nat) (h1:j<us.length) (h2:j<zs.length),SeqAt.EqAt A s us[j] zs[j] (decide (ts.getD j .non=rs.getD j .non))
 | [],rs,A,us,zs,c1,c2,hu,j,h1,h2=>by
   simp only [Tr.Ins] at c1
   subst c1
   exact absurd h1 (by simp)
 | t::ts,[],A,us,zs,c1,c2,hu,j,h1,h2=>by
   simp only [Tr.Ins] at c2
   subst c2
   exact absurd h2 (by simp)
 | t::ts,r::rs,A,us,zs,c1,c2,hu,j,h1,h2=>by
   simp only [Tr.Ins] at c1 c2
   obtain ⟨u,us,rfl,a1,b1⟩:=c1
   obtain ⟨z,zs,rfl,a2,b2⟩:=c2
   simp only [Tr.hs] at hu
   cases j with
   | zero =>
     have:=a1.eqAt a2 (A:=A) (by omega)
     simpa using this
   | succ j =>
     have:=b1.eqAts b2 (A:=A) (by omega) j (by simpa using h1) (by simpa using h2)
     simpa using this
end
end
mutual
def Tr.hash (P:Params):Tr→Int
 | .non=>PySem.W.hashW P .none
 | .int z=>PySem.W.hashW P (.int z)
 | .str x=>PySem.W.hashW P (.str x)
 | .tup ts=>reduceHash (Builtin.Tuple.tupleHashOf (Tr.hashes P ts))
 | .lst _=>0
def Tr.hashes (P:Params):List Tr→List Int
 | []=>[]
 | t::ts=>Tr.hash P t::Tr.hashes P ts
end
section
variable {prog:Program}{w:World}{E:Value→Shared→Prop}
mutual
theorem Tr.In.pyHash:∀ {t:Tr}{A:Around}{s:Shared}{u:Value}{Q:Int→Shared→Prop},Tr.In s.heap t u→A.units+t.h<cLine→(∀ n,Q (t.hash w.params) { s with toks:=n })→wpAny (model prog w) A (pyHash u) Q E s
 | .non,A,s,u,Q,e,hu,h=>by
   simp only [Tr.In] at e
   subst e
   exact PySem.W.pyHash_laid .none _ A s Q rfl .none (by simp only [PySem.W.WData.depth]; omega) h
 | .int z,A,s,u,Q,e,hu,h=>by
   rcases e with ⟨t,rfl⟩ | ⟨b,rfl,rfl⟩
   · exact PySem.W.pyHash_laid (.int z) _ A s Q rfl (.int z t) (by simp only [PySem.W.WData.depth]; omega) h
   · refine PySem.W.pyHash_laid (.bool b) _ A s Q rfl (.bool b) (by simp only [PySem.W.WData.depth]; omega) fun tk=>?_
     have:=h tk
     cases b <;> exact this
 | .str z,A,s,u,Q,e,hu,h=>by
   obtain ⟨t,rfl⟩:=e
   exact PySem.W.pyHash_laid (.str z) _ A s Q rfl (.str z t) (by simp only [PySem.W.WData.depth]; omega) h
 | .lst _,A,s,u,Q,e,hu,h=>e.elim
 | .tup ts,A,s,u,Q,e,hu,h=>by
   simp only [Tr.In] at e
   obtain ⟨a,us,rfl,⟨o,p1,p2,n,p3⟩,c⟩:=e
   simp only [Tr.h] at hu
   refine PySem.W.pyHash_slot (T:="tuple") ⟨o,p1,p2⟩ F.slot_tuple_hash F.entry_tuple_hash (F.args_tuple_hash_1 _) (beq_builtin_none _) (.inr (by omega)) ?_
   show wpAny _ A.in1 (Builtin.Tuple.tupleItemsOf (.ref a) >>= _) _ _ s
   refine wpAny_bind (wpAny_tupleItemsOf p1 p3 (wpAny_bind ?_))
   rw [← Array.forIn_toList]
   refine Tr.Ins.pyHashes (b:=#[]) c (by rw [a72]; omega) fun tk b hb=>?_
   have hb':b.toList=Tr.hashes w.params ts:=by simpa using hb
   show wpAny _ A.in1 (retInt (Builtin.Tuple.tupleHashOf b.toList)) _ _ _
   rw [hb']
   exact wpAny_bind (wpAny_mkInt (wpAny_pure ⟨_,_,rfl,h (_)⟩))
theorem Tr.Ins.pyHashes:∀ {ts:List Tr}{A:Around}{s:Shared}{us:List Value}{b:Array Int}{Q:Array Int→Shared→Prop},Tr.Ins s.heap ts us→A.units+Tr.hs ts<cLine →
 (∀ n b',b'.toList=b.toList++Tr.hashes w.params ts→Q b' { s with toks:=n }) →
 wpAny (model prog w) A (forIn us b fun x r=>do let h←pyHash x; pure PUnit.unit; pure (ForInStep.yield (r.push h))) Q E s
 | [],A,s,us,b,Q,e,hu,h=>by
   simp only [Tr.Ins] at e
   subst e
   exact wpAny_pure (h s.toks b (by simp [Tr.hashes]))
 | t::ts,A,s,us,b,Q,e,hu,h=>by
   simp only [Tr.Ins] at e
   obtain ⟨u,us,rfl,a1,b1⟩:=e
   simp only [Tr.hs] at hu
   rw [List.forIn_cons]
   refine wpAny_bind (wpAny_bind (a1.pyHash (by omega) fun tk=>wpAny_bind (wpAny_pure (wpAny_pure ?_))))
   exact b1.pyHashes (s:={ s with toks:=tk }) (by omega) fun n b' hb=>h n b' (by simp [hb,Tr.hashes])
end
end
section
variable {prog:Program}{w:World}{E:Value→Shared→Prop}
mutual
theorem Tr.In.quiet:∀ {t:Tr}{A:Around}{s:Shared}{u:Value}{Q:Bool→Shared→Prop}{n:Nat},Tr.In s.heap t u→t.h≤n→Q true s→wpAny (model prog w) A (eqIsQuiet n u) Q E s
 | .non,A,s,u,Q,n,e,hn,h=>by
   simp only [Tr.In] at e
   subst e
   rw [eqIsQuiet_byValue n (v:=.none) rfl]
   exact wpAny_pure h
 | .int z,A,s,u,Q,n,e,hn,h=>by
   rcases e with ⟨t,rfl⟩ | ⟨b,rfl,rfl⟩
   · rw [eqIsQuiet_byValue n (v:=.int z t) rfl]
     exact wpAny_pure h
   · rw [eqIsQuiet_byValue n (v:=.bool b) rfl]
     exact wpAny_pure h
 | .str z,A,s,u,Q,n,e,hn,h=>by
   obtain ⟨t,rfl⟩:=e
   rw [eqIsQuiet_byValue n (v:=.str z t) rfl]
   exact wpAny_pure h
 | .lst _,A,s,u,Q,n,e,hn,h=>e.elim
 | .tup ts,A,s,u,Q,n,e,hn,h=>by
   simp only [Tr.In] at e
   obtain ⟨a,us,rfl,⟨o,p1,p2,m,p3⟩,c⟩:=e
   simp only [Tr.h] at hn
   obtain ⟨n,rfl⟩:∃ k,n=k+1:=⟨n - 1,by omega⟩
   have hT:s.TypeIs (.ref a) "tuple":=⟨o,p1,p2⟩
   unfold eqIsQuiet
   refine wpAny_bind (wpAny_specialOf hT (F.slot_tuple_eq.lookup) ?_)
   show wpAny _ A (isInstance (.ref a) (.type "tuple") >>= _) _ _ s
   refine wpAny_bind (wpAny_isInstance hT (isSubtype_tuple_tuple) ?_)
   simp only [Bool.false_eq_true,Bool.not_true,if_false]
   refine wpAny_bind (wpAny_seqItems p1 p3 (wpAny_bind ?_))
   show wpAny _ _ (forIn us _ _) _ _ s
   rw [← Array.forIn_toList]
   refine wpAny_forIn_list _ (fun rest r s'=>r.1=none∧s'=s∧∃ ts',Tr.Ins s.heap ts' rest∧∀ t∈ts',∃ k,∃ hk:k<ts.length,t=ts[k]) _ ?_ ?_ _ _ ⟨rfl,rfl,ts,c,fun t ht=>by
    obtain ⟨k,hk,e⟩:=List.mem_iff_getElem.mp ht
    exact ⟨k,hk,e.symm⟩⟩
   · rintro v rest r s' ⟨hr,rfl,ts',c',hm⟩
     cases ts' with
     | nil=>simp [Tr.Ins] at c'
     | cons t ts' =>
       simp only [Tr.Ins] at c'
       obtain ⟨u',r',hh,a1,b1⟩:=c'
       cases hh
       obtain ⟨k,hk,rfl⟩:=hm t List.mem_cons_self
       refine wpAny_bind (Tr.Ins.quietAt (n:=n) c k hk a1 (by omega) ?_)
       simp only [Bool.false_eq_true,Bool.not_true,if_false]
       exact wpAny_pure ⟨rfl,rfl,ts',b1,fun t' ht'=>hm t' (List.mem_cons_of_mem _ ht')⟩
   · rintro ⟨r1,r2⟩ s' ⟨hr,rfl,_⟩
     simp only at hr
     subst hr
     exact wpAny_pure h
theorem Tr.Ins.quietAt:∀ {ts:List Tr}{A:Around}{s:Shared}{us:List Value}{u:Value}{Q:Bool→Shared→Prop}{n:Nat},Tr.Ins s.heap ts us→∀ (k:Nat) (hk:k<ts.length),Tr.In s.heap ts[k] u→Tr.hs ts≤n→Q true s →
 wpAny (model prog w) A (eqIsQuiet n u) Q E s
 | [],A,s,us,u,Q,n,e,k,hk,a1,hn,h=>absurd hk (Nat.not_lt_zero _)
 | t::ts,A,s,us,u,Q,n,e,k,hk,a1,hn,h=>by
   simp only [Tr.Ins] at e
   obtain ⟨u',us,rfl,a2,b2⟩:=e
   simp only [Tr.hs] at hn
   cases k with
   | zero=>exact Tr.In.quiet (t:=t) a1 (by omega) h
   | succ k=>exact Tr.Ins.quietAt b2 k (by simpa using hk) a1 (by omega) h
end
end
structure Ents (P:Params) (h:Heap) (es:Array DictEntry) (ts:List Tr):Prop where
 len:es.size=ts.length
 at_:∀ (j:Nat) (e:DictEntry),es[j]?=some e→∃ t:Tr,ts[j]?=some t∧e.hash=t.hash P∧Tr.In h t e.key∧t.h≤8
 nd:ts.Nodup
theorem Ents.of {P:Params}{h:Heap}{es:Array DictEntry}{ts:List Tr}(x:Ents P h es ts) {j:Nat}{t:Tr}(e:ts[j]?=some t):∃ en,es[j]?=some en∧en.hash=t.hash P∧Tr.In h t en.key∧t.h≤8:=by
 have hj:j<es.size:=by rw [x.len]; exact (List.getElem?_eq_some_iff.mp e).1
 obtain ⟨t',e',h2⟩:=x.at_ j es[j] (Array.getElem?_eq_getElem hj)
 rw [e] at e'
 cases e'
 exact ⟨_,Array.getElem?_eq_getElem hj,h2⟩
theorem Ents.one {P:Params}{h:Heap}{es:Array DictEntry}{ts:List Tr}(x:Ents P h es ts) {i j:Nat}{t:Tr}(e:ts[i]?=some t) (f:ts[j]?=some t):i=j:=by
 obtain ⟨h1,e⟩:=List.getElem?_eq_some_iff.mp e
 obtain ⟨h2,f⟩:=List.getElem?_eq_some_iff.mp f
 have pw:=List.pairwise_iff_getElem.mp x.nd
 rcases Nat.lt_trichotomy i j with h | h | h
 · exact absurd (e.trans f.symm) (pw i j h1 h2 h)
 · exact h
 · exact absurd (f.trans e.symm) (pw j i h2 h1 h)
section
variable {prog:Program}{w:World}{E:Value→Shared→Prop}{A:Around}{s:Shared}{d:Addr}{o:Obj}{es:Array DictEntry}{ep:Nat}{ts:List Tr}{t:Tr}{u:Value}
theorem mem_places {f:Nat→Option Int}{n i:Nat}{h:Int}:i∈placesWithHash n f h↔i<n∧f i=some h:=by simp [placesWithHash,List.mem_filter]
theorem b94 {f:Nat→Option Int}{n:Nat}{h:Int}:(placesWithHash n f h).Nodup:=List.Pairwise.filter _ List.nodup_range
theorem av1 {Q:Option Nat→Shared→Prop}(ho:s.heap.get? d=some o) (hd:o.data=.dict es ep) (x:Ents w.params s.heap es ts) (hk:Tr.In s.heap t u) (h8:t.h≤8) (hu:A.units+16<cLine)
 (hnone:(∀ j:Nat,ts[j]?≠some t)→Q none s) (hsome:∀ j:Nat,ts[j]?=some t→Q (some j) s):wpAny (model prog w) A (dictFind d u (t.hash w.params)) Q E s:=by
 have hin:∀ j:Nat,ts[j]?=some t→j∈placesWithHash es.size (fun i=>es[i]?.map (·.hash)) (t.hash w.params):=fun j hj=>by
  obtain ⟨en,e1,e2,_⟩:=x.of hj
  exact mem_places.mpr ⟨(Array.getElem?_eq_some_iff.mp e1).1,by rw [e1]; exact congrArg some e2⟩
 have hex:∀ i∈placesWithHash es.size (fun i=>es[i]?.map (·.hash)) (t.hash w.params),∃ en t',es[i]?=some en∧ts[i]?=some t'∧en.hash=t.hash w.params∧Tr.In s.heap t' en.key∧t'.h≤8:=fun i hi=>by
  obtain ⟨hi,h2⟩:=mem_places.mp hi
  have e1:=Array.getElem?_eq_getElem hi
  obtain ⟨t',e2,e3,e4,e5⟩:=x.at_ i _ e1
  rw [e1] at h2
  exact ⟨_,t',e1,e2,Option.some.inj h2,e4,e5⟩
 have hnd:(placesWithHash es.size (fun i=>es[i]?.map (·.hash)) (t.hash w.params)).Nodup:=b94
 generalize hP:placesWithHash es.size (fun i=>es[i]?.map (·.hash)) (t.hash w.params)=ps at hin hex hnd
 have eqa:∀ {t':Tr}{z:Value},Tr.In s.heap t' z→t'.h≤8→SeqAt.EqAt A s z u (decide (t'=t)):=fun a b=>a.eqAt hk (by omega)
 have plain:wpAny (model prog w) A (dictWalkPlain d u (t.hash w.params) es ps) Q E s:=by
  unfold dictWalkPlain
  refine wpAny_bind ?_
  refine wpAny_forIn_list _ (fun rest b s'=>s'=s∧b=(none,())∧(∀ i∈rest,i∈ps)∧∀ j:Nat,ts[j]?=some t→j∈rest) _ ?_ ?_ _ _ ⟨rfl,rfl,fun _ z=>z,hin⟩
  · rintro i rest b s' ⟨rfl,rfl,hr,hj⟩
    obtain ⟨en,t',e1,e2,e3,e4,e5⟩:=hex i (hr i List.mem_cons_self)
    rw [e1]
    dsimp only
    rw [if_pos (by rw [e3]; exact beq_self_eq_true _)]
    refine wpAny_bind (wpAny_dictEpoch ho hd (wpAny_bind (eqa e4 e5 _ _ _ _ (wpAny_bind (wpAny_dictEpoch ho hd ?_)))))
    show wpAny _ A (if (ep != ep)=true then _ else _) _ E _
    rw [if_neg (by simp)]
    by_cases hkk:t'=t
    · subst hkk
      rw [decide_eq_true rfl]
      exact wpAny_bind (wpAny_rule (wpAny_pure (wpAny_pure (hsome i e2))))
    · rw [decide_eq_false hkk]
      refine wpAny_bind (wpAny_rule (wpAny_pure ⟨rfl,rfl,fun i hi=>hr i (List.mem_cons_of_mem _ hi),fun j h2=>?_⟩))
      rcases List.mem_cons.mp (hj j h2) with rfl | h3
      · rw [e2] at h2
        exact absurd (Option.some.inj h2) hkk
      · exact h3
  · rintro b s' ⟨rfl,rfl,_,hj⟩
    exact wpAny_pure (hnone fun j h2=>absurd (hj j h2) (by simp))
 have hany:∀ a,u=.ref a→¬ (es.any fun e=>e.key == u && e.hash != t.hash w.params)=true:=by
  rintro a rfl
  rw [← Array.any_toList,List.any_eq_true]
  rintro ⟨e,hin',hc⟩
  obtain ⟨j,hj,rfl⟩:=Array.mem_iff_getElem.mp (Array.mem_toList_iff.mp hin')
  obtain ⟨t',_,f2,f3,_⟩:=x.at_ j _ (Array.getElem?_eq_getElem hj)
  simp only [Bool.and_eq_true,beq_iff_eq,bne_iff_ne,ne_eq] at hc
  rw [hc.1] at f3
  exact hc.2 (by rw [f2,f3.inj hk])
 have hst:∀ v∈ps.filterMap (fun i=>es[i]?.map (·.key)),∃ t',Tr.In s.heap t' v∧t'.h≤8:=by
  intro v hv
  obtain ⟨i,hi,hv⟩:=List.mem_filterMap.mp hv
  obtain ⟨en,t',e1,_,_,e4,e5⟩:=hex i hi
  rw [e1] at hv
  cases hv
  exact ⟨t',e4,e5⟩
 have tell:∀ {Q:Bool→Shared→Prop},Q false s→wpAny (model prog w) A (tableMayTell u (ps.filterMap fun i=>es[i]?.map (·.key))) Q E s:=by
  intro Q q
  unfold tableMayTell
  split
  · exact wpAny_pure q
  · refine wpAny_bind (hk.quiet h8 ?_)
    simp only [Bool.false_eq_true,Bool.not_true,if_false]
    refine wpAny_bind (wpAny_forIn_list _ (fun rest r s'=>s'=s∧r=(none,())∧∀ v∈rest,∃ t',Tr.In s.heap t' v∧t'.h≤8) _ ?_ ?_ _ _ ⟨rfl,rfl,hst⟩)
    · rintro v rest r s' ⟨rfl,rfl,hr⟩
      obtain ⟨t',b1,b2⟩:=hr v List.mem_cons_self
      refine wpAny_bind (b1.quiet b2 ?_)
      simp only [Bool.false_eq_true,Bool.not_true,if_false]
      exact wpAny_pure ⟨rfl,rfl,fun z hz=>hr z (List.mem_cons_of_mem _ hz)⟩
    · rintro r s' ⟨rfl,rfl,_⟩
      exact wpAny_pure q
 unfold dictFind
 try (with_reducible refine wpAny_holding ?_)
 refine wpAny_bind (wpAny_dictEntries ho (hd) ?_)
 extract_lets places st hit0 jp3 jp2 jp1
 have hpl:places=ps:=hP
 have hS:ps.filterMap (fun i=>es[i]?.map (·.key))=st:=by rw [← hpl]
 rw [hS] at tell
 clear hst
 have h3:wpAny (model prog w) A (jp3 false) Q E s:=by
  dsimp only [jp3]
  rw [if_neg (by simp),hpl]
  refine wpAny_bind (wpAny_forIn_list _ (fun rest b s'=>s'=s∧rest.Nodup∧∃ hit:Option Nat,b=(none,hit)∧(∀ i∈rest,i∈ps) ∧
   ((hit=none∧∀ j:Nat,ts[j]?=some t→j∈rest)∨∃ j:Nat,hit=some j∧ts[j]?=some t∧j∉rest)) _ ?_ ?_ _ _ ⟨rfl,hnd,none,rfl,fun _ z=>z,.inl ⟨rfl,hin⟩⟩)
  · rintro i rest b s' ⟨rfl,hnd',hit,rfl,hr,hH⟩
    have hni:i∉rest:=(List.nodup_cons.mp hnd').1
    have hnr:rest.Nodup:=(List.nodup_cons.mp hnd').2
    have hr':∀ j∈rest,j∈ps:=fun j hj=>hr j (List.mem_cons_of_mem _ hj)
    obtain ⟨en,t',e1,e2,e3,e4,e5⟩:=hex i (hr i List.mem_cons_self)
    rw [e1]
    dsimp only
    rw [if_pos (by rw [e3]; exact beq_self_eq_true _)]
    refine wpAny_bind (wpAny_dictEpoch ho hd (wpAny_bind (eqa e4 e5 _ _ _ _ (wpAny_bind (wpAny_dictEpoch ho hd ?_)))))
    show wpAny _ A (if (ep != ep)=true then _ else _) _ E _
    rw [if_neg (by simp)]
    by_cases hkk:t'=t
    · subst hkk
      rw [decide_eq_true rfl]
      rcases hH with ⟨rfl,hj⟩ | ⟨j,rfl,hj,hjr⟩
      · rw [if_pos rfl]
        simp only [Bool.false_eq_true,Option.isSome_none,if_false]
        refine wpAny_bind ((wpAny_rule) ?_)
        split
        · exact wpAny_pure (wpAny_pure (hsome i e2))
        · exact wpAny_pure ⟨rfl,hnr,some i,rfl,hr',.inr ⟨i,rfl,e2,hni⟩⟩
      · exact absurd (x.one e2 hj ▸ List.mem_cons_self) hjr
    · rw [decide_eq_false hkk]
      rw [if_neg (by simp)]
      refine wpAny_bind ((wpAny_rule) ?_)
      rw [if_neg (by simp)]
      refine wpAny_pure ⟨rfl,hnr,hit,rfl,hr',?_⟩
      rcases hH with ⟨rfl,hj⟩ | ⟨j,rfl,hj,hjr⟩
      · refine .inl ⟨rfl,fun j h2=>?_⟩
        rcases List.mem_cons.mp (hj j h2) with rfl | h3
        · rw [e2] at h2
          exact absurd (Option.some.inj h2) hkk
        · exact h3
      · exact .inr ⟨j,rfl,hj,fun z=>hjr (List.mem_cons_of_mem _ z)⟩
  · rintro b s' ⟨rfl,_,hit,rfl,_,hH⟩
    rcases hH with ⟨rfl,hj⟩ | ⟨j,rfl,hj,_⟩
    · exact wpAny_pure (hnone fun j h2=>absurd (hj j h2) (by simp))
    · exact wpAny_pure (hsome j hj)
 clear_value jp3
 have h2:wpAny (model prog w) A (jp2 ()) Q E s:=by
  dsimp only [jp2]
  by_cases hone:(st == [u])=true
  · rw [if_pos hone]
    exact wpAny_bind (wpAny_pure h3)
  · rw [if_neg hone]
    exact wpAny_bind (tell h3)
 clear_value jp2
 have h1:wpAny (model prog w) A (jp1 ()) Q E s:=by
  dsimp only [jp1]
  by_cases hall:(u::st).all carriedByValue=true
  · rw [if_pos hall,hpl]
    exact plain
  rw [if_neg hall]
  split
  · rename_i a
    rw [if_neg (hany a rfl)]
    exact h2
  · exact h2
 clear_value jp1
 split
 · rename_i y tk
   by_cases hx:(es.all fun e=>isExactStrKey e.key)=true
   · rw [if_pos hx]
     have ht:t=.str y:=hk.inj (r:=.str y) ⟨tk,rfl⟩
     subst ht
     have hstr:∀ (j:Nat) (hj:j<es.size),es[j].key.isStr y=decide (ts[j]?=some (.str y)):=fun j hj=>by
      obtain ⟨t',f1,f2,f3,_⟩:=x.at_ j _ (Array.getElem?_eq_getElem hj)
      have hx':=Array.all_eq_true.mp hx j hj
      rw [f1]
      cases hq:es[j].key with
      | str z tz =>
        rw [hq] at f3
        obtain rfl:t'=.str z:=f3.inj (r:=.str z) ⟨tz,rfl⟩
        show (z == y)=_
        exact Bool.eq_iff_iff.mpr (by simp)
      | _=>rw [hq] at hx'; cases hx'
     unfold foundByValue
     cases hf:es.findIdx? (fun e=>e.key.isStr y) with
     | none =>
       refine wpAny_pure (hnone fun j hj=>?_)
       obtain ⟨en,g1,_⟩:=x.of hj
       obtain ⟨hl,_⟩:=Array.getElem?_eq_some_iff.mp g1
       have:=Array.findIdx?_eq_none_iff.mp hf es[j] (Array.getElem_mem hl)
       rw [hstr j hl,decide_eq_true hj] at this
       cases this
     | some i =>
       obtain ⟨hlt,hi,_⟩:=Array.findIdx?_eq_some_iff_getElem.mp hf
       rw [hstr i hlt] at hi
       have hi:=of_decide_eq_true hi
       obtain ⟨t',f1,f2,f3,f4⟩:=x.at_ i _ (Array.getElem?_eq_getElem hlt)
       rw [hi] at f1
       cases f1
       simp only [Array.getElem?_eq_getElem hlt]
       refine wpAny_bind (wpAny_dictEpoch ho hd (wpAny_bind (eqa f3 f4 _ _ _ _ (wpAny_bind (wpAny_dictEpoch ho hd ?_)))))
       show wpAny _ A (if (ep != ep)=true then _ else _) _ E _
       rw [if_neg (by simp),decide_eq_true rfl]
       exact wpAny_bind (wpAny_rule (wpAny_pure (hsome i hi)))
   · rw [if_neg hx]
     exact h1
 · exact h1
end
structure DtR (P:Params) (m:List (Tr×V×V)) (es:Array DictEntry):Prop where
 len:es.size=m.length
 at_:∀ (j:Nat) (x:Tr×V×V),m[j]?=some x→∃ e,es[j]?=some e∧e.hash=x.1.hash P∧RelV x.2.1 e.key∧RelV x.2.2 e.val
def DtP (P:Params) (a:Addr) (m:List (Tr×V×V)):Heap→Prop:=fun h=>m.length≤sizeLine∧(a == sysModules)=false∧∃ o es ep,h.get? a=some o∧o.ExactDict∧o.data=.dict es ep∧DtR P m es
abbrev DtO (P:Params) (a:Addr) (m:List (Tr×V×V)):HO:=.ext (DtP P a m)
theorem DtP.one {P:Params}{a:Addr}{m:List (Tr×V×V)}(h1 h2:Heap) (x:DtP P a m h1) (k:∀ o,h1.get? a=some o→h2.get? a=some o):DtP P a m h2:=by
 obtain ⟨z,y,o,es,ep,e,r⟩:=x
 exact ⟨z,y,o,es,ep,k _ e,r⟩
theorem b95 {Pr:Program}{w:World}{H:Hp}{h:Heap}{P:Params}{a:Addr}{m:List (Tr×V×V)}(x:DtP P a m h):ObjOk Pr w H h a (DtO P a m):=by
 refine ⟨x,?_,DtP.one⟩
 obtain ⟨_,_,o,_,_,e,_⟩:=x
 exact ⟨o,e⟩
def DtE (P:Params) (H:Hp) (a:Addr) (m:List (Tr×V×V)):Prop:=∃ φ,H a=some (.ext φ)∧∀ h,φ h→DtP P a m h
theorem DtE.of {P:Params}{H:Hp}{a:Addr}{m:List (Tr×V×V)}(h:H a=some (DtO P a m)):DtE P H a m:=⟨_,h,fun _ x=>x⟩
theorem DtE.mut {P:Params}{H:Hp}{a:Addr}{m:List (Tr×V×V)}(h:DtE P H a m):Mut (H a):=by
 obtain ⟨φ,e,_⟩:=h
 rw [e]
 exact True.intro
def DtAt (P:Params) (H:Hp) (a:Addr) (kvs:List (Tr×V)):Prop:=∃ m:List (Tr×V×V),m.map (fun x=>(x.1,x.2.2))=kvs∧DtE P H a m∧(∀ x∈m,x.1.At H x.2.1 []∧x.1.h≤8)∧(m.map (·.1)).Nodup
noncomputable def putM (m:List (Tr×V×V)) (t:Tr) (y v:V):List (Tr×V×V):=if t∈m.map (·.1) then m.map (fun x=>if x.1=t then (x.1,x.2.1,v) else x) else m++[(t,y,v)]
theorem bg0 (m:List (Tr×V×V)) (t:Tr) (y v:V):(putM m t y v).map (fun x=>(x.1,x.2.2))=putK (m.map fun x=>(x.1,x.2.2)) t v:=by
 have hany:((m.map fun x=>(x.1,x.2.2)).any fun kv=>decide (kv.1=t))=decide (t∈m.map (·.1)):=by
  rw [Bool.eq_iff_iff,List.any_eq_true,decide_eq_true_iff,List.mem_map]
  constructor
  · rintro ⟨p,hp,e⟩
    obtain ⟨x,hx,rfl⟩:=List.mem_map.mp hp
    exact ⟨x,hx,of_decide_eq_true e⟩
  · rintro ⟨x,hx,e⟩
    exact ⟨_,List.mem_map_of_mem hx,decide_eq_true e⟩
 unfold putM putK
 rw [hany]
 by_cases h:t∈m.map (·.1)
 · rw [if_pos h,if_pos (decide_eq_true h),List.map_map,List.map_map]
   refine List.map_congr_left fun x _=>?_
   simp only [Function.comp]
   split <;> rfl
 · rw [if_neg h,if_neg (by rw [decide_eq_false h]; exact Bool.false_ne_true),List.map_append]
   rfl
theorem bo0 {m:List (Tr×V×V)}(t:Tr) (y v:V) (h:(m.map (·.1)).Nodup):((putM m t y v).map (·.1)).Nodup:=by
 unfold putM
 by_cases ht:t∈m.map (·.1)
 · rw [if_pos ht,List.map_map]
   rw [show m.map ((·.1)∘fun x=>if x.1=t then (x.1,x.2.1,v) else x)=m.map (·.1) from List.map_congr_left fun x _=>by simp only [Function.comp]; split <;> rfl]
   exact h
 · rw [if_neg ht,List.map_append]
   exact aa6 h ht
theorem bg1 {m:List (Tr×V×V)}{t:Tr}{y v:V}{p:Tr→V→Prop}(h:∀ x∈m,p x.1 x.2.1) (hy:p t y):∀ x∈putM m t y v,p x.1 x.2.1:=by
 intro x hx
 unfold putM at hx
 by_cases ht:t∈m.map (·.1)
 · rw [if_pos ht] at hx
   obtain ⟨z,hz,rfl⟩:=List.mem_map.mp hx
   split <;> exact h z hz
 · rw [if_neg ht] at hx
   rcases List.mem_append.mp hx with hx | hx
   · exact h x hx
   · rw [List.mem_singleton.mp hx]; exact hy
theorem aj5 {P:Params}{H H':Hp}{a:Addr}{kvs:List (Tr×V)}(x:DtAt P H a kvs) (s:Same H H'):DtAt P H' a kvs:=by
 obtain ⟨m,e1,⟨φ,e2,hφ⟩,e3,e4⟩:=x
 exact ⟨m,e1,⟨φ,s _ _ e2,hφ⟩,fun x hx=>⟨(e3 x hx).1.mono (s.keep _),(e3 x hx).2⟩,e4⟩
def TK (H:Hp) (t:Tr) (y:V):Prop:=t.At H y []∧t.h≤8
theorem ai6 {m:List (Tr×V×V)}(hn:(m.map (·.1)).Nodup) {j:Nat}{x:Tr×V×V}(e:m[j]?=some x):valV (m.map fun x=>(x.1,x.2.2)) x.1=some x.2.2:=by
 induction m generalizing j with
 | nil=>simp at e
 | cons z m ih =>
   rw [List.map_cons,List.nodup_cons] at hn
   cases j with
   | zero =>
     obtain rfl:z=x:=by simpa using e
     exact ad8 rfl
   | succ j =>
     have e':m[j]?=some x:=by simpa using e
     rw [List.map_cons,ad9 (fun q=>hn.1 (by
      show z.1∈_
      rw [show z.1=x.1 from q]
      exact List.mem_map_of_mem (List.mem_of_getElem? e')))]
     exact ih hn.2 e'
theorem aj6 {m:List (Tr×V×V)}{t:Tr}(h:∀ j:Nat,(m.map (·.1))[j]?≠some t):valV (m.map fun x=>(x.1,x.2.2)) t=none∧t∉m.map (·.1):=by
 have hn:t∉m.map (·.1):=fun z=>by
  obtain ⟨j,hj,e⟩:=List.mem_iff_getElem.mp z
  exact h j (by rw [List.getElem?_eq_getElem hj,e])
 refine ⟨?_,hn⟩
 unfold valV
 rw [List.find?_eq_none.mpr]
 · rfl
 · intro p hp
   obtain ⟨x,hx,rfl⟩:=List.mem_map.mp hp
   simp only [decide_eq_true_iff]
   exact fun z=>hn (z ▸ List.mem_map_of_mem hx)
section
variable {X:Cx}{pins:List (Addr×Obj)}{σ:St} {H:Hp}{s:Shared}{a:Addr}{t:Tr}{y v:V}{u r:Value}{A:Around}{E:Value→Shared→Prop}{kvs:List (Tr×V)}{m:List (Tr×V×V)}
theorem av2 (I:Inv X pins σ H s) (e2:DtE X.w.params H a m) (e3:∀ x∈m,x.1.At H x.2.1 []∧x.1.h≤8) (e4:(m.map (·.1)).Nodup) :
 ∃ o es ep,s.heap.get? a=some o∧o.ExactDict∧o.data=.dict es ep∧DtR X.w.params m es∧Ents X.w.params s.heap es (m.map (·.1))∧m.length≤sizeLine∧(a == sysModules)=false:=by
 obtain ⟨φ,e2,hφ⟩:=e2
 obtain ⟨z1,z2,o,es,ep,q1,q2,q3,q4⟩:=hφ _ (I.hok a _ e2).1
 refine ⟨o,es,ep,q1,q2,q3,q4,⟨by rw [q4.len,List.length_map],fun j e he=>?_,e4⟩,z1,z2⟩
 have hj:j<m.length:=by rw [← q4.len]; exact (Array.getElem?_eq_some_iff.mp he).1
 obtain ⟨e',f1,f2,f3,f4⟩:=q4.at_ j m[j] (List.getElem?_eq_getElem hj)
 rw [he] at f1
 cases f1
 have:=e3 m[j] (List.getElem_mem hj)
 exact ⟨m[j].1,by rw [List.getElem?_map,List.getElem?_eq_getElem hj]; rfl,f2,this.1.isIn I f3,this.2⟩
theorem ay5 {P:Params}{es:Array DictEntry}{e:DictEntry}(x:DtR P m es) (h1:e.hash=t.hash P) (h2:RelV y e.key) (h3:RelV v e.val):DtR P (m++[(t,y,v)]) (es.push e):=by
 refine ⟨by simp [x.len],fun j z hz=>?_⟩
 by_cases hj:j<m.length
 · rw [List.getElem?_append_left hj] at hz
   obtain ⟨e',f1,f2⟩:=x.at_ j z hz
   exact ⟨e',by rw [Array.getElem?_push,if_neg (by rw [x.len]; omega)]; exact f1,f2⟩
 · rw [List.getElem?_append_right (by omega)] at hz
   have hj2:j - m.length=0:=by
    refine Nat.eq_zero_of_not_pos fun z=>?_
    rw [List.getElem?_eq_none (by simp; omega)] at hz
    cases hz
   rw [hj2] at hz
   cases hz
   exact ⟨e,by rw [Array.getElem?_push,if_pos (by rw [x.len]; omega)],h1,h2,h3⟩
end
def RawD (h:Heap) (d:Addr) (es:Array DictEntry) (ep:Nat):Prop:=∃ o,h.get? d=some o∧o.ExactDict∧o.data=.dict es ep
theorem RawD.ty {s:Shared}{d:Addr}{es:Array DictEntry}{ep:Nat}(x:RawD s.heap d es ep):s.TypeIs (.ref d) "dict":=let ⟨o,e,c,_⟩:=x; ⟨o,e,c.1⟩
theorem RawD.keep {h h':Heap}{d:Addr}{es:Array DictEntry}{ep:Nat}(x:RawD h d es ep) (k:∀ o,h.get? d=some o→h'.get? d=some o):RawD h' d es ep:=let ⟨o,e,r⟩:=x; ⟨o,k o e,r⟩
theorem RawD.lt {h:Heap}{d:Addr}{es:Array DictEntry}{ep:Nat}(x:RawD h d es ep):d<h.objs.size:=let ⟨_,e,_⟩:=x; Heap.lt_size e
section
variable {prog:Program}{w:World}{A:Around}{E:Value→Shared→Prop}{s:Shared}{d it:Addr}{es:Array DictEntry}{ep i:Nat}
theorem bg2 {Q:Value→Shared→Prop}(lo:(d == sysModules)=false) (x:RawD s.heap d es ep)
 (q:Q (.ref s.heap.objs.size) { s with heap:=s.heap.push { cls:=.type "dict_keyiterator",data:=.fields #[.ref d,.int 0 0,.int es.size 0,.int ep 0] } }):wpAny (model prog w) A (pyIter (.ref d)) Q E s:=by
 have T:=x.ty
 obtain ⟨o,e1,e2,e3⟩:=x
 refine wpAny_pyIter_slot T F.slot_dict_iter (wpAny_call_entry F.slot_dict_iter T F.entry_dict_iter ?_ (F.args_dict_iter_1 _))
 unfold Builtin.«dict.__iter__»
 refine wpAny_bind ?_
 unfold Builtin.Dict.dictSlotNone
 refine wpAny_bind (wpAny_notOrdered_dict T ?_)
 refine (show wpAny _ _ (pure (Value.ref d)) _ _ s from wpAny_pure ?_)
 show wpAny _ A.in1 (Builtin.Dict.showsAll d >>= _) _ _ s
 unfold Builtin.Dict.showsAll
 rw [if_neg (by rw [lo]; simp)]
 refine wpAny_bind ((wpAny_pure) (wpAny_bind (wpAny_dictEntries e1 e3 (wpAny_bind (wpAny_dictEpoch e1 e3 (wpAny_bind (wpAny_newObj_type (wpAny_pure ⟨_,rfl,"dict_keyiterator",_,⟨_,Heap.get?_push_size _ rfl,rfl⟩,F.slot_dict_keyiterator_next.lookup,?_⟩))))))))
 simpa [rawInt] using q
theorem bg3 {Q:Option Value→Shared→Prop}{e:DictEntry}(hit:s.heap.IsKeyIter it d i es.size ep) (x:RawD s.heap d es ep) (he:es[i]?=some e)
 (q:∀ h',h'.IsKeyIter it d (i+1) es.size ep→Heap.SameBut it s.heap h'→Q (some e.key) { s with heap:=h' }):wpAny (model prog w) A (pyNext (.ref it)) Q E s:=by
 have T:=hit.typeIs
 obtain ⟨o,ho,hc,hd⟩:=id hit
 obtain ⟨od,g1,g2,g3⟩:=x
 have hlt:i<es.size:=(Array.getElem?_eq_some_iff.mp he).1
 unfold pyNext
 refine wpAny_bind (wpAny_attempt (wpAny_callSpecial?_slot (name:=Str.ofString "__next__") T F.slot_dict_keyiterator_next (wpAny_call_entry F.slot_dict_keyiterator_next T F.entry_dict_keyiterator_next ?_ (F.args_dict_keyiterator_next_1 _))))
 refine wpAny_bind ((wpAny_pure) (wpAny_bind (wpAny_bind ?_)))
 first | refine wpAny_bind (wpAny_typeNameOfWhole_keyiter T (wpAny_pure ?_)) | refine wpAny_bind (wpAny_typeNameOf_keyiter T (wpAny_pure ?_))
 refine wpAny_bind (wpAny_fieldsOf ho (hd) ?_)
 simp only [show Builtin.Dict_items.ownsTuple "dict_keyiterator"=false by decide,Bool.false_eq_true,if_false]
 show wpAny _ A.in1 (if (Value.ref d == Value.none)=true then _ else _) _ _ s
 rw [if_neg (fun z:(Value.ref d == Value.none)=true=>Bool.false_ne_true z)]
 refine wpAny_bind ((wpAny_pure) (wpAny_bind (wpAny_dictEntries g1 g3 ?_)))
 rw [if_neg (by simp)]
 refine wpAny_bind ((wpAny_pure) (wpAny_bind (wpAny_dictEpoch g1 g3 ?_)))
 rw [if_neg (by simp)]
 refine wpAny_pure ?_
 simp only [show ¬ ((i:Int)<0) by omega,if_false,Int.toNat_natCast,he]
 refine wpAny_bind ?_
 first | refine wpAny_bind (wpAny_typeNameOfWhole_keyiter T (wpAny_pure ?_)) | refine wpAny_bind (wpAny_typeNameOf_keyiter T (wpAny_pure ?_))
 refine wpAny_bind (wpAny_isOneOf_keyiter T ?_)
 show wpAny _ A.in1 (setField (.ref it) 1 (rawInt ((i:Int)+1)) >>= _) _ _ s
 refine wpAny_bind (wpAny_setField ho (hd) (by simp) ?_)
 have hit2:(s.heap.update it (Obj.mapFields (·.setIfInBounds 1 (rawInt ((i:Int)+1))))).IsKeyIter it d (i+1) es.size ep :=
  ⟨_,Heap.get?_update_self _ ho (Obj.isFreed_of_fields (Obj.data_mapFields hd _)),(Obj.cls_mapFields ..).trans hc,by rw [Obj.data_mapFields hd]; simp [rawInt]⟩
 refine wpAny_bind (wpAny_holding (wpAny_bind (wpAny_isOneOf_keyiter (s:={ s with heap:=s.heap.update it (Obj.mapFields (·.setIfInBounds 1 (rawInt ((i:Int)+1)))) }) hit2.typeIs ?_)))
 show wpAny _ A.in1 (pure e.key) _ _ _
 exact wpAny_pure (wpAny_pure ⟨_,rfl,wpAny_pure (q _ hit2 (Heap.SameBut.update ..))⟩)
theorem bo1 {Q:Option Value→Shared→Prop}(hh:A.handled=none) (hit:s.heap.IsKeyIter it d i es.size ep) (x:RawD s.heap d es ep) (he:es.size≤i)
 (q:∀ h',Heap.ExtBut it s.heap h'→Q none { s with heap:=h' }):wpAny (model prog w) A (pyNext (.ref it)) Q E s:=by
 have T:=hit.typeIs
 obtain ⟨o,ho,hc,hd⟩:=id hit
 obtain ⟨od,g1,g2,g3⟩:=x
 unfold pyNext
 refine wpAny_bind (wpAny_attempt (wpAny_callSpecial?_slot (name:=Str.ofString "__next__") T F.slot_dict_keyiterator_next (wpAny_call_entry F.slot_dict_keyiterator_next T F.entry_dict_keyiterator_next ?_ (F.args_dict_keyiterator_next_1 _))))
 refine wpAny_bind ((wpAny_pure) (wpAny_bind (wpAny_bind ?_)))
 first | refine wpAny_bind (wpAny_typeNameOfWhole_keyiter T (wpAny_pure ?_)) | refine wpAny_bind (wpAny_typeNameOf_keyiter T (wpAny_pure ?_))
 refine wpAny_bind (wpAny_fieldsOf ho (hd) ?_)
 simp only [show Builtin.Dict_items.ownsTuple "dict_keyiterator"=false by decide,Bool.false_eq_true,if_false]
 show wpAny _ A.in1 (if (Value.ref d == Value.none)=true then _ else _) _ _ s
 rw [if_neg (fun z:(Value.ref d == Value.none)=true=>Bool.false_ne_true z)]
 refine wpAny_bind ((wpAny_pure) (wpAny_bind (wpAny_dictEntries g1 g3 ?_)))
 rw [if_neg (by simp)]
 refine wpAny_bind ((wpAny_pure) (wpAny_bind (wpAny_dictEpoch g1 g3 ?_)))
 rw [if_neg (by simp)]
 refine wpAny_pure ?_
 simp only [show ¬ ((i:Int)<0) by omega,if_false,Int.toNat_natCast,Array.getElem?_eq_none he]
 refine wpAny_bind ?_
 first | refine wpAny_bind (wpAny_typeNameOfWhole_keyiter T (wpAny_pure ?_)) | refine wpAny_bind (wpAny_typeNameOf_keyiter T (wpAny_pure ?_))
 show wpAny _ A.in1 (setField (.ref it) 0 .none >>= _) _ _ s
 refine wpAny_bind (wpAny_setField ho (hd) (by simp) ?_)
 show wpAny _ A.in1 (newExc (.type "StopIteration") [] >>= _) _ _ _
 refine wpAny_bind ?_
 simp only [newExc,newTuple]
 refine wpAny_bind (wpAny_newObj_type ?_ (by size_fits))
 refine wpAny_bind (m:=firstArgMember _ _) (wpAny_of_eq (a:=Value.none) (by first | rfl | (simp only [firstArgMember]; rfl)) (wpAny_newObj_type ?_ (by size_fits)))
 simp only [raiseNew]
 refine wpAny_bind (wpAny_handled ?_)
 rw [show A.in1.handled=none from hh]
 refine wpAny_bind ((wpAny_pure) ((wpAny_throw) ?_))
 refine wpAny_bind (wpAny_isInstance (b:=true) (T:="StopIteration") ⟨_,Heap.get?_push_size _ rfl,rfl⟩ isSubtype_stop ?_)
 exact wpAny_pure (q _ (((Heap.SameBut.update ..).extBut.push _).push _))
end
theorem av3:∀ {xs:List V}{us:List Value},xs.length=us.length→(∀ (j:Nat) x u,xs[j]?=some x→us[j]?=some u→RelV x u)→Vals xs us
 | [],[],_,_=>.nil
 | x::xs,u::us,hl,h=>.cons (h 0 x u rfl rfl) (av3 (by simpa using hl) fun j y z hy hz=>h (j+1) y z (by simpa using hy) (by simpa using hz))
 | [],_::_,hl,_=>by simp at hl
 | _::_,[],hl,_=>by simp at hl
section
variable {X:Cx}{pins:List (Addr×Obj)}{σ:St} {H:Hp}{s:Shared}{a:Addr}{t:Tr}{y v z:V}{u r:Value}{A:Around}{E:Value→Shared→Prop}{kvs:List (Tr×V)}{m:List (Tr×V×V)}
theorem b96 (I:Inv X pins σ H s) (g:DtAt X.w.params H a kvs):∃ es ep,RawD s.heap a es ep∧(a == sysModules)=false∧es.size=kvs.length∧kvs.length≤sizeLine:=by
 obtain ⟨m,rfl,e2,e3,e4⟩:=g
 obtain ⟨o,es,ep,q1,q2,q3,q4,q5,z1,z2⟩:=av2 I e2 e3 e4
 exact ⟨es,ep,⟨o,q1,q2,q3⟩,z2,by rw [q4.len,List.length_map],by rw [List.length_map]; exact z1⟩
theorem b97 {Q:Value→Shared→Prop}(hu:A.units+20<cLine) (I:Inv X pins σ H s) (e2:DtE X.w.params H a m) (e3:∀ x∈m,x.1.At H x.2.1 []∧x.1.h≤8) (e4:(m.map (·.1)).Nodup) (hz:m.length<sizeLine)
 (hk:TK H t y) (ry:RelV y u) (rz:RelV z r) (h1:∀ v w' s',valV (m.map fun x=>(x.1,x.2.2)) t=some v→Inv X pins σ H s'→RelV v w'→Q w' s')
 (h2:∀ s',valV (m.map fun x=>(x.1,x.2.2)) t=none→Inv X pins σ (upd H a (DtO X.w.params a (m++[(t,y,z)]))) s'→Q r s') :
 wpAny (model X.prog X.w) A (call (.builtin "dict.setdefault") [.ref a,u,r]) Q E s:=by
 obtain ⟨_,_,x,lo,_,_⟩:=b96 I ⟨m,rfl,e2,e3,e4⟩
 obtain ⟨o,es,ep,q1,q2,q3,q4,q5,z1,z2⟩:=av2 I e2 e3 e4
 have hin:=hk.1.isIn I ry
 refine wpAny_call_entry PySem.F.slot_dict_setdefault x.ty PySem.F.entry_dict_setdefault ?_ (PySem.F.args_dict_setdefault_3 _ _ _)
 unfold Builtin.«dict.setdefault»
 refine wpAny_bind ?_
 unfold Builtin.Dict.keyAndDefault
 refine wpAny_bind (wpAny_notOrdered_dict x.ty ?_)
 refine (show wpAny _ _ (pure (a,u,some r)) _ _ s from wpAny_pure ?_)
 show wpAny _ A.in1 (if (a == sysModules)=true then _ else (dictSetDefault a u r >>= _)) _ _ s
 rw [if_neg (by rw [lo]; simp)]
 refine wpAny_bind ?_
 unfold dictSetDefault
 try (with_reducible refine wpAny_holding ?_)
 refine wpAny_bind (hin.pyHash (by have:=hk.2; rw [a72]; omega) fun n=>?_)
 refine wpAny_bind (av1 (s:={ s with toks:=n }) q1 q3 q5 hin hk.2 (by rw [a72]; omega) (fun hn=>?_) fun j hj=>?_)
 · refine wpAny_bind (wpAny_rule (wpAny_bind (wpAny_updateDictKeys (s:={ s with toks:=n }) q1 q3 (wpAny_pure (wpAny_pure ⟨r,rfl,h2 _ (aj6 hn).1 (am6 (I.tok n) e2.mut (Heap.SameBut.update ..) ?_ (b95 ⟨by simp; omega,z2,_,_,ep+1,Heap.get?_update_self _ q1 (Obj.isFreed_of_dict (Obj.data_mapDictKeys q3 _)),q2.mapDictKeys _,Obj.data_mapDictKeys q3 _,?_⟩))⟩)) (by rw [q4.len]; omega))))
   · exact ⟨_,Heap.get?_update_self _ q1 (Obj.isFreed_of_dict (Obj.data_mapDictKeys q3 _))⟩
   · exact ay5 q4 rfl ry rz
 · rw [List.getElem?_map] at hj
   obtain ⟨p,hp,rfl⟩:=Option.map_eq_some_iff.mp hj
   obtain ⟨en,f1,f2,f3,f4⟩:=q4.at_ j p hp
   refine wpAny_bind (wpAny_dictEntries (s:={ s with toks:=n }) q1 q3 ?_)
   rw [f1]
   exact wpAny_bind (wpAny_rule (wpAny_pure (wpAny_pure ⟨_,rfl,h1 _ _ _ (ai6 e4 hp) (I.tok _) f4⟩)))
end
theorem aj7 {H:Hp}{a:Addr}{φ:Heap→Prop} {o:HO}(h:H a=some (.ext φ)):Tups H (upd H a o):=fun b ys e=>by rw [a06 (ad0 e h (fun z=>nomatch z))]; exact e
theorem av4 {H H':Hp}{t:Tr}{v:V}(h:t.At H v []) (k:Tups H H'):t.At H' v []:=h.mono ⟨k,fun _ m=>absurd m (by simp)⟩
theorem DtAt.mono {P:Params}{H H':Hp}{a:Addr}{kvs:List (Tr×V)}(g:DtAt P H a kvs) (k:Tups H H') (e:H' a=H a):DtAt P H' a kvs:=by
 obtain ⟨m,e1,⟨φ,e2,hφ⟩,e3,e4⟩:=g
 exact ⟨m,e1,⟨φ,e.trans e2,hφ⟩,fun x hx=>⟨av4 (e3 x hx).1 k,(e3 x hx).2⟩,e4⟩
theorem bo2 {P:Params}{H:Hp}{a:Addr}{m:List (Tr×V×V)}{t:Tr}{y v:V}(e2:DtE P H a m) (e3:∀ x∈m,x.1.At H x.2.1 []∧x.1.h≤8) (e4:(m.map (·.1)).Nodup) (hk:TK H t y) :
 DtAt P (upd H a (DtO P a (putM m t y v))) a (putK (m.map fun x=>(x.1,x.2.2)) t v):=by
 obtain ⟨φ,e2,hφ⟩:=e2
 refine ⟨_,bg0 m t y v,.of a27,?_,bo0 t y v e4⟩
 exact bg1 (p:=fun t y=>t.At (upd H a (DtO P a (putM m _ _ _))) y []∧t.h≤8) (fun x hx=>⟨av4 (e3 x hx).1 (aj7 e2),(e3 x hx).2⟩) ⟨av4 hk.1 (aj7 e2),hk.2⟩
theorem bg4 {m:List (Tr×V×V)}{t:Tr}{y v:V}(h:valV (m.map fun x=>(x.1,x.2.2)) t=none):putM m t y v=m++[(t,y,v)]:=by
 unfold putM
 rw [if_neg]
 intro z
 obtain ⟨x,hx,rfl⟩:=List.mem_map.mp z
 have:=ax8 h
 exact this (by
  rw [List.map_map]
  exact List.mem_map_of_mem (f:=fun x=>x.1) hx)
def tTNew (P:Params):TE:=fun _ H Q=>∀ p o,H p=none→DtAt P (upd H p o) p []→Q (.ref p) (upd H p o)
def tTSetD (P:Params) (td ty tx:TE):TE:=fun σ H Q=>td σ H fun x H1=>∃ a kvs,x=.ref a∧DtAt P H1 a kvs∧ty σ H1 fun y H2=>tx σ H2 fun z H3=>∃ kvs' t,DtAt P H3 a kvs'∧TK H3 t y∧kvs'.length<sizeLine ∧
 (∀ v,valV kvs' t=some v→Q v H3)∧(valV kvs' t=none→∀ o,DtAt P (upd H3 a o) a (kvs'++[(t,z)])→Q z (upd H3 a o))
section
variable {X:Cx}{o i e f value:Expr}{pos pos' apos cpos:Pos}{td ty tv tx:TE}{P:Params}
theorem bo3 (h:Heap) (P:Params) (hb:sysModules<h.objs.size):DtP P h.objs.size [] (h.push { cls:=.type "dict",data:=.dict #[] }) :=
 ⟨Nat.zero_le _,beq_eq_false_iff_ne.mpr (Ne.symm (Nat.ne_of_lt hb)),_,#[],0,Heap.get?_push_size _ rfl,⟨rfl,rfl,rfl⟩,rfl,rfl,fun j x hx=>by simp at hx⟩
theorem av5 (P:Params):PE X (.Dict [] [] pos) (tTNew P):=fun pins s σ H Q I h =>
 wpAny_Dict_empty ⟨.ref s.heap.objs.size,_,I.laid (a:=s.heap.objs.size) (o:=DtO P s.heap.objs.size []) (t':=s.toks) (fun _ _ q=>Heap.get?_push_of_some _ q) (Nat.le_refl _) (b95 (bo3 s.heap P I.big)),rfl,
  h _ _ (I.hok.fresh (Nat.le_refl _)) ⟨[],rfl,.of a27,fun x hx=>absurd hx (by simp),List.nodup_nil⟩⟩
theorem ao7 (hP:X.w.params=P) (hu:X.A.units+64<cLine) (ho:PE X o td) (he:PE X e ty) (hf:PE X f tx) (m:M2 X o "setdefault" apos e f cpos):PE X (.Call (.Attribute o "setdefault" apos) [e,f] [] cpos) (tTSetD P td ty tx):=by
 subst hP
 intro pins s σ H Q I h
 refine wpAny_Call_method m.base m.few m.line PySem.F.plainAttrs_dict PySem.F.slot_dict_setdefault PySem.F.type_dict_setdefault (thn (ho pins s σ H _ I h) fun u s1 ⟨x,H1,I1,rx,a,kvs,ex,g1,q1⟩=>?_)
 subst ex
 obtain rfl:u=Value.ref a:=rx
 obtain ⟨es,ep,x,_⟩:=b96 I1 g1
 refine ⟨x.ty,(fun b q=>by cases q; obtain ⟨ob,h1,h2,_⟩:=x; exact ⟨ob,h1,h2.2.1⟩),?_⟩
 rw [m.trees]
 refine Calls.callWith_builtin rfl (Calls.evalArgs_plain (Calls.spliced_cons (thn (he pins s1 σ H1 _ I1 q1) fun iv s2 ⟨y,H2,I2,ry,q2⟩=>Calls.spliced_cons (thn (hf pins s2 σ H2 _ I2 q2) fun fv s3 ⟨z,H3,I3,rz,kvs',t,g,hk,hz,n1,n2⟩=>Calls.spliced_nil ?_))))
 obtain ⟨mm,rfl,e2,e3,e4⟩:=g
 rw [List.length_map] at hz
 refine b97 (by omega) I3 e2 e3 e4 hz hk ry rz (fun v w' s' hv I' rv=>⟨v,H3,I',rv,n1 v hv⟩) fun s' hv I'=>⟨z,_,I',rz,n2 hv _ ?_⟩
 have:=bo2 (v:=z) e2 e3 e4 hk
 rw [bg4 hv,be8 z hv] at this
 exact this
end
section
variable {X:Cx}
end
section
variable {P:Params}{σ:St} {H:Hp}{Q:VK}{td ty tx tv:TE}{nn bb cc:St→Hp→Prop}{rr:VK}
theorem by8 (h:∀ p o,H p=none→DtAt P (upd H p o) p []→Q (.ref p) (upd H p o)):tTNew P σ H Q:=h
theorem bo4 (h:td σ H fun x H1=>∃ a kvs,x=.ref a∧DtAt P H1 a kvs∧ty σ H1 fun y H2=>tx σ H2 fun z H3=>∃ kvs' t,DtAt P H3 a kvs'∧TK H3 t y∧kvs'.length<sizeLine ∧
 (∀ v,valV kvs' t=some v→Q v H3)∧(valV kvs' t=none→∀ o,DtAt P (upd H3 a o) a (kvs'++[(t,z)])→Q z (upd H3 a o))):tTSetD P td ty tx σ H Q:=h
end
def rEqNil (K:PySem.W.Frag):R2:=fun x y H Q=>∃ a b xs,x=.ref a∧y=.ref b∧SqL K H a xs∧SqL K H b []∧Q (.bl xs.isEmpty) H
section
variable {X:Cx}
theorem b98 (K:PySem.W.Frag) (hu:X.A.units+64<cLine) (hK:X.K=K:=by rfl):OpR X (compareOp .Eq) (rEqNil K):=by
 subst hK
 intro pins s σ H x y v u Q I rx ry h
 obtain ⟨a,b,xs,rfl,rfl,h1,h2,q⟩:=h
 cases rx
 cases ry
 obtain ⟨is1,q1,p1,_⟩:=I.list h1
 obtain ⟨is2,q2,p2,_⟩:=I.list h2
 cases q2
 cases q1 with
 | nil =>
   have:=SeqAt.RcAt.lists (A:=X.A) (s:=s) (e:=fun _=>true) p1.isList p2.isList rfl (by omega) (fun j h1 _=>absurd h1 (by simp))
   exact this X.prog X.w X.xe (EP X pins σ Q) ⟨.bl true,H,I,rfl,q⟩
 | cons r1 r2 =>
   have:=SeqAt.RcAt.lists_lengths (A:=X.A) (s:=s) p1.isList p2.isList (by simp) (by omega)
   exact this X.prog X.w X.xe (EP X pins σ Q) ⟨.bl false,H,I,rfl,q⟩
end
section
variable {K:PySem.W.Frag}{H:Hp}{Q:VK}
theorem bo5 {a b:Addr}{xs:List V}(h1:SqL K H a xs) (h2:SqL K H b []) (h:Q (.bl xs.isEmpty) H):rEqNil K (.ref a) (.ref b) H Q:=⟨a,b,xs,rfl,rfl,h1,h2,h⟩
end
section
variable {X:Cx}{o e value:Expr}{f:Str}{pos pos':Pos}{ta tv:TE}
theorem a76 (K:PySem.W.Frag) (he:PE X e ta) (hb:attributeBase e f X.env (eval e X.env)=eval e X.env) (hK:X.K=K:=by rfl):PE X (.Attribute e f pos) (tFld K ta f):=hK ▸ bt9 he hb
theorem ah4 (K:PySem.W.Frag) (ha:PE X o ta) (hv:PE X value tv) (hs:swapsWith value (some (.Attribute o f pos')) pos.line X.env=pure false) (hK:X.K=K:=by rfl):PS X (.Assign [.Attribute o f pos'] value pos) (sFld K ta tv f):=hK ▸ bu0 ha hv hs
end
section
variable {K:PySem.W.Frag}{σ:St} {H:Hp}{Q:VK}{ta tv:TE}{t:TA}{f m:Str}{C:Addr}{sp:Sp}{dvs:List V}{E:XK}{nn bb cc:St→Hp→Prop}{rr:VK}
theorem c48 (h:ta σ H fun x H1=>∃ a C dx fs v,x=.ref a∧H1 a=some (.ins C dx fs)∧Cls K C∧NoAttr K C f∧fs.lookup f=some v∧Q v H1):tFld K ta f σ H Q:=h
theorem by9 (h:tv σ H fun y H1=>ta σ H1 fun x H2=>∃ a C dx fs,x=.ref a∧H2 a=some (.ins C dx fs)∧Cls K C∧NoAttr K C f∧fs.length<1000∧nn σ (upd H2 a (.ins C dx (putF f y fs)))):sFld K ta tv f ⟨nn,rr,bb,cc⟩ σ H:=h
theorem bz0 (h:ta σ H fun x H1=>∃ a dx fs,x=.ref a∧H1 a=some (.ins C dx fs)∧fs.lookup m=none∧t σ H1 fun vs H2=>sp (x::(vs++dvs)) H2 Q E):tMeth C m sp dvs E ta t σ H Q:=h
theorem bz1 (h:t σ H fun vs H1=>∀ x dx,H1 x=none→H1 dx=none→dx≠x→sp (.ref x::(vs++dvs)) (upd (upd H1 dx (.own x)) x (.ins C dx [])) (fun v H2=>v=.non∧Q (.ref x) H2) E):tMake C sp dvs E t σ H Q:=h
end
theorem as1 {H:Hp}{a C dx:Addr}{fs:List (Str×V)}{o:HO}(h:H a=some (.ins C dx fs)):Tups H (upd H a o):=fun b ys e=>by rw [a06 (ad0 e h (fun z=>nomatch z))]; exact e
inductive Tw where
 | sc (v:V)
 | tup (xs:List Tw)
 | lst (xs:List Tw)
def Scal:V→Prop
 | .non | .int _ | .str _ | .bl _=>True
 | _=>False
mutual
def Tw.At (H:Hp):Tw→V→List Addr→Prop
 | .sc x,v,fs=>v=x∧Scal x∧fs=[]
 | .tup xs,v,fs=>∃ a vs,v=.ref a∧H a=some (.tup vs)∧Tw.Ats H xs vs fs
 | .lst xs,v,fs=>∃ a vs gs,v=.ref a∧H a=some (.lst vs)∧Tw.Ats H xs vs gs∧fs=a::gs
def Tw.Ats (H:Hp):List Tw→List V→List Addr→Prop
 | [],vs,fs=>vs=[]∧fs=[]
 | x::xs,vs,fs=>∃ v ws f g,vs=v::ws∧fs=f++g∧Tw.At H x v f∧Tw.Ats H xs ws g
end
mutual
theorem Tw.At.mono {H H':Hp}:∀ {x:Tw}{v:V}{fs:List Addr},x.At H v fs→Keep fs H H'→x.At H' v fs
 | .sc _,_,_,h,_=>by simpa only [Tw.At] using h
 | .tup xs,v,fs,h,k=>by
   simp only [Tw.At] at h ⊢
   obtain ⟨a,vs,e,g,r⟩:=h
   exact ⟨a,vs,e,k.1 _ _ g,Tw.Ats.mono r k⟩
 | .lst xs,v,fs,h,k=>by
   simp only [Tw.At] at h ⊢
   obtain ⟨a,vs,gs,e,g,r,rfl⟩:=h
   exact ⟨a,vs,gs,e,k.2 _ (by simp) _ g,Tw.Ats.mono r (k.sub fun b m=>by simp [m]),rfl⟩
theorem Tw.Ats.mono {H H':Hp}:∀ {xs:List Tw}{vs:List V}{fs:List Addr},Tw.Ats H xs vs fs→Keep fs H H'→Tw.Ats H' xs vs fs
 | [],_,_,h,_=>by simpa only [Tw.Ats] using h
 | x::xs,vs,fs,h,k=>by
   simp only [Tw.Ats] at h ⊢
   obtain ⟨v,ws,f,g,e,rfl,a,b⟩:=h
   exact ⟨v,ws,f,g,e,rfl,Tw.At.mono a (k.sub fun c m=>by simp [m]),Tw.Ats.mono b (k.sub fun c m=>by simp [m])⟩
end
theorem Tw.At.same {H H':Hp}{x:Tw}{v:V}{fs:List Addr}(h:x.At H v fs) (s:Same H H'):x.At H' v fs:=h.mono (s.keep _)
theorem Tw.Ats.same {H H':Hp}{xs:List Tw}{vs:List V}{fs:List Addr}(h:Tw.Ats H xs vs fs) (s:Same H H'):Tw.Ats H' xs vs fs:=h.mono (s.keep _)
theorem Tw.Ats.len {H:Hp}:∀ {xs:List Tw}{vs:List V}{fs:List Addr},Tw.Ats H xs vs fs→vs.length=xs.length
 | [],vs,fs,h=>by simp only [Tw.Ats] at h; rw [h.1]; rfl
 | x::xs,vs,fs,h=>by
   simp only [Tw.Ats] at h
   obtain ⟨v,ws,f,g,rfl,rfl,_,b⟩:=h
   simp [b.len]
theorem Tw.Ats.snoc {H:Hp}:∀ {xs:List Tw}{vs:List V}{fs gs:List Addr}{x:Tw}{v:V},Tw.Ats H xs vs fs→x.At H v gs→Tw.Ats H (xs++[x]) (vs++[v]) (fs++gs)
 | [],vs,fs,gs,x,v,h,a=>by
   simp only [Tw.Ats] at h
   obtain ⟨rfl,rfl⟩:=h
   simp only [List.nil_append,Tw.Ats]
   exact ⟨v,[],gs,[],rfl,by simp,a,rfl,rfl⟩
 | y::ys,vs,fs,gs,x,v,h,a=>by
   simp only [Tw.Ats,List.cons_append] at h ⊢
   obtain ⟨w,ws,f,g,rfl,rfl,b,c⟩:=h
   exact ⟨w,ws++[v],f,g++gs,rfl,by simp,b,c.snoc a⟩
mutual
def Tw.h:Tw→Nat
 | .sc _=>0
 | .tup xs=>Tw.hs xs+1
 | .lst xs=>Tw.hs xs+1
def Tw.hs:List Tw→Nat
 | []=>0
 | x::xs=>max x.h (Tw.hs xs)
end
section
variable {X:Cx}{pins:List (Addr×Obj)}{σ:St} {H:Hp}{s:Shared}
end
def b99:List V→Hp→VK→Prop:=fun xs H Q=>∃ n:Nat,xs=[.int (n:Nat)]∧n≤1000000∧New H (.rng 0 (n:Nat)) Q
def rListR:List V→Hp→VK→Prop:=fun xs H Q=>∃ (a:Addr) (n:Nat),xs=[.ref a]∧H a=some (.rng 0 (n:Nat))∧n≤1000000∧New H (.lst (natsV (List.range n))) Q
section
variable {X:Cx}
theorem ba0:CallR X (.type "range") b99:=by
 intro pins s σ H xs us Q I r h
 obtain ⟨n,rfl,hn,q⟩:=h
 cases r with
 | cons r1 r2 =>
 cases r2
 obtain ⟨t,rfl⟩:=r1
 refine call_range_1 ⟨.ref s.heap.objs.size,upd H s.heap.objs.size (.rng 0 (n:Nat)),I.laid (fun b o e=>Heap.get?_push_of_some _ e) (Nat.le_refl _) ⟨_,_,_,Heap.get?_push_size _ rfl⟩,rfl,New.to q _ I.fresh⟩
theorem bg5 (hc:X.calm=true):CallR X (.type "list") rListR:=by
 intro pins s σ H xs us Q I r h
 obtain ⟨a,n,rfl,e,hn,q⟩:=h
 cases r with
 | cons r1 r2 =>
 cases r2
 cases r1
 obtain ⟨t,u,v,hg⟩:=I.hok a _ e
 refine call_list_range (n:=n) (I.ok.hd hc) hg (small_one (by omega) (by omega) (by omega) (by omega)) (by rw [rangeSize_one]; split <;> omega) (by omega) fun h' tk acc c hk hS hacc=>⟨.ref s.heap.objs.size,_,I.laid (a:=s.heap.objs.size) (t':=tk) hk (Nat.le_refl _) ?_,rfl,New.to q _ I.fresh⟩
 refine ⟨le_line (by simp [natsV]; omega),acc.toList,c,?_,by simpa using hS⟩
 refine av3 (by simp [natsV,hacc.1]) fun j x1 x2 hx1 hx2=>?_
 have hj:j<n:=by
  have:=(List.getElem?_eq_some_iff.mp hx1).1
  simpa [natsV] using this
 obtain ⟨t2,rfl⟩:=hacc.2 j x2 (by rw [← Array.getElem?_toList]; exact hx2)
 have:x1=.int (j:Nat):=by simpa [natsV,hj] using hx1.symm
 subst this
 exact ⟨t2,by simp⟩
end
theorem ao8 {K:PySem.W.Frag}{a:Addr}{xs:List V}{g:TG}{tb:TS}{D:Ends}{σ:St} {H:Hp}(Pv:Nat→St→Hp→Prop) (h0:Pv 0 σ H) (hl:∀ i σ H,i≤xs.length→Pv i σ H→SqL K H a xs)
 (hs:∀ i x σ H q H2,xs[i]?=some x→Pv i σ H→Same H H2→H2 q=some (.tup [.int (i:Nat),x])→g (.ref q) σ H2 fun σ1 H1=>tb { D with nx:=Pv (i+1),ct:=Pv (i+1),bk:=D.nx } σ1 H1)
 (hd:∀ σ H,Pv xs.length σ H→D.nx σ H):ForEnd (Ite K a) g tb D σ H:=by
 refine ⟨fun i m σ H=>m=xs.length - i∧i≤xs.length∧Pv i σ H,⟨xs.length,by simp,Nat.zero_le _,h0⟩,?_⟩
 rintro i m σ' H' ⟨rfl,hi,p⟩
 have hq:=hl i σ' H' hi p
 by_cases hlt:i<xs.length
 · refine .inr ⟨⟨xs,xs[i],hq,by simp [hlt]⟩,Pv (i+1),fun σ2 H2 p'=>⟨xs.length - (i+1),by omega,rfl,hlt,p'⟩,fun v H2 y=>?_⟩
   obtain ⟨q,x,rfl,hn,sm,hT,hx⟩:=y
   exact hs i x σ' H' q H2 (hx xs hq) p sm hT
 · have e:i=xs.length:=by omega
   subst e
   exact .inl ⟨⟨xs,hq,Nat.le_refl _⟩,hd σ' H' p⟩
section
variable {K:PySem.W.Frag}{H:Hp}{Q:VK}
theorem bg6 {n:Nat}(hn:n≤1000000) (h:New H (.rng 0 (n:Nat)) Q):b99 [.int (n:Nat)] H Q:=⟨n,rfl,hn,h⟩
theorem bo6 {a:Addr}{n:Nat}(e:H a=some (.rng 0 (n:Nat))) (hn:n≤1000000) (h:New H (.lst (natsV (List.range n))) Q):rListR [.ref a] H Q:=⟨a,n,rfl,e,hn,h⟩
end
section
variable {X:Cx}{tg:Expr}
end
section
variable {σ:St} {H:Hp}{R:It→Hp→Prop}{ts:TA}
theorem bz2 (h:ts σ H fun vs H1=>∃ i j:Int,vs=[.int i,.int j]∧(-(2 ^ 62)≤i∧i<2 ^ 62∧-(2 ^ 62)≤j∧j<2 ^ 62)∧R (Itr i (j - i).toNat) H1):bt5 ts σ H R:=h
end
def relabelS (scope sc0:Scope):Scope:=relabel scope { scope:=sc0,locals:=0,globals:=0,cells:=[] }
theorem ba1 {X:Cx}{N:List Str}{scope sc0:Scope}{cl:List (Str×Addr)}{C:Addr}{s0:Shared}{H0:Hp}{ex:List Addr}(h:X.env.scope=sc0):(cxC X N scope cl C s0 H0 ex).env.scope=relabelS scope sc0:=by
 subst h
 rfl
section
variable {X:Cx}
end
section
variable {K:PySem.W.Frag}{H:Hp}{Q:VK}
end
section
variable {X:Cx}{e st:Expr}{te ts:TE}{p2 pos:Pos}
end
section
variable {prog:Program}{w:World}{z TI TO i1 i2 i3 l1 l2 l3:Addr}{xs ys us:Array Value}{st1 st2 st3:Nat→Heap→Prop}
end
section
variable {X:Cx}{elts:List Expr}{x1:Nat}{tpos:Pos}
end
section
variable {X:Cx}{k v:Expr}{pos:Pos}{tk tv:TE}{P:Params}
end
def Each {α β:Type}(R:α→β→Prop) (vs:List α) (xs:List β):Prop:=vs.length=xs.length∧∀ (j:Nat) (v:α) (x:β),vs[j]?=some v→xs[j]?=some x→R v x
section
variable {α β:Type}{R:α→β→Prop}{vs:List α}{xs:List β}
theorem Each.nil:Each R ([]:List α) ([]:List β):=⟨rfl,fun j v x h=>by simp at h⟩
theorem Each.mono {R':α→β→Prop}(h:Each R vs xs) (k:∀ v x,R v x→R' v x):Each R' vs xs:=⟨h.1,fun j v x h1 h2=>k v x (h.2 j v x h1 h2)⟩
theorem Each.append {ws:List α}{ys:List β}(h:Each R vs xs) (k:Each R ws ys):Each R (vs++ws) (xs++ys):=by
 refine ⟨by simp [h.1,k.1],fun j v x h1 h2=>?_⟩
 by_cases hj:j<vs.length
 · rw [List.getElem?_append_left hj] at h1
   rw [List.getElem?_append_left (by rw [← h.1]; exact hj)] at h2
   exact h.2 j v x h1 h2
 · rw [List.getElem?_append_right (by omega)] at h1
   rw [List.getElem?_append_right (by rw [← h.1]; omega),←h.1] at h2
   exact k.2 _ v x h1 h2
theorem Each.snoc {v:α}{x:β}(h:Each R vs xs) (k:R v x):Each R (vs++[v]) (xs++[x]):=h.append ⟨rfl,fun j w y h1 h2=>by
 cases j with
 | zero=>cases h1; cases h2; exact k
 | succ j=>simp at h1⟩
theorem Each.get {j:Nat}{x:β}(h:Each R vs xs) (k:xs[j]?=some x):∃ v,vs[j]?=some v∧R v x:=by
 have hj:j<vs.length:=by rw [h.1]; exact (List.getElem?_eq_some_iff.mp k).1
 exact ⟨vs[j],List.getElem?_eq_getElem hj,h.2 j _ x (List.getElem?_eq_getElem hj) k⟩
end
abbrev RRow:=List Str×Nat
abbrev RRoom:=Bool×List RRow
section
variable {f:Nat→Option Nat}{rep rk:Nat→Nat}
end
def hF (d:Addr):List (Str×V):=putF "heads" (.ref d) []
def But (d:Addr) (H H':Hp):Prop:=∀ b o,b≠d→H b=some o→H' b=some o
theorem But.refl {d:Addr}{H:Hp}:But d H H:=fun _ _ _ e=>e
theorem But.trans {d:Addr}{H H1 H2:Hp}(a:But d H H1) (b:But d H1 H2):But d H H2:=fun c o h e=>b c o h (a c o h e)
theorem Same.but {d:Addr}{H H':Hp}(s:Same H H'):But d H H':=fun b o _ e=>s b o e
theorem But.upd {d:Addr}{H H':Hp}{o:HO}(b:But d H H'):But d H (upd H' d o):=fun c u h e=>by rw [a06 h]; exact b c u h e
abbrev Pr:=Nat×Nat
def roomA (rs:List RRoom) (x:Nat):RRoom:=rs.getD x (false,[])
def rowA (rs:List RRoom) (x j:Nat):RRow:=(roomA rs x).2.getD j ([],0)
section
variable {X:Cx}
end
section
variable {H:Hp}{Q:VK}
end
section
variable {X:Cx}{pins:List (Addr×Obj)}{σ:St} {H:Hp}{s:Shared}
end
section
variable {X:Cx}{pins:List (Addr×Obj)}{σ:St} {H:Hp}{s:Shared}{a:Addr}{t:Tr}{y v z:V}{u r:Value}{A:Around}{E:Value→Shared→Prop}{kvs:List (Tr×V)}{m:List (Tr×V×V)}
end
section
variable {X:Cx}{o i e f value:Expr}{pos pos' apos cpos:Pos}{td ty tv tx:TE}{P:Params}
end
section
variable {K:PySem.W.Frag}{P:Params}{σ:St} {H:Hp}{Q:VK}{td ty tx tv:TE}
end
section
variable {prog:Program}{w:World}{A:Around}{E:Value→Shared→Prop}{s:Shared}
end
section
variable {X:Cx}{elts:List Expr}{x1:Nat}{tpos:Pos}
end
section
variable {prog:Program}{w:World}{A:Around}{E:Value→Shared→Prop}{s:Shared}{d:Addr}{es:Array DictEntry}{ep:Nat}
theorem bo7 {Q:Value→Shared→Prop}(lo:(d == sysModules)=false) (x:RawD s.heap d es ep) (hz:(es.size:Int)<2 ^ 63) (h:Q (.int es.size (s.toks+1)) { s with toks:=s.toks+1+1 }):wpAny (model prog w) A (call (.builtin "len") [.ref d]) Q E s:=by
 have T:=x.ty
 obtain ⟨o,e1,e2,e3⟩:=x
 refine Calls.call_function_entry kind_len plain_len entry_len (args_len1 _) ?_
 unfold Builtin.«len»
 refine wpAny_bind (m:=oneArg "len" _) (wpAny_pure ?_)
 refine wpAny_bind (m:=callSpecial? (.ref d) (Str.ofString "__len__")) (wpAny_callSpecial?_slot (name:=Str.ofString "__len__") T F.slot_dict_len (wpAny_call_entry F.slot_dict_len T F.entry_dict_len ?_ (F.args_dict_len_1 _)))
 unfold Builtin.«dict.__len__»
 show wpAny _ _ (dictSize d >>= _) _ _ s
 unfold dictSize
 refine wpAny_bind (wpAny_bind (wpAny_dictEntries e1 e3 (wpAny_pure ?_)))
 show wpAny _ _ (Builtin.Dict.pendingCount d >>= _) _ _ s
 refine wpAny_bind (wpAny_pendingCount_other lo ?_)
 show wpAny _ _ (retInt _) _ _ s
 unfold retInt
 refine wpAny_bind (wpAny_mkInt (wpAny_pure ⟨_,rfl,?_⟩))
 rw [show ((es.size:Nat):Int)+((0:Nat):Int)=((es.size:Nat):Int) by simp]
 refine wpAny_bind (wpAny_holding (wpAny_pure ?_))
 refine wpAny_bind (wpAny_letGo ?_)
 show wpAny _ _ (if ((es.size:Nat):Int)<0 then _ else _) _ _ _
 rw [if_neg (by omega)]
 show wpAny _ _ (if ((es.size:Nat):Int) ≥ 2 ^ 63 then _ else _) _ _ _
 rw [if_neg (by omega)]
 exact wpAny_bind (wpAny_mkInt (wpAny_pure ⟨_,rfl,h⟩))
end
section
variable {prog:Program}{w:World}{A:Around}{E:Value→Shared→Prop}{s:Shared}{d it:Addr}{es:Array DictEntry}{ep i:Nat}
theorem ba2 {Q:Option Value→Shared→Prop}{e:DictEntry}(hit:s.heap.IsValIter it d i es.size ep) (x:RawD s.heap d es ep) (he:es[i]?=some e)
 (q:∀ h',h'.IsValIter it d (i+1) es.size ep→Heap.SameBut it s.heap h'→Q (some e.val) { s with heap:=h' }):wpAny (model prog w) A (pyNext (.ref it)) Q E s:=by
 have T:=hit.typeIs
 obtain ⟨o,ho,hc,hd⟩:=id hit
 obtain ⟨od,g1,g2,g3⟩:=x
 have hlt:i<es.size:=(Array.getElem?_eq_some_iff.mp he).1
 unfold pyNext
 refine wpAny_bind (wpAny_attempt (wpAny_callSpecial?_slot (name:=Str.ofString "__next__") T F.slot_dict_valueiterator_next (wpAny_call_entry F.slot_dict_valueiterator_next T F.entry_dict_valueiterator_next ?_ (F.args_dict_valueiterator_next_1 _))))
 refine wpAny_bind ((wpAny_pure) (wpAny_bind (wpAny_bind ?_)))
 first | refine wpAny_bind (wpAny_typeNameOfWhole_valiter T (wpAny_pure ?_)) | refine wpAny_bind (wpAny_typeNameOf_valiter T (wpAny_pure ?_))
 refine wpAny_bind (wpAny_fieldsOf ho (hd) ?_)
 simp only [show Builtin.Dict_items.ownsTuple "dict_valueiterator"=false by decide,Bool.false_eq_true,if_false]
 show wpAny _ A.in1 (if (Value.ref d == Value.none)=true then _ else _) _ _ s
 rw [if_neg (fun z:(Value.ref d == Value.none)=true=>Bool.false_ne_true z)]
 refine wpAny_bind ((wpAny_pure) (wpAny_bind (wpAny_dictEntries g1 g3 ?_)))
 rw [if_neg (by simp)]
 refine wpAny_bind ((wpAny_pure) (wpAny_bind (wpAny_dictEpoch g1 g3 ?_)))
 rw [if_neg (by simp)]
 refine wpAny_pure ?_
 simp only [show ¬ ((i:Int)<0) by omega,if_false,Int.toNat_natCast,he]
 refine wpAny_bind ?_
 first | refine wpAny_bind (wpAny_typeNameOfWhole_valiter T (wpAny_pure ?_)) | refine wpAny_bind (wpAny_typeNameOf_valiter T (wpAny_pure ?_))
 refine wpAny_bind (wpAny_isOneOf_valiter T ?_)
 show wpAny _ A.in1 (setField (.ref it) 1 (rawInt ((i:Int)+1)) >>= _) _ _ s
 refine wpAny_bind (wpAny_setField ho (hd) (by simp) ?_)
 have hit2:(s.heap.update it (Obj.mapFields (·.setIfInBounds 1 (rawInt ((i:Int)+1))))).IsValIter it d (i+1) es.size ep :=
  ⟨_,Heap.get?_update_self _ ho (Obj.isFreed_of_fields (Obj.data_mapFields hd _)),(Obj.cls_mapFields ..).trans hc,by rw [Obj.data_mapFields hd]; simp [rawInt]⟩
 refine wpAny_bind (wpAny_holding (wpAny_bind (wpAny_isOneOf_valiter (s:={ s with heap:=s.heap.update it (Obj.mapFields (·.setIfInBounds 1 (rawInt ((i:Int)+1)))) }) hit2.typeIs ?_)))
 rw [if_neg (by decide)]
 refine wpAny_bind (wpAny_isOneOf_valiter (s:={ s with heap:=s.heap.update it (Obj.mapFields (·.setIfInBounds 1 (rawInt ((i:Int)+1)))) }) hit2.typeIs ?_)
 show wpAny _ A.in1 (pure e.val) _ _ _
 exact wpAny_pure (wpAny_pure ⟨_,rfl,wpAny_pure (q _ hit2 (Heap.SameBut.update ..))⟩)
theorem bg7 {Q:Option Value→Shared→Prop}(hh:A.handled=none) (hit:s.heap.IsValIter it d i es.size ep) (x:RawD s.heap d es ep) (he:es.size≤i)
 (q:∀ h',Heap.ExtBut it s.heap h'→Q none { s with heap:=h' }):wpAny (model prog w) A (pyNext (.ref it)) Q E s:=by
 have T:=hit.typeIs
 obtain ⟨o,ho,hc,hd⟩:=id hit
 obtain ⟨od,g1,g2,g3⟩:=x
 unfold pyNext
 refine wpAny_bind (wpAny_attempt (wpAny_callSpecial?_slot (name:=Str.ofString "__next__") T F.slot_dict_valueiterator_next (wpAny_call_entry F.slot_dict_valueiterator_next T F.entry_dict_valueiterator_next ?_ (F.args_dict_valueiterator_next_1 _))))
 refine wpAny_bind ((wpAny_pure) (wpAny_bind (wpAny_bind ?_)))
 first | refine wpAny_bind (wpAny_typeNameOfWhole_valiter T (wpAny_pure ?_)) | refine wpAny_bind (wpAny_typeNameOf_valiter T (wpAny_pure ?_))
 refine wpAny_bind (wpAny_fieldsOf ho (hd) ?_)
 simp only [show Builtin.Dict_items.ownsTuple "dict_valueiterator"=false by decide,Bool.false_eq_true,if_false]
 show wpAny _ A.in1 (if (Value.ref d == Value.none)=true then _ else _) _ _ s
 rw [if_neg (fun z:(Value.ref d == Value.none)=true=>Bool.false_ne_true z)]
 refine wpAny_bind ((wpAny_pure) (wpAny_bind (wpAny_dictEntries g1 g3 ?_)))
 rw [if_neg (by simp)]
 refine wpAny_bind ((wpAny_pure) (wpAny_bind (wpAny_dictEpoch g1 g3 ?_)))
 rw [if_neg (by simp)]
 refine wpAny_pure ?_
 simp only [show ¬ ((i:Int)<0) by omega,if_false,Int.toNat_natCast,Array.getElem?_eq_none he]
 refine wpAny_bind ?_
 first | refine wpAny_bind (wpAny_typeNameOfWhole_valiter T (wpAny_pure ?_)) | refine wpAny_bind (wpAny_typeNameOf_valiter T (wpAny_pure ?_))
 show wpAny _ A.in1 (setField (.ref it) 0 .none >>= _) _ _ s
 refine wpAny_bind (wpAny_setField ho (hd) (by simp) ?_)
 show wpAny _ A.in1 (newExc (.type "StopIteration") [] >>= _) _ _ _
 refine wpAny_bind ?_
 simp only [newExc,newTuple]
 refine wpAny_bind (wpAny_newObj_type ?_ (by size_fits))
 refine wpAny_bind (m:=firstArgMember _ _) (wpAny_of_eq (a:=Value.none) (by first | rfl | (simp only [firstArgMember]; rfl)) (wpAny_newObj_type ?_ (by size_fits)))
 simp only [raiseNew]
 refine wpAny_bind (wpAny_handled ?_)
 rw [show A.in1.handled=none from hh]
 refine wpAny_bind ((wpAny_pure) ((wpAny_throw) ?_))
 refine wpAny_bind (wpAny_isInstance (b:=true) (T:="StopIteration") ⟨_,Heap.get?_push_size _ rfl,rfl⟩ isSubtype_stop ?_)
 exact wpAny_pure (q _ (((Heap.SameBut.update ..).extBut.push _).push _))
theorem b36 (hh:A.handled=none) (hne:d≠it):Walks prog w A it [it,d] [it] es.size (fun i v=>∃ e,es[i]?=some e∧v=e.val) (fun i h=>h.IsValIter it d i es.size ep∧RawD h d es ep) where
 sub:=fun b hb=>by simp at hb; simp [hb]
 frame:=fun _ _ _ st hk=>⟨st.1.at fun o e=>hk it (by simp) o e,st.2.keep fun o e=>hk d (by simp) o e⟩
 item:=fun i s Q E hi st hQ=>ba2 st.1 st.2 (Array.getElem?_eq_getElem hi) fun h' hit' hs=>hQ _ h' s.toks ⟨_,Array.getElem?_eq_getElem hi,rfl⟩ ⟨hit',st.2.keep fun o e=>hs.extBut d o hne e⟩ fun b o hb e=>hs.extBut b o (fun h=>hb (by simp [h])) e
 done:=fun s Q E st hQ=>bg7 hh st.1 st.2 (Nat.le_refl _) fun h' he'=>hQ h' s.toks fun b o hb e=>he' b o (fun h=>hb (by simp [h])) e
 self:=fun _ _ _ _ st hQ=>wpAny_pyIter_valiter st.1 hQ
end
def ViewAt (H:Hp) (p d:Addr):Prop:=H p=some (.ext fun h=>h.IsValuesView p d)
def tTVals (P:Params) (td:TE):TE:=fun σ H Q=>td σ H fun x H1=>∃ a kvs,x=.ref a∧DtAt P H1 a kvs∧∀ p H',H1 p=none→Same H1 H'→ViewAt H' p a→Q (.ref p) H'
theorem bo8 {P:Params}{td:TE}{σ:St} {H:Hp}{Q:VK}(h:td σ H fun x H1=>∃ a kvs,x=.ref a∧DtAt P H1 a kvs∧∀ p H',H1 p=none→Same H1 H'→ViewAt H' p a→Q (.ref p) H'):tTVals P td σ H Q:=h
section
variable {X:Cx}{P:Params}{o:Expr}{td:TE}{apos cpos:Pos}
theorem ay6 (hP:X.w.params=P) (ho:PE X o td) (hbase:attributeBase o "values" X.env (eval o X.env)=eval o X.env:=by rfl) (hline:(apos.endLine == cpos.line)=true:=by rfl):PE X (.Call (.Attribute o "values" apos) [] [] cpos) (tTVals P td):=by
 subst hP
 intro pins s σ H Q I h
 refine wpAny_Call_method0_late hbase hline (thn (ho pins s σ H _ I h) fun v s1 ⟨x,H1,I1,r1,a,kvs,ex,g1,q1⟩=>?_)
 subst ex
 obtain rfl:v=Value.ref a:=r1
 obtain ⟨es,ep,x,lo,_⟩:=b96 I1 g1
 refine ⟨"dict","dict.values",PySem.F.plainAttrs_dict,PySem.F.slot_dict_values,PySem.F.type_dict_values,x.ty,(fun b q=>by cases q; obtain ⟨ob,h1,h2,_⟩:=x; exact ⟨ob,h1,h2.2.1⟩),Calls.callWith_builtin rfl (PySem.evalArgs_none ?_)⟩
 refine wpAny_call_entry PySem.F.slot_dict_values x.ty PySem.F.entry_dict_values ?_ (PySem.F.args_dict_values_1 _)
 unfold Builtin.«dict.values»
 refine wpAny_bind ?_
 unfold Builtin.Dict.noArgs
 refine wpAny_bind (wpAny_notOrdered_dict x.ty ?_)
 show wpAny _ _ (pure a) _ _ s1
 refine wpAny_pure ?_
 show wpAny _ _ (Builtin.Dict.showsAll a >>= _) _ _ s1
 unfold Builtin.Dict.showsAll
 rw [if_neg (by rw [lo]; exact Bool.false_ne_true)]
 refine wpAny_bind (wpAny_pure (wpAny_bind (wpAny_newObj_type (wpAny_pure ⟨_,rfl,?_⟩))))
 have hp:=I1.hok.fresh (Nat.le_refl s1.heap.objs.size)
 have vw:(s1.heap.push { cls:=.type "dict_values",data:=.fields #[.ref a] }).IsValuesView s1.heap.objs.size a:=⟨_,Heap.get?_push_size _ rfl,rfl,rfl⟩
 have I2:=I1.laid (t':=s1.toks) (h':=s1.heap.push { cls:=.type "dict_values",data:=.fields #[.ref a] }) (a:=s1.heap.objs.size) (o:=.ext fun h=>h.IsValuesView s1.heap.objs.size a) (fun b u e=>Heap.get?_push_of_some _ e) (Nat.le_refl _) ⟨vw,let ⟨ob,e,_⟩:=vw; ⟨ob,e⟩,fun h1 h2 ⟨ob,e,r⟩ k=>⟨ob,k _ e,r⟩⟩
 exact ⟨.ref s1.heap.objs.size,_,I2,rfl,q1 _ _ hp (Same.new hp) a27⟩
end
section
variable {prog:Program}{w:World}{A:Around}{E:Value→Shared→Prop}{s:Shared}{d v:Addr}{es:Array DictEntry}{ep:Nat}
theorem ba3 {Q:Value→Shared→Prop}(hv:s.heap.IsValuesView v d) (x:RawD s.heap d es ep) (q:Q (.ref s.heap.objs.size) { s with heap:=s.heap.push { cls:=.type "dict_valueiterator",data:=.fields #[.ref d,.int 0 0,.int es.size 0,.int ep 0] } }):wpAny (model prog w) A (pyIter (.ref v)) Q E s:=by
 obtain ⟨ov,hov,hcv,hdv⟩:=id hv
 obtain ⟨o,ho,hc,hdat⟩:=id x
 refine wpAny_pyIter_slot hv.typeIs F.slot_dict_values_iter (wpAny_call_entry F.slot_dict_values_iter hv.typeIs F.entry_dict_values_iter ?_ (F.args_dict_values_iter_1 _))
 unfold Builtin.«dict_values.__iter__»
 refine wpAny_bind (wpAny_pure (wpAny_bind ?_))
 unfold Builtin.Dict_items.dictOf
 refine wpAny_bind (wpAny_field hov hdv (x:=.ref d) rfl (wpAny_pure (wpAny_bind ?_)))
 unfold Builtin.Dict_items.newIterator
 refine wpAny_bind (wpAny_dictEntries ho hdat (wpAny_bind (wpAny_dictEpoch ho hdat ?_)))
 simp only [show Builtin.Dict_items.ownsTuple "dict_valueiterator"=false by decide,Bool.false_eq_true,if_false]
 refine wpAny_newObj_type (wpAny_pure ⟨_,rfl,"dict_valueiterator",_,⟨_,Heap.get?_push_size _ rfl,rfl⟩,F.slot_dict_valueiterator_next.lookup,?_⟩)
 simpa [rawInt] using q
theorem bg8:PySem.W.KdlSrc prog w "dict_values" v d es.size (fun i x=>∃ e,es[i]?=some e∧x=e.val) (fun h=>h.IsValuesView v d∧RawD h d es ep) where
 type:=fun _ hm=>hm.1.typeIs
 there:=fun _ hm=>⟨let ⟨_,ho,_⟩:=hm.1; Heap.lt_size ho,hm.2.lt⟩
 keep:=fun _ _ hm hk=>⟨let ⟨o,ho,x⟩:=hm.1; ⟨o,hk v (.inl rfl) o ho,x⟩,hm.2.keep fun o e=>hk d (.inr rfl) o e⟩
 notList:=by decide
 notTuple:=by decide
 hint:=fun _ _ _ _ hm hq=>PySem.W.kdl_hint_values hm.1.typeIs hq
 iter:=fun _ s hh hm=>⟨_,_,(fun _ _ hq=>ba3 hm.1 hm.2 hq),b36 hh (Nat.ne_of_lt hm.2.lt),⟨⟨_,Heap.get?_push_size _ rfl,rfl,rfl⟩,hm.2.keep fun o e=>Heap.get?_push_of_some _ e⟩⟩
end
def rListV (P:Params):List V→Hp→VK→Prop:=fun vs H Q=>∃ (p d:Addr) (kvs:List (Tr×V)),vs=[V.ref p]∧ViewAt H p d∧DtAt P H d kvs∧New H (.lst (kvs.map (·.2))) Q
section
variable {X:Cx}{P:Params}
theorem ay7 (hP:X.w.params=P) (hc:X.calm=true):CallR X (.type "list") (rListV P):=by
 subst hP
 intro pins s σ H xs us Q I r h
 obtain ⟨p,d,kvs,rfl,hv,⟨m,rfl,e2,e3,e4⟩,q⟩:=h
 cases r with
 | cons r1 r2 =>
 cases r2
 cases r1
 obtain ⟨o,es,ep,q1,q2,q3,q4,q5,z1,z2⟩:=av2 I e2 e3 e4
 have vw:s.heap.IsValuesView p d:=(I.hok p _ hv).1
 refine PySem.W.kdl_call (bg8 (es:=es) (ep:=ep)) (I.ok.hd hc) ⟨vw,o,q1,q2,q3⟩ (by rw [q4.len]; exact z1) fun h' tk acc c hk hS hacc=>?_
 have hp:=I.fresh
 have hl:acc.size=m.length:=hacc.1.trans q4.len
 have I2:=I.laid (a:=s.heap.objs.size) (o:=.lst ((m.map fun x=>(x.1,x.2.2)).map (·.2))) (t':=tk) hk (Nat.le_refl _) ⟨by rw [List.length_map,List.length_map]; exact z1,acc.toList,c,av3 (by simp [hl]) fun j x1 x2 hx1 hx2=>by
  rw [List.getElem?_map,List.getElem?_map] at hx1
  obtain ⟨y,hy,rfl⟩:=Option.map_eq_some_iff.mp hx1
  obtain ⟨x,hx,rfl⟩:=Option.map_eq_some_iff.mp hy
  obtain ⟨e,he,rfl⟩:=hacc.2 j x2 (by rw [← Array.getElem?_toList]; exact hx2)
  obtain ⟨en,f1,f2,f3,f4⟩:=q4.at_ j x hx
  rw [he] at f1
  cases f1
  exact f4,by simpa using hS⟩
 exact ⟨.ref s.heap.objs.size,_,I2,rfl,q _ _ hp (Same.new hp) a27⟩
end
open AutoSeq1 (wpAny_loadPart')
section
variable {X:Cx}{elts:List Expr}{x1:Nat}{tpos:Pos}
end
section
variable {prog:Program}{w:World}
variable {A:Around}{E:Value→Shared→Prop}{s:Shared}
end
section
variable {prog:Program}{w:World}{A:Around}{R:Result→Shared→Prop}{I:Addr}{fp wr:List Addr}{G:Array GenState→Array GenState→Prop}{n:Nat}{P:Nat→Value→Prop}{St:Nat→Shared→Prop}
end
section
variable {prog:Program}{w:World}{A:Around}{E:Value→Shared→Prop}{s:Shared}
end
section
variable {M:Model}{A:Around}{E:Value→Shared→Prop}{s:Shared}
end
section
variable {prog:Program}{w:World}{A:Around}{E:Value→Shared→Prop}{s:Shared}{S it:Addr}{o:Obj}{es:Array (Int×Value)}{ep:Nat}{t:SetTable}
end
section
variable {prog:Program}{w:World}{A:Around}{E:Value→Shared→Prop}{s:Shared}{S it tp:Addr}{o:Obj}{es:Array (Int×Value)}{ep i:Nat}{t:SetTable}{first:Value}
end
section
variable {prog:Program}{w:World}{A:Around}{E:Value→Shared→Prop}{s:Shared}{S it tp:Addr}{o:Obj}{es:Array (Int×Value)}{ep i:Nat}{t:SetTable}{first:Value}
end
section
variable {prog:Program}{w:World}{A:Around}{E:Value→Shared→Prop}{s:Shared}{S it tp:Addr}{o:Obj}{es:Array (Int×Value)}{ep i:Nat}{t:SetTable}{first:Value}
end
section
variable {prog:Program}{w:World}{A:Around}{E:Value→Shared→Prop}{s:Shared}{S:Addr}{es:Array (Int×Value)}
end
section
variable {prog:Program}{w:World}{A:Around}{E:Value→Shared→Prop}{s:Shared}{S:Addr}{es:Array (Int×Value)}
end
section
variable {X:Cx}{P:Program}{w:World}
end
section
variable {X:Cx}
end
def Evs (many:Nat) (w:List Nat):Prop:=∀ j∈w,j<many
section
variable {rs:List RRoom}{many:Nat}{p:Pr}
theorem bg9 {j:Nat}{w:List Nat}(h:j<many) (h2:Evs many w):Evs many (j::w):=fun i hi=>by
 rcases List.mem_cons.mp hi with rfl | hi
 · exact h
 · exact h2 i hi
variable {N k:Nat}{dv:Pr→Option Nat}
end
section
variable {prog:Program}{w:World}{A:Around}{E:Value→Shared→Prop}{s:Shared}
end
section
variable {X:Cx}{P:Params}
end
section
variable {prog:Program}{w:World}{A:Around}{R:Result→Shared→Prop}{J:Addr}{fp wr:List Addr}{n:Nat}{P:Nat→Value→Prop}{St:Nat→Heap→Prop}
end
section
variable {prog:Program}{w:World}{A:Around}{E:Value→Shared→Prop}{s:Shared}
end
section
variable {X:Cx}{e d:Expr}{t tk:TA}{p kp pos:Pos}
end
section
variable {X:Cx}
end
mutual
def toW:Tr→Tw
 | .non=>.sc .non
 | .int i=>.sc (.int i)
 | .str s=>.sc (.str s)
 | .tup ts=>.tup (toWs ts)
 | .lst ts=>.lst (toWs ts)
def toWs:List Tr→List Tw
 | []=>[]
 | t::ts=>toW t::toWs ts
end
mutual
theorem ba4 {H:Hp}:∀ {t:Tr}{v:V}{fs:List Addr},t.At H v fs→(toW t).At H v fs
 | .non,v,fs,h=>by
   simp only [Tr.At] at h
   simp only [toW,Tw.At]
   exact ⟨h.1,True.intro,h.2⟩
 | .int i,v,fs,h=>by
   simp only [Tr.At] at h
   simp only [toW,Tw.At]
   exact ⟨h.1,True.intro,h.2⟩
 | .str s,v,fs,h=>by
   simp only [Tr.At] at h
   simp only [toW,Tw.At]
   exact ⟨h.1,True.intro,h.2⟩
 | .tup ts,v,fs,h=>by
   simp only [Tr.At] at h
   simp only [toW,Tw.At]
   obtain ⟨a,vs,e,g,r⟩:=h
   exact ⟨a,vs,e,g,ao9 r⟩
 | .lst ts,v,fs,h=>by
   simp only [Tr.At] at h
   simp only [toW,Tw.At]
   obtain ⟨a,vs,gs,e,g,r,f⟩:=h
   exact ⟨a,vs,gs,e,g,ao9 r,f⟩
theorem ao9 {H:Hp}:∀ {ts:List Tr}{vs:List V}{fs:List Addr},Tr.Ats H ts vs fs→Tw.Ats H (toWs ts) vs fs
 | [],vs,fs,h=>by
   simp only [Tr.Ats] at h
   simp only [toWs,Tw.Ats]
   exact h
 | t::ts,vs,fs,h=>by
   simp only [Tr.Ats] at h
   simp only [toWs,Tw.Ats]
   obtain ⟨v,ws,f,g,e1,e2,a,b⟩:=h
   exact ⟨v,ws,f,g,e1,e2,ba4 a,ao9 b⟩
end
mutual
theorem bh0:∀ t:Tr,(toW t).h=t.h
 | .non=>by simp [toW,Tw.h,Tr.h]
 | .int _=>by simp [toW,Tw.h,Tr.h]
 | .str _=>by simp [toW,Tw.h,Tr.h]
 | .tup ts=>by simp [toW,Tw.h,Tr.h,ba5 ts]
 | .lst ts=>by simp [toW,Tw.h,Tr.h,ba5 ts]
theorem ba5:∀ ts:List Tr,Tw.hs (toWs ts)=Tr.hs ts
 | []=>by simp [toWs,Tw.hs,Tr.hs]
 | t::ts=>by simp [toWs,Tw.hs,Tr.hs,bh0 t,ba5 ts]
end
end L2
namespace L2
section
variable {α:Type}{n many:Nat}{w:Nat→Nat→Nat}{lab:Nat→α}
def Apart (lab:Nat→α) (w:Nat→Nat→Nat):Nat→Nat→List Nat→Prop
 | a,b,[]=>lab a≠lab b
 | a,b,j::v=>Apart lab w (w a j) (w b j) v
def ApartR (lab:Nat→α) (w:Nat→Nat→Nat) (many a b:Nat):Prop:=∃ v,Evs many v∧Apart lab w a b v
theorem ApartR.cons {a b j:Nat}(hj:j<many) (h:ApartR lab w many (w a j) (w b j)):ApartR lab w many a b:=by
 obtain ⟨v,h1,h2⟩:=h
 exact ⟨j::v,bg9 hj h1,h2⟩
structure Grp (lab:Nat→α) (w:Nat→Nat→Nat) (n many:Nat) (g:Nat→Nat) (T:Nat→Prop):Prop where
 same:∀ a b,a<n→b<n→g a=g b→lab a=lab b
 led:∀ a b,a<n→b<n→g a=g b→¬ T a→¬ T b→∀ j,j<many→g (w a j)=g (w b j)
 apart:∀ a b,a<n→b<n→g a≠g b→ApartR lab w many a b
theorem Grp.partP {Real:Nat→Nat→Prop}{g g':Nat→Nat}{T T':Nat→Prop}{G:Nat}(h:Grp lab w n many g T) (hw:∀ a j,a<n→j<many→w a j<n)
 (h1:∀ a,a<n→g a≠G→g' a=g a) (h2:∀ a b,a<n→b<n→g a=G→g b=G→(g' a=g' b↔∀ j,j<many→g (w a j)=g (w b j))) (h3:∀ a b,a<n→b<n→g a=G→g b≠G→g' a≠g' b)
 (hp:∀ a b j,a<n→b<n→lab a=lab b→j<many→(Real a j∧Real b j)∨(w a j=a∧w b j=b))
 (h4:∀ a,a<n→(T a∧g a≠G)∨(∃ j,j<many∧Real a j∧g' (w a j)≠g (w a j))→T' a):Grp lab w n many g' T':=by
 have fin:∀ a b,a<n→b<n→g' a=g' b→g a=g b:=fun a b ha hb e=>by
  by_cases ea:g a=G
  · by_cases eb:g b=G
    · rw [ea,eb]
    · exact absurd e (h3 a b ha hb ea eb)
  · by_cases eb:g b=G
    · exact absurd e.symm (h3 b a hb ha eb ea)
    · rw [← h1 a ha ea,←h1 b hb eb,e]
 refine ⟨fun a b ha hb e=>h.same a b ha hb (fin a b ha hb e),fun a b ha hb e ta tb j hj=>?_,fun a b ha hb e=>?_⟩
 · rcases hp a b j ha hb (h.same a b ha hb (fin a b ha hb e)) hj with ⟨ra,rb⟩ | ⟨pa,pb⟩
   rotate_left
   · rw [pa,pb]
     exact e
   have na:g' (w a j)=g (w a j):=Classical.not_not.mp fun z=>ta (h4 a ha (.inr ⟨j,hj,ra,z⟩))
   have nb:g' (w b j)=g (w b j):=Classical.not_not.mp fun z=>tb (h4 b hb (.inr ⟨j,hj,rb,z⟩))
   rw [na,nb]
   have eg:=fin a b ha hb e
   by_cases ea:g a=G
   · exact (h2 a b ha hb ea (eg ▸ ea)).mp e j hj
   · exact h.led a b ha hb eg (fun z=>ta (h4 a ha (.inl ⟨z,ea⟩))) (fun z=>tb (h4 b hb (.inl ⟨z,fun y=>ea (eg.trans y)⟩))) j hj
 · by_cases eg:g a=g b
   · have ea:g a=G:=Classical.not_not.mp fun z=>e (by rw [h1 a ha z,h1 b hb (fun y=>z (eg.trans y)),eg])
     have:¬ ∀ j,j<many→g (w a j)=g (w b j):=fun z=>e ((h2 a b ha hb ea (eg ▸ ea)).mpr z)
     obtain ⟨j,hj⟩:=Classical.not_forall.mp this
     obtain ⟨hj,hne⟩:=Classical.not_imp.mp hj
     exact ApartR.cons hj (h.apart _ _ (hw a j ha hj) (hw b j hb hj) hne)
   · exact h.apart a b ha hb eg
theorem Grp.done {g:Nat→Nat}{T:Nat→Prop}(h:Grp lab w n many g T) (hw:∀ a j,a<n→j<many→w a j<n) (hT:∀ a,a<n→¬ T a) {a b:Nat}(ha:a<n) (hb:b<n):g a=g b↔¬ ApartR lab w many a b:=by
 constructor
 · rintro e ⟨v,h1,h2⟩
   induction v generalizing a b with
   | nil=>exact h2 (h.same a b ha hb e)
   | cons j v ih =>
     have hj:=h1 j List.mem_cons_self
     exact ih (hw a j ha hj) (hw b j hb hj) (h.led a b ha hb e (hT a ha) (hT b hb) j hj) (fun i hi=>h1 i (List.mem_cons_of_mem _ hi)) h2
 · intro z
   exact Classical.not_not.mp fun e=>z (h.apart a b ha hb e)
end
section
variable {rs:List RRoom}{many:Nat}
def labR (rs:List RRoom) (many x:Nat):Bool×List (List PySem.Str):=((roomA rs x).1,(List.range many).map fun j=>(rowA rs x j).1)
def wayR (rs:List RRoom) (x j:Nat):Nat:=(rowA rs x j).2
end
end L2
namespace L2
open PySem PySem.Spec PyProof.Rows
def Old (h₀ h:Heap):Prop:=∀ b o,h₀.get? b=some o→h.get? b=some o
theorem Old.upd {h₀ h:Heap}{a:Addr}{f:Obj→Obj}(k:Old h₀ h) (n:h₀.get? a=none):Old h₀ (h.update a f):=fun b o e=>(Heap.get?_update_other _ _ (fun z:a=b=>by rw [z,e] at n; cases n)).trans (k b o e)
theorem Old.push {h₀ h:Heap}{o':Obj}(k:Old h₀ h):Old h₀ (h.push o'):=fun b o e=>Heap.get?_push_of_some _ (k b o e)
section
variable {prog:Program}{w:World}{A:Around}{E:Value→Shared→Prop}{s:Shared}{h₀:Heap}{a kS:Addr}{vs:List Value}{kz:List Int}{keys:Array Value}{e e1:Nat}{P:PySem.Fin→Shared→Prop}
theorem ba6 {st:SortSt}(old:Old h₀ s.heap) (nk:s.heap.get? kS=some (seqObj "list" keys e)) (na:s.heap.get? a=some (seqObj "list" #[] e1)) (fk:h₀.get? kS=none) (fa:h₀.get? a=none) (ne:kS≠a) (hk:IntsAre keys.toList kz) (hz:kz.length=vs.length) (h64:vs.length<64)
 (hp:(arrOf st).Perm (keys.zip vs.toArray)) (hs:SortedTo (arrOf st) (arrOf st).size) (hf:failedOf st=none) (h:∀ h' tk out c,Old h₀ h'→h'.get? a=some (seqObj "list" out c)→KskOut false kz vs out.toList→P (.done (.ret .none)) { s with heap:=h',toks:=tk }) :
 wpAny (model prog w) A (ksk_tail a false e1 (.ref kS) st) P E s:=by
 have z1:keys.size=vs.length:=by have:=hk.length; rw [Array.length_toList] at this; omega
 have z2:((arrOf st).map (·.2)).size=vs.length:=by rw [Array.size_map,hp.size_eq,Array.size_zip,z1,List.size_toArray,Nat.min_self]
 have z3:(1000:Nat)≤sizeLine:=le_line (by decide)
 have na1:(s.heap.update kS (Obj.mapSeq fun _=>(#[]:Array Value))).get? a=some (seqObj "list" #[] e1):=(Heap.get?_update_other _ _ ne).trans na
 unfold ksk_tail
 simp only [Bool.false_eq_true,if_false]
 refine wpAny_bind (listUpdate_at nk rfl (wpAny_bind (wpAny_letGo (wpAny_bind (seqEpoch_at na1 rfl (wpAny_bind (listUpdate_at na1 rfl ?_ (Nat.zero_le _) (by rw [z2]; omega))))))) (by rw [z1]; omega) (Nat.zero_le _))
 rw [hf]
 simp only [Bool.false_eq_true,bne_self_eq_false,if_false]
 exact wpAny_pure (h _ _ _ _ ((old.upd fk).upd fa) (get?_update_seq na1 fun _=>(arrOf st).map (·.2)) (ksk_out (b:=false) hk hp hs))
theorem bz3 (old:Old h₀ s.heap) (nk:s.heap.get? kS=some (seqObj "list" keys e)) (na:s.heap.get? a=some (seqObj "list" #[] e1)) (fk:h₀.get? kS=none) (fa:h₀.get? a=none) (ne:kS≠a) (hk:IntsAre keys.toList kz) (hz:kz.length=vs.length) (h64:vs.length<64)
 (h:∀ h' tk out c,Old h₀ h'→h'.get? a=some (seqObj "list" out c)→KskOut false kz vs out.toList→P (.done (.ret .none)) { s with heap:=h',toks:=tk }) :
 wpAny (model prog w) A (ksk_end a false vs.toArray e1 (.ref kS) keys) P E s:=by
 have z1:keys.size=vs.length:=by have:=hk.length; rw [Array.length_toList] at this; omega
 have z2:(keys.zip vs.toArray).size=vs.length:=by rw [Array.size_zip,z1,List.size_toArray,Nat.min_self]
 unfold ksk_end
 simp only [Bool.false_eq_true,if_false]
 by_cases h2:vs.toArray.size<2
 · rw [if_pos h2,if_pos h2]
   refine wpAny_bind (wpAny_pure ?_)
   rw [StateT.run_pure]
   refine wpAny_bind (wpAny_pure (ba6 (st:=SortSt.mk' general' (keys.zip vs.toArray) #[] 7 none) old nk na fk fa ne hk hz h64 (Array.Perm.refl _) (fun i j hij hj=>?_) rfl h))
   have hj2:j<(keys.zip vs.toArray).size:=hj
   rw [List.size_toArray] at h2
   obtain rfl:i=j:=by omega
   exact Int.le_refl _
 · rw [if_neg h2,if_neg h2]
   rw [List.size_toArray] at h2
   rw [ksk_kind hk (by omega)]
   refine wpAny_bind (wpAny_pure (wpAny_bind (wpAny_mono (wpS_sortRuns (a₀:=keys.zip vs.toArray) (st:=SortSt.mk' oneType' (keys.zip vs.toArray) #[] 7 none) (Q:=fun _ st'=>(arrOf st').Perm (keys.zip vs.toArray)∧failedOf st'=none∧SortedTo (arrOf st') (keys.zip vs.toArray).size)
    (ksk_intKeys hk) ⟨Array.Perm.refl _,rfl,rfl,rfl⟩ (by omega) (by omega) fun st' a1 a2 a3=>⟨a1,a2,a3⟩) ?_ fun _ _ e=>e)))
   rintro ⟨⟨⟩,st'⟩ s' ⟨rfl,hp,hf,hs⟩
   exact ba6 old nk na fk fa ne hk hz h64 hp (by rw [hp.size_eq]; exact hs) hf h
theorem bo9 {f:Value}(old:Old h₀ s.heap) (nk:s.heap.get? kS=some (seqObj "list" #[] 0)) (na:s.heap.get? a=some (seqObj "list" #[] e1)) (fk:h₀.get? kS=none) (fa:h₀.get? a=none) (ne:kS≠a) (hz:kz.length=vs.length) (h64:vs.length<64)
 (turn:∀ (i:Nat) (v:Value) (k:Int),vs[i]?=some v→kz[i]?=some k→∀ (h:Heap) (tk:Nat),Old h₀ h→wpAny (model prog w) A (call f [v]) (fun u s'=>∃ t tk',u=.int k t∧s'={ s with heap:=h,toks:=tk' }) (fun _ _=>False) { s with heap:=h,toks:=tk })
 (h:∀ h' tk out c,Old h₀ h'→h'.get? a=some (seqObj "list" out c)→KskOut false kz vs out.toList→P (.done (.ret .none)) { s with heap:=h',toks:=tk }) :
 wpAny (model prog w) A (ksk_rest a f false vs.toArray e1 (.ref kS)) P E s:=by
 have z3:(1000:Nat)≤sizeLine:=le_line (by decide)
 unfold ksk_rest
 refine wpAny_bind (wpAny_rule ?_)
 rw [List.forIn_toArray]
 refine wpAny_bind (ksk_fold (fun i s'=>∃ h' tk kA e,s'={ s with heap:=h',toks:=tk }∧Old h₀ h'∧h'.get? kS=some (seqObj "list" kA e)∧h'.get? a=some (seqObj "list" #[] e1)∧IntsAre kA.toList (kz.take i)) vs 0 s ⟨s.heap,s.toks,#[],0,rfl,old,nk,na,by simpa using IntsAre.nil⟩ ?_ ?_)
 · rintro j x s' hx ⟨h',tk,kA,e,rfl,o',nk',na',hk⟩
   simp only [Nat.zero_add] at hk ⊢
   have hj:j<vs.length:=(List.getElem?_eq_some_iff.mp hx).1
   obtain ⟨k,hkj⟩:∃ k,kz[j]?=some k:=⟨_,List.getElem?_eq_getElem (by omega)⟩
   have z1:kA.size≤vs.length:=by have:=hk.length; rw [Array.length_toList,List.length_take] at this; omega
   refine wpAny_bind (wpAny_attempt (wpAny_mono (turn j x k hx hkj h' tk o') (fun v s'' he=>?_) fun _ _ hF=>hF.elim))
   obtain ⟨t,tk2,rfl,rfl⟩:=he
   dsimp only
   refine wpAny_bind (listUpdate_at nk' rfl (wpAny_pure ⟨rfl,_,_,kA.push (.int k t),_,rfl,o'.upd fk,get?_update_seq nk' (·.push (.int k t)),(Heap.get?_update_other _ _ ne).trans na',?_⟩) (by omega) (by rw [Array.size_push]; omega))
   rw [show kz.take (j+1)=kz.take j++[k] by rw [List.take_add_one,hkj]; simp,Array.toList_push]
   exact ksk_snoc hk
 · rintro s' ⟨h',tk,kA,e,rfl,o',nk',na',hk⟩
   rw [show kz.take (0+vs.length)=kz from List.take_of_length_le (by omega)] at hk
   exact wpAny_bind (listItems_at nk' rfl (bz3 o' nk' na' fk fa ne hk hz h64 h))
end
section
variable {prog:Program}{w:World}{A:Around}{E:Value→Shared→Prop}{s:Shared}{h₀:Heap}{a l:Addr}{vs:List Value}{kz:List Int}{P:PySem.Fin→Shared→Prop}
theorem bp0 {f:Value}{n:Nat}(old:Old h₀ s.heap) (ho:s.heap.get? a=some (seqObj "list" vs.toArray n)) (fa:h₀.get? a=none) (hb:h₀.objs.size≤s.heap.objs.size) (hz:kz.length=vs.length) (h64:vs.length<64)
 (turn:∀ (i:Nat) (v:Value) (k:Int),vs[i]?=some v→kz[i]?=some k→∀ (h:Heap) (tk:Nat),Old h₀ h→wpAny (model prog w) A (call f [v]) (fun u s'=>∃ t tk',u=.int k t∧s'={ s with heap:=h,toks:=tk' }) (fun _ _=>False) { s with heap:=h,toks:=tk })
 (h:∀ h' tk out c,Old h₀ h'→h'.get? a=some (seqObj "list" out c)→KskOut false kz vs out.toList→P (.done (.ret .none)) { s with heap:=h',toks:=tk }) :
 wpAny (model prog w) A (ksk_tree a f false) P E s:=by
 have z3:(1000:Nat)≤sizeLine:=le_line (by decide)
 have ha:a<s.heap.objs.size:=Heap.lt_size ho
 obtain ⟨e1,ho1⟩:∃ e1,(s.heap.update a (Obj.mapSeq fun _=>(#[]:Array Value))).get? a=some (seqObj "list" #[] e1):=⟨_,get?_update_seq ho fun _=>#[]⟩
 have zk:((s.heap.update a (Obj.mapSeq fun _=>(#[]:Array Value))).push (seqObj "tuple" vs.toArray 0)).objs.size=s.heap.objs.size+1:=by rw [size_push',Heap.size_update]
 unfold ksk_tree
 refine wpAny_bind (listItems_at ho rfl (wpAny_bind (listUpdate_at ho rfl (wpAny_bind (seqEpoch_at ho1 rfl (wpAny_bind (wpAny_newTuple (wpAny_bind (wpAny_newList (wpAny_holding ?_) (Nat.zero_le _))) (by show vs.length≤_; omega))))) (by rw [List.size_toArray]; omega) (Nat.zero_le _))))
 exact bo9 (s:={ s with heap:=((s.heap.update a (Obj.mapSeq fun _=>(#[]:Array Value))).push (seqObj "tuple" vs.toArray 0)).push (seqObj "list" #[] 0) }) (old.upd fa).push.push (Heap.get?_push_size _ rfl) (Heap.get?_push_of_some _ (Heap.get?_push_of_some _ ho1)) (Heap.get?_none_of_le (by rw [zk]; omega)) fa (by rw [zk]; exact Nat.ne_of_gt (Nat.lt_succ_of_lt ha)) hz h64 turn h
theorem ba7 {f:Value}{kw:List (Str×Value)}{Q:Value→Shared→Prop}(hl:s.heap.IsList l vs.toArray) (hz:kz.length=vs.length) (h64:vs.length<64) (ha1:argsOk "sorted" ⟨[.ref l],kw⟩) (ha2:∀ x,argsOk "list.sort" ⟨[.ref x],kw⟩) (ht:∀ x,Builtin.«list.sort» ⟨[.ref x],kw⟩=ksk_tree x f false)
 (turn:∀ (i:Nat) (v:Value) (k:Int),vs[i]?=some v→kz[i]?=some k→∀ (h:Heap) (tk:Nat),Old s.heap h→wpAny (model prog w) A.in1.in1 (call f [v]) (fun u s'=>∃ t tk',u=.int k t∧s'={ s with heap:=h,toks:=tk' }) (fun _ _=>False) { s with heap:=h,toks:=tk })
 (h:∀ h' tk out c,Old s.heap h'→h'.get? (s.heap.objs.size+1)=some (seqObj "list" out c)→KskOut false kz vs out.toList→Q (.ref (s.heap.objs.size+1)) { s with heap:=h',toks:=tk }) :
 wpAny (model prog w) A (call (.builtin "sorted") [.ref l] kw) Q E s:=by
 have z3:(1000:Nat)≤sizeLine:=le_line (by decide)
 refine call_function_entry_kw kind_sorted plain_sorted entry_sorted ha1 ?_
 unfold Builtin.«sorted»
 refine wpAny_bind (m:=checkCount "sorted" 1 1 _) (wpAny_pure (wpAny_bind (collect_list hl (wpAny_bind (wpAny_newList ?_ (by omega))) (by omega))))
 have zs:((s.heap.push (seqObj "list" #[] 0)).update s.heap.objs.size (Obj.mapSeq (·++vs.toArray))).objs.size=s.heap.objs.size+1:=by rw [Heap.size_update,size_push']
 have hoL:(((s.heap.push (seqObj "list" #[] 0)).update s.heap.objs.size (Obj.mapSeq (·++vs.toArray))).push (seqObj "list" vs.toArray 0)).get? (s.heap.objs.size+1)=some (seqObj "list" vs.toArray 0):=zs ▸ Heap.get?_push_size _ rfl
 have old:Old s.heap (((s.heap.push (seqObj "list" #[] 0)).update s.heap.objs.size (Obj.mapSeq (·++vs.toArray))).push (seqObj "list" vs.toArray 0)):=((show Old s.heap (s.heap.push (seqObj "list" #[] 0)) from fun b o e=>Heap.get?_push_of_some _ e).upd (Heap.get?_none_of_le (Nat.le_refl _))).push
 show wpAny (model prog w) A.in1 _ _ E { s with heap:=((s.heap.push (seqObj "list" #[] 0)).update s.heap.objs.size (Obj.mapSeq (·++vs.toArray))).push (seqObj "list" vs.toArray 0) }
 rw [zs]
 refine wpAny_bind (wpAny_holding (wpAny_call_entry_kw slot_list_sort ⟨_,hoL,rfl⟩ entry_list_sort ?_ (ha2 _)))
 show wpAny (model prog w) A.in1.in1 (Builtin.«list.sort» ⟨[.ref (s.heap.objs.size+1)],kw⟩) _ E _
 rw [ht (s.heap.objs.size+1)]
 refine bp0 (s:={ s with heap:=((s.heap.push (seqObj "list" #[] 0)).update s.heap.objs.size (Obj.mapSeq (·++vs.toArray))).push (seqObj "list" vs.toArray 0) }) old hoL (Heap.get?_none_of_le (Nat.le_succ _)) (by rw [size_push',zs]; omega) hz h64 turn fun h' tk out c o' e' k'=>⟨_,rfl,?_⟩
 exact wpAny_pure ⟨_,rfl,h h' tk out c o' e' k'⟩
end
theorem ba8 {α β:Type}{g:α→β}{ps qs:List β}(h:ps.Perm qs):∀ {ls:List α},ls.map g=qs→∃ ms:List α,ms.Perm ls∧ms.map g=ps:=by
 induction h with
 | nil =>
   intro ls e
   obtain rfl:=List.map_eq_nil_iff.mp e
   exact ⟨[],.nil,rfl⟩
 | cons x _ ih =>
   intro ls e
   obtain ⟨a,ls',rfl,rfl,e2⟩:=List.map_eq_cons_iff.mp e
   obtain ⟨ms,h1,h2⟩:=ih e2
   exact ⟨a::ms,h1.cons a,by rw [List.map_cons,h2]⟩
 | swap x y l =>
   intro ls e
   obtain ⟨a,ls',rfl,rfl,e2⟩:=List.map_eq_cons_iff.mp e
   obtain ⟨b,ls2,rfl,rfl,e3⟩:=List.map_eq_cons_iff.mp e2
   exact ⟨b::a::ls2,.swap a b ls2,by simp [e3]⟩
 | trans _ _ ih1 ih2 =>
   intro ls e
   obtain ⟨ms,h1,h2⟩:=ih2 e
   obtain ⟨ns,h3,h4⟩:=ih1 h2
   exact ⟨ns,h3.trans h1,h4⟩
theorem as2:∀ {ls:List (Addr×List V)}{its:List Value},Vals (ls.map fun x=>V.ref x.1) its→its=ls.map fun x=>Value.ref x.1
 | [],its,h=>by cases h; rfl
 | x::ls,its,h=>by
   cases h with
   | cons r1 r2 =>
     cases r1
     rw [as2 r2]
     rfl
theorem valsR:∀ (ls:List (Addr×List V)),Vals (ls.map fun x=>V.ref x.1) (ls.map fun x=>Value.ref x.1)
 | []=>.nil
 | x::ls=>.cons rfl (valsR ls)
def tSortLen (K:PySem.W.Frag) (t:TA):TE:=fun σ H Q=>t σ H fun xs H1=>∃ (a:Addr) (ls:List (Addr×List V)),xs=[.ref a]∧SqL K H1 a (ls.map fun x=>V.ref x.1)∧(∀ x∈ls,H1 x.1=some (.lst x.2))∧ls.length<64 ∧
 ∀ (p:Addr) (ms:List (Addr×List V)) (H':Hp),H1 p=none→Same H1 H'→H' p=some (.lst (ms.map fun x=>V.ref x.1))→ms.Perm ls→ms.Pairwise (fun x y=>x.2.length≤y.2.length)→Q (.ref p) H'
section
variable {X:Cx}{e:Expr}{t:TA}{p p2 kp pos:Pos}
theorem b37 (K:PySem.W.Frag) (hK:X.K=K) (hg:Gl X "sorted") (hm:X.mg "sorted"=none) (hv:bootBuiltins "sorted"=some (.builtin "sorted")) (hg2:Gl X "len") (hm2:X.mg "len"=none) (hv2:bootBuiltins "len"=some (.builtin "len")) (ha:PA X [e] t)
 (he:starEach [e] X.env=(false,eval e X.env)::starEach [] X.env:=by rfl):PE X (.Call (.Name "sorted" p) [e] [⟨some "key",.Name "len" p2,kp⟩] pos) (tSortLen K t):=by
 subst hK
 intro pins s σ H Q I h
 refine wpAny_Call_Name_kw (ae8 I hg hm hv ?_ (by decide) (by decide))
 refine PyProof.Rows.callWith_kw (thn (ha pos pins s σ H _ I h) fun us s1 ⟨vs,H1,I1,r1,a,ls,e1,hS,hls,h64,q⟩=>kws_cons (ae8 I1 hg2 hm2 hv2 (kws_nil ?_) (by decide) (by decide))) (by rw [he]; rfl) (by rw [he]; rfl)
 subst e1
 obtain ⟨u,rfl,ru⟩:=at8 r1
 cases ru
 obtain ⟨its,v1,p1,_⟩:=I1.list hS
 obtain rfl:=as2 v1
 refine ba7 (f:=.builtin "len") (kz:=ls.map fun x=>(x.2.length:Int)) (vs:=ls.map fun x=>Value.ref x.1) p1.isList (by simp) (by simpa using h64) (ksk_s1 _ _) (fun x=>ksk_l1 _ _) (fun x=>ksk_t4 _ _) ?_ ?_
 · intro i v k hv hk hp tk old
   rw [List.getElem?_map] at hv hk
   obtain ⟨x,hx,rfl⟩:=Option.map_eq_some_iff.mp hv
   rw [hx] at hk
   cases hk
   obtain ⟨xs,w1,w2,w3⟩:=I1.list (SqL.of (hls x (List.mem_of_getElem? hx)))
   have hl:xs.length=x.2.length:=w1.length.symm
   obtain ⟨o,g1,g2,n,g3⟩:=w2.isList
   refine Calls.call_len_list (items:=xs.toArray) ⟨o,old _ _ g1,g2,n,g3⟩ ?_ ⟨tk+1,_,by rw [List.size_toArray,hl],rfl⟩
   have:=sizeLine_eq
   simp only [List.size_toArray]
   omega
 · rintro h' tk out c old e' ⟨ps,hp,ho,hpw⟩
   have ez:(ls.map fun x=>(x.2.length:Int)).zip (ls.map fun x=>Value.ref x.1)=ls.map fun x=>((x.2.length:Int),Value.ref x.1):=by
    rw [List.zip_map']
   rw [ez] at hp
   obtain ⟨ms,m1,rfl⟩:=ba8 hp rfl
   have hf:=I1.hok.fresh (Nat.le_succ s1.heap.objs.size)
   have hml:ms.length<64:=by rw [m1.length_eq]; exact h64
   refine ⟨.ref (s1.heap.objs.size+1),upd H1 (s1.heap.objs.size+1) (.lst (ms.map fun x=>V.ref x.1)),I1.laid (t':=tk) old (Nat.le_succ _) ⟨by simp; have:=sizeLine_eq; omega,out.toList,c,?_,by rw [Array.toArray_toList]; exact e'⟩,rfl,q _ ms _ hf (Same.new hf) a27 m1 ?_⟩
   · rw [ho,List.map_map]
     exact valsR ms
   · rw [List.pairwise_map] at hpw
     exact hpw.imp fun h=>by simpa using h
end
mutual
def Tr.AtB (H:Hp):Tr→V→Prop
 | .non,v=>v=.non
 | .int z,v=>v=.int z∨∃ b:Bool,v=.bl b∧z=(if b=true then 1 else 0)
 | .str x,v=>v=.str x
 | .tup ts,v=>∃ a vs,v=.ref a∧H a=some (.tup vs)∧Tr.AtsB H ts vs
 | .lst _,_=>False
def Tr.AtsB (H:Hp):List Tr→List V→Prop
 | [],vs=>vs=[]
 | t::ts,vs=>∃ v r,vs=v::r∧Tr.AtB H t v∧Tr.AtsB H ts r
end
mutual
theorem Tr.AtB.tups {H H':Hp}(k:Tups H H'):∀ {t:Tr}{v:V},t.AtB H v→t.AtB H' v
 | .non,v,h=>h
 | .int z,v,h=>h
 | .str x,v,h=>h
 | .lst _,v,h=>h
 | .tup ts,v,h=>by
   simp only [Tr.AtB] at h ⊢
   obtain ⟨a,vs,h1,h2,h3⟩:=h
   exact ⟨a,vs,h1,k _ _ h2,Tr.AtsB.tups k h3⟩
theorem Tr.AtsB.tups {H H':Hp}(k:Tups H H'):∀ {ts:List Tr}{vs:List V},Tr.AtsB H ts vs→Tr.AtsB H' ts vs
 | [],vs,h=>h
 | t::ts,vs,h=>by
   simp only [Tr.AtsB] at h ⊢
   obtain ⟨v,r,h1,h2,h3⟩:=h
   exact ⟨v,r,h1,h2.tups k,Tr.AtsB.tups k h3⟩
end
theorem Tr.AtsB.get {H:Hp}:∀ {ts:List Tr}{vs:List V},Tr.AtsB H ts vs→∀ (i:Nat) (v:V),vs[i]?=some v→∃ t,ts[i]?=some t∧t.AtB H v
 | [],vs,h,i,v,e=>by
   simp only [Tr.AtsB] at h
   subst h
   simp at e
 | t::ts,vs,h,i,v,e=>by
   simp only [Tr.AtsB] at h
   obtain ⟨y,r,rfl,h2,h3⟩:=h
   cases i with
   | zero =>
     simp at e
     subst e
     exact ⟨t,rfl,h2⟩
   | succ i =>
     obtain ⟨t',a,b⟩:=h3.get i v (by simpa using e)
     exact ⟨t',by simpa using a,b⟩
theorem Tr.AtsB.len {H:Hp}:∀ {ts:List Tr}{vs:List V},Tr.AtsB H ts vs→vs.length=ts.length
 | [],vs,h=>by
   simp only [Tr.AtsB] at h
   subst h
   rfl
 | t::ts,vs,h=>by
   simp only [Tr.AtsB] at h
   obtain ⟨y,r,rfl,h2,h3⟩:=h
   simp [h3.len]
section
variable {X:Cx}{pins:List (Addr×Obj)}{σ:St} {H:Hp}{s:Shared}
mutual
theorem Tr.AtB.isIn (I:Inv X pins σ H s):∀ {t:Tr}{v:V}{u:Value},t.AtB H v→RelV v u→Tr.In s.heap t u
 | .non,v,u,h,r=>by
   simp only [Tr.AtB] at h
   subst h
   cases r
   exact rfl
 | .int z,v,u,h,r=>by
   simp only [Tr.AtB] at h
   rcases h with rfl | ⟨b,rfl,hb⟩
   · obtain ⟨t,rfl⟩:=r
     exact .inl ⟨t,rfl⟩
   · cases r
     exact .inr ⟨b,rfl,hb⟩
 | .str z,v,u,h,r=>by
   simp only [Tr.AtB] at h
   subst h
   obtain ⟨t,rfl⟩:=r
   exact ⟨t,rfl⟩
 | .lst _,v,u,h,r=>by simp only [Tr.AtB] at h
 | .tup ts,v,u,h,r=>by
   simp only [Tr.AtB] at h
   obtain ⟨a,vs,rfl,e1,c1⟩:=h
   cases r
   obtain ⟨is1,q1,p1,_⟩:=I.tuple (SqT.of e1)
   simp only [Tr.In]
   exact ⟨a,is1.toArray,rfl,p1,by simpa using Tr.AtsB.isIns I c1 q1⟩
theorem Tr.AtsB.isIns (I:Inv X pins σ H s):∀ {ts:List Tr}{vs:List V}{us:List Value},Tr.AtsB H ts vs→Vals vs us→Tr.Ins s.heap ts us
 | [],vs,us,c,q=>by
   simp only [Tr.AtsB] at c
   subst c
   cases q
   exact rfl
 | t::ts,vs,us,c,q=>by
   simp only [Tr.AtsB] at c
   obtain ⟨v,vs,rfl,a1,b1⟩:=c
   cases q with
   | cons r1 r2 =>
     simp only [Tr.Ins]
     exact ⟨_,_,rfl,Tr.AtB.isIn I a1 r1,Tr.AtsB.isIns I b1 r2⟩
end
end
def TKB (H:Hp) (t:Tr) (y:V):Prop:=t.AtB H y∧t.h≤8
def DbAt (P:Params) (H:Hp) (a:Addr) (kvs:List (Tr×V)):Prop:=∃ m:List (Tr×V×V),m.map (fun x=>(x.1,x.2.2))=kvs∧DtE P H a m∧(∀ x∈m,TKB H x.1 x.2.1)∧(m.map (·.1)).Nodup
theorem DbAt.of0 {P:Params}{H:Hp}{a:Addr}(x:DtAt P H a []):DbAt P H a []:=by
 obtain ⟨m,e1,e2,e3,e4⟩:=x
 obtain rfl:m=[]:=by simpa using e1
 exact ⟨[],rfl,e2,fun x hx=>absurd hx (by simp),e4⟩
def tBGet (P:Params) (td ty:TE):TE:=fun σ H Q=>td σ H fun x H1=>ty σ H1 fun y H2=>∃ a kvs t v,x=.ref a∧DbAt P H2 a kvs∧TKB H2 t y∧valV kvs t=some v∧Q v H2
def tBSetD (P:Params) (td ty tx:TE):TE:=fun σ H Q=>td σ H fun x H1=>∃ a kvs,x=.ref a∧DbAt P H1 a kvs∧ty σ H1 fun y H2=>tx σ H2 fun z H3=>∃ kvs' t,DbAt P H3 a kvs'∧TKB H3 t y∧kvs'.length<sizeLine ∧
 (∀ v,valV kvs' t=some v→Q v H3)∧(valV kvs' t=none→∀ o,DbAt P (upd H3 a o) a (kvs'++[(t,z)])→Q z (upd H3 a o))
section
variable {X:Cx}{pins:List (Addr×Obj)}{σ:St} {H:Hp}{s:Shared}{a:Addr}{t:Tr}{y v z:V}{u r:Value}{A:Around}{E:Value→Shared→Prop}{kvs:List (Tr×V)}{m:List (Tr×V×V)}
theorem av6 (I:Inv X pins σ H s) (e2:DtE X.w.params H a m) (e3:∀ x∈m,TKB H x.1 x.2.1) (e4:(m.map (·.1)).Nodup) :
 ∃ o es ep,s.heap.get? a=some o∧o.ExactDict∧o.data=.dict es ep∧DtR X.w.params m es∧Ents X.w.params s.heap es (m.map (·.1))∧m.length≤sizeLine∧(a == sysModules)=false:=by
 obtain ⟨φ,e2,hφ⟩:=e2
 obtain ⟨z1,z2,o,es,ep,q1,q2,q3,q4⟩:=hφ _ (I.hok a _ e2).1
 refine ⟨o,es,ep,q1,q2,q3,q4,⟨by rw [q4.len,List.length_map],fun j e he=>?_,e4⟩,z1,z2⟩
 have hj:j<m.length:=by rw [← q4.len]; exact (Array.getElem?_eq_some_iff.mp he).1
 obtain ⟨e',f1,f2,f3,f4⟩:=q4.at_ j m[j] (List.getElem?_eq_getElem hj)
 rw [he] at f1
 cases f1
 have:=e3 m[j] (List.getElem_mem hj)
 exact ⟨m[j].1,by rw [List.getElem?_map,List.getElem?_eq_getElem hj]; rfl,f2,this.1.isIn I f3,this.2⟩
theorem bz4 {Q:Option Value→Shared→Prop}(hu:A.units+16<cLine) (I:Inv X pins σ H s) (g:DbAt X.w.params H a kvs) (hk:TKB H t y) (ry:RelV y u) (h:∀ o s',Inv X pins σ H s'→RelO (valV kvs t) o→Q o s') :
 wpAny (model X.prog X.w) A (dictGet a u) Q E s:=by
 obtain ⟨m,rfl,e2,e3,e4⟩:=g
 obtain ⟨o,es,ep,q1,q2,q3,q4,q5,_⟩:=av6 I e2 e3 e4
 have hin:=hk.1.isIn I ry
 unfold dictGet
 try (with_reducible refine wpAny_holding ?_)
 refine wpAny_bind (hin.pyHash (by have:=hk.2; omega) fun n=>wpAny_bind (av1 (s:={ s with toks:=n }) q1 q3 q5 hin hk.2 hu (fun hn=>?_) fun j hj=>?_))
 · refine wpAny_pure (h _ _ (I.tok _) ?_)
   rw [(aj6 hn).1]
   exact True.intro
 · rw [List.getElem?_map] at hj
   obtain ⟨x,hx,rfl⟩:=Option.map_eq_some_iff.mp hj
   obtain ⟨en,f1,f2,f3,f4⟩:=q4.at_ j x hx
   refine wpAny_bind (wpAny_dictEntries (s:={ s with toks:=n }) q1 q3 ?_)
   rw [f1]
   refine wpAny_pure (h _ _ (I.tok _) ?_)
   rw [ai6 e4 hx]
   exact f4
theorem as3 (I:Inv X pins σ H s) (g:DbAt X.w.params H a kvs):∃ es ep,RawD s.heap a es ep∧(a == sysModules)=false∧es.size=kvs.length∧kvs.length≤sizeLine:=by
 obtain ⟨m,rfl,e2,e3,e4⟩:=g
 obtain ⟨o,es,ep,q1,q2,q3,q4,q5,z1,z2⟩:=av6 I e2 e3 e4
 exact ⟨es,ep,⟨o,q1,q2,q3⟩,z2,by rw [q4.len,List.length_map],by rw [List.length_map]; exact z1⟩
theorem b38 {Q:Value→Shared→Prop}(hu:A.units+20<cLine) (I:Inv X pins σ H s) (g:DbAt X.w.params H a kvs) (hk:TKB H t y) (ry:RelV y u) (hv:valV kvs t=some v) (h:∀ w' s',Inv X pins σ H s'→RelV v w'→Q w' s') :
 wpAny (model X.prog X.w) A (getItem (.ref a) u) Q E s:=by
 obtain ⟨_,_,x,_,_,_⟩:=as3 I g
 have T:=x.ty
 unfold getItem
 try (with_reducible refine wpAny_holding ?_)
 refine wpAny_bind (wpAny_sequenceKey T (by decide) (wpAny_bind (wpAny_callSpecial?_slot (name:=Str.ofString "__getitem__") T slot_dict_getitem (wpAny_call_entry slot_dict_getitem T entry_dict_getitem ?_ (args_dict_getitem _ _)))))
 show wpAny _ A.in1 (dictGet a u >>= _) _ _ s
 refine wpAny_bind (bz4 (by rw [a72]; omega) I g hk ry fun o s' I' ro=>?_)
 rw [hv] at ro
 obtain ⟨w',rfl,rw'⟩:=ro.some_of
 exact wpAny_pure ⟨w',rfl,wpAny_pure (h w' s' I' rw')⟩
theorem ba9 {Q:Value→Shared→Prop}(hu:A.units+20<cLine) (I:Inv X pins σ H s) (e2:DtE X.w.params H a m) (e3:∀ x∈m,TKB H x.1 x.2.1) (e4:(m.map (·.1)).Nodup) (hz:m.length<sizeLine)
 (hk:TKB H t y) (ry:RelV y u) (rz:RelV z r) (h1:∀ v w' s',valV (m.map fun x=>(x.1,x.2.2)) t=some v→Inv X pins σ H s'→RelV v w'→Q w' s')
 (h2:∀ s',valV (m.map fun x=>(x.1,x.2.2)) t=none→Inv X pins σ (upd H a (DtO X.w.params a (m++[(t,y,z)]))) s'→Q r s') :
 wpAny (model X.prog X.w) A (call (.builtin "dict.setdefault") [.ref a,u,r]) Q E s:=by
 obtain ⟨_,_,x,lo,_,_⟩:=as3 I ⟨m,rfl,e2,e3,e4⟩
 obtain ⟨o,es,ep,q1,q2,q3,q4,q5,z1,z2⟩:=av6 I e2 e3 e4
 have hin:=hk.1.isIn I ry
 refine wpAny_call_entry PySem.F.slot_dict_setdefault x.ty PySem.F.entry_dict_setdefault ?_ (PySem.F.args_dict_setdefault_3 _ _ _)
 unfold Builtin.«dict.setdefault»
 refine wpAny_bind ?_
 unfold Builtin.Dict.keyAndDefault
 refine wpAny_bind (wpAny_notOrdered_dict x.ty ?_)
 refine (show wpAny _ _ (pure (a,u,some r)) _ _ s from wpAny_pure ?_)
 show wpAny _ A.in1 (if (a == sysModules)=true then _ else (dictSetDefault a u r >>= _)) _ _ s
 rw [if_neg (by rw [lo]; simp)]
 refine wpAny_bind ?_
 unfold dictSetDefault
 try (with_reducible refine wpAny_holding ?_)
 refine wpAny_bind (hin.pyHash (by have:=hk.2; rw [a72]; omega) fun n=>?_)
 refine wpAny_bind (av1 (s:={ s with toks:=n }) q1 q3 q5 hin hk.2 (by rw [a72]; omega) (fun hn=>?_) fun j hj=>?_)
 · refine wpAny_bind (wpAny_rule (wpAny_bind (wpAny_updateDictKeys (s:={ s with toks:=n }) q1 q3 (wpAny_pure (wpAny_pure ⟨r,rfl,h2 _ (aj6 hn).1 (am6 (I.tok n) e2.mut (Heap.SameBut.update ..) ?_ (b95 ⟨by simp; omega,z2,_,_,ep+1,Heap.get?_update_self _ q1 (Obj.isFreed_of_dict (Obj.data_mapDictKeys q3 _)),q2.mapDictKeys _,Obj.data_mapDictKeys q3 _,?_⟩))⟩)) (by rw [q4.len]; omega))))
   · exact ⟨_,Heap.get?_update_self _ q1 (Obj.isFreed_of_dict (Obj.data_mapDictKeys q3 _))⟩
   · exact ay5 q4 rfl ry rz
 · rw [List.getElem?_map] at hj
   obtain ⟨p,hp,rfl⟩:=Option.map_eq_some_iff.mp hj
   obtain ⟨en,f1,f2,f3,f4⟩:=q4.at_ j p hp
   refine wpAny_bind (wpAny_dictEntries (s:={ s with toks:=n }) q1 q3 ?_)
   rw [f1]
   exact wpAny_bind (wpAny_rule (wpAny_pure (wpAny_pure ⟨_,rfl,h1 _ _ _ (ai6 e4 hp) (I.tok _) f4⟩)))
end
section
variable {X:Cx}{o i e f value:Expr}{pos pos' apos cpos:Pos}{td ty tv tx:TE}{P:Params}
theorem bp1 (hP:X.w.params=P) (hu:X.A.units+64<cLine) (ho:PE X o td) (hi:PE X i ty) (hs:NoSl i):PE X (.Subscript o i pos) (tBGet P td ty):=by
 subst hP
 intro pins s σ H Q I h
 refine bm6 PySem.F.slot_dict_getitem.lookup hs (thn (ho pins s σ H _ I h) fun u s1 ⟨x,H1,I1,rx,q1⟩=>thn (hi pins s1 σ H1 _ I1 q1) fun iv s2 ⟨y,H2,I2,ry,a,kvs,t,v,ex,g,hk,hv,q2⟩=>?_)
 subst ex
 obtain rfl:u=Value.ref a:=rx
 obtain ⟨_,_,x,_⟩:=as3 I2 g
 exact ⟨x.ty,b38 (by omega) I2 g hk ry hv fun w' s3 I3 rw'=>⟨v,H2,I3,rw',q2⟩⟩
theorem bh1 (hP:X.w.params=P) (hu:X.A.units+64<cLine) (ho:PE X o td) (he:PE X e ty) (hf:PE X f tx) (m:M2 X o "setdefault" apos e f cpos):PE X (.Call (.Attribute o "setdefault" apos) [e,f] [] cpos) (tBSetD P td ty tx):=by
 subst hP
 intro pins s σ H Q I h
 refine wpAny_Call_method m.base m.few m.line PySem.F.plainAttrs_dict PySem.F.slot_dict_setdefault PySem.F.type_dict_setdefault (thn (ho pins s σ H _ I h) fun u s1 ⟨x,H1,I1,rx,a,kvs,ex,g1,q1⟩=>?_)
 subst ex
 obtain rfl:u=Value.ref a:=rx
 obtain ⟨es,ep,x,_⟩:=as3 I1 g1
 refine ⟨x.ty,(fun b q=>by cases q; obtain ⟨ob,h1,h2,_⟩:=x; exact ⟨ob,h1,h2.2.1⟩),?_⟩
 rw [m.trees]
 refine Calls.callWith_builtin rfl (Calls.evalArgs_plain (Calls.spliced_cons (thn (he pins s1 σ H1 _ I1 q1) fun iv s2 ⟨y,H2,I2,ry,q2⟩=>Calls.spliced_cons (thn (hf pins s2 σ H2 _ I2 q2) fun fv s3 ⟨z,H3,I3,rz,kvs',t,g,hk,hz,n1,n2⟩=>Calls.spliced_nil ?_))))
 obtain ⟨mm,rfl,e2,e3,e4⟩:=g
 rw [List.length_map] at hz
 refine ba9 (by omega) I3 e2 e3 e4 hz hk ry rz (fun v w' s' hv I' rv=>⟨v,H3,I',rv,n1 v hv⟩) fun s' hv I'=>⟨z,_,I',rz,n2 hv _ ?_⟩
 obtain ⟨φ,e2',_⟩:=e2
 have tu:∀ {ob:HO},Tups H3 (upd H3 a ob):=fun {ob}=>aj7 e2'
 have hnot:t∉mm.map (·.1):=fun hz=>by
  obtain ⟨x,hx,rfl⟩:=List.mem_map.mp hz
  obtain ⟨j,hj,rfl⟩:=List.mem_iff_getElem.mp hx
  rw [ai6 e4 (List.getElem?_eq_getElem hj)] at hv
  cases hv
 refine ⟨mm++[(t,y,z)],by simp,.of a27,fun x hx=>?_,?_⟩
 · rcases List.mem_append.mp hx with hx | hx
   · exact ⟨(e3 x hx).1.tups tu,(e3 x hx).2⟩
   · rw [List.mem_singleton.mp hx]
     exact ⟨hk.1.tups tu,hk.2⟩
 · rw [List.map_append]
   exact aa6 e4 hnot
end
def rLenB (P:Params):List V→Hp→VK→Prop:=fun vs H Q=>∃ a kvs,vs=[V.ref a]∧DbAt P H a kvs∧Q (.int (kvs.length:Nat)) H
theorem bp2 {X:Cx}{P:Params}(hP:X.w.params=P):CallR X (.builtin "len") (rLenB P):=by
 subst hP
 intro pins s σ H xs us Q I r h
 obtain ⟨a,kvs,rfl,g,q⟩:=h
 obtain ⟨es,ep,x,z2,hsz,z1⟩:=as3 I g
 cases r with
 | cons r1 r2 =>
 cases r2
 cases r1
 refine bo7 z2 x (by rw [hsz]; rw [sizeLine_eq] at z1; omega) ?_
 rw [hsz]
 exact ⟨.int (kvs.length:Nat),H,I.tok _,⟨_,rfl⟩,q⟩
section
variable {P:Params}{σ:St} {H:Hp}{Q:VK}{td ty tx tv:TE}
theorem bz5 (h:td σ H fun x H1=>ty σ H1 fun y H2=>∃ a kvs t v,x=.ref a∧DbAt P H2 a kvs∧TKB H2 t y∧valV kvs t=some v∧Q v H2):tBGet P td ty σ H Q:=h
theorem bp3 (h:td σ H fun x H1=>∃ a kvs,x=.ref a∧DbAt P H1 a kvs∧ty σ H1 fun y H2=>tx σ H2 fun z H3=>∃ kvs' t,DbAt P H3 a kvs'∧TKB H3 t y∧kvs'.length<sizeLine ∧
 (∀ v,valV kvs' t=some v→Q v H3)∧(valV kvs' t=none→∀ o,DbAt P (upd H3 a o) a (kvs'++[(t,z)])→Q z (upd H3 a o))):tBSetD P td ty tx σ H Q:=h
end
theorem c49 {k:Key}{u:Value}(h:keyIs k u=true):RelV (kV k) u:=by
 cases k with
 | inl i=>cases u <;> simp [keyIs,Value.isInt] at h <;> exact ⟨_,by rw [h]⟩
 | inr x=>cases u <;> simp [keyIs,Value.isStrOf,Value.isStr] at h <;> exact ⟨_,by rw [h]⟩
theorem ay8 {prog:Program}{w:World}:∀ {es:List DictEntry}{vs:List (Key×Value)},Pairs (mixKind prog w) es vs→es.length=vs.length∧∀ (j:Nat) (x:Key×Value),vs[j]?=some x→∃ e,es[j]?=some e∧RelV (kV x.1) e.key
 | _,_,.nil=>⟨rfl,fun j x h=>by simp at h⟩
 | _,_,.cons (e:=e) h1 h2 h3=>by
   obtain ⟨a,b⟩:=ay8 h3
   refine ⟨by simp [a],fun j x hx=>?_⟩
   cases j with
   | zero =>
     simp at hx
     subst hx
     exact ⟨e,rfl,c49 h1⟩
   | succ j =>
     obtain ⟨e',q1,q2⟩:=b j x (by simpa using hx)
     exact ⟨e',by simpa using q1,q2⟩
def frkP (a:Addr) (o:Obj):Heap→Prop:=fun h=>h.get? a=some o
def Itk (a:Addr) (ks:List Key) (o:Obj):It :=
 ⟨fun i H=>H a=some (.ext (frkP a o))∧i<ks.length,fun i H x H'=>H'=H∧∃ k,ks[i]?=some k∧x=kV k,fun i H=>H a=some (.ext (frkP a o))∧ks.length≤i⟩
theorem bp4 {Pr:Program}{w:World}{K:PySem.W.Frag}{tg:Expr}{a it:Addr}{ks:List Key}{o:Obj}{es:Array DictEntry}{ep:Nat}(hx:o.ExactDict) (hd:o.data=.dict es ep) (hl:es.size=ks.length) (hr:∀ (j:Nat) (k:Key),ks[j]?=some k→∃ e,es[j]?=some e∧RelV (kV k) e.key) :
 Turn Pr w K tg (Itk a ks o) [it] it (fun i h=>h.IsKeyIter it a i es.size ep) where
 mem:=by simp
 obj:=fun i h st b hb=>by
  have e:b=it:=by simpa using hb
  subst e
  obtain ⟨o,e,c,d⟩:=st
  exact ⟨o,e,fun v z=>by rw [d] at z; cases z⟩
 keep:=fun i h h' st k=>st.at fun o e=>k it (by simp) o e
 item:=by
  intro X hP hw hK hc i pins s σ H E I hf st hg
  subst hP hw hK
  have hD:RawD s.heap a es ep:=⟨o,(I.hok a _ hg.1).1,hx,hd⟩
  have hk:ks[i]?=some (ks[i]'hg.2):=List.getElem?_eq_getElem hg.2
  obtain ⟨e,he,rk⟩:=hr i _ hk
  obtain ⟨f0,f1,f2,f3,f4,f5⟩:=hf it (by simp)
  refine bg3 st hD he fun h' st' sb=>?_
  have I1:Inv X pins σ H { s with heap:=h' }:=I.turned (t':=s.toks) (fun b o hb e=>(sb.2 b hb).trans e) f0 f1 f3 f4 f5
  obtain ⟨oi,e',c,d⟩:=id st'
  exact ⟨_,rfl,bd8 (s:={ s with heap:=h' }) e' c d (by decide) ⟨kV (ks[i]'hg.2),H,I1,rk,⟨rfl,_,hk,rfl⟩,st',fun b hb=>(hf b hb).1⟩⟩
 done:=by
  intro X hP hw hK hc i pins s σ H E I hf st hg
  subst hP hw hK
  have hD:RawD s.heap a es ep:=⟨o,(I.hok a _ hg.1).1,hx,hd⟩
  obtain ⟨f0,f1,f2,f3,f4,f5⟩:=hf it (by simp)
  exact bo1 (I.ok.hd hc) st hD (by rw [hl]; exact hg.2) fun h' eb=>⟨rfl,I.turned (t':=s.toks) (fun b o hb e=>eb b o hb e) f0 f1 f3 f4 f5⟩
 self:=fun _ _ _ _ _ st h=>wpAny_pyIter_keyiter st h
def iDk (tl:TE):TI:=fun σ H R=>tl σ H fun x H1=>∃ a kvs,x=.ref a∧H1 a=some (.dK kvs)∧∀ o H',H'=upd H1 a (.ext (frkP a o))→R (Itk a (kvs.map (·.1)) o) H'
theorem c50 {X:Cx}{tg l:Expr}{tl:TE}(hl:PE X l tl):PI X tg l (iDk tl):=by
 intro pins s σ H R I h
 refine thn (hl pins s σ H _ I h) fun v s1 ⟨x,H1,I1,r1,q1⟩=>?_
 obtain ⟨a,kvs,rfl,e2,q⟩:=q1
 cases r1
 obtain ⟨z1,z2,vs,rel,o,es,ep,g1,g2,g3,g4,g5,g6⟩:=bv0 I1.hok e2
 obtain ⟨l1,l2⟩:=ay8 g5
 have hkeys:=KV.keys rel
 have mu:Mut (H1 a):=by rw [e2]; exact True.intro
 have nw:ObjOk X.prog X.w (upd H1 a (.ext (frkP a o))) s1.heap a (.ext (frkP a o)):=⟨g1,⟨o,g1⟩,fun h1 h2 x k=>k _ x⟩
 have I2:Inv X pins σ (upd H1 a (.ext (frkP a o))) s1:=I1.write (h':=s1.heap) (t':=s1.toks) (x:=a) (e:=a) mu (.inl rfl) (fun b u _ e=>e) ⟨o,g1⟩ nw
 refine bg2 z2 ⟨o,g1,g2,g3⟩ ?_
 refine ⟨s1.heap.objs.size,[s1.heap.objs.size],_,_,_,rfl,I2.kept (t':=s1.toks) fun b o e=>Heap.get?_push_of_some _ e,bp4 (a:=a) (ks:=kvs.map (·.1)) g2 g3 ?_ ?_,⟨_,Heap.get?_push_size _ rfl,rfl,rfl⟩,fun b hb=>?_,q o _ rfl⟩
 · rw [hkeys,List.length_map,←l1,Array.length_toList]
 · intro j k hk
   rw [hkeys,List.getElem?_map] at hk
   obtain ⟨x,hx,rfl⟩:=Option.map_eq_some_iff.mp hk
   obtain ⟨e,f1,f2⟩:=l2 j x hx
   exact ⟨e,by rw [Array.getElem?_toList] at f1; exact f1,f2⟩
 · have e:b=s1.heap.objs.size:=by simpa using hb
   subst e
   exact I2.fpOk (Nat.le_refl _) (I2.hok.fresh (Nat.le_refl _))
theorem i_dk {tl:TE}{σ:St} {H:Hp}{R:It→Hp→Prop}(h:tl σ H fun x H1=>∃ a kvs,x=.ref a∧H1 a=some (.dK kvs)∧∀ o H',H'=upd H1 a (.ext (frkP a o))→R (Itk a (kvs.map (·.1)) o) H'):iDk tl σ H R:=h
theorem bz6 {a:Addr}{ks:List Key}{o:Obj}{g:TG}{tb:TS}{D:Ends}{σ:St} {H:Hp}(Pv:Nat→St→Hp→Prop) (h0:Pv 0 σ H) (hl:∀ i σ H,i≤ks.length→Pv i σ H→H a=some (.ext (frkP a o)))
 (hs:∀ i k σ H,ks[i]?=some k→Pv i σ H→g (kV k) σ H fun σ1 H1=>tb { D with nx:=Pv (i+1),ct:=Pv (i+1),bk:=D.nx } σ1 H1) (hd:∀ σ H,Pv ks.length σ H→D.nx σ H):ForEnd (Itk a ks o) g tb D σ H:=by
 refine ⟨fun i k σ H=>k=ks.length - i∧i≤ks.length∧Pv i σ H,⟨ks.length,by simp,Nat.zero_le _,h0⟩,?_⟩
 rintro i k σ' H' ⟨rfl,hi,p⟩
 have hq:=hl i σ' H' hi p
 by_cases hlt:i<ks.length
 · refine .inr ⟨⟨hq,hlt⟩,Pv (i+1),fun σ2 H2 p'=>⟨ks.length - (i+1),by omega,rfl,hlt,p'⟩,fun v H2 y=>?_⟩
   obtain ⟨rfl,x,hx,rfl⟩:=y
   exact hs i x σ' _ hx p
 · have e:i=ks.length:=by omega
   subst e
   exact .inl ⟨⟨hq,Nat.le_refl _⟩,hd σ' H' p⟩
def rLenD:List V→Hp→VK→Prop:=fun vs H Q=>∃ a kvs,vs=[V.ref a]∧H a=some (.dK kvs)∧Q (.int (kvs.length:Nat)) H
theorem bp5 {X:Cx}:CallR X (.builtin "len") rLenD:=by
 intro pins s σ H xs us Q I r h
 obtain ⟨a,kvs,rfl,g,q⟩:=h
 cases r with
 | cons r1 r2 =>
 cases r2
 cases r1
 exact c29 I (.inl g) fun t s' I'=>⟨.int (kvs.length:Nat),H,I',⟨_,rfl⟩,q⟩
def met1 {α:Type} [DecidableEq α] (acc:List α) (x:α):List α:=if x∈acc then acc else acc++[x]
def mets {α:Type} [DecidableEq α] (l:List α):List α:=l.foldl met1 []
theorem a88 {α:Type} [DecidableEq α] (l:List α) (x:α):mets (l++[x])=met1 (mets l) x:=by
 unfold mets
 rw [List.foldl_append]
 rfl
theorem bh2 {α:Type} [DecidableEq α] {acc:List α}{x y:α}:x∈met1 acc y↔x∈acc∨x=y:=by
 unfold met1
 split
 · next h =>
   constructor
   · exact .inl
   · rintro (h' | rfl)
     · exact h'
     · exact h
 · simp
theorem ay9 {α:Type} [DecidableEq α] (x:α):∀ (l acc:List α),x∈l.foldl met1 acc↔x∈acc∨x∈l
 | [],acc=>by simp
 | y::l,acc=>by
   rw [List.foldl_cons,ay9 x l,bh2,List.mem_cons,or_assoc]
theorem a56 {α:Type} [DecidableEq α] (x:α) (l:List α):x∈mets l↔x∈l:=by
 unfold mets
 rw [ay9]
 simp
theorem bp6 {α:Type} [DecidableEq α] {acc:List α}{y:α}(ha:acc.Nodup):(met1 acc y).Nodup:=by
 unfold met1
 split
 · exact ha
 · next h =>
   refine List.nodup_append.mpr ⟨ha,by simp,fun a hm b hb z=>?_⟩
   rw [List.mem_singleton.mp hb] at z
   exact h (z ▸ hm)
theorem bb0 {α:Type} [DecidableEq α]:∀ (l acc:List α),acc.Nodup→(l.foldl met1 acc).Nodup
 | [],acc,h=>h
 | y::l,acc,h=>bb0 l _ (bp6 h)
theorem av7 {α:Type} [DecidableEq α] (l:List α):(mets l).Nodup:=bb0 l [] (by simp)
theorem az0 {α:Type} [DecidableEq α]:∀ (l acc:List α),(l.foldl met1 acc).length≤acc.length+l.length
 | [],acc=>by simp
 | y::l,acc=>by
   have h:=az0 l (met1 acc y)
   have h2:(met1 acc y).length≤acc.length+1:=by
    unfold met1
    split <;> simp
   rw [List.foldl_cons,List.length_cons]
   omega
theorem ac7 {α:Type} [DecidableEq α] (l:List α):(mets l).length≤l.length:=by
 have:=az0 l []
 simpa [mets] using this
def numF {α:Type}(f:α→Tr):List α→Nat→List (Tr×V)
 | [],_=>[]
 | x::l,n=>(f x,.int (n:Nat))::numF f l (n+1)
def numd {α:Type}(f:α→Tr) (l:List α):List (Tr×V):=numF f l 0
theorem ap0 {α:Type}(f:α→Tr):∀ (l:List α) (n:Nat),(numF f l n).length=l.length
 | [],_=>rfl
 | _::l,n=>by simp [numF,ap0 f l]
theorem as4 {α:Type}(f:α→Tr) (x:α):∀ (l:List α) (n:Nat),numF f (l++[x]) n=numF f l n++[(f x,.int ((n+l.length:Nat):Int))]
 | [],n=>rfl
 | y::l,n=>by
   show (f y,V.int (n:Nat))::numF f (l++[x]) (n+1)=_
   rw [as4 f x l (n+1),show n+1+l.length=n+(y::l).length by simp; omega]
   rfl
theorem az1 {α:Type}{f:α→Tr}(hf:∀ a b,f a=f b→a=b):∀ (l:List α) (n:Nat),l.Nodup→∀ (x:α) (i:Nat),l[i]?=some x→valV (numF f l n) (f x)=some (.int ((n+i:Nat):Int))
 | [],n,_,x,i,h=>by simp at h
 | y::l,n,hn,x,i,h=>by
   rw [List.nodup_cons] at hn
   unfold valV numF
   rw [List.find?_cons]
   cases i with
   | zero =>
     have e:y=x:=by simpa using h
     subst e
     simp
   | succ i =>
     have h':l[i]?=some x:=by simpa using h
     have hne:f y≠f x:=fun z=>hn.1 (by rw [hf _ _ z]; exact List.mem_of_getElem? h')
     rw [decide_eq_false hne]
     have:=az1 hf l (n+1) hn.2 x i h'
     unfold valV at this
     rw [this,show n+1+i=n+(i+1) by omega]
theorem as5 {α:Type}{f:α→Tr}(hf:∀ a b,f a=f b→a=b) {x:α}:∀ (l:List α) (n:Nat),x∉l→valV (numF f l n) (f x)=none
 | [],n,_=>rfl
 | y::l,n,h=>by
   rw [List.mem_cons,not_or] at h
   unfold valV numF
   rw [List.find?_cons,decide_eq_false (fun z:f y=f x=>h.1 (hf _ _ z).symm)]
   have:=as5 hf l (n+1) h.2
   unfold valV at this
   exact this
theorem az2 {α:Type}{f:α→Tr}(hf:∀ a b,f a=f b→a=b) {l:List α}(hn:l.Nodup) {x:α}{i:Nat}(h:l[i]?=some x):valV (numd f l) (f x)=some (.int (i:Nat)):=by
 have:=az1 hf l 0 hn x i h
 rw [Nat.zero_add] at this
 exact this
theorem bp7 {α:Type}{f:α→Tr}(hf:∀ a b,f a=f b→a=b) {l:List α}(hn:l.Nodup) {x:α}(h:x∈l):∃ i:Nat,l[i]?=some x∧valV (numd f l) (f x)=some (.int (i:Nat)):=by
 obtain ⟨i,hi,rfl⟩:=List.mem_iff_getElem.mp h
 exact ⟨i,List.getElem?_eq_getElem hi,az2 hf hn (List.getElem?_eq_getElem hi)⟩
def canon {α:Type} [DecidableEq α] (l:List α):List Nat:=l.map fun x=>(mets l).idxOf x
theorem ab8 {α:Type} [DecidableEq α] (l:List α):(canon l).length=l.length:=by simp [canon]
theorem bp8 {α:Type} [DecidableEq α] {l r:List α}{x:α}(h:x∈l):(l++r).idxOf x=l.idxOf x:=by
 rw [List.idxOf_append,if_pos h]
theorem ab9 {α:Type} [DecidableEq α] (l:List α) (x:α):canon (l++[x])=canon l++[if x∈l then (mets l).idxOf x else (mets l).length]:=by
 unfold canon
 rw [List.map_append,a88]
 congr 1
 · refine List.map_congr_left fun y hy=>?_
   unfold met1
   split
   · rfl
   · exact bp8 ((a56 y l).mpr hy)
 · simp only [List.map_cons,List.map_nil,List.cons.injEq,and_true]
   unfold met1
   by_cases h:x∈l
   · rw [if_pos ((a56 x l).mpr h),if_pos h]
   · rw [if_neg (fun z=>h ((a56 x l).mp z)),if_neg h,List.idxOf_append,if_neg (fun z=>h ((a56 x l).mp z))]
     simp
theorem ae2 {α:Type} [DecidableEq α] {l:List α}{i:Nat}{x:α}(h:l[i]?=some x):(canon l)[i]?=some ((mets l).idxOf x):=by
 unfold canon
 rw [List.getElem?_map,h]
 rfl
theorem ap1 {α:Type}{n:Nat}:∀ {l:List α},l.length=n+1→∃ l' x,l=l'++[x]∧l'.length=n:=fun {l} h =>
 ⟨l.dropLast,l.getLast (by intro z; rw [z] at h; simp at h),(List.dropLast_concat_getLast _).symm,by simp; omega⟩
theorem as6 {α β:Type} [DecidableEq α] [DecidableEq β]:∀ (n:Nat) {l:List α}{r:List β},l.length=n→r.length=n→(∀ i j,i<n→j<n→(l[i]?=l[j]?↔r[i]?=r[j]?))→canon l=canon r∧(mets l).length=(mets r).length
 | 0,l,r,h1,h2,_=>by
   rw [List.length_eq_zero_iff] at h1 h2
   subst h1 h2
   exact ⟨rfl,rfl⟩
 | n+1,l,r,h1,h2,h=>by
   obtain ⟨l,x,rfl,e1⟩:=ap1 h1
   obtain ⟨r,y,rfl,e2⟩:=ap1 h2
   obtain ⟨c1,c2⟩:=as6 n e1 e2 fun i j hi hj=>by
    have:=h i j (by omega) (by omega)
    rw [List.getElem?_append_left (by omega),List.getElem?_append_left (by omega),List.getElem?_append_left (by omega),List.getElem?_append_left (by omega)] at this
    exact this
   have hx:(l++[x])[n]?=some x:=by rw [List.getElem?_append_right (by omega),e1]; simp
   have hy:(r++[y])[n]?=some y:=by rw [List.getElem?_append_right (by omega),e2]; simp
   have hm:x∈l↔y∈r:=by
    constructor
    · intro z
      obtain ⟨i,hi,e⟩:=List.mem_iff_getElem.mp z
      have:=(h i n (by omega) (by omega)).mp (by rw [hx,List.getElem?_append_left hi,List.getElem?_eq_getElem hi,e])
      rw [hy,List.getElem?_append_left (by omega)] at this
      exact List.mem_of_getElem? this
    · intro z
      obtain ⟨i,hi,e⟩:=List.mem_iff_getElem.mp z
      have:=(h i n (by omega) (by omega)).mpr (by rw [hy,List.getElem?_append_left hi,List.getElem?_eq_getElem hi,e])
      rw [hx,List.getElem?_append_left (by omega)] at this
      exact List.mem_of_getElem? this
   rw [ab9,ab9,c1,a88,a88]
   by_cases z:x∈l
   · have zy:=hm.mp z
     obtain ⟨i,hi,e⟩:=List.mem_iff_getElem.mp z
     have ei:l[i]?=some x:=by rw [List.getElem?_eq_getElem hi,e]
     have er:=(h i n (by omega) (by omega)).mp (by rw [hx,List.getElem?_append_left hi,ei])
     rw [hy,List.getElem?_append_left (by omega)] at er
     have:=ae2 ei
     rw [c1,ae2 er] at this
     rw [if_pos z,if_pos zy,Option.some.inj this]
     unfold met1
     rw [if_pos ((a56 x l).mpr z),if_pos ((a56 y r).mpr zy)]
     exact ⟨rfl,c2⟩
   · have zy:y∉r:=fun q=>z (hm.mpr q)
     rw [if_neg z,if_neg zy,c2]
     unfold met1
     rw [if_neg (fun q=>z ((a56 x l).mp q)),if_neg (fun q=>zy ((a56 y r).mp q))]
     exact ⟨rfl,by simp [c2]⟩
theorem bp9 {α:Type} [DecidableEq α] {l:List α}{x y:α}(hx:x∈l) (hy:y∈l) (h:l.idxOf x=l.idxOf y):x=y:=by
 have a:=List.idxOf_lt_length_of_mem hx
 have b:l[l.idxOf x]=x:=List.getElem_idxOf a
 have c:=List.idxOf_lt_length_of_mem hy
 have d:l[l.idxOf y]=y:=List.getElem_idxOf c
 rw [← b,←d]
 simp only [h]
theorem bb1 {α:Type} [DecidableEq α] {l:List α}{i j:Nat}{x y:α}(hi:l[i]?=some x) (hj:l[j]?=some y):(canon l)[i]?=(canon l)[j]?↔x=y:=by
 rw [ae2 hi,ae2 hj]
 constructor
 · intro h
   exact bp9 ((a56 x l).mpr (List.mem_of_getElem? hi)) ((a56 y l).mpr (List.mem_of_getElem? hj)) (Option.some.inj h)
 · rintro rfl
   rfl
theorem ap2 {α:Type} [DecidableEq α] {l:List α}{c:Nat}(h:c∈canon l):c<(mets l).length:=by
 obtain ⟨x,hx,rfl⟩:=List.mem_map.mp h
 exact List.idxOf_lt_length_of_mem ((a56 x l).mpr hx)
theorem al5 {α:Type} [DecidableEq α]:∀ (n:Nat) {l:List α},l.length=n→mets (canon l)=List.range (mets l).length
 | 0,l,h=>by
   rw [List.length_eq_zero_iff] at h
   subst h
   rfl
 | n+1,l,h=>by
   obtain ⟨l,x,rfl,e1⟩:=ap1 h
   have ih:=al5 n e1
   rw [ab9,a88,a88,ih]
   by_cases z:x∈l
   · rw [if_pos z]
     unfold met1
     rw [if_pos ((a56 x l).mpr z),if_pos (List.mem_range.mpr (List.idxOf_lt_length_of_mem ((a56 x l).mpr z)))]
   · rw [if_neg z]
     unfold met1
     rw [if_neg (fun q=>z ((a56 x l).mp q)),if_neg (by simp)]
     simp [List.range_succ]
def fstF (f:Nat→Tr) (xs:List Nat) (l:List Nat):List (Tr×V):=l.map fun x=>(f x,.int (xs.idxOf x:Nat))
theorem av8 {f:Nat→Tr}(hf:∀ a b,f a=f b→a=b) {xs:List Nat}:∀ {l:List Nat}{x:Nat},(valV (fstF f xs l) (f x)).isSome=decide (x∈l)
 | [],x=>rfl
 | y::l,x=>by
   unfold fstF
   rw [List.map_cons]
   by_cases e:y=x
   · subst e
     rw [ad8 rfl]
     simp
   · rw [ad9 (fun z=>e (hf _ _ z))]
     have:=av8 hf (xs:=xs) (l:=l) (x:=x)
     unfold fstF at this
     rw [this]
     simp [Ne.symm e]
structure TSt (gs:List Nat) (k:Nat) (ts:List (List Nat)) (qs:List Nat):Prop where
 tl:ts.length=k
 tn:∀ (c:Nat) xs,ts[c]?=some xs→xs.Nodup
 tg:∀ (c:Nat) xs,ts[c]?=some xs→∀ a∈xs,gs[a]?=some c
 tq:∀ (c:Nat) xs,ts[c]?=some xs→(xs≠[]↔c∈qs)
 qn:qs.Nodup
 ql:∀ c∈qs,c<k
def Tt (gs:List Nat) (ts:List (List Nat)) (a:Nat):Prop:=∃ c xs,gs[a]?=some c∧ts[c]?=some xs∧a∈xs
def addN (xs:List Nat) (s:Nat):List Nat:=if s∈xs then xs else xs++[s]
theorem addN_mem {xs:List Nat}{s a:Nat}:a∈addN xs s↔a∈xs∨a=s:=by
 unfold addN
 split
 · next h =>
   constructor
   · exact .inl
   · rintro (h' | rfl)
     · exact h'
     · exact h
 · simp
theorem bq0 {xs:List Nat}{s:Nat}(h:xs.Nodup):(addN xs s).Nodup:=by
 unfold addN
 split
 · exact h
 · next z=>exact aa6 h z
def touT (gs:List Nat) (ts:List (List Nat)) (s:Nat):List (List Nat):=ts.set (gs.getD s 0) (addN (ts.getD (gs.getD s 0) []) s)
def touQ (gs:List Nat) (ts:List (List Nat)) (qs:List Nat) (s:Nat):List Nat:=if ts.getD (gs.getD s 0) []=[] then qs++[gs.getD s 0] else qs
theorem TSt.touch {gs:List Nat}{k:Nat}{ts:List (List Nat)}{qs:List Nat}{s c:Nat}(h:TSt gs k ts qs) (hs:gs[s]?=some c) (hc:c<k):TSt gs k (touT gs ts s) (touQ gs ts qs s)∧∀ a,Tt gs (touT gs ts s) a↔Tt gs ts a∨a=s:=by
 have e1:gs.getD s 0=c:=by simp [List.getD,hs]
 have hl:c<ts.length:=by rw [h.tl]; exact hc
 obtain ⟨xs,hx⟩:∃ xs,ts[c]?=some xs:=⟨_,List.getElem?_eq_getElem hl⟩
 have e2:ts.getD c []=xs:=by simp [List.getD,hx]
 unfold touT touQ
 rw [e1,e2]
 have get:∀ (d:Nat) ys,(ts.set c (addN xs s))[d]?=some ys→(d=c∧ys=addN xs s)∨(d≠c∧ts[d]?=some ys):=fun d ys e=>by
  rw [List.getElem?_set] at e
  by_cases z:c=d
  · rw [if_pos z,if_pos hl] at e
    exact .inl ⟨z.symm,(Option.some.inj e).symm⟩
  · rw [if_neg z] at e
    exact .inr ⟨Ne.symm z,e⟩
 have geC:(ts.set c (addN xs s))[c]?=some (addN xs s):=by rw [List.getElem?_set,if_pos rfl,if_pos hl]
 have geD:∀ {d:Nat}{ys:List Nat},ts[d]?=some ys→d≠c→(ts.set c (addN xs s))[d]?=some ys:=fun e z=>by rw [List.getElem?_set,if_neg (Ne.symm z)]; exact e
 have ane:addN xs s≠[]:=fun z=>by
  have:s∈addN xs s:=addN_mem.mpr (.inr rfl)
  rw [z] at this
  cases this
 refine ⟨⟨by simp [h.tl],fun d ys e=>?_,fun d ys e a ha=>?_,fun d ys e=>?_,?_,fun d hd=>?_⟩,fun a=>?_⟩
 · rcases get d ys e with ⟨rfl,rfl⟩ | ⟨_,e⟩
   · exact bq0 (h.tn _ _ hx)
   · exact h.tn _ _ e
 · rcases get d ys e with ⟨rfl,rfl⟩ | ⟨_,e⟩
   · rcases addN_mem.mp ha with ha | rfl
     · exact h.tg _ _ hx a ha
     · exact hs
   · exact h.tg _ _ e a ha
 · have hq:=h.tq _ _ hx
   rcases get d ys e with ⟨rfl,rfl⟩ | ⟨z,e⟩
   · refine ⟨fun _=>?_,fun _=>ane⟩
     by_cases y:xs=[]
     · rw [if_pos y]; simp
     · rw [if_neg y]; exact hq.mp y
   · rw [h.tq _ _ e]
     split
     · simp [z]
     · exact Iff.rfl
 · split
   · next y =>
     refine aa6 h.qn fun z=>?_
     exact (h.tq _ _ hx).mpr z y
   · exact h.qn
 · split at hd
   · rcases List.mem_append.mp hd with hd | hd
     · exact h.ql d hd
     · rw [List.mem_singleton.mp hd]; exact hc
   · exact h.ql d hd
 · constructor
   · rintro ⟨d,ys,g1,g2,g3⟩
     rcases get d ys g2 with ⟨rfl,rfl⟩ | ⟨_,e⟩
     · rcases addN_mem.mp g3 with g3 | rfl
       · exact .inl ⟨_,_,g1,hx,g3⟩
       · exact .inr rfl
     · exact .inl ⟨_,_,g1,e,g3⟩
   · rintro (⟨d,ys,g1,g2,g3⟩ | rfl)
     · by_cases z:d=c
       · subst z
         rw [hx] at g2
         cases g2
         exact ⟨_,_,g1,geC,addN_mem.mpr (.inl g3)⟩
       · exact ⟨_,_,g1,geD g2 z,g3⟩
     · exact ⟨_,_,hs,geC,addN_mem.mpr (.inr rfl)⟩
structure GSt (n:Nat) (gs:List Nat) (ms ts:List (List Nat)) (qs:List Nat):Prop where
 gl:gs.length=n
 gk:∀ (a c:Nat),gs[a]?=some c→c<ms.length
 me:∀ (c:Nat) xs,ms[c]?=some xs→xs.Nodup∧xs≠[]∧∀ a,a∈xs↔gs[a]?=some c
 ts:TSt gs ms.length ts qs
theorem GSt.few {n:Nat}{gs:List Nat}{ms ts:List (List Nat)}{qs:List Nat}(h:GSt n gs ms ts qs):ms.length≤n:=by
 have hd:∀ c,c<ms.length→gs[(ms.getD c []).headD 0]?=some c:=fun c hc=>by
  have e:=List.getElem?_eq_getElem hc
  obtain ⟨_,h2,h3⟩:=h.me c _ e
  have e2:ms.getD c []=ms[c]:=by simp [List.getD,e]
  rw [e2]
  refine (h3 _).mp ?_
  cases e3:ms[c] with
  | nil=>exact absurd e3 h2
  | cons x r=>simp
 have:=pigeon n ((List.range ms.length).map fun c=>(ms.getD c []).headD 0) (List.pairwise_map.mpr (List.Pairwise.imp_of_mem (fun {a b} ha hb hne e=>hne (by
  have h1:=hd a (List.mem_range.mp ha)
  have h2:=hd b (List.mem_range.mp hb)
  rw [e,h2] at h1
  exact (Option.some.inj h1).symm)) List.nodup_range)) (fun k hk=>by
  obtain ⟨c,hc,rfl⟩:=List.mem_map.mp hk
  have:=hd c (List.mem_range.mp hc)
  rw [← h.gl]
  exact (List.getElem?_eq_some_iff.mp this).1)
 simpa using this
theorem GSt.wait {n:Nat}{gs:List Nat}{ms ts:List (List Nat)}{qs:List Nat}(h:GSt n gs ms ts qs):qs.length≤ms.length:=pigeon _ _ h.ts.qn h.ts.ql
structure PartsOf (gs:List Nat) (led:Nat→List Nat) (c:Nat) (ps:List (List Nat)):Prop where
 ne:∀ p∈ps,p≠[]
 nd:ps.flatten.Nodup
 me:∀ a,a∈ps.flatten↔gs[a]?=some c
 eq:∀ p∈ps,∀ a∈p,∀ b∈p,led a=led b
 df:ps.Pairwise fun p q=>∀ a∈p,∀ b∈q,led a≠led b
theorem PartsOf.perm {gs:List Nat}{led:Nat→List Nat}{c:Nat}{ps qs:List (List Nat)}(h:PartsOf gs led c ps) (e:ps.Perm qs):PartsOf gs led c qs :=
 ⟨fun p hp=>h.ne p (e.mem_iff.mpr hp),(e.flatten.nodup_iff).mp h.nd,fun a=>by rw [← h.me a]; exact e.flatten.mem_iff.symm,fun p hp=>h.eq p (e.mem_iff.mpr hp),(e.pairwise_iff (fun {p q} z a ha b hb=>Ne.symm (z b hb a ha))).mp h.df⟩
def reg1 (gs xs:List Nat) (m:Nat):List Nat:=xs.foldl (fun g a=>g.set a m) gs
theorem ag8 (m:Nat):∀ (xs gs:List Nat),(reg1 gs xs m).length=gs.length
 | [],gs=>rfl
 | x::xs,gs=>by
   show (reg1 (gs.set x m) xs m).length=_
   rw [ag8 m xs]
   simp
theorem av9 {m a:Nat}:∀ {xs gs:List Nat},a<gs.length→(reg1 gs xs m)[a]?=if a∈xs then some m else gs[a]?
 | [],gs,_=>by simp [reg1]
 | x::xs,gs,h=>by
   show (reg1 (gs.set x m) xs m)[a]?=_
   rw [av9 (by simpa using h),List.getElem?_set]
   by_cases h1:a∈xs
   · simp [h1]
   · by_cases h2:x=a
     · subst h2
       simp [h1,h]
     · rw [if_neg h1,if_neg h2,if_neg (by simp [h1,Ne.symm h2])]
def regA:List Nat→List (List Nat)→Nat→List Nat
 | gs,[],_=>gs
 | gs,xs::r,m=>regA (reg1 gs xs m) r (m+1)
theorem ap3:∀ (r:List (List Nat)) (gs:List Nat) (m:Nat),(regA gs r m).length=gs.length
 | [],gs,m=>rfl
 | xs::r,gs,m=>by
   show (regA (reg1 gs xs m) r (m+1)).length=_
   rw [ap3 r,ag8]
theorem ap4 {a:Nat}:∀ {r:List (List Nat)}{gs:List Nat}{m:Nat},a∉r.flatten→(regA gs r m)[a]?=gs[a]?
 | [],gs,m,_=>rfl
 | xs::r,gs,m,h=>by
   rw [List.flatten_cons,List.mem_append,not_or] at h
   show (regA (reg1 gs xs m) r (m+1))[a]?=_
   rw [ap4 h.2]
   by_cases hl:a<gs.length
   · rw [av9 hl,if_neg h.1]
   · rw [List.getElem?_eq_none (by rw [ag8]; omega),List.getElem?_eq_none (by omega)]
theorem ap5 {a:Nat}:∀ {r:List (List Nat)}{gs:List Nat}{m i:Nat}{xs:List Nat},r.flatten.Nodup→r[i]?=some xs→a∈xs→a<gs.length→(regA gs r m)[a]?=some (m+i)
 | [],gs,m,i,xs,_,e,_,_=>by simp at e
 | ys::r,gs,m,0,xs,hn,e,ha,hl=>by
   obtain rfl:ys=xs:=by simpa using e
   rw [List.flatten_cons,List.nodup_append] at hn
   show (regA (reg1 gs ys m) r (m+1))[a]?=_
   rw [ap4 (fun z=>hn.2.2 a ha a z rfl),av9 hl,if_pos ha]
   rfl
 | ys::r,gs,m,i+1,xs,hn,e,ha,hl=>by
   rw [List.flatten_cons,List.nodup_append] at hn
   show (regA (reg1 gs ys m) r (m+1))[a]?=_
   rw [ap5 (i:=i) hn.2.1 (by simpa using e) ha (by rw [ag8]; exact hl)]
   congr 1
   omega
theorem as7 (xs:List Nat):∀ (r:List (List Nat)) (gs:List Nat) (m:Nat),regA gs (r++[xs]) m=reg1 (regA gs r m) xs (m+r.length)
 | [],gs,m=>rfl
 | ys::r,gs,m=>by
   show regA (reg1 gs ys m) (r++[xs]) (m+1)=_
   rw [as7 xs r,show m+1+r.length=m+(ys::r).length by simp; omega]
   rfl
theorem mem_flat {r:List (List Nat)}{a:Nat}:a∈r.flatten↔∃ (i:Nat) (xs:List Nat),r[i]?=some xs∧a∈xs:=by
 rw [List.mem_flatten]
 constructor
 · rintro ⟨xs,h1,h2⟩
   obtain ⟨i,hi,rfl⟩:=List.mem_iff_getElem.mp h1
   exact ⟨i,_,List.getElem?_eq_getElem hi,h2⟩
 · rintro ⟨i,xs,h1,h2⟩
   exact ⟨xs,List.mem_of_getElem? h1,h2⟩
section
variable {n c:Nat}{gs qs big:List Nat}{ms ts rs:List (List Nat)}{led:Nat→List Nat}
theorem af5 (h:GSt n gs ms ts (qs++[c])) (hp:PartsOf gs led c (rs++[big])) {a d:Nat}:(regA gs rs ms.length)[a]?=some d↔(a∉rs.flatten∧gs[a]?=some d)∨∃ (i:Nat) (xs:List Nat),rs[i]?=some xs∧a∈xs∧d=ms.length+i:=by
 have hfl:(rs++[big]).flatten=rs.flatten++big:=by simp
 have hn:=hp.nd
 rw [hfl,List.nodup_append] at hn
 by_cases z:a∈rs.flatten
 · obtain ⟨i,xs,e,hx⟩:=mem_flat.mp z
   have hg:gs[a]?=some c:=(hp.me a).mp (by rw [hfl]; exact List.mem_append_left _ z)
   have hl:=(List.getElem?_eq_some_iff.mp hg).1
   have:=ap5 (m:=ms.length) hn.1 e hx hl
   rw [this]
   constructor
   · intro q
     exact .inr ⟨i,xs,e,hx,(Option.some.inj q).symm⟩
   · rintro (⟨q,_⟩ | ⟨j,ys,e',hy,rfl⟩)
     · exact absurd z q
     · have:=ap5 (m:=ms.length) hn.1 e' hy hl
       rw [← this]
       exact ap5 hn.1 e hx hl |>.symm ▸ rfl
 · rw [ap4 z]
   constructor
   · intro q
     exact .inl ⟨z,q⟩
   · rintro (⟨_,q⟩ | ⟨j,ys,e',hy,rfl⟩)
     · exact q
     · exact absurd (mem_flat.mpr ⟨j,ys,e',hy⟩) z
theorem GSt.part (h:GSt n gs ms ts (qs++[c])) (hp:PartsOf gs led c (rs++[big])):GSt n (regA gs rs ms.length) (ms.set c big++rs) (ts.set c []++rs.map fun _=>[]) qs:=by
 have hfl:(rs++[big]).flatten=rs.flatten++big:=by simp
 have hn:=hp.nd
 rw [hfl,List.nodup_append] at hn
 have hme:∀ a,(a∈rs.flatten∨a∈big)↔gs[a]?=some c:=fun a=>by rw [← hp.me a,hfl,List.mem_append]
 have hck:c<ms.length:=h.ts.ql c (by simp)
 have hct:c<ts.length:=by rw [h.ts.tl]; exact hck
 have hqn:=h.ts.qn
 rw [List.nodup_append] at hqn
 have hcq:c∉qs:=fun z=>hqn.2.2 c z c (by simp) rfl
 have hrn:∀ (i:Nat) xs,rs[i]?=some xs→xs.Nodup:=fun i xs e=>by
  have:=List.mem_of_getElem? e
  exact (List.sublist_flatten_of_mem this).nodup hn.1
 refine ⟨by rw [ap3]; exact h.gl,fun a d e=>?_,fun d xs e=>?_,⟨by simp [h.ts.tl],fun d xs e=>?_,fun d xs e a ha=>?_,fun d xs e=>?_,hqn.1,fun d hd=>?_⟩⟩
 · rw [List.length_append,List.length_set]
   rcases (af5 h hp).mp e with ⟨_,e'⟩ | ⟨i,xs,e',_,q⟩
   · have:=h.gk a d e'
     omega
   · have:=(List.getElem?_eq_some_iff.mp e').1
     omega
 · by_cases hd:d<ms.length
   · rw [List.getElem?_append_left (by simpa using hd),List.getElem?_set] at e
     by_cases z:c=d
     · subst z
       rw [if_pos rfl,if_pos hd] at e
       obtain rfl:=Option.some.inj e
       refine ⟨hn.2.1,hp.ne _ (by simp),fun a=>?_⟩
       rw [af5 h hp]
       constructor
       · intro ha
         exact .inl ⟨fun z=>hn.2.2 a z a ha rfl,(hme a).mp (.inr ha)⟩
       · rintro (⟨z,q⟩ | ⟨i,xs,e,_,q⟩)
         · exact ((hme a).mpr q).resolve_left z
         · omega
     · rw [if_neg z] at e
       obtain ⟨h1,h2,h3⟩:=h.me d xs e
       refine ⟨h1,h2,fun a=>?_⟩
       rw [h3 a,af5 h hp]
       constructor
       · intro q
         refine .inl ⟨fun w=>?_,q⟩
         have:=(hme a).mp (.inl w)
         rw [q] at this
         exact z (Option.some.inj this).symm
       · rintro (⟨_,q⟩ | ⟨i,xs,e,_,q⟩)
         · exact q
         · omega
   · rw [List.getElem?_append_right (by simp; omega),List.length_set] at e
     refine ⟨hrn _ _ e,hp.ne _ (List.mem_append_left _ (List.mem_of_getElem? e)),fun a=>?_⟩
     rw [af5 h hp]
     constructor
     · intro ha
       exact .inr ⟨_,_,e,ha,by omega⟩
     · rintro (⟨_,q⟩ | ⟨i,ys,e',ha,q⟩)
       · exact absurd (h.gk a d q) hd
       · rw [show i=d - ms.length by omega,e] at e'
         cases e'
         exact ha
 · by_cases hd:d<ts.length
   · rw [List.getElem?_append_left (by simpa using hd),List.getElem?_set] at e
     by_cases z:c=d
     · rw [if_pos z,if_pos hct] at e
       rw [← Option.some.inj e]
       simp
     · rw [if_neg z] at e
       exact h.ts.tn _ _ e
   · rw [List.getElem?_append_right (by simp; omega),List.getElem?_map] at e
     obtain ⟨_,_,rfl⟩:=Option.map_eq_some_iff.mp e
     simp
 · by_cases hd:d<ts.length
   · rw [List.getElem?_append_left (by simpa using hd),List.getElem?_set] at e
     by_cases z:c=d
     · rw [if_pos z,if_pos hct] at e
       rw [← Option.some.inj e] at ha
       cases ha
     · rw [if_neg z] at e
       have hg:=h.ts.tg d xs e a ha
       rw [af5 h hp]
       refine .inl ⟨fun w=>?_,hg⟩
       have:=(hme a).mp (.inl w)
       rw [hg] at this
       exact z (Option.some.inj this).symm
   · rw [List.getElem?_append_right (by simp; omega),List.getElem?_map] at e
     obtain ⟨_,_,rfl⟩:=Option.map_eq_some_iff.mp e
     cases ha
 · by_cases hd:d<ts.length
   · rw [List.getElem?_append_left (by simpa using hd),List.getElem?_set] at e
     by_cases z:c=d
     · subst z
       rw [if_pos rfl,if_pos hct] at e
       rw [← Option.some.inj e]
       simp [hcq]
     · rw [if_neg z] at e
       rw [h.ts.tq d xs e]
       simp [Ne.symm z]
   · rw [List.getElem?_append_right (by simp; omega),List.getElem?_map] at e
     obtain ⟨_,_,rfl⟩:=Option.map_eq_some_iff.mp e
     refine ⟨fun q=>absurd rfl q,fun q=>?_⟩
     have:=h.ts.ql d (List.mem_append_left _ q)
     rw [h.ts.tl] at hd
     omega
 · have:=h.ts.ql d (List.mem_append_left _ hd)
   simp
   omega
end
section
variable {α:Type}{lab:Nat→α}{w:Nat→Nat→Nat}{n many c:Nat}{gs qs big:List Nat}{ms ts ts' rs:List (List Nat)}{led:Nat→List Nat}
theorem af6 {gs:List Nat}{a d:Nat}(h:gs[a]?=some d):gs.getD a 0=d:=by simp [List.getD,h]
theorem bb2 {Real:Nat→Nat→Prop}(hpad:∀ a b j,a<n→b<n→lab a=lab b→j<many→(Real a j∧Real b j)∨(w a j=a∧w b j=b)) (hG:Grp lab w n many (fun a=>gs.getD a 0) (Tt gs ts)) (h:GSt n gs ms ts (qs++[c])) (hp:PartsOf gs led c (rs++[big])) (hw:∀ a j,a<n→j<many→w a j<n)
 (hled:∀ a b,a<n→b<n→gs.getD a 0=c→gs.getD b 0=c→(led a=led b↔∀ j,j<many→gs.getD (w a j) 0=gs.getD (w b j) 0))
 (hold:∀ a,Tt gs ts a→gs.getD a 0≠c→Tt (regA gs rs ms.length) ts' a) (hsrc:∀ a j,a<n→j<many→Real a j→w a j∈rs.flatten→Tt (regA gs rs ms.length) ts' a) :
 Grp lab w n many (fun a=>(regA gs rs ms.length).getD a 0) (Tt (regA gs rs ms.length) ts'):=by
 have hfl:(rs++[big]).flatten=rs.flatten++big:=by simp
 have hn:=hp.nd
 rw [hfl,List.nodup_append] at hn
 have hme:∀ a,(a∈rs.flatten∨a∈big)↔gs[a]?=some c:=fun a=>by rw [← hp.me a,hfl,List.mem_append]
 have hck:c<ms.length:=h.ts.ql c (by simp)
 have gx:∀ a,a<n→gs[a]?=some (gs.getD a 0):=fun a ha=>by
  have:a<gs.length:=by rw [h.gl]; exact ha
  rw [List.getElem?_eq_getElem this]
  simp [List.getD,List.getElem?_eq_getElem this]
 have gc:∀ a,a<n→(gs.getD a 0=c↔gs[a]?=some c):=fun a ha=>by rw [gx a ha,Option.some_inj]
 have stay:∀ a,a∉rs.flatten→(regA gs rs ms.length).getD a 0=gs.getD a 0:=fun a z=>by simp only [List.getD,ap4 z]
 have went:∀ {a i:Nat}{xs:List Nat},rs[i]?=some xs→a∈xs→(regA gs rs ms.length).getD a 0=ms.length+i:=fun e ha=>af6 ((af5 h hp).mpr (.inr ⟨_,_,e,ha,rfl⟩))
 have old:∀ a,a<n→gs.getD a 0<ms.length:=fun a ha=>h.gk a _ (gx a ha)
 refine hG.partP (G:=c) hw (fun a ha z=>?_) (fun a b ha hb ga gb=>?_) (fun a b ha hb ga gb=>?_) hpad (fun a ha=>?_)
 · exact stay a fun q=>z ((gc a ha).mpr ((hme a).mp (.inl q)))
 · show (regA gs rs ms.length).getD a 0=(regA gs rs ms.length).getD b 0↔_
   rw [← hled a b ha hb ga gb]
   have find:∀ x,x<n→gs.getD x 0=c→∃ (i:Nat) (p:List Nat),(rs++[big])[i]?=some p∧x∈p∧(regA gs rs ms.length).getD x 0=(if i<rs.length then ms.length+i else c):=fun x hx gx'=>by
    rcases (hme x).mpr ((gc x hx).mp gx') with q | q
    · obtain ⟨i,xs,e,hx'⟩:=mem_flat.mp q
      have hi:=(List.getElem?_eq_some_iff.mp e).1
      exact ⟨i,xs,by rw [List.getElem?_append_left hi]; exact e,hx',by rw [if_pos hi]; exact went e hx'⟩
    · refine ⟨rs.length,big,by simp,q,?_⟩
      rw [if_neg (Nat.lt_irrefl _),stay x (fun z=>hn.2.2 x z x q rfl)]
      exact gx'
   obtain ⟨i,p,e1,a1,b1⟩:=find a ha ga
   obtain ⟨j,q,e2,a2,b2⟩:=find b hb gb
   rw [b1,b2]
   have il:=(List.getElem?_eq_some_iff.mp e1).1
   have jl:=(List.getElem?_eq_some_iff.mp e2).1
   simp only [List.length_append,List.length_cons,List.length_nil] at il jl
   have key:(if i<rs.length then ms.length+i else c)=(if j<rs.length then ms.length+j else c)↔i=j:=by
    constructor
    · intro z
      by_cases x:i<rs.length <;> by_cases y:j<rs.length <;> simp only [x,y,if_true,if_false] at z <;> omega
    · rintro rfl
      rfl
   rw [key]
   constructor
   · rintro rfl
     rw [e1] at e2
     cases e2
     exact hp.eq p (List.mem_of_getElem? e1) a a1 b a2
   · intro z
     refine Classical.not_not.mp fun hij=>?_
     obtain ⟨l1,g1⟩:=List.getElem?_eq_some_iff.mp e1
     obtain ⟨l2,g2⟩:=List.getElem?_eq_some_iff.mp e2
     have pw:=List.pairwise_iff_getElem.mp hp.df
     rcases Nat.lt_or_gt_of_ne hij with q | q
     · exact pw i j l1 l2 q a (g1 ▸ a1) b (g2 ▸ a2) z
     · exact pw j i l2 l1 q b (g2 ▸ a2) a (g1 ▸ a1) z.symm
 · show (regA gs rs ms.length).getD a 0≠(regA gs rs ms.length).getD b 0
   rw [stay b fun q=>gb ((gc b hb).mpr ((hme b).mp (.inl q)))]
   have ob:=old b hb
   rcases (hme a).mpr ((gc a ha).mp ga) with q | q
   · obtain ⟨i,xs,e,hx'⟩:=mem_flat.mp q
     rw [went e hx']
     omega
   · rw [stay a (fun z=>hn.2.2 a z a q rfl)]
     intro z
     exact gb (by rw [← z]; exact ga)
 · rintro (⟨h1,h2⟩ | ⟨j,hj,hr,h1⟩)
   · exact hold a h1 h2
   · refine hsrc a j ha hj hr (Classical.not_not.mp fun z=>h1 (stay _ z))
theorem bq1 (hG:Grp lab w n many (fun a=>gs.getD a 0) (Tt gs ts)) (h:GSt n gs ms ts []) (hw:∀ a j,a<n→j<many→w a j<n) {a b:Nat}(ha:a<n) (hb:b<n):gs[a]?=gs[b]?↔¬ ApartR lab w many a b:=by
 rw [← hG.done hw (fun x hx ⟨c,xs,e1,e2,e3⟩=>?_) ha hb]
 · have la:a<gs.length:=by rw [h.gl]; exact ha
   have lb:b<gs.length:=by rw [h.gl]; exact hb
   simp [List.getD,List.getElem?_eq_getElem la,List.getElem?_eq_getElem lb]
 · have:=(h.ts.tq c xs e2).mp (fun z=>by rw [z] at e3; cases e3)
   cases this
end
def memL (gs:List Nat) (k:Nat):List (List Nat):=(List.range k).map fun c=>(List.range gs.length).filter fun a=>decide (gs[a]?=some c)
theorem ad5 {gs:List Nat}{k c:Nat}{xs:List Nat}(h:(memL gs k)[c]?=some xs):c<k∧xs.Nodup∧∀ a,a∈xs↔gs[a]?=some c:=by
 unfold memL at h
 rw [List.getElem?_map] at h
 obtain ⟨d,hd,rfl⟩:=Option.map_eq_some_iff.mp h
 obtain ⟨h1,h2⟩:=List.getElem?_eq_some_iff.mp hd
 rw [List.length_range] at h1
 rw [List.getElem_range] at h2
 subst h2
 refine ⟨h1,List.Pairwise.filter _ List.nodup_range,fun a=>?_⟩
 rw [List.mem_filter,List.mem_range,decide_eq_true_iff]
 constructor
 · exact fun z=>z.2
 · intro z
   exact ⟨(List.getElem?_eq_some_iff.mp z).1,z⟩
theorem bb3 {α:Type} [DecidableEq α] (l:List α):GSt l.length (canon l) (memL (canon l) (mets l).length) (memL (canon l) (mets l).length) (List.range (mets l).length):=by
 have ml:(memL (canon l) (mets l).length).length=(mets l).length:=by simp [memL]
 have ne:∀ (c:Nat) xs,(memL (canon l) (mets l).length)[c]?=some xs→xs≠[]:=fun c xs e=>by
  obtain ⟨h1,h2,h3⟩:=ad5 e
  have hm:(mets l)[c]∈l:=(a56 _ l).mp (List.getElem_mem h1)
  obtain ⟨i,hi,e'⟩:=List.mem_iff_getElem.mp hm
  have e2:l[i]?=some (mets l)[c]:=by rw [List.getElem?_eq_getElem hi,e']
  have:=ae2 e2
  have h4:(mets l).idxOf (mets l)[c]=c:=by
   refine List.Nodup.idxOf_getElem (av7 l) c h1
  rw [h4] at this
  have:=(h3 i).mpr this
  intro z
  rw [z] at this
  cases this
 refine ⟨ab8 l,fun a c e=>by rw [ml]; exact ap2 (List.mem_of_getElem? e),fun c xs e=>⟨(ad5 e).2.1,ne c xs e,(ad5 e).2.2⟩,⟨rfl,fun c xs e=>(ad5 e).2.1,fun c xs e a ha=>((ad5 e).2.2 a).mp ha,fun c xs e=>⟨fun _=>List.mem_range.mpr (ad5 e).1,fun _=>ne c xs e⟩,List.nodup_range,fun c hc=>by rw [ml]; exact List.mem_range.mp hc⟩⟩
theorem bb4 {α:Type} [DecidableEq α] {w:Nat→Nat→Nat}{many:Nat}(l:List α):Grp (fun a=>l[a]?) w l.length many (fun a=>(canon l).getD a 0) (Tt (canon l) (memL (canon l) (mets l).length)):=by
 have gx:∀ a,a<l.length→(canon l)[a]?=some ((canon l).getD a 0):=fun a ha=>by
  have:a<(canon l).length:=by rw [ab8]; exact ha
  simp [List.getD,List.getElem?_eq_getElem this]
 have ker:∀ a b,a<l.length→b<l.length→((canon l).getD a 0=(canon l).getD b 0↔l[a]?=l[b]?):=fun a b ha hb=>by
  have:=bb1 (List.getElem?_eq_getElem ha) (List.getElem?_eq_getElem hb)
  rw [gx a ha,gx b hb,Option.some_inj] at this
  rw [this,List.getElem?_eq_getElem ha,List.getElem?_eq_getElem hb,Option.some_inj]
 have all:∀ a,a<l.length→Tt (canon l) (memL (canon l) (mets l).length) a:=fun a ha=>by
  have e:=gx a ha
  have hk:=ap2 (List.mem_of_getElem? e)
  have hl:(canon l).getD a 0<(memL (canon l) (mets l).length).length:=by simpa [memL] using hk
  exact ⟨_,_,e,List.getElem?_eq_getElem hl,((ad5 (List.getElem?_eq_getElem hl)).2.2 a).mpr e⟩
 exact ⟨fun a b ha hb e=>(ker a b ha hb).mp e,fun a b ha hb _ z=>absurd (all a ha) z,fun a b ha hb e=>⟨[],fun _ z=>absurd z (by simp),fun z=>e ((ker a b ha hb).mpr z)⟩⟩
section
variable {α:Type}{lab:Nat→α}{w:Nat→Nat→Nat}{many:Nat}
theorem Apart.irr:∀ {v:List Nat}{a:Nat},¬ Apart lab w a a v
 | [],a=>fun h=>h rfl
 | j::v,a=>Apart.irr (v:=v)
theorem Apart.symm:∀ {v:List Nat}{a b:Nat},Apart lab w a b v→Apart lab w b a v
 | [],a,b,h=>Ne.symm h
 | j::v,a,b,h=>Apart.symm (v:=v) h
theorem Apart.tri:∀ {v:List Nat}{a b c:Nat},Apart lab w a c v→Apart lab w a b v∨Apart lab w b c v
 | [],a,b,c,h=>by
   by_cases e:lab a=lab b
   · exact .inr (fun z=>h (e.trans z))
   · exact .inl e
 | j::v,a,b,c,h=>Apart.tri (v:=v) h
def clsR (lab:Nat→α) (w:Nat→Nat→Nat) (many a:Nat):Nat→Prop:=fun b=>ApartR lab w many a b
theorem cls_eq {a b:Nat}:clsR lab w many a=clsR lab w many b↔¬ ApartR lab w many a b:=by
 constructor
 · intro e z
   have:ApartR lab w many b b:=by
    have h:clsR lab w many a b=clsR lab w many b b:=by rw [e]
    exact cast h z
   obtain ⟨v,_,h⟩:=this
   exact Apart.irr h
 · intro z
   funext c
   refine propext ⟨fun ⟨v,h1,h2⟩=>?_,fun ⟨v,h1,h2⟩=>?_⟩
   · rcases Apart.tri (b:=b) h2 with h | h
     · exact absurd ⟨v,h1,h⟩ z
     · exact ⟨v,h1,h⟩
   · rcases Apart.tri (b:=a) h2 with h | h
     · exact absurd ⟨v,h1,h.symm⟩ z
     · exact ⟨v,h1,h⟩
noncomputable instance clsDec:DecidableEq (Nat→Prop):=fun _ _=>Classical.propDecidable _
noncomputable def likeN (lab:Nat→α) (w:Nat→Nat→Nat) (many:Nat) (l:List Nat):List Nat:=canon (l.map (clsR lab w many))
theorem bb5 {n:Nat}{gs:List Nat}(hl:gs.length=n) (h:∀ a b,a<n→b<n→(gs[a]?=gs[b]?↔¬ ApartR lab w many a b)):canon gs=likeN lab w many (List.range n):=by
 refine (as6 n hl (by simp) fun i j hi hj=>?_).1
 rw [h i j hi hj,List.getElem?_map,List.getElem?_map,List.getElem?_range hi,List.getElem?_range hj]
 simp only [Option.map_some,Option.some_inj]
 exact cls_eq.symm
end
def hds (xs:List Addr) (H:Hp):Hp:=fun a=>if a∈xs then none else H a
theorem bh3 {xs:List Addr}{H:Hp}:Same (hds xs H) H:=fun b o e=>by
 unfold hds at e
 split at e
 · cases e
 · exact e
theorem aj8 {xs:List Addr}{H:Hp}{a:Addr}{o:HO}(e:H a=some o) (h:a∉xs):hds xs H a=some o:=by
 unfold hds
 rw [if_neg h]
 exact e
theorem af0 {xs:List Addr}{H:Hp}{a:Addr}{o:HO}(e:hds xs H a=some o):H a=some o∧a∉xs:=by
 unfold hds at e
 split at e
 · cases e
 · exact ⟨e,by assumption⟩
theorem a96 {ks:List Nat}{i:Nat}{v:V}(h:(natsV ks)[i]?=some v):∃ k,ks[i]?=some k∧v=.int (k:Nat):=by
 unfold natsV at h
 rw [List.getElem?_map] at h
 obtain ⟨k,hk,rfl⟩:=Option.map_eq_some_iff.mp h
 exact ⟨k,hk,rfl⟩
def Lsts (H:Hp) (us:List V) (nx:Nat→List Nat) (n:Nat):Prop:=us.length=n∧∀ i,i<n→∃ p,us[i]?=some (.ref p)∧H p=some (.lst (natsV (nx i)))
theorem Lsts.mono {H H':Hp}{us:List V}{nx:Nat→List Nat}{n:Nat}(h:Lsts H us nx n) (s:Same H H'):Lsts H' us nx n:=⟨h.1,fun i hi=>by
 obtain ⟨p,h1,h2⟩:=h.2 i hi
 exact ⟨p,h1,s _ _ h2⟩⟩
def NL (G:Hp) (v:V) (xs:List Nat):Prop:=∃ a,v=.ref a∧G a=some (.lst (natsV xs))
def TouAt (H:Hp) (d:Addr) (xs:List Nat):Prop:=∃ kvs:List (Key×V),H d=some (.dK kvs)∧kvs.map (·.1)=xs.map fun (x:Nat)=>Sum.inl (x:Int)
theorem TouAt.len {H:Hp}{d:Addr}{xs:List Nat}(h:TouAt H d xs):∃ kvs:List (Key×V),H d=some (.dK kvs)∧kvs.length=xs.length∧kvs.map (·.1)=xs.map fun (x:Nat)=>Sum.inl (x:Int):=by
 obtain ⟨kvs,h1,h2⟩:=h
 have:=congrArg List.length h2
 exact ⟨kvs,h1,by simpa using this,h2⟩
theorem bb6 {kvs:List (Key×V)}{xs:List Nat}(h:kvs.map (·.1)=xs.map fun (x:Nat)=>Sum.inl (x:Int)) (a:Nat):(valV kvs (Sum.inl (a:Int))).isSome=decide (a∈xs):=by
 have e:(Sum.inl (a:Int):Key)∈kvs.map (·.1)↔a∈xs:=by
  rw [h,List.mem_map]
  constructor
  · rintro ⟨y,hy,e⟩
    have:=Sum.inl.inj e
    rw [show a=y by omega]
    exact hy
  · exact fun z=>⟨a,z,rfl⟩
 cases hv:valV kvs (Sum.inl (a:Int)) with
 | none =>
   have:=ax8 hv
   rw [e] at this
   simp [this]
 | some v =>
   have:=bm8 hv
   rw [e] at this
   simp [this]
theorem bb7 {kvs:List (Key×V)}{k:Key}{v:V}:(putK kvs k v).map (·.1)=if (valV kvs k).isSome then kvs.map (·.1) else kvs.map (·.1)++[k]:=by
 unfold putK
 rw [ae0]
 split
 · rw [List.map_map]
   refine List.map_congr_left fun x _=>?_
   simp only [Function.comp]
   split <;> rfl
 · simp
theorem bb8 {kvs:List (Key×V)}{xs:List Nat}{v:V}(h:kvs.map (·.1)=xs.map fun (x:Nat)=>Sum.inl (x:Int)) (a:Nat):(putK kvs (Sum.inl (a:Int)) v).map (·.1)=(addN xs a).map fun (x:Nat)=>Sum.inl (x:Int):=by
 rw [bb7,bb6 h,h]
 unfold addN
 by_cases e:a∈xs
 · simp [e]
 · simp [e]
structure GA where
 p:Addr
 dx:Addr
 w:Addr
 s:Addr
 g:Addr
 m:Addr
 t:Addr
 q:Addr
def GA.own (x:GA):List Addr:=[x.g,x.m,x.t,x.q]
def gF1 (w:Addr):List (Str×V):=putF "ways" (.ref w) []
def gF2 (w s:Addr):List (Str×V):=putF "sources" (.ref s) (gF1 w)
def gF3 (w s g:Addr):List (Str×V):=putF "groups" (.ref g) (gF2 w s)
def gF4 (w s g m:Addr):List (Str×V):=putF "members" (.ref m) (gF3 w s g)
def gF5 (w s g m t:Addr):List (Str×V):=putF "touched" (.ref t) (gF4 w s g m)
def gF (x:GA):List (Str×V):=putF "waiting" (.ref x.q) (gF5 x.w x.s x.g x.m x.t)
theorem al6 (w s g:Addr):(gF3 w s g).lookup ("groups":Str)=some (.ref g):=by
 unfold gF3
 rw [a35,if_pos rfl]
theorem aj9 (w s g m:Addr):(gF4 w s g m).lookup ("members":Str)=some (.ref m):=by
 unfold gF4
 rw [a35,if_pos rfl]
theorem ak0 (w s g m t:Addr):(gF5 w s g m t).lookup ("members":Str)=some (.ref m):=by
 unfold gF5
 rw [a35,if_neg (by decide +kernel),aj9]
theorem ah5 (x:GA):(gF x).lookup ("waiting":Str)=some (.ref x.q):=by
 unfold gF
 rw [a35,if_pos rfl]
theorem ac0 (x:GA):(gF x).lookup ("touched":Str)=some (.ref x.t):=by
 unfold gF gF5
 rw [a35,if_neg (by decide +kernel),a35,if_pos rfl]
theorem ae3 (x:GA):(gF x).lookup ("members":Str)=some (.ref x.m):=by
 unfold gF
 rw [a35,if_neg (by decide +kernel),ak0]
theorem ag9 (x:GA):(gF x).lookup ("groups":Str)=some (.ref x.g):=by
 unfold gF gF5 gF4
 rw [a35,if_neg (by decide +kernel),a35,if_neg (by decide +kernel),a35,if_neg (by decide +kernel),al6]
theorem b39 (x:GA):(gF x).lookup ("sources":Str)=some (.ref x.s):=by
 unfold gF gF5 gF4 gF3 gF2
 rw [a35,if_neg (by decide +kernel),a35,if_neg (by decide +kernel),a35,if_neg (by decide +kernel),a35,if_neg (by decide +kernel),a35,if_pos rfl]
theorem bq2 (x:GA):(gF x).lookup ("ways":Str)=some (.ref x.w):=by
 unfold gF gF5 gF4 gF3 gF2 gF1
 rw [a35,if_neg (by decide +kernel),a35,if_neg (by decide +kernel),a35,if_neg (by decide +kernel),a35,if_neg (by decide +kernel),a35,if_neg (by decide +kernel),a35,if_pos rfl]
theorem b40 (x:GA) {m:Str}(h:m∉(["waiting","touched","members","groups","sources","ways"]:List Str)):(gF x).lookup m=none:=by
 simp only [List.mem_cons,List.not_mem_nil,or_false,not_or] at h
 unfold gF gF5 gF4 gF3 gF2 gF1
 rw [a35,if_neg h.1,a35,if_neg h.2.1,a35,if_neg h.2.2.1,a35,if_neg h.2.2.2.1,a35,if_neg h.2.2.2.2.1,a35,if_neg h.2.2.2.2.2]
 rfl
structure GrAt (C:Addr) (H0 H:Hp) (x:GA) (nw ns:Nat→List Nat) (n:Nat) (gs:List Nat) (ms ts:List (List Nat)) (qs:List Nat):Prop where
 b:Same H0 H
 f:∀ a∈x.own,H0 a=none
 nd:x.own.Nodup
 o:H x.p=some (.ins C x.dx (gF x))
 ww:∃ us,hds x.own H x.w=some (.lst us)∧Lsts (hds x.own H) us nw n
 ss:∃ us,hds x.own H x.s=some (.lst us)∧Lsts (hds x.own H) us ns n
 gg:H x.g=some (.lst (natsV gs))
 mm:∃ us,H x.m=some (.lst us)∧Each (NL (hds x.own H)) us ms
 tt:∃ ds:List Addr,H x.t=some (.lst (ds.map .ref))∧ds.Nodup∧(∀ d∈ds,H0 d=none)∧Each (TouAt H) ds ts
 qq:H x.q=some (.lst (natsV qs))
def KeepL (x:GA) (H H':Hp):Prop:=∀ b o,b∉x.own→(∀ kvs,o≠.dK kvs)→H b=some o→H' b=some o
theorem KeepL.hd {x:GA}{H H':Hp}(k:KeepL x H H') {a:Addr}{vs:List V}(e:hds x.own H a=some (.lst vs)):hds x.own H' a=some (.lst vs):=by
 obtain ⟨e1,e2⟩:=af0 e
 exact aj8 (k a _ e2 (fun _ z=>nomatch z) e1) e2
theorem KeepL.nl {x:GA}{H H':Hp}(k:KeepL x H H') {v:V}{xs:List Nat}(h:NL (hds x.own H) v xs):NL (hds x.own H') v xs:=by
 obtain ⟨a,h1,h2⟩:=h
 exact ⟨a,h1,k.hd h2⟩
theorem KeepL.ls {x:GA}{H H':Hp}(k:KeepL x H H') {us:List V}{nx:Nat→List Nat}{n:Nat}(h:Lsts (hds x.own H) us nx n):Lsts (hds x.own H') us nx n:=⟨h.1,fun i hi=>by
 obtain ⟨p,h1,h2⟩:=h.2 i hi
 exact ⟨p,h1,k.hd h2⟩⟩
theorem KeepL.of {x:GA}{H H':Hp}(s:Same H H'):KeepL x H H':=fun b o _ _ e=>s b o e
theorem KeepL.own {x:GA}{H:Hp}{a:Addr}{o:HO}(h:a∈x.own):KeepL x H (upd H a o):=fun b u hb _ e=>by rw [a06 (fun z=>hb (by rw [z]; exact h))]; exact e
theorem KeepL.dic {x:GA}{H:Hp}{a:Addr}{kvs:List (Key×V)}{o:HO}(h:H a=some (.dK kvs)):KeepL x H (upd H a o):=fun b u _ hu e=>by
 rw [a06 (fun z=>by rw [z,h] at e; exact hu kvs (Option.some.inj e).symm)]
 exact e
section
variable {C:Addr}{H0 H H':Hp}{x:GA}{nw ns:Nat→List Nat}{n:Nat}{gs gs':List Nat}{ms ts ms' ts':List (List Nat)}{qs qs':List Nat}
theorem GrAt.own_lst (h:GrAt C H0 H x nw ns n gs ms ts qs):∀ a∈x.own,∃ vs,H a=some (.lst vs):=fun a ha=>by
 obtain ⟨us,m1,_⟩:=h.mm
 obtain ⟨ds,t1,_⟩:=h.tt
 unfold GA.own at ha
 simp only [List.mem_cons,List.not_mem_nil,or_false] at ha
 rcases ha with rfl | rfl | rfl | rfl
 · exact ⟨_,h.gg⟩
 · exact ⟨_,m1⟩
 · exact ⟨_,t1⟩
 · exact ⟨_,h.qq⟩
theorem GrAt.pno (h:GrAt C H0 H x nw ns n gs ms ts qs):x.p∉x.own:=fun z=>by
 obtain ⟨vs,e⟩:=h.own_lst _ z
 rw [h.o] at e
 cases e
theorem GrAt.new (h:GrAt C H0 H x nw ns n gs ms ts qs) {a:Addr}(f:H a=none):a∉x.own:=fun z=>by
 obtain ⟨vs,e⟩:=h.own_lst _ z
 rw [f] at e
 cases e
theorem GrAt.re (h:GrAt C H0 H x nw ns n gs ms ts qs) (k:KeepL x H H') (b:Same H0 H') (gg:H' x.g=some (.lst (natsV gs'))) (mm:∃ us,H' x.m=some (.lst us)∧Each (NL (hds x.own H')) us ms')
 (tt:∃ ds:List Addr,H' x.t=some (.lst (ds.map .ref))∧ds.Nodup∧(∀ d∈ds,H0 d=none)∧Each (TouAt H') ds ts') (qq:H' x.q=some (.lst (natsV qs'))):GrAt C H0 H' x nw ns n gs' ms' ts' qs':=by
 obtain ⟨us,w1,w2⟩:=h.ww
 obtain ⟨vs,s1,s2⟩:=h.ss
 exact ⟨b,h.f,h.nd,k _ _ h.pno (fun _ z=>nomatch z) h.o,⟨us,k.hd w1,k.ls w2⟩,⟨vs,k.hd s1,k.ls s2⟩,gg,mm,tt,qq⟩
theorem GrAt.same (h:GrAt C H0 H x nw ns n gs ms ts qs) (s:Same H H'):GrAt C H0 H' x nw ns n gs ms ts qs:=by
 obtain ⟨us,m1,m2⟩:=h.mm
 obtain ⟨ds,t1,t2,t3,t4⟩:=h.tt
 refine h.re (.of s) (h.b.trans s) (s _ _ h.gg) ⟨us,s _ _ m1,m2.mono fun v y hy=>(KeepL.of s).nl hy⟩ ⟨ds,s _ _ t1,t2,t3,t4.mono fun d y hy=>?_⟩ (s _ _ h.qq)
 obtain ⟨kvs,e1,e2⟩:=hy
 exact ⟨kvs,s _ _ e1,e2⟩
theorem GrAt.fix (h:GrAt C H0 H x nw ns n gs ms ts qs):∃ H1,GrAt C H1 H x nw ns n gs ms ts qs∧Same H0 H1∧∀ b o,b∉x.own→(∀ kvs,o≠.dK kvs)→H b=some o→H1 b=some o:=by
 obtain ⟨ds,t1,t2,t3,t4⟩:=h.tt
 have hd:∀ d∈ds,∃ kvs,H d=some (.dK kvs):=fun d hd=>by
  obtain ⟨i,hi,rfl⟩:=List.mem_iff_getElem.mp hd
  have hi':i<ts.length:=by rw [← t4.1]; exact hi
  obtain ⟨kvs,e,_⟩:=t4.2 i _ _ (List.getElem?_eq_getElem hi) (List.getElem?_eq_getElem hi')
  exact ⟨kvs,e⟩
 refine ⟨hds (x.own++ds) H,⟨bh3,fun a ha=>by unfold hds; rw [if_pos (List.mem_append_left _ ha)],h.nd,h.o,h.ww,h.ss,h.gg,h.mm,⟨ds,t1,t2,fun d hd=>by unfold hds; rw [if_pos (List.mem_append_right _ hd)],t4⟩,h.qq⟩,fun b o e=>aj8 (h.b _ _ e) fun z=>?_,fun b o hb ho e=>aj8 e fun z=>?_⟩
 · rcases List.mem_append.mp z with z | z
   · rw [h.f b z] at e; cases e
   · rw [t3 b z] at e; cases e
 · rcases List.mem_append.mp z with z | z
   · exact hb z
   · obtain ⟨kvs,e'⟩:=hd b z
     rw [e] at e'
     exact ho kvs (Option.some.inj e')
theorem GrAt.to (h:GrAt C H' H x nw ns n gs ms ts qs) (s:Same H0 H'):GrAt C H0 H x nw ns n gs ms ts qs:=by
 have nn:∀ {a:Addr},H' a=none→H0 a=none:=fun {a} e=>s.free e
 obtain ⟨ds,t1,t2,t3,t4⟩:=h.tt
 exact ⟨s.trans h.b,fun a ha=>nn (h.f a ha),h.nd,h.o,h.ww,h.ss,h.gg,h.mm,⟨ds,t1,t2,fun d hd=>nn (t3 d hd),t4⟩,h.qq⟩
end
section
variable {C:Addr}{H0 H H':Hp}{x:GA}{nw ns:Nat→List Nat}{n:Nat}{gs gs':List Nat}{ms ts ms' ts':List (List Nat)}{qs qs':List Nat}
theorem GrAt.ne (h:GrAt C H0 H x nw ns n gs ms ts qs):x.g≠x.m∧x.g≠x.t∧x.g≠x.q∧x.m≠x.t∧x.m≠x.q∧x.t≠x.q:=by
 have:=h.nd
 unfold GA.own at this
 simp only [List.nodup_cons,List.mem_cons,List.not_mem_nil,or_false,not_or,not_false_eq_true,List.nodup_nil,and_true] at this
 exact ⟨this.1.1,this.1.2.1,this.1.2.2,this.2.1.1,this.2.1.2,this.2.2⟩
theorem GA.mg (x:GA):x.g∈x.own:=by simp [GA.own]
theorem GA.mm (x:GA):x.m∈x.own:=by simp [GA.own]
theorem GA.mt (x:GA):x.t∈x.own:=by simp [GA.own]
theorem GA.mq (x:GA):x.q∈x.own:=by simp [GA.own]
theorem TouAt.lst {a d:Addr}{vs:List V}{xs:List Nat}{o:HO}(h:TouAt H d xs) (e:H a=some (.lst vs)):TouAt (upd H a o) d xs:=by
 obtain ⟨kvs,e1,e2⟩:=h
 exact ⟨kvs,by rw [a06 (ad0 e1 e (fun z=>nomatch z))]; exact e1,e2⟩
theorem TouAt.same {d:Addr}{xs:List Nat}(h:TouAt H d xs) (s:Same H H'):TouAt H' d xs:=by
 obtain ⟨kvs,e1,e2⟩:=h
 exact ⟨kvs,s _ _ e1,e2⟩
theorem GrAt.updG (h:GrAt C H0 H x nw ns n gs ms ts qs):GrAt C H0 (upd H x.g (.lst (natsV gs'))) x nw ns n gs' ms ts qs:=by
 obtain ⟨us,m1,m2⟩:=h.mm
 obtain ⟨ds,t1,t2,t3,t4⟩:=h.tt
 obtain ⟨n1,n2,n3,n4,n5,n6⟩:=h.ne
 exact h.re (.own x.mg) (h.b.updNew (h.f _ x.mg)) a27 ⟨us,by rw [a06 n1.symm]; exact m1,m2.mono fun v y hy=>(KeepL.own x.mg).nl hy⟩ ⟨ds,by rw [a06 n2.symm]; exact t1,t2,t3,t4.mono fun d y hy=>hy.lst h.gg⟩ (by rw [a06 n3.symm]; exact h.qq)
theorem GrAt.updQ (h:GrAt C H0 H x nw ns n gs ms ts qs):GrAt C H0 (upd H x.q (.lst (natsV qs'))) x nw ns n gs ms ts qs':=by
 obtain ⟨us,m1,m2⟩:=h.mm
 obtain ⟨ds,t1,t2,t3,t4⟩:=h.tt
 obtain ⟨n1,n2,n3,n4,n5,n6⟩:=h.ne
 exact h.re (.own x.mq) (h.b.updNew (h.f _ x.mq)) (by rw [a06 n3]; exact h.gg) ⟨us,by rw [a06 n5]; exact m1,m2.mono fun v y hy=>(KeepL.own x.mq).nl hy⟩ ⟨ds,by rw [a06 n6]; exact t1,t2,t3,t4.mono fun d y hy=>hy.lst h.qq⟩ a27
theorem GrAt.updM {us':List V}(h:GrAt C H0 H x nw ns n gs ms ts qs) (hm:Each (NL (hds x.own H)) us' ms'):GrAt C H0 (upd H x.m (.lst us')) x nw ns n gs ms' ts qs:=by
 obtain ⟨us,m1,m2⟩:=h.mm
 obtain ⟨ds,t1,t2,t3,t4⟩:=h.tt
 obtain ⟨n1,n2,n3,n4,n5,n6⟩:=h.ne
 exact h.re (.own x.mm) (h.b.updNew (h.f _ x.mm)) (by rw [a06 n1]; exact h.gg) ⟨us',a27,hm.mono fun v y hy=>(KeepL.own x.mm).nl hy⟩ ⟨ds,by rw [a06 n4.symm]; exact t1,t2,t3,t4.mono fun d y hy=>hy.lst m1⟩ (by rw [a06 n5.symm]; exact h.qq)
theorem GrAt.updT {ds':List Addr}(h:GrAt C H0 H x nw ns n gs ms ts qs) (hn:ds'.Nodup) (hf:∀ d∈ds',H0 d=none) (ht:Each (TouAt H) ds' ts'):GrAt C H0 (upd H x.t (.lst (ds'.map .ref))) x nw ns n gs ms ts' qs:=by
 obtain ⟨us,m1,m2⟩:=h.mm
 obtain ⟨ds,t1,t2,t3,t4⟩:=h.tt
 obtain ⟨n1,n2,n3,n4,n5,n6⟩:=h.ne
 exact h.re (.own x.mt) (h.b.updNew (h.f _ x.mt)) (by rw [a06 n2]; exact h.gg) ⟨us,by rw [a06 n4]; exact m1,m2.mono fun v y hy=>(KeepL.own x.mt).nl hy⟩ ⟨ds',a27,hn,hf,ht.mono fun d y hy=>hy.lst t1⟩ (by rw [a06 n6.symm]; exact h.qq)
theorem GrAt.putT {c a:Nat}{xs:List Nat}{v:V}(h:GrAt C H0 H x nw ns n gs ms ts qs) (hc:ts[c]?=some xs):∃ d kvs vs,H x.t=some (.lst vs)∧vs[c]?=some (.ref d)∧H d=some (.dK kvs)∧kvs.length=xs.length∧GrAt C H0 (upd H d (.dK (putK kvs (Sum.inl (a:Int)) v))) x nw ns n gs ms (ts.set c (addN xs a)) qs:=by
 obtain ⟨us,m1,m2⟩:=h.mm
 obtain ⟨ds,t1,t2,t3,t4⟩:=h.tt
 obtain ⟨d,hd,hT⟩:=t4.get hc
 obtain ⟨kvs,e1,e2,e3⟩:=hT.len
 have hmem:=List.mem_of_getElem? hd
 have hno:∀ b∈x.own,b≠d:=fun b hb z=>by
  obtain ⟨vs,e⟩:=h.own_lst b hb
  rw [z,e1] at e
  cases e
 refine ⟨d,kvs,_,t1,by rw [List.getElem?_map,hd]; rfl,e1,e2,h.re (.dic e1) (h.b.updNew (t3 d hmem)) (by rw [a06 (hno _ x.mg)]; exact h.gg) ⟨us,by rw [a06 (hno _ x.mm)]; exact m1,m2.mono fun v y hy=>(KeepL.dic e1).nl hy⟩ ⟨ds,by rw [a06 (hno _ x.mt)]; exact t1,t2,t3,by rw [List.length_set]; exact t4.1,fun j d' ys h1 h2=>?_⟩ (by rw [a06 (hno _ x.mq)]; exact h.qq)⟩
 rw [List.getElem?_set] at h2
 by_cases z:c=j
 · subst z
   rw [hd] at h1
   cases h1
   rw [if_pos rfl,if_pos (List.getElem?_eq_some_iff.mp hc).1] at h2
   cases h2
   exact ⟨_,a27,bb8 e3 a⟩
 · rw [if_neg z] at h2
   obtain ⟨kvs',g1,g2⟩:=t4.2 j d' ys h1 h2
   refine ⟨kvs',?_,g2⟩
   rw [a06 (fun q=>?_)]
   · exact g1
   · subst q
     obtain ⟨l1,g1⟩:=List.getElem?_eq_some_iff.mp h1
     obtain ⟨l2,g2⟩:=List.getElem?_eq_some_iff.mp hd
     have pw:=List.pairwise_iff_getElem.mp t2
     rcases Nat.lt_or_gt_of_ne z with q | q
     · exact pw c j l2 l1 q (g2.trans g1.symm)
     · exact pw j c l1 l2 q (g1.trans g2.symm)
end
structure FL (H0 H:Hp) (f:Addr) (ls:List Addr) (cs:List (List Nat)):Prop where
 b:Same H0 H
 f0:H0 f=none
 nf:f∉ls
 nd:ls.Nodup
 fr:∀ d∈ls,H0 d=none
 e:H f=some (.lst (ls.map .ref))
 at_:Each (fun d xs=>H d=some (.lst (natsV xs))) ls cs
theorem FL.same {H0 H H':Hp}{f:Addr}{ls:List Addr}{cs:List (List Nat)}(h:FL H0 H f ls cs) (s:Same H H'):FL H0 H' f ls cs:=⟨h.b.trans s,h.f0,h.nf,h.nd,h.fr,s _ _ h.e,h.at_.mono fun d xs e=>s _ _ e⟩
theorem FL.get {H0 H:Hp}{f:Addr}{ls:List Addr}{cs:List (List Nat)}(h:FL H0 H f ls cs) {i:Nat}{xs:List Nat}(e:cs[i]?=some xs):∃ d,ls[i]?=some d∧(ls.map V.ref)[i]?=some (.ref d)∧H d=some (.lst (natsV xs)):=by
 obtain ⟨d,h1,h2⟩:=h.at_.get e
 exact ⟨d,h1,by rw [List.getElem?_map,h1]; rfl,h2⟩
theorem FL.app {H0 H:Hp}{f d:Addr}{ls:List Addr}{cs:List (List Nat)}{i a:Nat}{xs:List Nat}(h:FL H0 H f ls cs) (e:cs[i]?=some xs) (hd:ls[i]?=some d):FL H0 (upd H d (.lst (natsV (xs++[a])))) f ls (cs.set i (xs++[a])):=by
 have hm:=List.mem_of_getElem? hd
 have hne:f≠d:=fun z=>h.nf (z ▸ hm)
 refine ⟨h.b.updNew (h.fr d hm),h.f0,h.nf,h.nd,h.fr,by rw [a06 hne]; exact h.e,by rw [List.length_set]; exact h.at_.1,fun j d' ys h1 h2=>?_⟩
 rw [List.getElem?_set] at h2
 by_cases z:i=j
 · subst z
   rw [hd] at h1
   cases h1
   rw [if_pos rfl,if_pos (List.getElem?_eq_some_iff.mp e).1] at h2
   cases h2
   exact a27
 · rw [if_neg z] at h2
   rw [a06 (fun q=>?_)]
   · exact h.at_.2 j d' ys h1 h2
   · subst q
     obtain ⟨l1,g1⟩:=List.getElem?_eq_some_iff.mp h1
     obtain ⟨l2,g2⟩:=List.getElem?_eq_some_iff.mp hd
     have pw:=List.pairwise_iff_getElem.mp h.nd
     rcases Nat.lt_or_gt_of_ne z with q | q
     · exact pw i j l2 l1 q (g2.trans g1.symm)
     · exact pw j i l1 l2 q (g1.trans g2.symm)
theorem FL.lsts {H0 H:Hp}{f:Addr}{ls:List Addr}{cs:List (List Nat)}(h:FL H0 H f ls cs):Lsts H (ls.map .ref) (fun i=>cs.getD i []) cs.length:=⟨by simp [h.at_.1],fun i hi=>by
 have e:=List.getElem?_eq_getElem hi
 obtain ⟨d,h1,h2,h3⟩:=h.get e
 exact ⟨d,h2,by show H d=some (.lst (natsV (cs.getD i []))); rw [show cs.getD i []=cs[i] by simp [List.getD,e]]; exact h3⟩⟩
theorem bb9 {gs:List Nat}{k i c:Nat}(h:gs[i]?=some c) (hc:c<k):memL (gs.take (i+1)) k=(memL (gs.take i) k).set c ((List.range i).filter (fun a=>decide ((gs.take i)[a]?=some c))++[i]):=by
 have hi:=(List.getElem?_eq_some_iff.mp h).1
 have l1:(gs.take (i+1)).length=i+1:=by simp; omega
 have l0:(gs.take i).length=i:=by simp; omega
 have ht:∀ a,a<i→(gs.take (i+1))[a]?=(gs.take i)[a]?:=fun a ha=>by rw [List.getElem?_take,List.getElem?_take,if_pos (by omega),if_pos ha]
 have hti:(gs.take (i+1))[i]?=some c:=by rw [List.getElem?_take,if_pos (by omega)]; exact h
 refine List.ext_getElem? fun d=>?_
 rw [List.getElem?_set]
 unfold memL
 rw [List.length_map,List.length_range,l1,l0,List.getElem?_map,List.getElem?_map]
 by_cases hd:d<k
 · rw [List.getElem?_range hd]
   simp only [Option.map_some]
   rw [List.range_succ,List.filter_append]
   have e1:(List.range i).filter (fun a=>decide ((gs.take (i+1))[a]?=some d))=(List.range i).filter (fun a=>decide ((gs.take i)[a]?=some d)):=List.filter_congr fun a ha=>by rw [ht a (List.mem_range.mp ha)]
   rw [e1]
   by_cases z:c=d
   · subst z
     rw [if_pos rfl,if_pos hc]
     simp [hti]
   · rw [if_neg z]
     simp [hti,z]
 · rw [List.getElem?_eq_none (by simp; omega)]
   rw [if_neg (by omega)]
   simp
theorem bz7 {l:List Addr}{i:Nat}{y:Addr}(h:l.Nodup) (hy:y∉l):(l.set i y).Nodup:=by
 refine List.pairwise_iff_getElem.mpr fun a b ha hb hab e=>?_
 rw [List.length_set] at ha hb
 rw [List.getElem_set,List.getElem_set] at e
 by_cases z1:i=a
 · rw [if_pos z1,if_neg (by omega)] at e
   exact hy (e ▸ List.getElem_mem hb)
 · rw [if_neg z1] at e
   by_cases z2:i=b
   · rw [if_pos z2] at e
     exact hy (e ▸ List.getElem_mem ha)
   · rw [if_neg z2] at e
     exact List.pairwise_iff_getElem.mp h a b ha hb hab e
theorem az3 {α β:Type}{R:α→β→Prop}{l:List α}{r:List β}{i:Nat}{y:α}{z:β}(h:Each R l r) (hy:R y z):Each R (l.set i y) (r.set i z):=by
 refine ⟨by simp [h.1],fun j a b h1 h2=>?_⟩
 rw [List.getElem?_set] at h1 h2
 by_cases q:i=j
 · rw [if_pos q] at h1 h2
   split at h1
   · split at h2
     · cases h1
       cases h2
       exact hy
     · cases h2
   · cases h1
 · rw [if_neg q] at h1 h2
   exact h.2 j a b h1 h2
def keyT (l:List Nat):Tr:=.tup (natsT l)
theorem bh4 {a b:List Nat}(h:keyT a=keyT b):a=b:=by
 unfold keyT natsT at h
 have h:=Tr.tup.inj h
 refine List.ext_getElem? fun i=>?_
 have:=congrArg (fun l=>l[i]?) h
 simp only [List.getElem?_map] at this
 cases e1:a[i]? <;> cases e2:b[i]? <;> rw [e1,e2] at this <;> simp at this ⊢
 omega
theorem bc0 {H:Hp}{p:Addr}{l:List Nat}(h:H p=some (.tup (natsV l))):TK H (keyT l) (.ref p):=by
 refine ⟨?_,?_⟩
 · unfold keyT
   exact at_tup0.mpr ⟨p,_,rfl,h,ao5 l⟩
 · unfold keyT
   simp only [Tr.h,au8]
   omega
theorem DtAt.ext' {P:Params}{H:Hp}{a:Addr}{kvs:List (Tr×V)}(h:DtAt P H a kvs):∃ φ,H a=some (.ext φ)∧True:=by
 obtain ⟨m,_,⟨φ,e,_⟩,_⟩:=h
 exact ⟨φ,e,trivial⟩
abbrev Clx:=List Nat×Addr×List Nat
structure CI (led:Nat→List Nat) (cs:List Clx) (zs:List Nat):Prop where
 kn:(cs.map (·.1)).Nodup
 an:(cs.map (·.2.1)).Nodup
 ok:∀ y∈cs,y.2.2≠[]∧∀ a∈y.2.2,led a=y.1
 pm:((cs.map (·.2.2)).flatten).Perm zs
theorem CI.nil {led:Nat→List Nat}:CI led [] []:=⟨by simp,by simp,by simp,by simp⟩
theorem CI.new {led:Nat→List Nat}{cs:List Clx}{zs l xs:List Nat}{p:Addr}(h:CI led cs zs) (hk:l∉cs.map (·.1)) (ha:p∉cs.map (·.2.1)) (hx:xs≠[]) (hl:∀ a∈xs,led a=l):CI led (cs++[(l,p,xs)]) (zs++xs):=by
 refine ⟨by rw [List.map_append]; exact aa6 h.kn hk,by rw [List.map_append]; exact aa6 h.an ha,fun y hy=>?_,?_⟩
 · rcases List.mem_append.mp hy with hy | hy
   · exact h.ok y hy
   · rw [List.mem_singleton.mp hy]
     exact ⟨hx,hl⟩
 · rw [List.map_append,List.flatten_append]
   simp only [List.map_cons,List.map_nil,List.flatten_cons,List.flatten_nil,List.append_nil]
   exact h.pm.append_right xs
theorem az4 {xs:List Nat}:∀ {l:List (List Nat)}{j:Nat}{a:List Nat},l[j]?=some a→(l.set j (a++xs)).flatten.Perm (l.flatten++xs)
 | [],j,a,h=>by simp at h
 | b::l,0,a,h=>by
   obtain rfl:b=a:=by simpa using h
   simp only [List.set_cons_zero,List.flatten_cons,List.append_assoc]
   exact List.perm_append_comm.append_left b
 | b::l,j+1,a,h=>by
   simp only [List.set_cons_succ,List.flatten_cons,List.append_assoc]
   exact (az4 (l:=l) (by simpa using h)).append_left b
theorem af7 {α β:Type}{f:α→β}{l:List α}{j:Nat}{y z:α}(h:l[j]?=some y) (e:f z=f y):(l.set j z).map f=l.map f:=by
 rw [List.map_set,e]
 refine List.ext_getElem? fun i=>?_
 rw [List.getElem?_set]
 by_cases q:j=i
 · subst q
   have:=(List.getElem?_eq_some_iff.mp h).1
   rw [if_pos rfl,if_pos (by simpa using this),List.getElem?_map,h]
   rfl
 · rw [if_neg q]
theorem CI.old {led:Nat→List Nat}{cs:List Clx}{zs xs:List Nat}{j:Nat}{y:Clx}(h:CI led cs zs) (hy:cs[j]?=some y) (hl:∀ a∈xs,led a=y.1):CI led (cs.set j (y.1,y.2.1,y.2.2++xs)) (zs++xs):=by
 have hm:=h.ok y (List.mem_of_getElem? hy)
 refine ⟨by rw [af7 (f:=fun y:Clx=>y.1) (z:=(y.1,y.2.1,y.2.2++xs)) hy rfl]; exact h.kn,by rw [af7 (f:=fun y:Clx=>y.2.1) (z:=(y.1,y.2.1,y.2.2++xs)) hy rfl]; exact h.an,fun z hz=>?_,?_⟩
 · rcases List.mem_or_eq_of_mem_set hz with hz | rfl
   · exact h.ok z hz
   · refine ⟨fun q=>hm.1 (List.append_eq_nil_iff.mp q).1,fun a ha=>?_⟩
     rcases List.mem_append.mp ha with ha | ha
     · exact hm.2 a ha
     · exact hl a ha
 · rw [List.map_set]
   refine (az4 (a:=y.2.2) (by rw [List.getElem?_map,hy]; rfl)).trans (h.pm.append_right xs)
def csD (cs:List Clx):List (Tr×V):=cs.map fun y=>(keyT y.1,.ref y.2.1)
theorem ak1 {l:List Nat}:∀ {cs:List Clx},(valV (csD cs) (keyT l)=none∧l∉cs.map (·.1))∨∃ (j:Nat) (y:Clx),cs[j]?=some y∧y.1=l∧valV (csD cs) (keyT l)=some (.ref y.2.1)
 | []=>.inl ⟨rfl,by simp⟩
 | y::cs=>by
   unfold csD
   rw [List.map_cons]
   by_cases e:y.1=l
   · exact .inr ⟨0,y,rfl,e,by rw [ad8 (by rw [e])]⟩
   · rw [ad9 (fun z=>e (bh4 z))]
     rcases ak1 (l:=l) (cs:=cs) with ⟨h1,h2⟩ | ⟨j,z,h1,h2,h3⟩
     · refine .inl ⟨h1,?_⟩
       rw [List.map_cons,List.mem_cons,not_or]
       exact ⟨fun q=>e q.symm,h2⟩
     · exact .inr ⟨j+1,z,by simpa using h1,h2,h3⟩
theorem bc1 {cs:List Clx}{j:Nat}{y:Clx}{xs:List Nat}(hy:cs[j]?=some y):csD (cs.set j (y.1,y.2.1,xs))=csD cs:=by
 unfold csD
 exact af7 hy rfl
def CH (B H:Hp) (cs:List Clx):Prop:=∀ y∈cs,B y.2.1=none∧H y.2.1=some (.lst (natsV y.2.2))
theorem CH.same {B H H':Hp}{cs:List Clx}(h:CH B H cs) (s:Same H H'):CH B H' cs:=fun y hy=>⟨(h y hy).1,s _ _ (h y hy).2⟩
theorem CH.no {B H:Hp}{cs:List Clx}(h:CH B H cs) {p:Addr}(f:H p=none):p∉cs.map (·.2.1):=fun z=>by
 obtain ⟨y,hy,rfl⟩:=List.mem_map.mp z
 rw [(h y hy).2] at f
 cases f
theorem CH.old {B H:Hp}{cs:List Clx}{j:Nat}{y:Clx}{xs:List Nat}(h:CH B H cs) (an:(cs.map (·.2.1)).Nodup) (hy:cs[j]?=some y):CH B (upd H y.2.1 (.lst (natsV xs))) (cs.set j (y.1,y.2.1,xs)):=fun z hz=>by
 obtain ⟨i,hi,rfl⟩:=List.mem_iff_getElem.mp hz
 rw [List.length_set] at hi
 rw [List.getElem_set]
 by_cases q:j=i
 · rw [if_pos q]
   exact ⟨(h y (List.mem_of_getElem? hy)).1,a27⟩
 · rw [if_neg q]
   obtain ⟨a,b⟩:=h cs[i] (List.getElem_mem hi)
   refine ⟨a,?_⟩
   rw [a06 (fun z=>?_)]
   · exact b
   · obtain ⟨l2,g2⟩:=List.getElem?_eq_some_iff.mp hy
     have pw:=List.pairwise_iff_getElem.mp an
     rcases Nat.lt_or_gt_of_ne q with q | q
     · exact pw j i (by simpa using l2) (by simpa using hi) q (by simp [g2,z])
     · exact pw i j (by simpa using hi) (by simpa using l2) q (by simp [g2,z])
theorem CI.parts {led:Nat→List Nat}{cs:List Clx}{zs gs:List Nat}{c:Nat}(h:CI led cs zs) (hn:zs.Nodup) (hm:∀ a,a∈zs↔gs[a]?=some c):PartsOf gs led c (cs.map (·.2.2)):=by
 refine ⟨fun p hp=>?_,(h.pm.nodup_iff).mpr hn,fun a=>by rw [← hm a]; exact h.pm.mem_iff,fun p hp a ha b hb=>?_,?_⟩
 · obtain ⟨y,hy,rfl⟩:=List.mem_map.mp hp
   exact (h.ok y hy).1
 · obtain ⟨y,hy,rfl⟩:=List.mem_map.mp hp
   rw [(h.ok y hy).2 a ha,(h.ok y hy).2 b hb]
 · refine List.pairwise_map.mpr (List.Pairwise.imp_of_mem (fun {y z} hy hz hne a ha b hb e=>hne ?_) (List.pairwise_map.mp h.kn))
   rw [← (h.ok y hy).2 a ha,←(h.ok z hz).2 b hb,e]
theorem CI.few {led:Nat→List Nat}{cs:List Clx}{zs:List Nat}(h:CI led cs zs):cs.length≤zs.length∧∀ y∈cs,y.2.2.length≤zs.length:=by
 have e:=h.pm.length_eq
 have gen:∀ (cs:List Clx),(∀ y∈cs,y.2.2≠[])→cs.length≤((cs.map (·.2.2)).flatten).length∧∀ y∈cs,y.2.2.length≤((cs.map (·.2.2)).flatten).length:=by
  intro cs
  induction cs with
  | nil=>intro _; simp
  | cons y cs ih =>
    intro hok
    obtain ⟨h1,h2⟩:=ih fun z hz=>hok z (List.mem_cons_of_mem _ hz)
    have h3:0<y.2.2.length:=List.length_pos_iff.mpr (hok y List.mem_cons_self)
    simp only [List.map_cons,List.flatten_cons,List.length_cons,List.length_append]
    refine ⟨by omega,fun z hz=>?_⟩
    rcases List.mem_cons.mp hz with rfl | hz
    · omega
    · have:=h2 z hz
      omega
 rw [← e]
 exact gen cs fun y hy=>(h.ok y hy).1
section
variable {C:Addr}{H0 H H':Hp}{x:GA}{nw ns:Nat→List Nat}{n:Nat}{gs gs':List Nat}{ms ts ms' ts':List (List Nat)}{qs qs':List Nat}
theorem GrAt.frz {d:Addr}{kvs:List (Key×V)}{o:HO}{vs:List V}(h:GrAt C H0 H x nw ns n gs ms ts qs) (e:H d=some (.dK kvs)) (f0:H0 d=none) (et:H x.t=some (.lst vs)) (hd:V.ref d∉vs):GrAt C H0 (upd H d o) x nw ns n gs ms ts qs:=by
 obtain ⟨us,m1,m2⟩:=h.mm
 obtain ⟨ds,t1,t2,t3,t4⟩:=h.tt
 rw [t1] at et
 cases et
 have hno:∀ b∈x.own,b≠d:=fun b hb z=>by
  obtain ⟨vs,e'⟩:=h.own_lst b hb
  rw [z,e] at e'
  cases e'
 refine h.re (.dic e) (h.b.updNew f0) (by rw [a06 (hno _ x.mg)]; exact h.gg) ⟨us,by rw [a06 (hno _ x.mm)]; exact m1,m2.mono fun v y hy=>(KeepL.dic e).nl hy⟩ ⟨ds,by rw [a06 (hno _ x.mt)]; exact t1,t2,t3,t4.1,fun j d' ys h1 h2=>?_⟩ (by rw [a06 (hno _ x.mq)]; exact h.qq)
 obtain ⟨kvs',g1,g2⟩:=t4.2 j d' ys h1 h2
 refine ⟨kvs',?_,g2⟩
 rw [a06 (fun q=>hd ?_)]
 · exact g1
 · rw [← q]
   exact List.mem_map_of_mem (List.mem_of_getElem? h1)
end
theorem bh5 {α β:Type}{f:α→β}{l m:List β}(h:l.Perm m):∀ {r:List α},m=r.map f→∃ r2:List α,r2.Perm r∧l=r2.map f:=by
 induction h with
 | nil =>
   intro r e
   obtain rfl:r=[]:=by simpa using e.symm
   exact ⟨[],.nil,rfl⟩
 | cons x h ih =>
   intro r e
   cases r with
   | nil=>simp at e
   | cons y r =>
     simp only [List.map_cons,List.cons.injEq] at e
     obtain ⟨r2,h1,h2⟩:=ih e.2
     exact ⟨y::r2,h1.cons y,by rw [h2,e.1]; rfl⟩
 | swap x y l =>
   intro r e
   cases r with
   | nil=>simp at e
   | cons a r =>
     cases r with
     | nil=>simp at e
     | cons b r =>
       simp only [List.map_cons,List.cons.injEq] at e
       exact ⟨b::a::r,List.Perm.swap a b r,by rw [e.1,e.2.1,e.2.2]; rfl⟩
 | trans h1 h2 ih1 ih2 =>
   intro r e
   obtain ⟨r2,a1,a2⟩:=ih2 e
   obtain ⟨r3,b1,b2⟩:=ih1 a2
   exact ⟨r3,b1.trans a1,b2⟩
theorem PartsOf.few {gs:List Nat}{led:Nat→List Nat}{c:Nat}{ps:List (List Nat)}(h:PartsOf gs led c ps):ps.length≤gs.length:=by
 have h1:ps.length≤ps.flatten.length:=by
  have:=h.ne
  clear h
  induction ps with
  | nil=>simp
  | cons p ps ih =>
    have a:=ih fun q hq=>this q (List.mem_cons_of_mem _ hq)
    have b:0<p.length:=List.length_pos_iff.mpr (this p List.mem_cons_self)
    simp only [List.length_cons,List.flatten_cons,List.length_append]
    omega
 have h2:=pigeon gs.length ps.flatten h.nd fun a ha=>(List.getElem?_eq_some_iff.mp ((h.me a).mp ha)).1
 omega
theorem PartsOf.some {gs:List Nat}{led:Nat→List Nat}{c a:Nat}{ps:List (List Nat)}(h:PartsOf gs led c ps) (ha:gs[a]?=some c):ps≠[]:=fun z=>by
 have:=(h.me a).mpr ha
 rw [z] at this
 cases this
theorem But.none {p:Addr}{H H':Hp}(k:But p H H') {a:Addr}{o:HO}(hp:H' p=some o) (f:H' a=none):H a=none:=by
 cases e:H a with
 | none=>rfl
 | some u =>
   have:=k a u (fun z=>by rw [z,hp] at f; cases f) e
   rw [f] at this
   cases this
theorem al7:∀ {xs ys:List Nat}{kvs:List (Key×V)},kvs.map (·.1)=ys.map (fun (x:Nat)=>Sum.inl (x:Int))→(mergeK kvs (xs.map fun (x:Nat)=>(Sum.inl (x:Int),V.bl true))).map (·.1)=(xs.foldl addN ys).map fun (x:Nat)=>Sum.inl (x:Int)
 | [],ys,kvs,h=>h
 | x::xs,ys,kvs,h=>al7 (xs:=xs) (ys:=addN ys x) (kvs:=putK kvs (Sum.inl (x:Int)) (.bl true)) (bb8 h x)
theorem az5:∀ {xs ys:List Nat},(ys++xs).Nodup→xs.foldl addN ys=ys++xs
 | [],ys,_=>by simp
 | x::xs,ys,h=>by
   have hx:x∉ys:=fun hm=>(List.nodup_append.mp h).2.2 x hm x (by simp) rfl
   rw [List.foldl_cons,addN,if_neg hx,az5 (by simpa using h)]
   simp
theorem bc2 {xs:List Nat}(h:xs.Nodup):(mergeK [] (xs.map fun (x:Nat)=>(Sum.inl (x:Int),V.bl true))).map (·.1)=xs.map fun (x:Nat)=>Sum.inl (x:Int):=by
 rw [al7 (ys:=[]) rfl,az5 (by simpa using h)]
 rfl
theorem as8 {H:Hp}:∀ l:List Nat,Tr.AtsB H (l.map fun (k:Nat)=>Tr.int (k:Int)) (natsV l)
 | []=>rfl
 | k::l=>⟨_,_,rfl,.inl rfl,as8 l⟩
def nxR (rs:List RRoom) (x:Nat):List Nat:=(roomA rs x).2.map (·.2)
def fdR (rs:List RRoom):List Nat:=bfs (nxR rs) (rs.length+1) 0 [0]
noncomputable def gsR (rs:List RRoom) (many:Nat):List Nat:=likeN (labR rs many) (wayR rs) many (fdR rs)
theorem bq3 (rs:List RRoom) (many:Nat):(gsR rs many).length=(fdR rs).length:=by
 unfold gsR likeN
 rw [ab8,List.length_map]
noncomputable def numOf (rs:List RRoom) (many x:Nat):Nat:=(gsR rs many).getD ((fdR rs).idxOf x) 0
section
variable {rs:List RRoom}{many:Nat}
theorem num_at {i x:Nat}(hn:(fdR rs).Nodup) (h:(fdR rs)[i]?=some x):(gsR rs many)[i]?=some (numOf rs many x)∧(fdR rs).idxOf x=i:=by
 have hi:=(List.getElem?_eq_some_iff.mp h).1
 have e:=by6 hn h
 refine ⟨?_,e⟩
 unfold numOf
 rw [e]
 have:i<(gsR rs many).length:=by rw [bq3]; exact hi
 simp [List.getD,List.getElem?_eq_getElem this]
end
def nwP (rs:List RRoom) (a:Nat):List Nat:=(nxR rs ((fdR rs).getD a 0)).map fun x=>(fdR rs).idxOf x
section
variable {rs:List RRoom}{many:Nat}
end
section
variable {rs:List RRoom}{many:Nat}{p:Pr}{R:List Nat}
end
section
variable {α:Type} [DecidableEq α] {cl:Nat→α}{nx:Nat→List Nat}
end
section
variable {rs:List RRoom}{many:Nat}
end
section
variable {α β:Type} [DecidableEq α] [DecidableEq β] {cl:Nat→α}{cl':Nat→β}{D:Nat→Prop}
end
section
variable {rg rs:List RRoom}{many:Nat}{D:Nat→Prop}{φ:Nat→Nat}
end
section
variable {prog:Program}{w:World}
variable {A:Around}{E:Value→Shared→Prop}{s:Shared}
end
section
variable {prog:Program}{w:World}{A:Around}{R:Result→Shared→Prop}{I:Addr}{fp wr:List Addr}{G:Array GenState→Array GenState→Prop}{n:Nat}{P:Nat→Value→Prop}{St:Nat→Shared→Prop}
end
section
variable {prog:Program}{w:World}{A:Around}{E:Value→Shared→Prop}{s:Shared}
end
section
variable {prog:Program}{w:World}{A:Around}{E:Value→Shared→Prop}{s:Shared}{S it tp:Addr}{o:Obj}{es:Array (Int×Value)}{ep i:Nat}{t:SetTable}{first:Value}
end
section
variable {prog:Program}{w:World}{A:Around}{E:Value→Shared→Prop}{s:Shared}{S:Addr}{es:Array (Int×Value)}
end
section
variable {prog:Program}{w:World}{A:Around}{E:Value→Shared→Prop}{s:Shared}{S:Addr}{es:Array (Int×Value)}
end
section
variable {X:Cx}{P:Program}{w:World}
end
section
variable {X:Cx}
end
section
variable {X:Cx}
end
section
variable {X:Cx}{pins:List (Addr×Obj)}{σ:St} {H:Hp}{s:Shared}
end
def nbV:V→Prop
 | .int _=>True
 | .str _=>True
 | .non=>True
 | _=>False
mutual
def Tw.nb:Tw→Prop
 | .sc v=>nbV v
 | .tup xs=>Tw.nbs xs
 | .lst xs=>Tw.nbs xs
def Tw.nbs:List Tw→Prop
 | []=>True
 | x::xs=>x.nb∧Tw.nbs xs
end
theorem ah6 {M:Model}{A:Around}{E:Value→Shared→Prop}{s:Shared}{a:Addr}{Q:Option Obj→Shared→Prop}(h:Q (s.heap.get? a) s):wpAny M A (loadIfAlive a) Q E s:=fun Γ p _=>by
 unfold loadIfAlive
 rw [Sem.wp_loadIfAlive,Sem.wp_pure]
 exact h
@[reducible] def IsZipB (h:Heap) (z TI TO T:Addr) (b:Bool):Prop :=
 h.get? z=some { cls:=.type "zip",dict:=none,data:=.fields #[rawInt T,.bool b,.bool false,.ref TI,.ref TO],slots:=#[] }
section
variable {prog:Program}{w:World}{A:Around}{E:Value→Shared→Prop}{s:Shared}
theorem al8 {z TI TO T:Addr}{b:Bool}{o:Obj}{Q:Bool→Shared→Prop}(hz:IsZipB s.heap z TI TO T b) (hT:s.heap.get? T=some o)
 (q:∀ h':Heap,IsZipB h' z TI TO T true→Heap.SameBut z s.heap h'→Q false { s with heap:=h' }):wpAny (model prog w) A (Builtin.SmallTypes.ownedTupleIsFree (.ref z)) Q E s:=by
 unfold Builtin.SmallTypes.ownedTupleIsFree
 refine wpAny_bind (wpAny_field hz rfl (x:=rawInt T) rfl ?_)
 show wpAny _ _ (loadIfAlive ((T:Int).toNat) >>= _) _ _ _
 refine wpAny_bind (ah6 ?_)
 rw [Int.toNat_natCast,hT]
 rw [if_neg (by simp)]
 refine wpAny_bind (wpAny_field hz rfl (x:=.bool b) rfl ?_)
 cases b with
 | true =>
   rw [if_neg (by decide)]
   exact wpAny_pure (q s.heap hz ⟨rfl,fun _ _=>rfl⟩)
 | false =>
   rw [if_pos (by decide)]
   refine wpAny_bind (wpAny_setField_rec hz (by simp) fun h' z' b'=>wpAny_pure (q h' z' b'))
theorem bc3 {z TI TO T i1 i2 l1 l2:Addr}{b:Bool}{o:Obj}{k1 k2:Nat}{xs ys:Array Value}{x y:Value}{Q:Value→Shared→Prop}(D:ZipApart z TI TO i1 i2 l1 l2)
 (hz:IsZipB s.heap z TI TO T b) (hT:s.heap.get? T=some o) (hTI:IsPair s.heap TI (.ref i1) (.ref i2))
 (h1:s.heap.IsListIter i1 l1 k1) (h2:s.heap.IsListIter i2 l2 k2) (hl1:s.heap.IsList l1 xs) (hl2:s.heap.IsList l2 ys) (hx:xs[k1]?=some x) (hy:ys[k2]?=some y)
 (hQ:∀ h',IsZipB h' z TI TO T true→h'.IsListIter i1 l1 (k1+1)→h'.IsListIter i2 l2 (k2+1)→IsPair h' s.heap.objs.size x y→h'.objs.size=s.heap.objs.size+1 →
  (∀ c o,c≠z→c≠i1→c≠i2→s.heap.get? c=some o→h'.get? c=some o)→Q (.ref s.heap.objs.size) { s with heap:=h' }) :
 wpAny (model prog w) A (Builtin.«zip.__next__» ⟨[.ref z],[]⟩) (fun fin s'=>∃ v,fin=.done (.ret v)∧Q v s') E s:=by
 show wpAny _ _ (field (.ref z) 2 >>= _) _ _ _
 refine wpAny_bind (wpAny_field hz rfl (x:=.bool false) rfl ?_)
 show wpAny _ _ (field (.ref z) 3 >>= _) _ _ _
 refine wpAny_bind (wpAny_field hz rfl (x:=.ref TI) rfl ?_)
 refine wpAny_bind (wpAny_seqItems hTI rfl ?_)
 show wpAny _ _ (Builtin.SmallTypes.ownedTupleIsFree (.ref z) >>= _) _ _ _
 refine wpAny_bind ?_
 refine al8 hz hT fun h₁ z₁ b₁=>?_
 rw [if_neg (by decide)]
 refine wpAny_bind ?_
 simp only [← Array.forIn_toList,List.forIn_cons,List.forIn_nil]
 refine wpAny_bind (wpAny_bind (wpAny_holding ?_))
 show wpAny _ _ (Builtin.SmallTypes.nextOf (.ref i1) >>= fun v=>pure (some v)) _ _ _
 refine wpAny_bind (wpAny_nextOf_list_item (h1.extBut b₁.extBut D.i1z) (hl1.extBut b₁.extBut D.l1z) hx fun h₂ h1₂ b₂=>wpAny_pure ?_)
 refine wpAny_pure ?_
 refine wpAny_bind (wpAny_bind (wpAny_holding ?_))
 show wpAny _ _ (Builtin.SmallTypes.nextOf (.ref i2) >>= fun v=>pure (some v)) _ _ _
 refine wpAny_bind (wpAny_nextOf_list_item ((h2.extBut b₁.extBut D.i2z).extBut b₂.extBut D.i12.symm) ((hl2.extBut b₁.extBut D.l2z).extBut b₂.extBut D.l2i1) hy fun h₃ h2₃ b₃=>wpAny_pure ?_)
 refine wpAny_pure (wpAny_pure ?_)
 refine wpAny_bind (wpAny_newTuple (hsz:=by simp [sizeLine_eq]) (wpAny_pure ⟨_,rfl,?_⟩))
 have hsz:h₃.objs.size=s.heap.objs.size:=by rw [b₃.1,b₂.1,b₁.1]
 have kp:∀ c o,c≠z→c≠i1→c≠i2→s.heap.get? c=some o→h₃.get? c=some o:=fun c o c1 c2 c3 e=>b₃.extBut _ _ c3 (b₂.extBut _ _ c2 (b₁.extBut _ _ c1 e))
 show Q (.ref h₃.objs.size) _
 rw [hsz]
 refine hQ _ (Heap.get?_push_of_some _ (b₃.extBut _ _ D.i2z.symm (b₂.extBut _ _ D.i1z.symm z₁))) ((h1₂.extBut b₃.extBut D.i12).at fun o e=>Heap.get?_push_of_some _ e) (h2₃.at fun o e=>Heap.get?_push_of_some _ e) ?_ (by rw [Heap.size_push,hsz]) fun c o c1 c2 c3 e=>Heap.get?_push_of_some _ (kp c o c1 c2 c3 e)
 rw [← hsz]
 exact Heap.get?_push_size _ rfl
theorem bh6 {z TI TO T i1 i2 l1 l2:Addr}{b:Bool}{o:Obj}{k1 k2:Nat}{xs ys:Array Value}{Q:PySem.Fin→Shared→Prop}(hh:A.handled=none) (D:ZipApart z TI TO i1 i2 l1 l2)
 (hz:IsZipB s.heap z TI TO T b) (hT:s.heap.get? T=some o) (hTI:IsPair s.heap TI (.ref i1) (.ref i2))
 (h1:s.heap.IsListIter i1 l1 k1) (h2:s.heap.IsListIter i2 l2 k2) (hl1:s.heap.IsList l1 xs) (hl2:s.heap.IsList l2 ys) (hend:xs[k1]?=none∨ys[k2]?=none)
 (hE:∀ h' e,(∀ c o,c≠z→c≠i1→c≠i2→s.heap.get? c=some o→h'.get? c=some o)→(∃ o,h'.get? e=some o∧o.cls=.type "StopIteration")→E (.ref e) { s with heap:=h' }) :
 wpAny (model prog w) A (Builtin.«zip.__next__» ⟨[.ref z],[]⟩) Q E s:=by
 show wpAny _ _ (field (.ref z) 2 >>= _) _ _ _
 refine wpAny_bind (wpAny_field hz rfl (x:=.bool false) rfl ?_)
 show wpAny _ _ (field (.ref z) 3 >>= _) _ _ _
 refine wpAny_bind (wpAny_field hz rfl (x:=.ref TI) rfl ?_)
 refine wpAny_bind (wpAny_seqItems hTI rfl ?_)
 show wpAny _ _ (Builtin.SmallTypes.ownedTupleIsFree (.ref z) >>= _) _ _ _
 refine wpAny_bind ?_
 refine al8 hz hT fun h₁ z₁ b₁=>?_
 rw [if_neg (by decide)]
 refine wpAny_bind ?_
 simp only [← Array.forIn_toList,List.forIn_cons,List.forIn_nil]
 refine wpAny_bind (wpAny_bind (wpAny_holding ?_))
 show wpAny _ _ (Builtin.SmallTypes.nextOf (.ref i1) >>= fun v=>pure (some v)) _ _ _
 cases hx:xs[k1]? with
 | none =>
   refine wpAny_bind (wpAny_nextOf_list_end hh (h1.extBut b₁.extBut D.i1z) (hl1.extBut b₁.extBut D.l1z) hx fun h₂ e b₂ he=>hE h₂ e (fun c o c1 c2 c3 x=>b₂ _ _ c2 (b₁.extBut _ _ c1 x)) he)
 | some x =>
   have hy:ys[k2]?=none:=by rcases hend with h | h; rw [hx] at h; cases h; exact h
   refine wpAny_bind (wpAny_nextOf_list_item (h1.extBut b₁.extBut D.i1z) (hl1.extBut b₁.extBut D.l1z) hx fun h₂ h1₂ b₂=>wpAny_pure ?_)
   refine wpAny_pure ?_
   refine wpAny_bind (wpAny_bind (wpAny_holding ?_))
   show wpAny _ _ (Builtin.SmallTypes.nextOf (.ref i2) >>= fun v=>pure (some v)) _ _ _
   refine wpAny_bind (wpAny_nextOf_list_end hh ((h2.extBut b₁.extBut D.i2z).extBut b₂.extBut D.i12.symm) ((hl2.extBut b₁.extBut D.l2z).extBut b₂.extBut D.l2i1) hy fun h₃ e b₃ he=>hE h₃ e (fun c o c1 c2 c3 x=>b₃ _ _ c3 (b₂.extBut _ _ c2 (b₁.extBut _ _ c1 x))) he)
theorem b41 {z TI TO T i1 i2 l1 l2:Addr}{b:Bool}{o:Obj}{k1 k2:Nat}{xs ys:Array Value}{x y:Value}{Q:Option Value→Shared→Prop}(D:ZipApart z TI TO i1 i2 l1 l2)
 (hz:IsZipB s.heap z TI TO T b) (hT:s.heap.get? T=some o) (hTI:IsPair s.heap TI (.ref i1) (.ref i2))
 (h1:s.heap.IsListIter i1 l1 k1) (h2:s.heap.IsListIter i2 l2 k2) (hl1:s.heap.IsList l1 xs) (hl2:s.heap.IsList l2 ys) (hx:xs[k1]?=some x) (hy:ys[k2]?=some y)
 (hQ:∀ h',IsZipB h' z TI TO T true→h'.IsListIter i1 l1 (k1+1)→h'.IsListIter i2 l2 (k2+1)→IsPair h' s.heap.objs.size x y→h'.objs.size=s.heap.objs.size+1 →
  (∀ c o,c≠z→c≠i1→c≠i2→s.heap.get? c=some o→h'.get? c=some o)→Q (some (.ref s.heap.objs.size)) { s with heap:=h' }) :
 wpAny (model prog w) A (pyNext (.ref z)) Q E s:=by
 have hTt:s.TypeIs (.ref z) "zip":=⟨_,hz,rfl⟩
 unfold pyNext
 exact wpAny_bind (wpAny_attempt (wpAny_callSpecial?_slot (name:=Str.ofString "__next__") hTt F.slot_zip_next
  (wpAny_call_entry F.slot_zip_next hTt F.entry_zip_next
   (bc3 D hz hT hTI h1 h2 hl1 hl2 hx hy fun h' a1 a2 a3 a4 a5 a6=>wpAny_pure (hQ h' a1 a2 a3 a4 a5 a6)) (F.args_zip_next_1 _))))
theorem bc4 {z TI TO T i1 i2 l1 l2:Addr}{b:Bool}{o:Obj}{k1 k2:Nat}{xs ys:Array Value}{Q:Option Value→Shared→Prop}(hh:A.handled=none) (D:ZipApart z TI TO i1 i2 l1 l2)
 (hz:IsZipB s.heap z TI TO T b) (hT:s.heap.get? T=some o) (hTI:IsPair s.heap TI (.ref i1) (.ref i2))
 (h1:s.heap.IsListIter i1 l1 k1) (h2:s.heap.IsListIter i2 l2 k2) (hl1:s.heap.IsList l1 xs) (hl2:s.heap.IsList l2 ys) (hend:xs[k1]?=none∨ys[k2]?=none)
 (hQ:∀ h',(∀ c o,c≠z→c≠i1→c≠i2→s.heap.get? c=some o→h'.get? c=some o)→Q none { s with heap:=h' }):wpAny (model prog w) A (pyNext (.ref z)) Q E s:=by
 have hTt:s.TypeIs (.ref z) "zip":=⟨_,hz,rfl⟩
 unfold pyNext
 refine wpAny_bind (wpAny_attempt (wpAny_callSpecial?_slot (name:=Str.ofString "__next__") hTt F.slot_zip_next
  (wpAny_call_entry F.slot_zip_next hTt F.entry_zip_next (bh6 hh D hz hT hTI h1 h2 hl1 hl2 hend fun h' e hk he=>?_) (F.args_zip_next_1 _))))
 obtain ⟨o,ho,hc⟩:=he
 refine wpAny_bind (wpAny_isInstance (T:="StopIteration") (b:=true) ⟨o,ho,hc⟩ isSubtype_stop ?_)
 exact wpAny_pure (hQ _ hk)
theorem b42:typeLookup (.type "zip") "__len__"=pure none:=by rw [typeLookup_type,builtinLookup_eq_fast]; kernel_rfl
theorem aw0:typeLookup (.type "zip") "__length_hint__"=pure none:=by rw [typeLookup_type,builtinLookup_eq_fast]; kernel_rfl
end
def ZP (H:Hp) (acc xs ys:List V) (n:Nat):Prop:=acc.length=n∧∀ j,j<n→∃ p x y,acc[j]?=some (.ref p)∧H p=some (.tup [x,y])∧xs[j]?=some x∧ys[j]?=some y
theorem ZP.snoc {H:Hp}{acc xs ys:List V}{n:Nat}{p:Addr}{x y:V}(h:ZP H acc xs ys n) (e:H p=some (.tup [x,y])) (hx:xs[n]?=some x) (hy:ys[n]?=some y):ZP H (acc++[.ref p]) xs ys (n+1):=by
 refine ⟨by simp [h.1],fun j hj=>?_⟩
 by_cases hjn:j=n
 · subst hjn
   exact ⟨p,x,y,by rw [List.getElem?_append_right (by rw [h.1]; exact Nat.le_refl _),h.1,Nat.sub_self]; rfl,e,hx,hy⟩
 · obtain ⟨q,u,v,a,b⟩:=h.2 j (by omega)
   exact ⟨q,u,v,by rw [List.getElem?_append_left (by rw [h.1]; omega)]; exact a,b⟩
theorem ZP.mono {H H':Hp}{acc xs ys:List V}{n:Nat}(h:ZP H acc xs ys n) (k:Tups H H'):ZP H' acc xs ys n:=⟨h.1,fun j hj=>by
 obtain ⟨q,u,v,a,b,c⟩:=h.2 j hj
 exact ⟨q,u,v,a,k _ _ b,c⟩⟩
section
variable {X:Cx}
theorem loopZ {A:Around}{R:Result→Shared→Prop}{pins:List (Addr×Obj)}{σ:St} {H0:Hp}{z TI TO i1 i2 l1 l2 S:Addr}{xs ys:List V}{res:Value}(hA:A.handled=none) (D:ZipApart z TI TO i1 i2 l1 l2) (hS0:H0 S=none) (hq1:SqL X.K H0 l1 xs) (hq2:SqL X.K H0 l2 ys) :
 ∀ (n i:Nat) (s:Shared) (H:Hp) (acc:List V),min xs.length ys.length - i=n→i≤min xs.length ys.length→Inv X pins σ H s→(∀ d∈[z,TI,TO,i1,i2],FpOk X pins H d)→(∀ d∈[z,TI,TO,i1,i2],d<s.heap.objs.size)→Same H0 H→H S=some (.lst acc)→ZP H acc xs ys i →
 ((i=0∧IsZip s.heap z TI TO .none∧∃ a b,IsPair s.heap TO a b)∨∃ T ts b,H T=some (.tup ts)∧IsZipB s.heap z TI TO T b)→IsPair s.heap TI (.ref i1) (.ref i2)→s.heap.IsListIter i1 l1 i→s.heap.IsListIter i2 l2 i →
 (∀ s' H' acc',Inv X pins σ H' s'→Same H0 H'→H' S=some (.lst acc')→ZP H' acc' xs ys (min xs.length ys.length)→R (.ok (.ret res)) s') →
 codeAny (model X.prog X.w) A (.builtin "list.extend.loop" ⟨[.ref S,.ref z,res],[]⟩) R s:=by
 intro n
 induction n with
 | zero =>
   intro i s H acc hn hi I hf lt sm hS hP hst hTI h1 h2 hR
   have e:i=min xs.length ys.length:=by omega
   obtain ⟨it1,rv1,p1,hz1⟩:=I.list (sm.seq hq1)
   obtain ⟨it2,rv2,p2,hz2⟩:=I.list (sm.seq hq2)
   have e1:=rv1.length
   have e2:=rv2.length
   have hend:it1.toArray[i]?=none∨it2.toArray[i]?=none:=by
    rcases Nat.le_total xs.length ys.length with h | h
    · exact .inl (by simp; omega)
    · exact .inr (by simp; omega)
   have fin:∀ h':Heap,(∀ c o,c≠z→c≠TO→c≠i1→c≠i2→s.heap.get? c=some o→h'.get? c=some o)→R (.ok (.ret res)) { s with heap:=h' }:=fun h' hk=>by
    refine hR _ H acc (I.turnedL (t':=s.toks) (ch:=[z,TI,TO,i1,i2]) (fun d o hd q=>hk d o (fun e=>hd (by simp [e])) (fun e=>hd (by simp [e])) (fun e=>hd (by simp [e])) (fun e=>hd (by simp [e])) q) hf) sm hS ?_
    rw [← e]
    exact hP
   refine codeAny_builtin F.entry_extend_loop ?_
   rw [Around.under_plainId F.plain_extend_loop _]
   show wpAny _ A.in1 (pyNext (.ref z) >>= _) _ _ s
   rcases hst with ⟨_,hz,a,b,hTO⟩ | ⟨T,ts,b,hT,hz⟩
   · exact wpAny_bind (wpAny_pyNext_zip_end (by exact hA) D hz hTI hTO h1 h2 p1.isList p2.isList hend fun h' hk=>wpAny_pure (fin h' hk))
   · obtain ⟨itT,_,⟨oT,hoT,_⟩,_⟩:=I.tuple (SqT.of hT)
     exact wpAny_bind (bc4 (by exact hA) D hz hoT hTI h1 h2 p1.isList p2.isList hend fun h' hk=>wpAny_pure (fin h' fun c o c1 _ c3 c4 e=>hk c o c1 c3 c4 e))
 | succ n ih =>
   intro i s H acc hn hi I hf lt sm hS hP hst hTI h1 h2 hR
   have hl1:i<xs.length:=by omega
   have hl2:i<ys.length:=by omega
   obtain ⟨it1,rv1,p1,hz1⟩:=I.list (sm.seq hq1)
   obtain ⟨it2,rv2,p2,hz2⟩:=I.list (sm.seq hq2)
   have hx:=List.getElem?_eq_getElem hl1
   have hy:=List.getElem?_eq_getElem hl2
   generalize xs[i]=x at hx
   generalize ys[i]=y at hy
   obtain ⟨u1,hu1,ru1⟩:=rv1.get hx
   obtain ⟨u2,hu2,ru2⟩:=rv2.get hy
   have fr:H s.heap.objs.size=none:=I.hok.fresh (Nat.le_refl _)
   have ltS:S<s.heap.objs.size:=by
    obtain ⟨its,nn,_,e,_⟩:=I.lst hS
    exact Heap.lt_size e
   have hSm:∀ d∈[z,TI,TO,i1,i2],d≠S:=fun d hd e=>by
    have:=(hf d hd).1
    rw [e,hS] at this
    cases this
   have key:∀ (h':Heap),(∃ T ts b,upd H s.heap.objs.size (.tup [x,y]) T=some (.tup ts)∧IsZipB h' z TI TO T b)→IsPair h' TI (.ref i1) (.ref i2)→h'.IsListIter i1 l1 (i+1)→h'.IsListIter i2 l2 (i+1)→IsPair h' s.heap.objs.size u1 u2→h'.objs.size=s.heap.objs.size+1→(∀ c o,c≠z→c≠TO→c≠i1→c≠i2→s.heap.get? c=some o→h'.get? c=some o) →
    wpAny (model X.prog X.w) A.in1 (updateSeq S (·.push (.ref s.heap.objs.size)) >>= fun _=>again (.builtin "list.extend.loop" ⟨[.ref S,.ref z,res],[]⟩)) (fun fin s'=>match fin with | .done f=>R (.ok f) s' | .again c'=>c'.quiet=true∧codeAny (model X.prog X.w) A c' R s') (fun e s'=>R (.error e) s') { s with heap:=h' }:=by
    intro h' hz' hTI' h1' h2' hp' hsz hk
    have I1:Inv X pins σ H { s with heap:=h' }:=I.turnedL (t':=s.toks) (ch:=[z,TI,TO,i1,i2]) (fun d o hd q=>hk d o (fun e=>hd (by simp [e])) (fun e=>hd (by simp [e])) (fun e=>hd (by simp [e])) (fun e=>hd (by simp [e])) q) hf
    have I2:Inv X pins σ (upd H s.heap.objs.size (.tup [x,y])) { s with heap:=h' }:=I1.adopt (o:=.tup [x,y]) fr I.sz (Nat.ne_of_gt I.lt) (fun n c ec e=>by
     obtain ⟨v,q⟩:=I.cell n c ec
     exact absurd q.lt (by rw [e]; exact Nat.lt_irrefl _)) (fun q hq e=>absurd (Heap.lt_size (I.pin q hq).1) (by rw [e]; exact Nat.lt_irrefl _))
     ⟨le_line (by simp),[u1,u2],.cons ru1 (.cons ru2 .nil),⟨_,hp',rfl,_,rfl⟩⟩
    have hS2:upd H s.heap.objs.size (.tup [x,y]) S=some (.lst acc):=by rw [a06 (Nat.ne_of_lt ltS)]; exact hS
    obtain ⟨its,nn,ra,eS,hza⟩:=I2.lst hS2
    have hal:its.length=i:=by rw [← ra.length,hP.1]
    refine wpAny_bind (wpAny_updateSeq eS rfl (wpAny_pure ⟨plainId_quiet F.plain_extend_loop _,?_⟩) (by simp; omega) (by simp; omega))
    have I3:=I2.lstUpd (f:=Obj.mapSeq (·.push (.ref s.heap.objs.size))) hS2 eS (ys:=acc++[.ref s.heap.objs.size]) (its':=its++[.ref s.heap.objs.size]) (n':=_) (by simp [Obj.mapSeq]; rfl) (Vals.append ra (.cons (show RelV (.ref s.heap.objs.size) (Value.ref s.heap.objs.size) from rfl) .nil)) (by have:=hP.1; simp; omega) s.toks
    have up:∀ {c:Addr}{o:Obj},c≠S→h'.get? c=some o→(h'.update S (Obj.mapSeq (·.push (.ref s.heap.objs.size)))).get? c=some o:=fun hc e=>(Heap.get?_update_other _ _ (Ne.symm hc)).trans e
    have s2:Same H (upd H s.heap.objs.size (.tup [x,y])):=Same.new fr
    refine ih (i+1) _ _ (acc++[.ref s.heap.objs.size]) (by omega) (by omega) I3 (fun d hd=>⟨by rw [a06 (hSm d hd),a06 (Nat.ne_of_lt (lt d hd))]; exact (hf d hd).1,(hf d hd).2⟩) (fun d hd=>by
     have l:=lt d hd
     have e:=(Heap.SameBut.update h' S (Obj.mapSeq (·.push (.ref s.heap.objs.size)))).1
     show d<(h'.update S _).objs.size
     rw [e,hsz]
     exact Nat.lt_succ_of_lt l) (fun c o e=>?_) a27 ?_ (.inr ?_) (up (hSm TI (by simp)) hTI') (h1'.at fun o e=>up (hSm i1 (by simp)) e) (h2'.at fun o e=>up (hSm i2 (by simp)) e) hR
    · rw [a06 (a30 e hS0)]
      exact s2 _ _ (sm _ _ e)
    · have k:Tups (upd H s.heap.objs.size (.tup [x,y])) (upd (upd H s.heap.objs.size (.tup [x,y])) S (.lst (acc++[.ref s.heap.objs.size]))):=fun c ys e=>by
       rw [a06 (ad0 e hS2 (fun z=>nomatch z))]
       exact e
      exact ((hP.mono s2.tups).snoc a27 hx hy).mono k
    · obtain ⟨T,ts,b,hT,hz⟩:=hz'
      exact ⟨T,ts,b,by rw [a06 (ad0 hT hS2 (fun z=>nomatch z))]; exact hT,up (hSm z (by simp)) hz⟩
   refine codeAny_builtin F.entry_extend_loop ?_
   rw [Around.under_plainId F.plain_extend_loop _]
   show wpAny _ A.in1 (pyNext (.ref z) >>= _) _ _ s
   rcases hst with ⟨_,hz,a,b,hTO⟩ | ⟨T,ts,b,hT,hz⟩
   · refine wpAny_bind (wpAny_pyNext_zip_item D hz hTI hTO h1 h2 p1.isList p2.isList (by simpa using hu1) (by simpa using hu2) fun h' a1 a2 a3 a4 a5 a6 hk=>?_)
     exact key h' ⟨_,_,false,a27,a1⟩ (hk _ _ D.TIz D.TITO D.TIi1 D.TIi2 hTI) a3 a4 a5 a6 hk
   · obtain ⟨itT,_,⟨oT,hoT,_⟩,_⟩:=I.tuple (SqT.of hT)
     refine wpAny_bind (b41 D hz hoT hTI h1 h2 p1.isList p2.isList (by simpa using hu1) (by simpa using hu2) fun h' a1 a2 a3 a4 a5 hk=>?_)
     exact key h' ⟨T,ts,true,by rw [a06 (a30 hT fr)]; exact hT,a1⟩ (hk _ _ D.TIz D.TIi1 D.TIi2 hTI) a2 a3 a4 a5 fun c o c1 _ c3 c4 e=>hk c o c1 c3 c4 e
theorem b43 {A:Around}{E:Value→Shared→Prop}{pins:List (Addr×Obj)}{σ:St} {H0:Hp}{s:Shared}{z TI TO i1 i2 l1 l2:Addr}{xs ys:List V}{Q:Value→Shared→Prop}(hA:A.handled=none) (D:ZipApart z TI TO i1 i2 l1 l2) (hq1:SqL X.K H0 l1 xs) (hq2:SqL X.K H0 l2 ys)
 (I:Inv X pins σ H0 s) (hf:∀ d∈[z,TI,TO,i1,i2],FpOk X pins H0 d) (hz:IsZip s.heap z TI TO .none) (hTI:IsPair s.heap TI (.ref i1) (.ref i2)) (hTO:∃ a b,IsPair s.heap TO a b) (h1:s.heap.IsListIter i1 l1 0) (h2:s.heap.IsListIter i2 l2 0)
 (hQ:∀ s' H' acc',Inv X pins σ H' s'→Same H0 H'→H' s.heap.objs.size=some (.lst acc')→ZP H' acc' xs ys (min xs.length ys.length)→Q (.ref s.heap.objs.size) s') :
 wpAny (model X.prog X.w) A (call (.type "list") [.ref z]) Q E s:=by
 refine callType_codes (Q₁:=fun obj s₁=>obj=.ref s.heap.objs.size∧s₁={ s with heap:=s.heap.push { cls:=.type "list",data:=.seq #[] } }) F.called_list (F.typeCall_list_1 _) F.entry_list_init
  (code_list_new _ ⟨rfl,rfl⟩) fun obj s₁ h₁=>?_
 obtain ⟨rfl,rfl⟩:=h₁
 have hS:(s.heap.push { cls:=.type "list",data:=.seq #[] }).get? s.heap.objs.size=some { cls:=.type "list",data:=.seq #[] }:=Heap.get?_push_size _ rfl
 have lt:∀ d∈[z,TI,TO,i1,i2],d<s.heap.objs.size:=fun d hd=>by
  obtain ⟨o1,e1,_⟩:=h1
  obtain ⟨o2,e2,_⟩:=h2
  obtain ⟨a,b,hTO⟩:=hTO
  rcases (by simpa using hd:d=z∨d=TI∨d=TO∨d=i1∨d=i2) with rfl | rfl | rfl | rfl | rfl
  · exact Heap.lt_size hz
  · exact Heap.lt_size hTI
  · exact Heap.lt_size hTO
  · exact Heap.lt_size e1
  · exact Heap.lt_size e2
 refine ⟨⟨_,hS,rfl⟩,F.args_list_init_2 _ _,?_⟩
 show wpAny _ _ (do let old←Builtin.List.listItems (.ref s.heap.objs.size); Builtin.List.listUpdate (.ref s.heap.objs.size) (fun _=>#[]); letGo old.toList.reverse; Builtin.List.listExtendWith (.ref s.heap.objs.size) (.ref z) .none) _ _ _
 refine wpAny_bind ?_
 unfold Builtin.List.listItems
 refine wpAny_bind (wpAny_seqItems hS rfl (wpAny_pure ?_))
 show wpAny _ _ (updateSeq s.heap.objs.size (fun _=>#[]) >>= fun _=>letGo (#[]:Array Value).toList.reverse >>= fun _=>Builtin.List.listExtendWith (.ref s.heap.objs.size) (.ref z) .none) _ _ _
 refine wpAny_bind (wpAny_updateSeq hS rfl ?_)
 have hS₂:=Heap.get?_update_self (Obj.mapSeq (fun _=>(#[]:Array Value))) hS rfl
 refine wpAny_bind (wpAny_letGo ?_)
 have oth:∀ b o,b≠s.heap.objs.size→s.heap.get? b=some o→((s.heap.push { cls:=.type "list",data:=.seq #[] }).update s.heap.objs.size (Obj.mapSeq (fun _=>(#[]:Array Value)))).get? b=some o :=
  fun b o hb e=>(Heap.get?_update_other _ _ (Ne.symm hb)).trans (Heap.get?_push_of_some _ e)
 have sz2:((s.heap.push { cls:=.type "list",data:=.seq #[] }).update s.heap.objs.size (Obj.mapSeq (fun _=>(#[]:Array Value)))).objs.size=s.heap.objs.size+1:=by rw [(Heap.SameBut.update _ _ _).1,Heap.size_push]
 generalize (s.heap.push { cls:=.type "list",data:=.seq #[] }).update s.heap.objs.size (Obj.mapSeq (fun _=>(#[]:Array Value)))=h2' at hS₂ oth sz2 ⊢
 have hT2:({ s with heap:=h2' }:Shared).TypeIs (.ref z) "zip":=⟨_,oth z _ (Nat.ne_of_lt (lt z (by simp))) hz,rfl⟩
 unfold Builtin.List.listExtendWith
 refine wpAny_bind (wpAny_typeOf hT2 ?_)
 have e1:Builtin.List.listSameRef (.ref s.heap.objs.size) (.ref z)=false:=by
  have:=Nat.ne_of_gt (lt z (by simp))
  simp [Builtin.List.listSameRef,this]
 have e2:(Value.type "zip" == Value.type "list")=false:=by decide
 have e3:(Value.type "zip" == Value.type "tuple")=false:=by decide
 simp only [e1,e2,e3,Bool.or_false,Bool.false_eq_true,if_false]
 refine wpAny_bind (wpAny_pyIter_zip (oth z _ (Nat.ne_of_lt (lt z (by simp))) hz) ?_)
 refine wpAny_bind (wpAny_holding ?_)
 unfold Builtin.List.listLengthHint
 refine wpAny_bind (wpAny_specialOf hT2 b42 ?_)
 show wpAny _ _ (specialOf (Value.ref z) (Str.ofString "__length_hint__") >>= _) _ _ _
 refine wpAny_bind (wpAny_specialOf hT2 aw0 ?_)
 refine wpAny_pure ?_
 show wpAny _ _ (rule "list.extend.makes-room" >>= fun _=>Builtin.List.listTouch (.ref s.heap.objs.size) >>= fun _ =>
  again (.builtin "list.extend.loop" ⟨[.ref s.heap.objs.size,.ref z,.none],[]⟩)) _ _ _
 refine wpAny_bind (wpAny_rule ?_)
 refine wpAny_bind ?_
 show wpAny _ _ (updateSeq s.heap.objs.size (·.push .none) >>= fun _=>updateSeq s.heap.objs.size (·.pop)) _ _ _
 refine wpAny_bind (wpAny_updateSeq hS₂ rfl ?_)
 have hS₃:=Heap.get?_update_self (Obj.mapSeq (·.push Value.none)) hS₂ rfl
 refine wpAny_updateSeq (hz:=by seq_fits) hS₃ rfl ?_
 have hS₄:=Heap.get?_update_self (Obj.mapSeq (·.pop)) hS₃ rfl
 have oth4:∀ b o,b≠s.heap.objs.size→s.heap.get? b=some o→((h2'.update s.heap.objs.size (Obj.mapSeq (·.push Value.none))).update s.heap.objs.size (Obj.mapSeq (·.pop))).get? b=some o :=
  fun b o hb e=>(Heap.get?_update_other _ _ (Ne.symm hb)).trans ((Heap.get?_update_other _ _ (Ne.symm hb)).trans (oth b o hb e))
 have sz4:((h2'.update s.heap.objs.size (Obj.mapSeq (·.push Value.none))).update s.heap.objs.size (Obj.mapSeq (·.pop))).objs.size=s.heap.objs.size+1:=by rw [(Heap.SameBut.update _ _ _).1,(Heap.SameBut.update _ _ _).1,sz2]
 generalize (h2'.update s.heap.objs.size (Obj.mapSeq (·.push Value.none))).update s.heap.objs.size (Obj.mapSeq (·.pop))=h4 at hS₄ oth4 sz4 ⊢
 have fr:H0 s.heap.objs.size=none:=I.hok.fresh (Nat.le_refl _)
 have kk:∀ b o,s.heap.get? b=some o→h4.get? b=some o:=fun b o e=>oth4 b o (Nat.ne_of_lt (Heap.lt_size e)) e
 have I4:Inv X pins σ (upd H0 s.heap.objs.size (.lst [])) { s with heap:=h4 }:=I.laid (a:=s.heap.objs.size) (o:=.lst []) (t':=s.toks) kk (Nat.le_refl _) ⟨Nat.zero_le _,[],_,.nil,hS₄⟩
 refine wpAny_pure ⟨plainId_quiet F.plain_extend_loop _,?_⟩
 obtain ⟨ta,tb,hTO'⟩:=hTO
 refine loopZ (H0:=H0) (xs:=xs) (ys:=ys) (by exact hA) D fr hq1 hq2 _ 0 _ _ [] rfl (Nat.zero_le _) I4 (fun d hd=>⟨by rw [a06 (Nat.ne_of_lt (lt d hd))]; exact (hf d hd).1,(hf d hd).2⟩) (fun d hd=>by
  show d<h4.objs.size
  rw [sz4]
  exact Nat.lt_succ_of_lt (lt d hd)) (Same.new fr) a27 ⟨rfl,fun j hj=>absurd hj (by omega)⟩ (.inl ⟨rfl,kk _ _ hz,ta,tb,kk _ _ hTO'⟩) (kk _ _ hTI) (h1.at fun o e=>kk _ _ e) (h2.at fun o e=>kk _ _ e) fun s' H' acc' I' sm' hS' hP'=>⟨rfl,hQ s' H' acc' I' sm' hS' hP'⟩
def tLZ (K:PySem.W.Frag) (ta:TA):TE:=fun σ H Q=>ta σ H fun vs H1=>∃ a b xs ys,vs=[.ref a,.ref b]∧SqL K H1 a xs∧SqL K H1 b ys∧∀ l acc H2,H1 l=none→Same H1 H2→H2 l=some (.lst acc)→ZP H2 acc xs ys (min xs.length ys.length)→Q (.ref l) H2
theorem b44 (K:PySem.W.Frag) {a b:Expr}{ta:TA}{p1 p2 pos1 pos2:Pos}(hc:X.calm=true) (hgl:Gl X "list") (hml:X.mg "list"=none) (hgz:Gl X "zip") (hmz:X.mg "zip"=none) (ha:PA X [a,b] ta)
 (hs:starEach [a,b] X.env=[(false,eval a X.env),(false,eval b X.env)]:=by rfl) (hs2:starEach [b] X.env=[(false,eval b X.env)]:=by rfl)
 (hl:starEach [Expr.Call (.Name "zip" p2) [a,b] [] pos2] X.env=[(false,eval (.Call (.Name "zip" p2) [a,b] [] pos2) X.env)]:=by rfl) (hl2:starEach [] X.env=[]:=by rfl) (hK:X.K=K:=by rfl) :
 PE X (.Call (.Name "list" p1) [.Call (.Name "zip" p2) [a,b] [] pos2] [] pos1) (tLZ K ta):=by
 subst hK
 intro pins s σ H Q I h
 refine wpAny_Call_Name_kw (ae8 I hgl hml af3 ?_)
 refine PyProof.Rows.callWith_type1 ?_ (by rw [hl,hl2]) (by rw [hl2]; rfl)
 rw [hl]
 refine Calls.spliced_cons ?_
 refine wpAny_Call_Name_kw (ae8 I hgz hmz b91 (PyProof.Rows.callWith_type1 (thn (ha pos2 pins s σ H _ I h) fun us s1 ⟨vs,H1,I1,r1,q1⟩=>?_) (by rw [hs,hs2]) (by rw [hs2]; rfl)))
 obtain ⟨l1,l2,xs,ys,e,hq1,hq2,q⟩:=q1
 subst e
 obtain ⟨u1,u2,rfl,r2,r3⟩:=be1 r1
 cases r2
 cases r3
 obtain ⟨it1,rv1,p1,hz1⟩:=I1.list hq1
 obtain ⟨it2,rv2,p2,hz2⟩:=I1.list hq2
 have a1:l1<s1.heap.objs.size:=by obtain ⟨_,e,_⟩:=p1.isList; exact Heap.lt_size e
 have a2:l2<s1.heap.objs.size:=by obtain ⟨_,e,_⟩:=p2.isList; exact Heap.lt_size e
 refine call_zip_2 p1.isList p2.isList fun h' b1 b2 b3 b4 b5 b6 hk=>?_
 have ge:∀ c∈[s1.heap.objs.size+4,s1.heap.objs.size+2,s1.heap.objs.size+3,s1.heap.objs.size,s1.heap.objs.size+1],s1.heap.objs.size≤c:=fun c hc=>by
  simp only [List.mem_cons,List.not_mem_nil,or_false] at hc
  rcases hc with rfl | rfl | rfl | rfl | rfl
  · exact Nat.le_add_right _ _
  · exact Nat.le_add_right _ _
  · exact Nat.le_add_right _ _
  · exact Nat.le_refl _
  · exact Nat.le_add_right _ _
 have fp:∀ c∈[s1.heap.objs.size+4,s1.heap.objs.size+2,s1.heap.objs.size+3,s1.heap.objs.size,s1.heap.objs.size+1],FpOk X pins H1 c:=fun c hc=>I1.fpOk (ge c hc) (I1.hok.fresh (ge c hc))
 have I2:Inv X pins σ H1 { s1 with heap:=h' }:=I1.kept (t':=s1.toks) hk
 refine Calls.spliced_nil ?_
 have D:ZipApart (s1.heap.objs.size+4) (s1.heap.objs.size+2) (s1.heap.objs.size+3) s1.heap.objs.size (s1.heap.objs.size+1) l1 l2:=by
  generalize s1.heap.objs.size=m at a1 a2
  have h1:l1<m:=a1
  have h2:l2<m:=a2
  constructor <;> first | exact Nat.ne_of_lt (Nat.lt_of_lt_of_le h1 (Nat.le_add_right _ _)) | exact Nat.ne_of_lt (Nat.lt_of_lt_of_le h2 (Nat.le_add_right _ _)) | exact Nat.ne_of_lt h1 | exact Nat.ne_of_lt h2 | (intro e; simp at e) | (intro e; exact absurd e (by omega))
 refine b43 (I1.ok.hd hc) D hq1 hq2 I2 fp b1 b2 ⟨_,_,b3⟩ b4 b5 fun s' H' acc I' sm e hP=>?_
 exact ⟨.ref h'.objs.size,H',I',rfl,q _ acc H' (I2.hok.fresh (Nat.le_refl _)) sm e hP⟩
end
def rAny (K:PySem.W.Frag):List V→Hp→VK→Prop:=fun xs H Q=>∃ l bs,xs=[.ref l]∧SqL K H l (blsV bs)∧Q (.bl (bs.any id)) H
theorem b45 (bs:List Bool):((List.range bs.length).any fun i=>(bs[i]?).getD true)=bs.any id:=by
 rw [Bool.eq_iff_iff,List.any_eq_true,List.any_eq_true]
 constructor
 · rintro ⟨i,hi,h⟩
   have hi':i<bs.length:=List.mem_range.mp hi
   rw [List.getElem?_eq_getElem hi'] at h
   exact ⟨_,List.getElem_mem hi',h⟩
 · rintro ⟨b,hb,h⟩
   obtain ⟨i,hi,rfl⟩:=List.mem_iff_getElem.mp hb
   exact ⟨i,List.mem_range.mpr hi,by rw [List.getElem?_eq_getElem hi]; exact h⟩
theorem bq4 {X:Cx}(K:PySem.W.Frag) (hc:X.calm=true:=by rfl) (hK:X.K=K:=by rfl):CallR X (.builtin "any") (rAny K):=by
 subst hK
 intro pins s σ H xs us Q I r h
 obtain ⟨l,bs,rfl,hq,q⟩:=h
 obtain ⟨u,rfl,ru⟩:=at8 r
 cases ru
 obtain ⟨its,rv,pl,hz⟩:=I.list hq
 have hl:=pl.isList
 have hlt:l<s.heap.objs.size:=by obtain ⟨_,e,_⟩:=hl; exact Heap.lt_size e
 have hlen:bs.length=its.length:=by have:=rv.length; simpa [blsV] using this
 refine call_any_walk (wpAny_pyIter_list hl ?_)
 refine ⟨s.heap.objs.size,[s.heap.objs.size,l],[s.heap.objs.size],its.toArray.size,_,_,fun i=>(bs[i]?).getD true,rfl,Walks.list (A:=X.A.in1) (I.ok.hd hc) _ l (Nat.ne_of_lt hlt) its.toArray,
  ⟨⟨_,Heap.get?_push_size _ rfl,rfl,rfl⟩,hl.push _⟩,fun i v s' Q' E' hP hQ=>?_,fun h' tk hk=>?_⟩
 · obtain ⟨b,e,rfl⟩:=b81 rv i v (by simpa using hP)
   simp only [e,Option.getD_some] at hQ
   exact wpAny_truthy_bool hQ
 · have e:((List.range its.toArray.size).any fun i=>(bs[i]?).getD true)=bs.any id:=by
    rw [List.size_toArray,←hlen]; exact b45 bs
   rw [e]
   refine ⟨.bl _,H,I.kept (h':=h') (t':=tk) fun b o e=>?_,rfl,q⟩
   exact hk b o (by simp; exact Nat.ne_of_lt (Heap.lt_size e)) (Heap.get?_push_of_some _ e)
theorem c51 {K:PySem.W.Frag}{H:Hp}{Q:VK}{p:Addr}{bs:List Bool}(h1:SqL K H p (blsV bs)) (h:Q (.bl (bs.any id)) H):rAny K [V.ref p] H Q:=⟨p,bs,rfl,h1,h⟩
noncomputable def sameW (t u:Tw):Bool:=@decide (t=u) (Classical.propDecidable _)
theorem sameW_iff {t u:Tw}:sameW t u=true↔t=u:=by unfold sameW; exact @decide_eq_true_iff _ (Classical.propDecidable _)
theorem ah0 {t u:Tw}(h:t=u):sameW t u=true:=sameW_iff.mpr h
theorem a94 {t u:Tw}(h:t≠u):sameW t u=false:=by
 cases e:sameW t u with
 | false=>rfl
 | true=>exact absurd (sameW_iff.mp e) h
noncomputable def sameA (xs ys:List Tw) (j:Nat):Bool:=sameW (xs.getD j (.sc .non)) (ys.getD j (.sc .non))
theorem ah1:∀ xs ys:List Tw,((List.range (min xs.length ys.length)).all (sameA xs ys) && xs.length == ys.length)=sameW (.tup xs) (.tup ys):=by
 intro xs ys
 rw [Bool.eq_iff_iff,sameW_iff,Bool.and_eq_true,List.all_eq_true]
 constructor
 · rintro ⟨h1,h2⟩
   have hl:xs.length=ys.length:=by simpa using h2
   congr 1
   refine List.ext_getElem hl fun j a b=>?_
   have:=sameW_iff.mp (h1 j (List.mem_range.mpr (by omega)))
   simpa [List.getD_eq_getElem?_getD,List.getElem?_eq_getElem a,List.getElem?_eq_getElem b] using this
 · intro h
   injection h with h
   subst h
   exact ⟨fun j _=>ah0 rfl,by simp⟩
theorem bh7 (xs ys:List Tw):sameW (.lst xs) (.lst ys)=sameW (.tup xs) (.tup ys):=by
 rw [Bool.eq_iff_iff,sameW_iff,sameW_iff]
 simp
mutual
theorem Tw.uniq {H:Hp}:∀ {t u:Tw}{v:V}{fs gs:List Addr},t.At H v fs→u.At H v gs→t=u
 | .sc a,.sc b,v,fs,gs,h1,h2=>by
   simp only [Tw.At] at h1 h2
   rw [← h1.1,←h2.1]
 | .tup xs,.tup ys,v,fs,gs,h1,h2=>by
   simp only [Tw.At] at h1 h2
   obtain ⟨a,vs,rfl,e1,c1⟩:=h1
   obtain ⟨b,ws,e,e2,c2⟩:=h2
   cases e
   rw [e1] at e2
   cases e2
   rw [Tw.uniqs c1 c2]
 | .lst xs,.lst ys,v,fs,gs,h1,h2=>by
   simp only [Tw.At] at h1 h2
   obtain ⟨a,vs,_,rfl,e1,c1,_⟩:=h1
   obtain ⟨b,ws,_,e,e2,c2,_⟩:=h2
   cases e
   rw [e1] at e2
   cases e2
   rw [Tw.uniqs c1 c2]
 | .sc a,.tup ys,v,fs,gs,h1,h2=>by
   simp only [Tw.At] at h1 h2
   obtain ⟨rfl,sc,_⟩:=h1
   obtain ⟨b,ws,rfl,_⟩:=h2
   exact sc.elim
 | .sc a,.lst ys,v,fs,gs,h1,h2=>by
   simp only [Tw.At] at h1 h2
   obtain ⟨rfl,sc,_⟩:=h1
   obtain ⟨b,ws,_,rfl,_⟩:=h2
   exact sc.elim
 | .tup xs,.sc b,v,fs,gs,h1,h2=>by
   simp only [Tw.At] at h1 h2
   obtain ⟨rfl,sc,_⟩:=h2
   obtain ⟨b,ws,rfl,_⟩:=h1
   exact sc.elim
 | .lst xs,.sc b,v,fs,gs,h1,h2=>by
   simp only [Tw.At] at h1 h2
   obtain ⟨rfl,sc,_⟩:=h2
   obtain ⟨b,ws,_,rfl,_⟩:=h1
   exact sc.elim
 | .tup xs,.lst ys,v,fs,gs,h1,h2=>by
   simp only [Tw.At] at h1 h2
   obtain ⟨a,vs,rfl,e1,_⟩:=h1
   obtain ⟨b,ws,_,e,e2,_⟩:=h2
   cases e
   rw [e1] at e2
   cases e2
 | .lst xs,.tup ys,v,fs,gs,h1,h2=>by
   simp only [Tw.At] at h1 h2
   obtain ⟨a,vs,_,rfl,e1,_⟩:=h1
   obtain ⟨b,ws,e,e2,_⟩:=h2
   cases e
   rw [e1] at e2
   cases e2
theorem Tw.uniqs {H:Hp}:∀ {ts us:List Tw}{vs:List V}{fs gs:List Addr},Tw.Ats H ts vs fs→Tw.Ats H us vs gs→ts=us
 | [],[],_,_,_,_,_=>rfl
 | [],u::us,vs,fs,gs,h1,h2=>by
   simp only [Tw.Ats] at h1 h2
   obtain ⟨rfl,_⟩:=h1
   obtain ⟨v,ws,_,_,e,_⟩:=h2
   cases e
 | t::ts,[],vs,fs,gs,h1,h2=>by
   simp only [Tw.Ats] at h1 h2
   obtain ⟨rfl,_⟩:=h2
   obtain ⟨v,ws,_,_,e,_⟩:=h1
   cases e
 | t::ts,u::us,vs,fs,gs,h1,h2=>by
   simp only [Tw.Ats] at h1 h2
   obtain ⟨v,ws,_,_,rfl,_,a1,b1⟩:=h1
   obtain ⟨v',ws',_,_,e,_,a2,b2⟩:=h2
   cases e
   rw [Tw.uniq a1 a2,Tw.uniqs b1 b2]
end
theorem bz8 {A:Around}{s:Shared}{x y:V}{u z:Value}(h1:nbV x) (h2:nbV y) (r1:RelV x u) (r2:RelV y z):SeqAt.EqAt A s u z (sameW (.sc x) (.sc y)):=by
 cases x with
 | non =>
   cases r1
   cases y with
   | non=>cases r2; rw [ah0 rfl]; exact SeqAt.EqAt.same _
   | int i=>obtain ⟨t,rfl⟩:=r2; rw [a94 (by simp)]; exact SeqAt.EqAt.none_int i t
   | str i=>obtain ⟨t,rfl⟩:=r2; rw [a94 (by simp)]; exact SeqAt.EqAt.none_str i t
   | _=>exact h2.elim
 | int a =>
   obtain ⟨t1,rfl⟩:=r1
   cases y with
   | non=>cases r2; rw [a94 (by simp)]; exact SeqAt.EqAt.int_none a t1
   | int i =>
     obtain ⟨t,rfl⟩:=r2
     have:=SeqAt.EqAt.int_int (A:=A) (s:=s) a t1 i t
     rw [show sameW (.sc (.int a)) (.sc (.int i))=(a == i) by rw [Bool.eq_iff_iff,sameW_iff]; simp]
     exact this
   | str i=>obtain ⟨t,rfl⟩:=r2; rw [a94 (by simp)]; exact SeqAt.EqAt.int_str a t1 i t
   | _=>exact h2.elim
 | str a =>
   obtain ⟨t1,rfl⟩:=r1
   cases y with
   | non=>cases r2; rw [a94 (by simp)]; exact SeqAt.EqAt.str_none a t1
   | int i=>obtain ⟨t,rfl⟩:=r2; rw [a94 (by simp)]; exact SeqAt.EqAt.str_int a t1 i t
   | str i =>
     obtain ⟨t,rfl⟩:=r2
     have:=SeqAt.EqAt.str_str (A:=A) (s:=s) a t1 i t
     rw [show sameW (.sc (.str a)) (.sc (.str i))=(a == i) by rw [Bool.eq_iff_iff,sameW_iff]; simp]
     exact this
   | _=>exact h2.elim
 | _=>exact h1.elim
section
variable {X:Cx}{pins:List (Addr×Obj)}{σ:St} {H:Hp}{s:Shared}
theorem bk0 {A:Around}{x:V}{u:Value}{a:Addr}{is1:Array Value}(h1:nbV x) (r1:RelV x u) (p:s.heap.IsTuple a is1) (hu:A.units<cLine):SeqAt.EqAt A s u (.ref a) false∧SeqAt.EqAt A s (.ref a) u false:=by
 cases x with
 | non=>cases r1; exact ⟨SeqAt.EqAt.none_tuple p hu,SeqAt.EqAt.tuple_none p hu⟩
 | int i=>obtain ⟨t,rfl⟩:=r1; exact ⟨SeqAt.EqAt.int_tuple i t p hu,SeqAt.EqAt.tuple_int i t p hu⟩
 | str i=>obtain ⟨t,rfl⟩:=r1; exact ⟨SeqAt.EqAt.str_tuple i t p hu,SeqAt.EqAt.tuple_str i t p hu⟩
 | _=>exact h1.elim
theorem bk1 {A:Around}{x:V}{u:Value}{a:Addr}{is1:Array Value}(h1:nbV x) (r1:RelV x u) (p:s.heap.IsList a is1) (hu:A.units<cLine):SeqAt.EqAt A s u (.ref a) false∧SeqAt.EqAt A s (.ref a) u false:=by
 cases x with
 | non=>cases r1; exact ⟨SeqAt.EqAt.none_list p hu,SeqAt.EqAt.list_none p hu⟩
 | int i=>obtain ⟨t,rfl⟩:=r1; exact ⟨SeqAt.EqAt.int_list i t p hu,SeqAt.EqAt.list_int i t p hu⟩
 | str i=>obtain ⟨t,rfl⟩:=r1; exact ⟨SeqAt.EqAt.str_list i t p hu,SeqAt.EqAt.list_str i t p hu⟩
 | _=>exact h1.elim
mutual
theorem Tw.eqD (I:Inv X pins σ H s):∀ {t u:Tw}{A:Around}{v w:V}{fs gs:List Addr}{a b:Value},t.nb→u.nb→t.At H v fs→u.At H w gs→RelV v a→RelV w b→A.units+t.h<cLine→SeqAt.EqAt A s a b (sameW t u)
 | .sc x,.sc y,A,v,w,fs,gs,a,b,n1,n2,h1,h2,r1,r2,hu=>by
   simp only [Tw.At,Tw.nb] at h1 h2 n1 n2
   obtain ⟨rfl,_,-⟩:=h1
   obtain ⟨rfl,_,-⟩:=h2
   exact bz8 n1 n2 r1 r2
 | .sc x,.tup ys,A,v,w,fs,gs,a,b,n1,n2,h1,h2,r1,r2,hu=>by
   simp only [Tw.At,Tw.nb] at h1 h2 n1
   obtain ⟨rfl,_,-⟩:=h1
   obtain ⟨q,ws,rfl,e2,c2⟩:=h2
   cases r2
   obtain ⟨is2,q2,p2,_⟩:=I.tuple (SqT.of e2)
   rw [a94 (by simp)]
   exact (bk0 n1 r1 p2 (by omega)).1
 | .sc x,.lst ys,A,v,w,fs,gs,a,b,n1,n2,h1,h2,r1,r2,hu=>by
   simp only [Tw.At,Tw.nb] at h1 h2 n1
   obtain ⟨rfl,_,-⟩:=h1
   obtain ⟨q,ws,_,rfl,e2,c2,_⟩:=h2
   cases r2
   obtain ⟨is2,q2,p2,_⟩:=I.list (SqL.of e2)
   rw [a94 (by simp)]
   exact (bk1 n1 r1 p2.isList (by omega)).1
 | .tup xs,.sc y,A,v,w,fs,gs,a,b,n1,n2,h1,h2,r1,r2,hu=>by
   simp only [Tw.At,Tw.nb] at h1 h2 n2
   obtain ⟨rfl,_,-⟩:=h2
   obtain ⟨q,ws,rfl,e2,c2⟩:=h1
   cases r1
   obtain ⟨is2,q2,p2,_⟩:=I.tuple (SqT.of e2)
   rw [a94 (by simp)]
   exact (bk0 n2 r2 p2 (by omega)).2
 | .lst xs,.sc y,A,v,w,fs,gs,a,b,n1,n2,h1,h2,r1,r2,hu=>by
   simp only [Tw.At,Tw.nb] at h1 h2 n2
   obtain ⟨rfl,_,-⟩:=h2
   obtain ⟨q,ws,_,rfl,e2,c2,_⟩:=h1
   cases r1
   obtain ⟨is2,q2,p2,_⟩:=I.list (SqL.of e2)
   rw [a94 (by simp)]
   exact (bk1 n2 r2 p2.isList (by omega)).2
 | .tup xs,.lst ys,A,v,w,fs,gs,a,b,n1,n2,h1,h2,r1,r2,hu=>by
   simp only [Tw.At] at h1 h2
   obtain ⟨a,vs,rfl,e1,c1⟩:=h1
   obtain ⟨b,ws,_,rfl,e2,c2,_⟩:=h2
   cases r1
   cases r2
   obtain ⟨is1,q1,p1,_⟩:=I.tuple (SqT.of e1)
   obtain ⟨is2,q2,p2,_⟩:=I.list (SqL.of e2)
   rw [a94 (by simp)]
   exact SeqAt.EqAt.tuple_list p1 p2.isList (by omega)
 | .lst xs,.tup ys,A,v,w,fs,gs,a,b,n1,n2,h1,h2,r1,r2,hu=>by
   simp only [Tw.At] at h1 h2
   obtain ⟨a,vs,_,rfl,e1,c1,_⟩:=h1
   obtain ⟨b,ws,rfl,e2,c2⟩:=h2
   cases r1
   cases r2
   obtain ⟨is1,q1,p1,_⟩:=I.list (SqL.of e1)
   obtain ⟨is2,q2,p2,_⟩:=I.tuple (SqT.of e2)
   rw [a94 (by simp)]
   exact SeqAt.EqAt.list_tuple p1.isList p2 (by omega)
 | .tup xs,.tup ys,A,v,w,fs,gs,a,b,n1,n2,h1,h2,r1,r2,hu=>by
   by_cases hvw:v=w
   · subst hvw
     rw [ah0 (Tw.uniq h1 h2)]
     simp only [Tw.At] at h1
     obtain ⟨a,vs,rfl,_⟩:=h1
     cases r1
     cases r2
     exact SeqAt.EqAt.same _
   simp only [Tw.At,Tw.nb] at h1 h2 n1 n2
   obtain ⟨a,vs,rfl,e1,c1⟩:=h1
   obtain ⟨b,ws,rfl,e2,c2⟩:=h2
   cases r1
   cases r2
   refine SeqAt.EqAt.of_refs (fun e=>hvw (by rw [e])) ?_
   obtain ⟨is1,q1,p1,_⟩:=I.tuple (SqT.of e1)
   obtain ⟨is2,q2,p2,_⟩:=I.tuple (SqT.of e2)
   simp only [Tw.h] at hu
   have l1:is1.toArray.size=xs.length:=by have:=c1.len; have:=q1.length; simp; omega
   have l2:is2.toArray.size=ys.length:=by have:=c2.len; have:=q2.length; simp; omega
   have:=SeqAt.RcAt.tuples (A:=A) (s:=s) (e:=sameA xs ys) p1 p2 (by omega) (fun j h1 h2=>by
    have:=Tw.eqDs I (A:=A.in1) n1 n2 c1 c2 q1 q2 (by rw [a72]; omega) j (by simpa using h1) (by simpa using h2)
    simpa using this)
   rw [l1,l2,ah1] at this
   exact this
 | .lst xs,.lst ys,A,v,w,fs,gs,a,b,n1,n2,h1,h2,r1,r2,hu=>by
   by_cases hvw:v=w
   · subst hvw
     rw [ah0 (Tw.uniq h1 h2)]
     simp only [Tw.At] at h1
     obtain ⟨a,vs,_,rfl,_⟩:=h1
     cases r1
     cases r2
     exact SeqAt.EqAt.same _
   simp only [Tw.At,Tw.nb] at h1 h2 n1 n2
   obtain ⟨a,vs,_,rfl,e1,c1,_⟩:=h1
   obtain ⟨b,ws,_,rfl,e2,c2,_⟩:=h2
   cases r1
   cases r2
   refine SeqAt.EqAt.of_refs (fun e=>hvw (by rw [e])) ?_
   obtain ⟨is1,q1,p1,_⟩:=I.list (SqL.of e1)
   obtain ⟨is2,q2,p2,_⟩:=I.list (SqL.of e2)
   simp only [Tw.h] at hu
   have l1:is1.toArray.size=xs.length:=by have:=c1.len; have:=q1.length; simp; omega
   have l2:is2.toArray.size=ys.length:=by have:=c2.len; have:=q2.length; simp; omega
   rw [bh7]
   by_cases hl:xs.length=ys.length
   · have:=SeqAt.RcAt.lists (A:=A) (s:=s) (e:=sameA xs ys) p1.isList p2.isList (by omega) (by omega) (fun j h1 h2=>by
      have:=Tw.eqDs I (A:=A.in1) n1 n2 c1 c2 q1 q2 (by rw [a72]; omega) j (by simpa using h1) (by simpa using h2)
      simpa using this)
     rw [← ah1,hl,Nat.min_self]
     rw [l1,hl] at this
     simpa using this
   · have:=SeqAt.RcAt.lists_lengths (A:=A) (s:=s) p1.isList p2.isList (by rw [l1,l2]; simpa using hl) (by omega)
     rw [← ah1,show (xs.length == ys.length)=false by simpa using hl,Bool.and_false]
     exact this
theorem Tw.eqDs (I:Inv X pins σ H s):∀ {ts us:List Tw}{A:Around}{vs ws:List V}{fs gs:List Addr}{as bs:List Value},Tw.nbs ts→Tw.nbs us→Tw.Ats H ts vs fs→Tw.Ats H us ws gs→Vals vs as→Vals ws bs→A.units+Tw.hs ts<cLine →
 ∀ (j:Nat) (h1:j<as.length) (h2:j<bs.length),SeqAt.EqAt A s as[j] bs[j] (sameA ts us j)
 | [],us,A,vs,ws,fs,gs,as,bs,n1,n2,c1,c2,q1,q2,hu,j,h1,h2=>by
   simp only [Tw.Ats] at c1
   obtain ⟨rfl,-⟩:=c1
   cases q1
   exact absurd h1 (by simp)
 | t::ts,[],A,vs,ws,fs,gs,as,bs,n1,n2,c1,c2,q1,q2,hu,j,h1,h2=>by
   simp only [Tw.Ats] at c2
   obtain ⟨rfl,-⟩:=c2
   cases q2
   exact absurd h2 (by simp)
 | t::ts,u::us,A,vs,ws,fs,gs,as,bs,n1,n2,c1,c2,q1,q2,hu,j,h1,h2=>by
   simp only [Tw.Ats,Tw.nbs] at c1 c2 n1 n2
   obtain ⟨v,vs,f,g,rfl,rfl,a1,b1⟩:=c1
   obtain ⟨w,ws,f',g',rfl,rfl,a2,b2⟩:=c2
   cases q1 with
   | cons r1 q1 =>
   cases q2 with
   | cons r2 q2 =>
   simp only [Tw.hs] at hu
   cases j with
   | zero =>
     have:=Tw.eqD I (t:=t) (u:=u) (A:=A) n1.1 n2.1 a1 a2 r1 r2 (by omega)
     exact this
   | succ j=>exact Tw.eqDs I n1.2 n2.2 b1 b2 q1 q2 (by omega) j (by simpa using h1) (by simpa using h2)
end
def c52:R2:=fun x y H Q=>∃ (xs ys:List Tw) (fs gs:List Addr),(Tw.tup xs).At H x fs∧(Tw.tup ys).At H y gs∧Tw.nbs xs∧Tw.nbs ys∧Tw.hs xs≤50∧Q (.bl (!sameW (.tup xs) (.tup ys))) H
theorem bh8 (hu:X.A.units+64<cLine):OpR X (compareOp .NotEq) c52:=by
 intro pins s σ H x y v u Q I rx ry h
 obtain ⟨xs,ys,fs,gs,h1,h2,n1,n2,hh,q⟩:=h
 simp only [Tw.At] at h1 h2
 obtain ⟨a,vs,rfl,e1,c1⟩:=h1
 obtain ⟨b,ws,rfl,e2,c2⟩:=h2
 cases rx
 cases ry
 obtain ⟨is1,q1,p1,_⟩:=I.tuple (SqT.of e1)
 obtain ⟨is2,q2,p2,_⟩:=I.tuple (SqT.of e2)
 have l1:is1.toArray.size=xs.length:=by have:=c1.len; have:=q1.length; simp; omega
 have l2:is2.toArray.size=ys.length:=by have:=c2.len; have:=q2.length; simp; omega
 have:=SeqAt.RcNeAt.tuples (A:=X.A) (s:=s) (e:=sameA xs ys) p1 p2 (by omega) (fun j h1 h2=>by
  have:=Tw.eqDs I (A:=X.A.in1) n1 n2 c1 c2 q1 q2 (by rw [a72]; omega) j (by simpa using h1) (by simpa using h2)
  simpa using this)
 rw [l1,l2,ah1] at this
 exact this X.prog X.w X.xe (EP X pins σ Q) ⟨.bl _,H,I,rfl,q⟩
end
end L2
local macro_rules | `(tactic| walk_at "side") => `(tactic| first | exact ⟨by decide, by decide, by decide⟩ | exact ⟨by decide, by decide⟩ | exact .inr (.inr ⟨by decide, by decide⟩) | exact .inr (.inl ⟨by decide, by decide⟩) | decide | omega | exact L2.le_line (by simp only [List.length_cons, List.length_nil]; omega))
local macro_rules | `(tactic| walk_at "o") => `(tactic| first | exact Or.inl rfl | exact Or.inr rfl)
local macro_rules | `(tactic| walk_at "step") => do
  let mut acc ← `(tactic| ((with_reducible refine L2.i_rgA ?k ?l ?_); (case k => walk_at "side"); (case l => walk_at "side")))
  for s in ("i_rI ai5 c30 c31 i_c i_op i_un i_rU c32 bn5 c33 c34 bv8 i_bl c35 c36 bv9 bw0 bw1 c37 i_cb bw2 c38 c39 c40 bw4 c41 i_or bw5 c42 i_lc bw6 bn6 bw7 c43 c44 i_bm c45 i_sl bf6 bw8 c46 bw9 bx0 bx1 bx2 bx4 bx3 bn7 c47 bx7 bx8 by0 by2 i_tB bf9 by5 by4 by8 bo4 c48 by9 bz0 bz1 bz2 bo8 bz5 bp3 i_dk bw3".splitOn " ").reverse do
    let n := Lean.mkIdent (Lean.Name.str `L2 s)
    if s == "i_rI" || s == "ai5" || s == "bw3" then acc ← `(tactic| first | ((with_reducible refine $n ?k ?_); (case k => walk_at "side")) | $acc:tactic)
    else acc ← `(tactic| first | with_reducible refine $n ?_ | $acc:tactic)
  `(tactic| first | ((with_reducible refine L2.i_name ?_); dsimp only [List.set_cons_zero, List.set_cons_succ]) | ((with_reducible refine' L2.i_var ?k ?_); (case k => rfl)) | $acc:tactic)
local macro_rules | `(tactic| walk_at "run") => `(tactic| (repeat walk_at "step"))
local macro_rules | `(tactic| walk_at "go") => do
  let ids := (("L2.start List.map_cons List.map_nil List.length_cons List.length_nil List.replicate List.cons_append List.nil_append Nat.reduceSub Nat.reduceAdd L2.nox_K L2.wish_K L2.cxOf_K L2.cxC_K".splitOn " ").map fun s => Lean.mkIdent s.toName).toArray
  `(tactic| (simp only [$[$ids:term],*]; walk_at "run"))
namespace K42
open PySem L2
theorem sc_next_ones:FnScope ["node","kind"] ["node"] (defScope a74):=⟨rfl,rfl,rfl,by decide +kernel,rfl,by decide +kernel,by decide +kernel⟩
theorem sc_renumbered:FnScope ["node","numbers","kind"] ["node","numbers"] (defScope a62):=⟨rfl,rfl,rfl,by decide +kernel,rfl,by decide +kernel,by decide +kernel⟩
theorem sc_share:FnScope ["graph","nodes","nowhere","stands_for","shared"] ["graph"] (defScope a98):=⟨rfl,rfl,rfl,by decide +kernel,rfl,by decide +kernel,by decide +kernel⟩
theorem sc_put_together:FnScope ["labels","ways","grouping"] ["labels","ways"] (defScope a55):=⟨rfl,rfl,rfl,by decide +kernel,rfl,by decide +kernel,by decide +kernel⟩
theorem sc_numbered:FnScope ["labels","numbers"] ["labels"] (defScope a86):=⟨rfl,rfl,rfl,by decide +kernel,rfl,by decide +kernel,by decide +kernel⟩
theorem sc_counted:FnScope ["things","numbers","thing"] ["things"] (defScope a95):=⟨rfl,rfl,rfl,by decide +kernel,rfl,by decide +kernel,by decide +kernel⟩
theorem sc_firsts:FnScope ["numbers","found","place","number"] ["numbers"] (defScope aa4):=⟨rfl,rfl,rfl,by decide +kernel,rfl,by decide +kernel,by decide +kernel⟩
theorem ae5:FnScope ["self","labels","ways"] ["self","labels","ways"] (defScope a42):=⟨rfl,rfl,rfl,by decide +kernel,rfl,by decide +kernel,by decide +kernel⟩
theorem sc_Grouping_part:FnScope ["self","group","parts","things","thing"] ["self","group"] (defScope a51):=⟨rfl,rfl,rfl,by decide +kernel,rfl,by decide +kernel,by decide +kernel⟩
theorem sc_Grouping_parts_of:FnScope ["self","group","touched","rest","parts","thing"] ["self","group"] (defScope a43):=⟨rfl,rfl,rfl,by decide +kernel,rfl,by decide +kernel,by decide +kernel⟩
theorem ad1:FnScope ["self","thing"] ["self","thing"] (defScope a39):=⟨rfl,rfl,rfl,by decide +kernel,rfl,by decide +kernel,by decide +kernel⟩
theorem sc_Grouping_regroup:FnScope ["self","things","thing"] ["self","things"] (defScope a46):=⟨rfl,rfl,rfl,by decide +kernel,rfl,by decide +kernel,by decide +kernel⟩
theorem sc_Grouping_touch_sources:FnScope ["self","thing","source","group"] ["self","thing"] (defScope a37):=⟨rfl,rfl,rfl,by decide +kernel,rfl,by decide +kernel,by decide +kernel⟩
theorem sc_sources_of:FnScope ["ways","found","thing","led","way"] ["ways"] (defScope a63):=⟨rfl,rfl,rfl,by decide +kernel,rfl,by decide +kernel,by decide +kernel⟩
theorem sc_members_of:FnScope ["groups","found","thing","group"] ["groups"] (defScope a64):=⟨rfl,rfl,rfl,by decide +kernel,rfl,by decide +kernel,by decide +kernel⟩
theorem ak7:FnScope ["script","k"] ["script","k"] (defScope a61):=⟨rfl,rfl,rfl,by decide +kernel,rfl,by decide +kernel,by decide +kernel⟩
theorem sc_law_expr:FnScope ["d","one","word","part"] ["d"] (defScope a89):=⟨rfl,rfl,rfl,by decide +kernel,rfl,by decide +kernel,by decide +kernel⟩
theorem sc_law_cond:FnScope ["d","one","other"] ["d"] (defScope a90):=⟨rfl,rfl,rfl,by decide +kernel,rfl,by decide +kernel,by decide +kernel⟩
theorem sc_law_wait:FnScope ["d","number","low","high","patterns","branches","rest","k","pattern"] ["d","number","low","high"] (defScope a91):=⟨rfl,rfl,rfl,by decide +kernel,rfl,by decide +kernel,by decide +kernel⟩
theorem sc_law_node:FnScope ["cell","number","low","high","deep","kind","d","to"] ["cell","number","low","high","deep"] (defScope a92):=⟨rfl,rfl,rfl,by decide +kernel,rfl,by decide +kernel,by decide +kernel⟩
theorem sc_law_graph:FnScope ["script","cell","ends","nodes","deep","number","one"] ["script"] (defScope a81):=⟨rfl,rfl,rfl,by decide +kernel,rfl,by decide +kernel,by decide +kernel⟩
theorem aw1:FnScope ["node"] ["node"] (defScope a87):=⟨rfl,rfl,rfl,by decide +kernel,rfl,by decide +kernel,by decide +kernel⟩
theorem as9:FnScope ["node"] ["node"] (defScope a75):=⟨rfl,rfl,rfl,by decide +kernel,rfl,by decide +kernel,by decide +kernel⟩
theorem sc_law_part:FnScope ["nodes","many","part","again","k","j","pairs"] ["nodes"] (defScope a69):=⟨rfl,rfl,rfl,by decide +kernel,rfl,by decide +kernel,by decide +kernel⟩
theorem b46:FnScope ["node","where"] ["node","where"] (defScope a93):=⟨rfl,rfl,rfl,by decide +kernel,rfl,by decide +kernel,by decide +kernel⟩
theorem sc_law_copied:FnScope ["script","graph","cell","nodes","at"] ["script"] (defScope a71):=⟨rfl,rfl,rfl,by decide +kernel,rfl,by decide +kernel,by decide +kernel⟩
theorem sc_law:FnScope ["script","graph","boxes","nodes","first","part","where","firsts_v","number","alike","handed","due","found"] ["script"] (defScope aj0):=⟨rfl,rfl,rfl,by decide +kernel,rfl,by decide +kernel,by decide +kernel⟩
set_option genInjectivity false in
structure Adr where
 a_next_ones:Addr
 fd_next_ones:FuncData
 a_renumbered:Addr
 fd_renumbered:FuncData
 a_share:Addr
 fd_share:FuncData
 a_put_together:Addr
 fd_put_together:FuncData
 a_numbered:Addr
 fd_numbered:FuncData
 a_counted:Addr
 fd_counted:FuncData
 a_firsts:Addr
 fd_firsts:FuncData
 a_Grouping___init__:Addr
 fd_Grouping___init__:FuncData
 a_Grouping_part:Addr
 fd_Grouping_part:FuncData
 a_Grouping_parts_of:Addr
 fd_Grouping_parts_of:FuncData
 a_Grouping_led_groups:Addr
 fd_Grouping_led_groups:FuncData
 a_Grouping_regroup:Addr
 fd_Grouping_regroup:FuncData
 a_Grouping_touch_sources:Addr
 fd_Grouping_touch_sources:FuncData
 a_sources_of:Addr
 fd_sources_of:FuncData
 a_members_of:Addr
 fd_members_of:FuncData
 a__law_cell_at:Addr
 fd__law_cell_at:FuncData
 a__law_expr:Addr
 fd__law_expr:FuncData
 a__law_cond:Addr
 fd__law_cond:FuncData
 a__law_wait:Addr
 fd__law_wait:FuncData
 a__law_node:Addr
 fd__law_node:FuncData
 a__law_graph:Addr
 fd__law_graph:FuncData
 a__law_look:Addr
 fd__law_look:FuncData
 a__law_nexts:Addr
 fd__law_nexts:FuncData
 a__law_part:Addr
 fd__law_part:FuncData
 a__law_new:Addr
 fd__law_new:FuncData
 a__law_copied:Addr
 fd__law_copied:FuncData
 a_law:Addr
 fd_law:FuncData
 c_Grouping:Addr
structure Txt (K:PySem.W.Frag) (mg:Str→Option Value) (t:Adr):Prop where
 F_next_ones:Fun K "next_ones" "next_ones" a74 t.a_next_ones t.fd_next_ones
 m_next_ones:mg "next_ones"=some (.ref t.a_next_ones)
 b_next_ones:Binds K t.fd_next_ones ["node"] []
 F_renumbered:Fun K "renumbered" "renumbered" a62 t.a_renumbered t.fd_renumbered
 m_renumbered:mg "renumbered"=some (.ref t.a_renumbered)
 b_renumbered:Binds K t.fd_renumbered ["node","numbers"] []
 F_share:Fun K "share" "share" a98 t.a_share t.fd_share
 m_share:mg "share"=some (.ref t.a_share)
 b_share:Binds K t.fd_share ["graph"] []
 F_put_together:Fun K "put_together" "put_together" a55 t.a_put_together t.fd_put_together
 m_put_together:mg "put_together"=some (.ref t.a_put_together)
 b_put_together:Binds K t.fd_put_together ["labels","ways"] []
 F_numbered:Fun K "numbered" "numbered" a86 t.a_numbered t.fd_numbered
 m_numbered:mg "numbered"=some (.ref t.a_numbered)
 b_numbered:Binds K t.fd_numbered ["labels"] []
 F_counted:Fun K "counted" "counted" a95 t.a_counted t.fd_counted
 m_counted:mg "counted"=some (.ref t.a_counted)
 b_counted:Binds K t.fd_counted ["things"] []
 F_firsts:Fun K "firsts" "firsts" aa4 t.a_firsts t.fd_firsts
 m_firsts:mg "firsts"=some (.ref t.a_firsts)
 b_firsts:Binds K t.fd_firsts ["numbers"] []
 F_Grouping___init__:Fun K "__init__" "Grouping.__init__" a42 t.a_Grouping___init__ t.fd_Grouping___init__
 b_Grouping___init__:Binds K t.fd_Grouping___init__ ["self","labels","ways"] []
 F_Grouping_part:Fun K "part" "Grouping.part" a51 t.a_Grouping_part t.fd_Grouping_part
 M_Grouping_part:Meth K t.c_Grouping "part" t.a_Grouping_part
 b_Grouping_part:Binds K t.fd_Grouping_part ["self","group"] []
 F_Grouping_parts_of:Fun K "parts_of" "Grouping.parts_of" a43 t.a_Grouping_parts_of t.fd_Grouping_parts_of
 M_Grouping_parts_of:Meth K t.c_Grouping "parts_of" t.a_Grouping_parts_of
 b_Grouping_parts_of:Binds K t.fd_Grouping_parts_of ["self","group"] []
 F_Grouping_led_groups:Fun K "led_groups" "Grouping.led_groups" a39 t.a_Grouping_led_groups t.fd_Grouping_led_groups
 M_Grouping_led_groups:Meth K t.c_Grouping "led_groups" t.a_Grouping_led_groups
 b_Grouping_led_groups:Binds K t.fd_Grouping_led_groups ["self","thing"] []
 F_Grouping_regroup:Fun K "regroup" "Grouping.regroup" a46 t.a_Grouping_regroup t.fd_Grouping_regroup
 M_Grouping_regroup:Meth K t.c_Grouping "regroup" t.a_Grouping_regroup
 b_Grouping_regroup:Binds K t.fd_Grouping_regroup ["self","things"] []
 F_Grouping_touch_sources:Fun K "touch_sources" "Grouping.touch_sources" a37 t.a_Grouping_touch_sources t.fd_Grouping_touch_sources
 M_Grouping_touch_sources:Meth K t.c_Grouping "touch_sources" t.a_Grouping_touch_sources
 b_Grouping_touch_sources:Binds K t.fd_Grouping_touch_sources ["self","thing"] []
 F_sources_of:Fun K "sources_of" "sources_of" a63 t.a_sources_of t.fd_sources_of
 m_sources_of:mg "sources_of"=some (.ref t.a_sources_of)
 b_sources_of:Binds K t.fd_sources_of ["ways"] []
 F_members_of:Fun K "members_of" "members_of" a64 t.a_members_of t.fd_members_of
 m_members_of:mg "members_of"=some (.ref t.a_members_of)
 b_members_of:Binds K t.fd_members_of ["groups"] []
 F__law_cell_at:Fun K "_law_cell_at" "_law_cell_at" a61 t.a__law_cell_at t.fd__law_cell_at
 m__law_cell_at:mg "_law_cell_at"=some (.ref t.a__law_cell_at)
 b__law_cell_at:Binds K t.fd__law_cell_at ["script","k"] []
 F__law_expr:Fun K "_law_expr" "_law_expr" a89 t.a__law_expr t.fd__law_expr
 m__law_expr:mg "_law_expr"=some (.ref t.a__law_expr)
 b__law_expr:Binds K t.fd__law_expr ["d"] []
 F__law_cond:Fun K "_law_cond" "_law_cond" a90 t.a__law_cond t.fd__law_cond
 m__law_cond:mg "_law_cond"=some (.ref t.a__law_cond)
 b__law_cond:Binds K t.fd__law_cond ["d"] []
 F__law_wait:Fun K "_law_wait" "_law_wait" a91 t.a__law_wait t.fd__law_wait
 m__law_wait:mg "_law_wait"=some (.ref t.a__law_wait)
 b__law_wait:Binds K t.fd__law_wait ["d","number","low","high"] []
 F__law_node:Fun K "_law_node" "_law_node" a92 t.a__law_node t.fd__law_node
 m__law_node:mg "_law_node"=some (.ref t.a__law_node)
 b__law_node:Binds K t.fd__law_node ["cell","number","low","high","deep"] []
 F__law_graph:Fun K "_law_graph" "_law_graph" a81 t.a__law_graph t.fd__law_graph
 m__law_graph:mg "_law_graph"=some (.ref t.a__law_graph)
 b__law_graph:Binds K t.fd__law_graph ["script"] []
 F__law_look:Fun K "_law_look" "_law_look" a87 t.a__law_look t.fd__law_look
 m__law_look:mg "_law_look"=some (.ref t.a__law_look)
 b__law_look:Binds K t.fd__law_look ["node"] []
 F__law_nexts:Fun K "_law_nexts" "_law_nexts" a75 t.a__law_nexts t.fd__law_nexts
 m__law_nexts:mg "_law_nexts"=some (.ref t.a__law_nexts)
 b__law_nexts:Binds K t.fd__law_nexts ["node"] []
 F__law_part:Fun K "_law_part" "_law_part" a69 t.a__law_part t.fd__law_part
 m__law_part:mg "_law_part"=some (.ref t.a__law_part)
 b__law_part:Binds K t.fd__law_part ["nodes"] []
 F__law_new:Fun K "_law_new" "_law_new" a93 t.a__law_new t.fd__law_new
 m__law_new:mg "_law_new"=some (.ref t.a__law_new)
 b__law_new:Binds K t.fd__law_new ["node","where"] []
 F__law_copied:Fun K "_law_copied" "_law_copied" a71 t.a__law_copied t.fd__law_copied
 m__law_copied:mg "_law_copied"=some (.ref t.a__law_copied)
 b__law_copied:Binds K t.fd__law_copied ["script"] []
 F_law:Fun K "law" "law" aj0 t.a_law t.fd_law
 m_law:mg "law"=some (.ref t.a_law)
 b_law:Binds K t.fd_law ["script"] []
 m_Grouping:mg "Grouping"=some (.ref t.c_Grouping)
 cl_Grouping:Cls K t.c_Grouping
 mk_Grouping:Mk K t.c_Grouping t.a_Grouping___init__
 n_Grouping_groups:NoAttr K t.c_Grouping "groups"
 n_Grouping_members:NoAttr K t.c_Grouping "members"
 n_Grouping_sources:NoAttr K t.c_Grouping "sources"
 n_Grouping_touched:NoAttr K t.c_Grouping "touched"
 n_Grouping_waiting:NoAttr K t.c_Grouping "waiting"
 n_Grouping_ways:NoAttr K t.c_Grouping "ways"
 z_any:mg "any"=none
 z_dict:mg "dict"=none
 z_enumerate:mg "enumerate"=none
 z_isinstance:mg "isinstance"=none
 z_len:mg "len"=none
 z_list:mg "list"=none
 z_min:mg "min"=none
 z_range:mg "range"=none
 z_sorted:mg "sorted"=none
 z_tuple:mg "tuple"=none
 z_zip:mg "zip"=none
section
variable {P:Program}{w:World}{K:PySem.W.Frag}{mg:Str→Option Value}{base:Heap}{t:Adr}
def b47 (K:PySem.W.Frag) (P:Params):Sp:=fun vs H Q _=>∃ (a:Addr) (us:List V) (α:Type) (_:DecidableEq α) (f:α→Tr) (xs:List α),vs=[.ref a]∧SqL K H a us∧Tr.AtsB H (xs.map f) us∧(∀ a b,f a=f b→a=b)∧(∀ x,(f x).h≤8)∧xs.length≤100000∧∀ d H',H d=none→Same H H'→DbAt P H' d (numd f (mets xs))→Q (.ref d) H'
theorem b48 (T:Txt K mg t):FnOk P w K mg base CX0 1 t.a_counted t.fd_counted ["things"] (b47 K w.params):=by
 refine T.F_counted.ok sc_counted (fun vs H Q E h=>?_) (fun cdv A outer s H vs Q E hr h=>?_)
 · obtain ⟨a,us,α,dα,f,xs,rfl,_⟩:=h
   rfl
 · obtain ⟨a,us,α,dα,f,xs,rfl,ha,hu,hf,hh,hl,q⟩:=h
   refine ⟨_,(@a03 _ _ _ _ _ (@a45 _ _ 1 _ _ _ _ sc_counted.nd rfl (by walk_at "o") (av5 w.params) (by rfl) (by walk_at "o"))
    (@a03 _ _ _ _ _ (@aa1 _ _ _ _ _ _ _ _ PassesOwn.never rfl (a59 K (pv 0)) (a38 (i:=2) sc_counted.nd rfl (by walk_at "o")) (@a05 _ _ _ (@a67 _ _ _ _ (bh1 (P:=w.params) rfl (by exact hr.units) (pv 1) (pv 2) (@a77 _ _ _ _ _ _ _ _ _ (bp2 (P:=w.params) rfl) (by rfl) T.z_len ab6 (@a00 _ _ _ _ _ (pv 1) (@a04 _) (by rfl)) (by decide) (by decide) (by rfl) (by rfl)) ⟨by rfl,by rfl,by rfl,by rfl⟩) (by rfl))) (by intro _; rfl))
    (@a05 _ _ _ (@a41 _ _ _ _ (pv 1))))),?_⟩
   have sl:(1000000:Nat)≤sizeLine:=le_line (Nat.le_refl _)
   have ul:us.length=xs.length:=by rw [hu.len,List.length_map]
   walk_at "go"
   intro d o fd hd
   walk_at "run"
   have s1:Same H (upd H d o):=Same.new fd
   refine ⟨⟨_,s1.seq ha⟩,ac1 (K:=K) (a:=a) (xs:=us) (fun i σ H'=>i≤xs.length∧Same H H'∧DbAt w.params H' d (numd f (mets (xs.take i)))∧∃ y,σ=[some (.ref a),some (.ref d),y]) ⟨Nat.zero_le _,s1,.of0 hd,_,rfl⟩ (fun i σ H' _ ⟨_,s',_⟩=>s'.seq ha) ?_ ?_⟩
   · rintro i v σ H2 hv ⟨hi,s2,hD,y,rfl⟩
     obtain ⟨tx,hx1,hx2⟩:=hu.get i v hv
     rw [List.getElem?_map] at hx1
     obtain ⟨x,hx,rfl⟩:=Option.map_eq_some_iff.mp hx1
     have hi':i<xs.length:=(List.getElem?_eq_some_iff.mp hx).1
     have htk:xs.take (i+1)=xs.take i++[x]:=by rw [List.take_add_one,hx]; rfl
     have hln:=ac7 (xs.take i)
     have hlt:(xs.take i).length≤100000:=by simp; omega
     walk_at "run"
     refine ⟨d,_,rfl,hD,?_⟩
     walk_at "run"
     refine ⟨d,_,rfl,hD,?_⟩
     walk_at "run"
     refine ⟨_,f x,hD,⟨hx2.tups s2.tups,hh x⟩,by unfold numd; rw [ap0]; omega,fun z hz=>?_,fun hz o' hD'=>?_⟩
     · have hm:x∈mets (xs.take i):=Classical.byContradiction fun hm=>by
        have:=as5 hf (mets (xs.take i)) 0 hm
        unfold numd at hz
        rw [this] at hz
        cases hz
       rw [htk,a88,met1,if_pos hm]
       exact ⟨hi',s2,hD,_,rfl⟩
     · have hm:x∉mets (xs.take i):=fun hm=>by
        obtain ⟨j,_,hj⟩:=bp7 hf (av7 _) hm
        rw [hj] at hz
        cases hz
       rw [htk,a88,met1,if_neg hm]
       refine ⟨hi',s2.updNew fd,?_,_,rfl⟩
       unfold numd at hD' ⊢
       rw [as4,Nat.zero_add]
       rw [ap0] at hD'
       exact hD'
   · rintro σ H2 ⟨_,s2,hD,y,rfl⟩
     rw [ul,List.take_length] at hD
     walk_at "run"
     exact q d H2 fd s2 hD
def aw2 (K:PySem.W.Frag) (P:Params):Sp:=fun vs H Q _=>∃ (a:Addr) (us:List V) (α:Type) (_:DecidableEq α) (f:α→Tr) (xs:List α),vs=[.ref a]∧SqL K H a us∧Tr.AtsB H (xs.map f) us∧(∀ a b,f a=f b→a=b)∧(∀ x,(f x).h≤8)∧xs.length≤100000∧∀ l H',H l=none→Same H H'→H' l=some (.lst (natsV (canon xs)))→Q (.ref l) H'
theorem ak2 (T:Txt K mg t):FnOk P w K mg base CX0 2 t.a_numbered t.fd_numbered ["labels"] (aw2 K w.params):=by
 have G_counted:=b48 (P:=P) (w:=w) (base:=base) T
 refine T.F_numbered.ok sc_numbered (fun vs H Q E h=>?_) (fun cdv A outer s H vs Q E hr h=>?_)
 · obtain ⟨a,us,α,dα,f,xs,rfl,_⟩:=h
   rfl
 · obtain ⟨a,us,α,dα,f,xs,rfl,ha,hu,hf,hh,hl,q⟩:=h
   refine ⟨_,(@a03 _ _ _ _ _ (@a45 _ _ 1 _ _ _ _ sc_numbered.nd rfl (by walk_at "o") (@a50 _ _ _ _ _ _ _ _ _ _ _ _ _ _ _ _ G_counted (hr.mono (by omega)) rfl T.m_counted T.F_counted.kp T.b_counted .nil a85 (@a00 _ _ _ _ _ (pv 0) (@a04 _) (by rfl)) (by decide) (by rfl) (by rfl)) (by rfl) (by walk_at "o"))
    (@a05 _ _ _ (@a41 _ _ _ _ (ae4 (Nt:=["label"]) (Nf:=["numbers"]) (caps:=[1]) rfl (a83 (sc:=defScope a86) rfl rfl (by decide +kernel) (by decide +kernel) (by decide +kernel) rfl (by decide +kernel)) (a59 K (pv 0)) (fun _ _ _ _ _=>(a38 (i:=0) (show (["label","numbers"]:List Str).Nodup by decide +kernel) rfl (by walk_at "o"))) (fun _ _ _ _ _=>(@a82 _)) (fun _ _ _ _ _=>(bp1 (P:=w.params) rfl (by exact hr.units) (pv 1) (pv 0) (fun _ _=>rfl))))))),?_⟩
   have sl:(1000000:Nat)≤sizeLine:=le_line (Nat.le_refl _)
   have ul:us.length=xs.length:=by rw [hu.len,List.length_map]
   walk_at "go"
   refine ⟨a,us,α,dα,f,xs,rfl,ha,hu,hf,hh,hl,fun d H1 f1 s1 hD=>?_⟩
   walk_at "run"
   refine ⟨⟨_,s1.seq ha⟩,aa2 (xs:=us) (by omega) (fun i acc H'=>H'=H1∧i≤xs.length∧acc=natsV ((canon xs).take i)) ⟨rfl,Nat.zero_le _,rfl⟩ (fun i acc H' ⟨e,_,ea⟩=>⟨by rw [ea,a08]; simp; omega,e ▸ s1.seq ha⟩) ?_ ?_⟩
   · rintro i v acc H2 hv ⟨rfl,hi,rfl⟩
     obtain ⟨tx,hx1,hx2⟩:=hu.get i v hv
     rw [List.getElem?_map] at hx1
     obtain ⟨x,hx,rfl⟩:=Option.map_eq_some_iff.mp hx1
     have hi':i<xs.length:=(List.getElem?_eq_some_iff.mp hx).1
     have hm:x∈mets xs:=(a56 x xs).mpr (List.mem_of_getElem? hx)
     have hval:valV (numd f (mets xs)) (f x)=some (.int ((mets xs).idxOf x:Nat)):=az2 hf (av7 xs) (by rw [List.getElem?_eq_getElem (List.idxOf_lt_length_of_mem hm),List.getElem_idxOf])
     walk_at "run"
     refine ⟨d,_,f x,_,rfl,hD,⟨hx2.tups s1.tups,hh x⟩,hval,?_⟩
     refine ⟨rfl,hi',?_⟩
     rw [a53,List.take_add_one,ae2 hx]
     rfl
   · rintro acc H2 ⟨rfl,_,rfl⟩ p3 H3 f3 s3 e3
     rw [ul,show (canon xs).take xs.length=canon xs from by rw [← ab8 xs,List.take_length]] at e3
     walk_at "run"
     exact q p3 H3 (s1.free f3) (s1.trans s3) e3
def bc5 (K:PySem.W.Frag):Sp:=fun vs H Q _=>∃ (a:Addr) (xs:List Nat),vs=[.ref a]∧SqL K H a (natsV xs)∧xs.length≤100000∧∀ l H',H l=none→Same H H'→H' l=some (.lst (natsV ((mets xs).map fun x=>xs.idxOf x)))→Q (.ref l) H'
theorem at0 (T:Txt K mg t):FnOk P w K mg base CX0 1 t.a_firsts t.fd_firsts ["numbers"] (bc5 K):=by
 refine T.F_firsts.ok sc_firsts (fun vs H Q E h=>?_) (fun cdv A outer s H vs Q E hr h=>?_)
 · obtain ⟨a,xs,rfl,_⟩:=h
   rfl
 · obtain ⟨a,xs,rfl,ha,hl,q⟩:=h
   refine ⟨_,(@a03 _ _ _ _ _ (@a45 _ _ 1 _ _ _ _ sc_firsts.nd rfl (by walk_at "o") (av5 w.params) (by rfl) (by walk_at "o"))
    (@a03 _ _ _ _ _ (@aa1 _ _ _ _ _ _ _ _ PassesOwn.never rfl (au5 K rfl T.z_enumerate (@a00 _ _ _ _ _ (pv 0) (@a04 _) (by rfl))) (ab2 K (n:=2) rfl (a54 (a38 (i:=2) sc_firsts.nd rfl (by walk_at "o")) (a54 (a38 (i:=3) sc_firsts.nd rfl (by walk_at "o")) (@ab0 _)))) (@a05 _ _ _ (@a67 _ _ _ _ (ao7 (P:=w.params) rfl (by exact hr.units) (pv 1) (pv 3) (pv 2) ⟨by rfl,by rfl,by rfl,by rfl⟩) (by rfl))) (by intro _; rfl))
    (@a05 _ _ _ (@a41 _ _ _ _ (@a78 _ _ _ _ _ _ _ _ _ (ay7 (P:=w.params) rfl rfl) (by rfl) T.z_list af3 (@a00 _ _ _ _ _ (ay6 (P:=w.params) rfl (pv 1)) (@a04 _) (by rfl)) (by decide) (by decide) (by rfl) (by rfl)))))),?_⟩
   have sl:(1000000:Nat)≤sizeLine:=le_line (Nat.le_refl _)
   have hf:∀ a b:Nat,Tr.int (a:Int)=Tr.int (b:Int)→a=b:=fun a b e=>by
    have:=Tr.int.inj e
    omega
   walk_at "go"
   intro d o fd hd
   walk_at "run"
   have s1:Same H (upd H d o):=Same.new fd
   refine ⟨⟨_,s1.seq ha⟩,ao8 (K:=K) (a:=a) (xs:=natsV xs) (fun i σ H'=>i≤xs.length∧Same H H'∧DtAt w.params H' d (fstF (fun x:Nat=>Tr.int (x:Int)) xs (mets (xs.take i)))∧∃ y z,σ=[some (.ref a),some (.ref d),y,z]) ⟨Nat.zero_le _,s1,hd,_,_,rfl⟩ (fun i σ H' _ ⟨_,s',_⟩=>s'.seq ha) ?_ ?_⟩
   · rintro i v σ H2 pq H3 hv ⟨hi,s2,hD,y,z,rfl⟩ s3 e3
     obtain ⟨x,hx,rfl⟩:=a96 hv
     have hi':i<xs.length:=(List.getElem?_eq_some_iff.mp hx).1
     have htk:xs.take (i+1)=xs.take i++[x]:=by rw [List.take_add_one,hx]; rfl
     have hln:=ac7 (xs.take i)
     have hlt:(xs.take i).length≤100000:=by simp; omega
     have hD3:=aj5 hD s3
     have s13:=s2.trans s3
     refine ⟨_,_,rfl,SqT.of e3,rfl,?_⟩
     walk_at "run"
     refine ⟨d,_,rfl,hD3,?_⟩
     walk_at "run"
     refine ⟨_,Tr.int (x:Int),hD3,⟨by simp [Tr.At],by simp [Tr.h]⟩,by unfold fstF; rw [List.length_map]; omega,fun z hz=>?_,fun hz o' hD'=>?_⟩
     · have hm:=av8 hf (xs:=xs) (l:=mets (xs.take i)) (x:=x)
       rw [hz] at hm
       have hm:=of_decide_eq_true hm.symm
       rw [htk,a88,met1,if_pos hm]
       exact ⟨hi',s13,hD3,_,_,rfl⟩
     · have hm:=av8 hf (xs:=xs) (l:=mets (xs.take i)) (x:=x)
       rw [hz] at hm
       have hm:=of_decide_eq_false hm.symm
       rw [htk,a88,met1,if_neg hm]
       refine ⟨hi',s13.updNew fd,?_,_,_,rfl⟩
       have hix:xs.idxOf x=i:=by
        have h1:xs=xs.take i++xs.drop i:=(List.take_append_drop i xs).symm
        have h2:xs.drop i=x::xs.drop (i+1):=by
         obtain ⟨q1,q2⟩:=List.getElem?_eq_some_iff.mp hx
         rw [List.drop_eq_getElem_cons q1,q2]
        rw [h1,List.idxOf_append,if_neg (fun z=>hm ((a56 x _).mpr z)),h2]
        simp
        omega
       unfold fstF at hD' ⊢
       rw [List.map_append,List.map_cons,List.map_nil,hix]
       exact hD'
   · rintro σ H2 ⟨_,s2,hD,y,z,rfl⟩
     rw [a08,List.take_length] at hD
     walk_at "run"
     refine ⟨d,_,rfl,hD,fun p3 H3 f3 s3 e3=>?_⟩
     walk_at "run"
     refine ⟨p3,d,_,rfl,e3,aj5 hD s3,?_⟩
     intro p4 H4 f4 s4 e4
     refine q p4 H4 ((s2.trans s3).free f4) (s2.trans (s3.trans s4)) ?_
     rw [e4]
     unfold fstF natsV
     rw [List.map_map,List.map_map]
     rfl
theorem empties {H:Hp}{acc:List V}{ls:List Addr}{f:Addr}{H1 H2:Hp}(s1:Same H H1) (hn:ls.Nodup) (hf:∀ d∈ls,H d=none) (he:∀ d∈ls,H1 d=some (.lst [])) (f2:H1 f=none) (s2:Same H1 H2) (e2:H2 f=some (.lst (ls.map .ref))):FL H H2 f ls (ls.map fun _=>[]):=by
 refine ⟨s1.trans s2,s1.free f2,(fun z=>by rw [he f z] at f2; cases f2),hn,hf,e2,by simp,fun j d xs h1 h2=>?_⟩
 rw [List.getElem?_map,h1] at h2
 cases h2
 exact s2 _ _ (he d (List.mem_of_getElem? h1))
def b49 (K:PySem.W.Frag):Sp:=fun vs H Q _=>∃ (a:Addr) (us:List V) (nw:Nat→List Nat) (n:Nat),vs=[.ref a]∧H a=some (.lst us)∧Lsts H us nw n∧(∀ i,i<n→(nw i).length≤100∧∀ k∈nw i,k<n)∧n≤1000∧∀ f ls cs H',FL H H' f ls cs→cs.length=n→(∀ (b:Nat) (xs:List Nat),cs[b]?=some xs→∀ a,a∈xs↔a<n∧b∈nw a)→Q (.ref f) H'
theorem ap6 (T:Txt K mg t):FnOk P w K mg base CX0 1 t.a_sources_of t.fd_sources_of ["ways"] (b49 K):=by
 refine T.F_sources_of.ok sc_sources_of (fun vs H Q E h=>?_) (fun cdv A outer s H vs Q E hr h=>?_)
 · obtain ⟨a,us,nw,n,rfl,_⟩:=h
   rfl
 · obtain ⟨a,us,nw,n,rfl,ha,hu,hw,hn,q⟩:=h
   refine ⟨_,(@a03 _ _ _ _ _ (b79 (i:=1) (Nt:=["each"]) (Nf:=[]) (caps:=[]) rfl (a83 (sc:=defScope a63) rfl rfl (by decide +kernel) (by decide +kernel) (by decide +kernel) rfl (by decide +kernel)) (a59 K (pv 0)) (fun _ _ _ _ _=>(a38 (i:=0) (show (["each"]:List Str).Nodup by decide +kernel) rfl (by walk_at "o"))) (fun _ _ _ _ _=>(@a82 _)) (fun _ _ _ _ _=>(@a52 _ _ _ _ (@a04 _))) sc_sources_of.nd rfl (by walk_at "o") rfl)
    (@a03 _ _ _ _ _ (@aa1 _ _ _ _ _ _ _ _ PassesOwn.never rfl (au5 K rfl T.z_enumerate (@a00 _ _ _ _ _ (pv 0) (@a04 _) (by rfl))) (ab2 K (n:=2) rfl (a54 (a38 (i:=2) sc_sources_of.nd rfl (by walk_at "o")) (a54 (a38 (i:=3) sc_sources_of.nd rfl (by walk_at "o")) (@ab0 _)))) (@a05 _ _ _ (@aa1 _ _ _ _ _ _ _ _ PassesOwn.never rfl (a59 K (pv 3)) (a38 (i:=4) sc_sources_of.nd rfl (by walk_at "o")) (@a05 _ _ _ (@a67 _ _ _ _ (@aa7 _ K _ _ _ _ _ _ _ _ _ _ _ PySem.F.plainAttrs_list PySem.F.slot_list_append PySem.F.type_list_append a70 (@a29 _ _ _ _ _ _ _ (a07 K) (pv 1) (pv 4) (fun _ _=>rfl)) (@a00 _ _ _ _ _ (pv 2) (@a04 _) (by rfl)) (by rfl) (by rfl) (by rfl) (by rfl) (by rfl) (by rfl)) (by rfl))) (by intro _; rfl))) (by intro _; rfl))
    (@a05 _ _ _ (@a41 _ _ _ _ (pv 1))))),?_⟩
   have sl:(1000000:Nat)≤sizeLine:=le_line (Nat.le_refl _)
   have ul:us.length=n:=hu.1
   walk_at "go"
   refine ⟨⟨_,SqL.of ha⟩,aa2 (xs:=us) (by omega) (fun i acc H'=>i≤n∧Same H H'∧∃ ls:List Addr,acc=ls.map .ref∧ls.length=i∧ls.Nodup∧(∀ d∈ls,H d=none)∧∀ d∈ls,H' d=some (.lst [])) ⟨Nat.zero_le _,Same.refl _,[],rfl,rfl,List.nodup_nil,by simp,by simp⟩ (fun i acc H' ⟨_,s',ls,e,el,_⟩=>⟨by rw [e,List.length_map]; omega,SqL.of (s' _ _ ha)⟩) ?_ ?_⟩
   · rintro i v acc H2 hv ⟨hi,s2,ls,rfl,el,hnd,hf,he⟩
     walk_at "run"
     intro p3 H3 f3 s3 e3
     refine ⟨by rw [← ul]; exact (List.getElem?_eq_some_iff.mp hv).1,s2.trans s3,ls++[p3],by simp,by simp [el],aa6 hnd fun z=>(by rw [he p3 z] at f3; cases f3),fun d hd=>?_,fun d hd=>?_⟩
     · rcases List.mem_append.mp hd with hd | hd
       · exact hf d hd
       · rw [List.mem_singleton.mp hd]; exact s2.free f3
     · rcases List.mem_append.mp hd with hd | hd
       · exact s3 _ _ (he d hd)
       · rw [List.mem_singleton.mp hd]; exact e3
   · rintro acc H2 ⟨_,s2,ls,rfl,el,hnd,hf,he⟩ f H3 f3 s3 e3
     have hFL:=empties (acc:=[]) s2 hnd hf he f3 s3 e3
     rw [ul] at el
     clear he hnd hf
     walk_at "run"
     refine ⟨⟨_,SqL.of (hFL.b _ _ ha)⟩,ao8 (K:=K) (a:=a) (xs:=us) (fun i σ H'=>i≤n∧(∃ cs:List (List Nat),FL H H' f ls cs∧cs.length=n∧(∀ (b:Nat) (xs:List Nat),cs[b]?=some xs→xs.length≤100*i)∧∀ (b:Nat) (xs:List Nat),cs[b]?=some xs→∀ a,a∈xs↔a<i∧b∈nw a)∧∃ y1 y2 y3,σ=[some (.ref a),some (.ref f),y1,y2,y3]) ⟨Nat.zero_le _,⟨_,hFL,by simp [el],fun b xs e=>?_,fun b xs e=>?_⟩,_,_,_,rfl⟩ (fun i σ H' _ ⟨_,⟨cs,h',_⟩,_⟩=>SqL.of (h'.b _ _ ha)) ?_ ?_⟩
     · rw [List.getElem?_map] at e
       obtain ⟨_,_,rfl⟩:=Option.map_eq_some_iff.mp e
       simp
     · rw [List.getElem?_map] at e
       obtain ⟨_,_,rfl⟩:=Option.map_eq_some_iff.mp e
       simp
     · rintro i v σ H4 pq H5 hv ⟨hi,⟨cs,h4,cl,cb,cm⟩,y1,y2,y3,rfl⟩ s5 e5
       have hi':i<n:=by rw [← ul]; exact (List.getElem?_eq_some_iff.mp hv).1
       obtain ⟨px,hx1,hx2⟩:=hu.2 i hi'
       rw [hv] at hx1
       cases hx1
       have h5:=h4.same s5
       obtain ⟨wl,wb⟩:=hw i hi'
       refine ⟨_,_,rfl,SqT.of e5,rfl,?_⟩
       walk_at "run"
       refine ⟨⟨_,SqL.of (h5.b _ _ hx2)⟩,ac1 (K:=K) (a:=px) (xs:=natsV (nw i)) (fun j σ H'=>j≤(nw i).length∧(∃ cs:List (List Nat),FL H H' f ls cs∧cs.length=n∧(∀ (b:Nat) (xs:List Nat),cs[b]?=some xs→xs.length≤100*i+j)∧∀ (b:Nat) (xs:List Nat),cs[b]?=some xs→∀ a,a∈xs↔(a<i∧b∈nw a)∨(a=i∧b∈(nw i).take j))∧∃ y3,σ=[some (.ref a),some (.ref f),some (.int (i:Nat)),some (.ref px),y3]) ⟨Nat.zero_le _,⟨cs,h5,cl,cb,fun b xs e a=>by rw [cm b xs e a]; simp⟩,_,rfl⟩ (fun j σ H' _ ⟨_,⟨cs,h',_⟩,_⟩=>SqL.of (h'.b _ _ hx2)) ?_ ?_⟩
       · rintro j v σ H6 hv ⟨hj,⟨cs,h6,cl,cb,cm⟩,y3,rfl⟩
         obtain ⟨k,hk,rfl⟩:=a96 hv
         have hkn:=wb k (List.mem_of_getElem? hk)
         obtain ⟨xs,hxs⟩:∃ xs,cs[k]?=some xs:=⟨_,List.getElem?_eq_getElem (by omega)⟩
         obtain ⟨d,hd1,hd2,hd3⟩:=h6.get hxs
         have hjl:=(List.getElem?_eq_some_iff.mp hk).1
         have hb:=cb k xs hxs
         walk_at "run"
         refine a49 (SqL.of h6.e) (a02 hd2) ?_
         walk_at "run"
         refine ab3 (SqL.of hd3) ?_
         walk_at "run"
         refine a84 hd3 (by rw [a08]; omega) ?_
         rw [a53]
         refine ⟨hjl,⟨_,h6.app hxs hd1,by simp [cl],fun b ys e=>?_,fun b ys e a=>?_⟩,_,rfl⟩
         · rw [List.getElem?_set] at e
           by_cases z:k=b
           · rw [if_pos z,if_pos (by omega)] at e
             cases e
             simp
             omega
           · rw [if_neg z] at e
             have:=cb b ys e
             omega
         · rw [List.take_add_one,hk]
           simp only [Option.toList_some,List.mem_append,List.mem_singleton]
           rw [List.getElem?_set] at e
           by_cases z:k=b
           · subst z
             rw [if_pos rfl,if_pos (by omega)] at e
             cases e
             rw [List.mem_append,cm k xs hxs a,List.mem_singleton]
             constructor
             · rintro ((h | h) | h)
               · exact .inl h
               · exact .inr ⟨h.1,.inl h.2⟩
               · exact .inr ⟨h,.inr rfl⟩
             · rintro (h | ⟨h,h' | h'⟩)
               · exact .inl (.inl h)
               · exact .inl (.inr ⟨h,h'⟩)
               · exact .inr h
           · rw [if_neg z] at e
             rw [cm b ys e a]
             constructor
             · rintro (h | h)
               · exact .inl h
               · exact .inr ⟨h.1,.inl h.2⟩
             · rintro (h | ⟨h,h' | h'⟩)
               · exact .inl h
               · exact .inr ⟨h,h'⟩
               · exact absurd h'.symm z
       · rintro σ H6 ⟨hj,⟨cs,h6,cl,cb,cm⟩,y3,rfl⟩
         rw [a08,List.take_length] at cm
         rw [a08] at cb
         refine ⟨hi',⟨cs,h6,cl,fun b xs e=>by have:=cb b xs e; omega,fun b xs e a=>?_⟩,_,_,_,rfl⟩
         rw [cm b xs e a]
         constructor
         · rintro (⟨h,h'⟩ | ⟨rfl,h'⟩)
           · exact ⟨by omega,h'⟩
           · exact ⟨by omega,h'⟩
         · rintro ⟨h,h'⟩
           by_cases z:a=i
           · exact .inr ⟨z,z ▸ h'⟩
           · exact .inl ⟨by omega,h'⟩
     · rintro σ H4 ⟨_,⟨cs,h4,cl,cb,cm⟩,y1,y2,y3,rfl⟩
       rw [ul] at cm
       walk_at "run"
       exact q f ls cs H4 h4 cl cm
def b50 (K:PySem.W.Frag):Sp:=fun vs H Q _=>∃ (a:Addr) (gs:List Nat),vs=[.ref a]∧H a=some (.lst (natsV gs))∧(∀ c∈gs,c<(mets gs).length)∧gs.length≤1000∧∀ f ls H',FL H H' f ls (memL gs (mets gs).length)→Q (.ref f) H'
theorem ap7 (T:Txt K mg t):FnOk P w K mg base CX0 2 t.a_members_of t.fd_members_of ["groups"] (b50 K):=by
 have G_firsts:=at0 (P:=P) (w:=w) (base:=base) T
 refine T.F_members_of.ok sc_members_of (fun vs H Q E h=>?_) (fun cdv A outer s H vs Q E hr h=>?_)
 · obtain ⟨a,gs,rfl,_⟩:=h
   rfl
 · obtain ⟨a,gs,rfl,ha,hg,hn,q⟩:=h
   refine ⟨_,(@a03 _ _ _ _ _ (b79 (i:=1) (Nt:=["number"]) (Nf:=[]) (caps:=[]) rfl (a83 (sc:=defScope a64) rfl rfl (by decide +kernel) (by decide +kernel) (by decide +kernel) rfl (by decide +kernel)) (a59 K (@a50 _ _ _ _ _ _ _ _ _ _ _ _ _ _ _ _ G_firsts (hr.mono (by omega)) rfl T.m_firsts T.F_firsts.kp T.b_firsts .nil a85 (@a00 _ _ _ _ _ (pv 0) (@a04 _) (by rfl)) (by decide) (by rfl) (by rfl))) (fun _ _ _ _ _=>(a38 (i:=0) (show (["number"]:List Str).Nodup by decide +kernel) rfl (by walk_at "o"))) (fun _ _ _ _ _=>(@a82 _)) (fun _ _ _ _ _=>(@a52 _ _ _ _ (@a04 _))) sc_members_of.nd rfl (by walk_at "o") rfl)
    (@a03 _ _ _ _ _ (@aa1 _ _ _ _ _ _ _ _ PassesOwn.never rfl (au5 K rfl T.z_enumerate (@a00 _ _ _ _ _ (pv 0) (@a04 _) (by rfl))) (ab2 K (n:=2) rfl (a54 (a38 (i:=2) sc_members_of.nd rfl (by walk_at "o")) (a54 (a38 (i:=3) sc_members_of.nd rfl (by walk_at "o")) (@ab0 _)))) (@a05 _ _ _ (@a67 _ _ _ _ (@aa7 _ K _ _ _ _ _ _ _ _ _ _ _ PySem.F.plainAttrs_list PySem.F.slot_list_append PySem.F.type_list_append a70 (@a29 _ _ _ _ _ _ _ (a07 K) (pv 1) (pv 3) (fun _ _=>rfl)) (@a00 _ _ _ _ _ (pv 2) (@a04 _) (by rfl)) (by rfl) (by rfl) (by rfl) (by rfl) (by rfl) (by rfl)) (by rfl))) (by intro _; rfl))
    (@a05 _ _ _ (@a41 _ _ _ _ (pv 1))))),?_⟩
   have sl:(1000000:Nat)≤sizeLine:=le_line (Nat.le_refl _)
   have hml:=ac7 gs
   walk_at "go"
   refine ⟨a,gs,rfl,SqL.of ha,by omega,fun pf H1 f1 s1 e1=>?_⟩
   generalize hF:(mets gs).map (fun x=>gs.idxOf x)=F at e1
   have lF:F.length=(mets gs).length:=by rw [← hF,List.length_map]
   clear hF
   walk_at "run"
   refine ⟨⟨_,SqL.of e1⟩,aa2 (xs:=natsV F) (by rw [a08]; omega) (fun i acc H'=>i≤F.length∧Same H1 H'∧∃ ls:List Addr,acc=ls.map .ref∧ls.length=i∧ls.Nodup∧(∀ d∈ls,H d=none)∧∀ d∈ls,H' d=some (.lst [])) ⟨Nat.zero_le _,Same.refl _,[],rfl,rfl,List.nodup_nil,by simp,by simp⟩ (fun i acc H' ⟨_,s',ls,e,el,_⟩=>⟨by rw [e,List.length_map]; omega,SqL.of (s' _ _ e1)⟩) ?_ ?_⟩
   · rintro i v acc H2 hv ⟨hi,s2,ls,rfl,el,hnd,hf,he⟩
     walk_at "run"
     intro p3 H3 f3 s3 e3
     refine ⟨by have:=(List.getElem?_eq_some_iff.mp hv).1; rw [a08] at this; exact this,s2.trans s3,ls++[p3],by simp,by simp [el],aa6 hnd fun z=>(by rw [he p3 z] at f3; cases f3),fun d hd=>?_,fun d hd=>?_⟩
     · rcases List.mem_append.mp hd with hd | hd
       · exact hf d hd
       · rw [List.mem_singleton.mp hd]; exact (s1.trans s2).free f3
     · rcases List.mem_append.mp hd with hd | hd
       · exact s3 _ _ (he d hd)
       · rw [List.mem_singleton.mp hd]; exact e3
   · rintro acc H2 ⟨_,s2,ls,rfl,el,hnd,hf,he⟩ f H3 f3 s3 e3
     have hFL:=empties (acc:=[]) (s1.trans s2) hnd hf he f3 s3 e3
     rw [a08,lF] at el
     clear he hnd hf
     walk_at "run"
     have e0:ls.map (fun _=>([]:List Nat))=memL (gs.take 0) (mets gs).length:=by
      unfold memL
      rw [← el]
      refine List.ext_getElem? fun j=>?_
      simp only [List.getElem?_map,List.take_zero,List.length_nil,List.range_zero,List.filter_nil]
      by_cases hj:j<ls.length
      · rw [List.getElem?_range hj,List.getElem?_eq_getElem hj]; rfl
      · rw [List.getElem?_eq_none (by omega),List.getElem?_eq_none (by simp; omega)]
     rw [e0] at hFL
     refine ⟨⟨_,SqL.of (hFL.b _ _ ha)⟩,ao8 (K:=K) (a:=a) (xs:=natsV gs) (fun i σ H'=>i≤gs.length∧FL H H' f ls (memL (gs.take i) (mets gs).length)∧∃ y1 y2,σ=[some (.ref a),some (.ref f),y1,y2]) ⟨Nat.zero_le _,hFL,_,_,rfl⟩ (fun i σ H' _ ⟨_,h',_⟩=>SqL.of (h'.b _ _ ha)) ?_ ?_⟩
     · rintro i v σ H4 pq H5 hv ⟨hi,h4,y1,y2,rfl⟩ s5 e5
       obtain ⟨c,hc,rfl⟩:=a96 hv
       have hi':=(List.getElem?_eq_some_iff.mp hc).1
       have hck:=hg c (List.mem_of_getElem? hc)
       have h5:=h4.same s5
       have hxs:(memL (gs.take i) (mets gs).length)[c]?=some ((List.range i).filter fun a=>decide ((gs.take i)[a]?=some c)):=by
        unfold memL
        rw [List.getElem?_map,List.getElem?_range hck]
        simp only [Option.map_some]
        rw [show (gs.take i).length=i by simp; omega]
       obtain ⟨d,hd1,hd2,hd3⟩:=h5.get hxs
       have hlen:((List.range i).filter fun a=>decide ((gs.take i)[a]?=some c)).length≤i:=by
        have:=List.length_filter_le (fun a=>decide ((gs.take i)[a]?=some c)) (List.range i)
        simpa using this
       refine ⟨_,_,rfl,SqT.of e5,rfl,?_⟩
       walk_at "run"
       refine a49 (SqL.of h5.e) (a02 hd2) ?_
       walk_at "run"
       refine ab3 (SqL.of hd3) ?_
       walk_at "run"
       refine a84 hd3 (by rw [a08]; omega) ?_
       rw [a53]
       refine ⟨hi',?_,_,_,rfl⟩
       rw [bb9 hc hck]
       exact h5.app hxs hd1
     · rintro σ H4 ⟨_,h4,y1,y2,rfl⟩
       rw [a08,List.take_length] at h4
       walk_at "run"
       exact q f ls H4 h4
theorem aw3 {n j:Nat}(h:j<n):ixN n (j:Nat)=some j:=by
 unfold ixN
 rw [if_pos (by omega),if_pos (by omega)]
 simp
def bz9 (C:Addr):Sp:=fun vs H Q _=>∃ (H0:Hp) (x:GA) (nw ns:Nat→List Nat) (n:Nat) (gs:List Nat) (ms ts:List (List Nat)) (qs:List Nat) (a:Nat),vs=[.ref x.p,.int (a:Nat)]∧GrAt C H0 H x nw ns n gs ms ts qs∧a<n∧(nw a).length≤100∧(∀ k∈nw a,k<gs.length) ∧
 ∀ l H',H l=none→Same H H'→H' l=some (.tup (natsV ((nw a).map fun k=>gs.getD k 0)))→Q (.ref l) H'
theorem ad2 (T:Txt K mg t):FnOk P w K mg base CX0 1 t.a_Grouping_led_groups t.fd_Grouping_led_groups ["self","thing"] (bz9 t.c_Grouping):=by
 refine T.F_Grouping_led_groups.ok ad1 (fun vs H Q E h=>?_) (fun cdv A outer s H vs Q E hr h=>?_)
 · obtain ⟨H0,x,nw,ns,n,gs,ms,ts,qs,a,rfl,_⟩:=h
   rfl
 · obtain ⟨H0,x,nw,ns,n,gs,ms,ts,qs,a,rfl,hG,ha,hl,hk,q⟩:=h
   refine ⟨_,(@a05 _ _ _ (@a41 _ _ _ _ (@a78 _ _ _ _ _ _ _ _ _ (ad3 K) (by rfl) T.z_tuple ae1 (@a00 _ _ _ _ _ (ae4 (Nt:=["way"]) (Nf:=["self"]) (caps:=[0]) rfl (a83 (sc:=defScope a39) rfl rfl (by decide +kernel) (by decide +kernel) (by decide +kernel) rfl (by decide +kernel)) (a59 K (@a29 _ _ _ _ _ _ _ (a07 K) (a76 K (pv 0) rfl) (pv 1) (fun _ _=>rfl))) (fun _ _ _ _ _=>(a38 (i:=0) (show (["way","self"]:List Str).Nodup by decide +kernel) rfl (by walk_at "o"))) (fun _ _ _ _ _=>(@a82 _)) (fun _ _ _ _ _=>(@a29 _ _ _ _ _ _ _ (a07 K) (a76 K (pv 1) rfl) (pv 0) (fun _ _=>rfl)))) (@a04 _) (by rfl)) (by decide) (by decide) (by rfl) (by rfl)))),?_⟩
   have sl:(1000000:Nat)≤sizeLine:=le_line (Nat.le_refl _)
   obtain ⟨us,w1,w2⟩:=hG.ww
   obtain ⟨pa,w3,w4⟩:=w2.2 a ha
   have w1:=(af0 w1).1
   have w4:=(af0 w4).1
   walk_at "go"
   refine ⟨x.p,_,x.dx,_,_,rfl,hG.o,T.cl_Grouping,T.n_Grouping_ways,bq2 x,?_⟩
   walk_at "run"
   refine a49 (SqL.of w1) (a02 w3) ?_
   refine ⟨_,rfl,⟨_,SqL.of w4⟩,aa2 (xs:=natsV (nw a)) (by rw [a08]; omega) (fun i acc H'=>H'=H∧i≤(nw a).length∧acc=natsV (((nw a).map fun k=>gs.getD k 0).take i)) ⟨rfl,Nat.zero_le _,rfl⟩ (fun i acc H' ⟨e,_,ea⟩=>⟨by rw [ea,a08]; simp; omega,e ▸ SqL.of w4⟩) ?_ ?_⟩
   · rintro i v acc H2 hv ⟨rfl,hi,rfl⟩
     obtain ⟨k,hk',rfl⟩:=a96 hv
     have hkl:=hk k (List.mem_of_getElem? hk')
     walk_at "run"
     refine ⟨x.p,_,x.dx,_,_,rfl,hG.o,T.cl_Grouping,T.n_Grouping_groups,ag9 x,?_⟩
     walk_at "run"
     refine a49 (SqL.of hG.gg) (a60 hkl) ?_
     refine ⟨rfl,(List.getElem?_eq_some_iff.mp hk').1,?_⟩
     rw [a53,List.take_add_one,List.getElem?_map,hk']
     rfl
   · rintro acc H2 ⟨rfl,_,rfl⟩ p3 H3 f3 s3 e3
     rw [a08,show ((nw a).map fun k=>gs.getD k 0).take (nw a).length=(nw a).map fun k=>gs.getD k 0 from List.take_of_length_le (by simp)] at e3
     walk_at "run"
     refine ag6 (SqL.of e3) ?_
     intro p4 H4 f4 s4 e4
     walk_at "run"
     exact q p4 H4 (s3.free f4) (s3.trans s4) e4
def b51 (C:Addr):Sp:=fun vs H Q _=>∃ (H0:Hp) (x:GA) (nw ns:Nat→List Nat) (n:Nat) (gs:List Nat) (ms ts:List (List Nat)) (qs:List Nat) (l:Addr) (xs:List Nat),vs=[.ref x.p,.ref l]∧GrAt C H0 H x nw ns n gs ms ts qs∧hds x.own H l=some (.lst (natsV xs))∧(∀ a∈xs,a<gs.length)∧ms.length≤1000∧ts.length≤1000 ∧
 ∀ H',GrAt C H0 H' x nw ns n (reg1 gs xs ms.length) (ms++[xs]) (ts++[[]]) qs→Q .non H'
theorem af8 (T:Txt K mg t):FnOk P w K mg base CX0 1 t.a_Grouping_regroup t.fd_Grouping_regroup ["self","things"] (b51 t.c_Grouping):=by
 refine T.F_Grouping_regroup.ok sc_Grouping_regroup (fun vs H Q E h=>?_) (fun cdv A outer s H vs Q E hr h=>?_)
 · obtain ⟨H0,x,nw,ns,n,gs,ms,ts,qs,l,xs,rfl,_⟩:=h
   rfl
 · obtain ⟨H0,x,nw,ns,n,gs,ms,ts,qs,l,xs,rfl,hG,hl,ha,hm,ht,q⟩:=h
   refine ⟨_,(@a03 _ _ _ _ _ (@aa1 _ _ _ _ _ _ _ _ PassesOwn.never rfl (a59 K (pv 1)) (a38 (i:=2) sc_Grouping_regroup.nd rfl (by walk_at "o")) (@a05 _ _ _ (@ag3 _ _ _ _ _ _ (@a77 _ _ _ _ _ _ _ _ _ (ab1 K) (by rfl) T.z_len ab6 (@a00 _ _ _ _ _ (a76 K (pv 0) rfl) (@a04 _) (by rfl)) (by decide) (by decide) (by rfl) (by rfl)) (ah8 (a76 K (pv 0) rfl) (pv 2) aa9) (by rfl) (by rfl) (by rfl))) (by intro _; rfl))
    (@a03 _ _ _ _ _ (@a67 _ _ _ _ (@aa7 _ K _ _ _ _ _ _ _ _ _ _ _ PySem.F.plainAttrs_list PySem.F.slot_list_append PySem.F.type_list_append a70 (a76 K (pv 0) rfl) (@a00 _ _ _ _ _ (pv 1) (@a04 _) (by rfl)) (by rfl) (by rfl) (by rfl) (by rfl) (by rfl) (by rfl)) (by rfl))
    (@a05 _ _ _ (@a67 _ _ _ _ (@aa7 _ K _ _ _ _ _ _ _ _ _ _ _ PySem.F.plainAttrs_list PySem.F.slot_list_append PySem.F.type_list_append a70 (a76 K (pv 0) rfl) (@a00 _ _ _ _ _ (@ay4 _ _) (@a04 _) (by rfl)) (by rfl) (by rfl) (by rfl) (by rfl) (by rfl) (by rfl)) (by rfl))))),?_⟩
   have sl:(1000000:Nat)≤sizeLine:=le_line (Nat.le_refl _)
   walk_at "go"
   refine ⟨⟨_,SqL.of (af0 hl).1⟩,ac1 (K:=K) (a:=l) (xs:=natsV xs) (fun i σ H'=>i≤xs.length∧GrAt t.c_Grouping H0 H' x nw ns n (reg1 gs (xs.take i) ms.length) ms ts qs∧hds x.own H' l=some (.lst (natsV xs))∧∃ y,σ=[some (.ref x.p),some (.ref l),y]) ⟨Nat.zero_le _,hG,hl,_,rfl⟩ (fun i σ H' _ ⟨_,_,h',_⟩=>SqL.of (af0 h').1) ?_ ?_⟩
   · rintro i v σ H2 hv ⟨hi,h2,hl2,y,rfl⟩
     obtain ⟨k,hk,rfl⟩:=a96 hv
     have hkl:=ha k (List.mem_of_getElem? hk)
     obtain ⟨us,m1,m2⟩:=h2.mm
     walk_at "run"
     refine ⟨x.p,_,x.dx,_,_,rfl,h2.o,T.cl_Grouping,T.n_Grouping_members,ae3 x,?_⟩
     walk_at "run"
     refine ae9 (SqL.of m1) ?_
     rw [m2.1]
     walk_at "run"
     refine ⟨x.p,_,x.dx,_,_,rfl,h2.o,T.cl_Grouping,T.n_Grouping_groups,ag9 x,?_⟩
     walk_at "run"
     refine ai0 h2.gg (j:=k) (aw3 (by rw [a08,ag8]; exact hkl)) ?_
     have e1:(natsV (reg1 gs (xs.take i) ms.length)).set k (.int (ms.length:Nat))=natsV (reg1 gs (xs.take (i+1)) ms.length):=by
      unfold natsV
      rw [List.take_add_one,hk]
      unfold reg1
      rw [Option.toList_some,List.foldl_append,List.foldl_cons,List.foldl_nil,List.map_set]
     rw [e1]
     exact ⟨(List.getElem?_eq_some_iff.mp hk).1,h2.updG,(KeepL.own x.mg).hd hl2,_,rfl⟩
   · rintro σ H2 ⟨_,h2,hl2,y,rfl⟩
     rw [a08,List.take_length] at h2
     obtain ⟨us,m1,m2⟩:=h2.mm
     walk_at "run"
     refine ⟨x.p,_,x.dx,_,_,rfl,h2.o,T.cl_Grouping,T.n_Grouping_members,ae3 x,?_⟩
     refine ab3 (SqL.of m1) ?_
     walk_at "run"
     refine a84 m1 (by rw [m2.1]; omega) ?_
     have h3:=h2.updM (us':=us++[.ref l]) (ms':=ms++[xs]) (m2.snoc ⟨l,rfl,hl2⟩)
     generalize upd H2 x.m (.lst (us++[.ref l]))=H3 at h3
     obtain ⟨ds,t1,t2,t3,t4⟩:=h3.tt
     walk_at "run"
     refine ⟨x.p,_,x.dx,_,_,rfl,h3.o,T.cl_Grouping,T.n_Grouping_touched,ac0 x,?_⟩
     refine ab3 (SqL.of t1) ?_
     walk_at "run"
     intro d H4 f4 s4 e4
     walk_at "run"
     have h4:=h3.same s4
     refine a84 (s4 _ _ t1) (by rw [List.length_map,t4.1]; omega) ?_
     have hdn:d∉ds:=fun z=>by
      obtain ⟨i,hi,rfl⟩:=List.mem_iff_getElem.mp z
      obtain ⟨kvs,e,_⟩:=t4.2 i _ _ (List.getElem?_eq_getElem hi) (List.getElem?_eq_getElem (by rw [← t4.1]; exact hi))
      rw [f4] at e
      cases e
     have h5:=h4.updT (ds':=ds++[d]) (ts':=ts++[[]]) (aa6 t2 hdn) (fun b hb=>by
      rcases List.mem_append.mp hb with hb | hb
      · exact t3 b hb
      · rw [List.mem_singleton.mp hb]; exact h3.b.free f4) ((t4.mono fun d y hy=>hy.same s4).snoc ⟨[],e4,rfl⟩)
     rw [List.map_append] at h5
     exact q _ h5
def bh9 (C:Addr):Sp:=fun vs H Q _=>∃ (H0:Hp) (x:GA) (nw ns:Nat→List Nat) (n:Nat) (gs:List Nat) (ms ts:List (List Nat)) (qs:List Nat) (a:Nat),vs=[.ref x.p,.int (a:Nat)]∧GrAt C H0 H x nw ns n gs ms ts qs∧a<n∧gs.length=n∧n≤1000∧ms.length≤1000∧(∀ s∈ns a,s<n)∧(∀ (b c:Nat),gs[b]?=some c→c<ms.length)∧TSt gs ms.length ts qs ∧
 ∀ H' ts' qs',GrAt C H0 H' x nw ns n gs ms ts' qs'→TSt gs ms.length ts' qs'→(∀ b,Tt gs ts' b↔Tt gs ts b∨b∈ns a)→Q .non H'
theorem ab4 (T:Txt K mg t):FnOk P w K mg base CX0 1 t.a_Grouping_touch_sources t.fd_Grouping_touch_sources ["self","thing"] (bh9 t.c_Grouping):=by
 refine T.F_Grouping_touch_sources.ok sc_Grouping_touch_sources (fun vs H Q E h=>?_) (fun cdv A outer s H vs Q E hr h=>?_)
 · obtain ⟨H0,x,nw,ns,n,gs,ms,ts,qs,a,rfl,_⟩:=h
   rfl
 · obtain ⟨H0,x,nw,ns,n,gs,ms,ts,qs,a,rfl,hG,ha,gl,hn,hm,hs,hk,hT,q⟩:=h
   refine ⟨_,(@a05 _ _ _ (@aa1 _ _ _ _ _ _ _ _ PassesOwn.never rfl (a59 K (@a29 _ _ _ _ _ _ _ (a07 K) (a76 K (pv 0) rfl) (pv 1) (fun _ _=>rfl))) (a38 (i:=2) sc_Grouping_touch_sources.nd rfl (by walk_at "o")) (@a03 _ _ _ _ _ (@a45 _ _ 3 _ _ _ _ sc_Grouping_touch_sources.nd rfl (by walk_at "o") (@a29 _ _ _ _ _ _ _ (a07 K) (a76 K (pv 0) rfl) (pv 2) (fun _ _=>rfl)) (by rfl) (by walk_at "o"))
    (@ab7 _ _ _ _ _ (@a68 _ _ _ _ _ _ _ _ (@a36 _ _ _ _ _ _ _ _ a65 (@a77 _ _ _ _ _ _ _ _ _ bp5 (by rfl) T.z_len ab6 (@a00 _ _ _ _ _ (@a29 _ _ _ _ _ _ _ (a07 K) (a76 K (pv 0) rfl) (pv 3) (fun _ _=>rfl)) (@a04 _) (by rfl)) (by decide) (by decide) (by rfl) (by rfl)) (@a01 _ _ _ _) (nomark _)) (@a05 _ _ _ (@a67 _ _ _ _ (@aa7 _ K _ _ _ _ _ _ _ _ _ _ _ PySem.F.plainAttrs_list PySem.F.slot_list_append PySem.F.type_list_append a70 (a76 K (pv 0) rfl) (@a00 _ _ _ _ _ (pv 3) (@a04 _) (by rfl)) (by rfl) (by rfl) (by rfl) (by rfl) (by rfl) (by rfl)) (by rfl))) (@a40 _))
    (@a05 _ _ _ (bm7 (by exact bu6 hr) (@a29 _ _ _ _ _ _ _ (a07 K) (a76 K (pv 0) rfl) (pv 3) (fun _ _=>rfl)) (pv 2) (@aq7 _ _ _ _) rfl)))) (by intro _; rfl))),?_⟩
   have sl:(1000000:Nat)≤sizeLine:=le_line (Nat.le_refl _)
   obtain ⟨us,s1,s2⟩:=hG.ss
   obtain ⟨pa,s3,s4⟩:=s2.2 a ha
   walk_at "go"
   refine ⟨x.p,_,x.dx,_,_,rfl,hG.o,T.cl_Grouping,T.n_Grouping_sources,b39 x,?_⟩
   walk_at "run"
   refine a49 (SqL.of (af0 s1).1) (a02 s3) ?_
   walk_at "run"
   refine ⟨⟨_,SqL.of (af0 s4).1⟩,ac1 (K:=K) (a:=pa) (xs:=natsV (ns a)) (fun i σ H'=>i≤(ns a).length∧(∃ ts' qs',GrAt t.c_Grouping H0 H' x nw ns n gs ms ts' qs'∧TSt gs ms.length ts' qs'∧∀ b,Tt gs ts' b↔Tt gs ts b∨b∈(ns a).take i)∧hds x.own H' pa=some (.lst (natsV (ns a)))∧∃ y z,σ=[some (.ref x.p),some (.int (a:Nat)),y,z]) ⟨Nat.zero_le _,⟨ts,qs,hG,hT,by simp⟩,s4,_,_,rfl⟩ (fun i σ H' _ ⟨_,_,h',_⟩=>SqL.of (af0 h').1) ?_ ?_⟩
   · rintro i v σ H2 hv ⟨hi,⟨ts2,qs2,h2,hT2,hb2⟩,hl2,y,z,rfl⟩
     obtain ⟨k,hk',rfl⟩:=a96 hv
     have hkn:=hs k (List.mem_of_getElem? hk')
     obtain ⟨c,hc⟩:∃ c,gs[k]?=some c:=⟨_,List.getElem?_eq_getElem (by omega)⟩
     have hcm:=hk k c hc
     obtain ⟨xs,hx⟩:∃ xs,ts2[c]?=some xs:=⟨_,List.getElem?_eq_getElem (by rw [hT2.tl]; exact hcm)⟩
     have egk:=af6 hc
     have etc:ts2.getD c []=xs:=by simp [List.getD,hx]
     have hxl:xs.length≤1000:=by
      have:=pigeon n xs (hT2.tn c xs hx) fun b hb=>by
       have:=hT2.tg c xs hx b hb
       rw [← gl]
       exact (List.getElem?_eq_some_iff.mp this).1
      omega
     have hql:qs2.length≤ms.length:=pigeon _ _ hT2.qn hT2.ql
     obtain ⟨n1,n2⟩:=hT2.touch hc hcm
     walk_at "run"
     refine ⟨x.p,_,x.dx,_,_,rfl,h2.o,T.cl_Grouping,T.n_Grouping_groups,ag9 x,?_⟩
     walk_at "run"
     refine a49 (SqL.of h2.gg) (a60 (by omega)) ?_
     rw [egk]
     walk_at "run"
     refine al4 (fun σ' H'=>GrAt t.c_Grouping H0 H' x nw ns n gs ms ts2 (touQ gs ts2 qs2 k)∧hds x.own H' pa=some (.lst (natsV (ns a)))∧σ'=[some (.ref x.p),some (.int (a:Nat)),some (.int (k:Nat)),some (.int (c:Nat))]) ?_ ?_
     · obtain ⟨d,kvs,vs,u1,u2,u3,u4,_⟩:=h2.putT (a:=k) (v:=.bl true) hx
       walk_at "run"
       refine ⟨x.p,_,x.dx,_,_,rfl,h2.o,T.cl_Grouping,T.n_Grouping_touched,ac0 x,?_⟩
       walk_at "run"
       refine a49 (SqL.of u1) (a02 u2) ?_
       walk_at "run"
       refine ⟨d,kvs,rfl,u3,?_⟩
       rw [u4]
       walk_at "run"
       by_cases hx0:xs=[]
       · refine a66 (by rw [hx0]; rfl) ?_
         walk_at "run"
         refine ⟨x.p,_,x.dx,_,_,rfl,h2.o,T.cl_Grouping,T.n_Grouping_waiting,ah5 x,?_⟩
         refine ab3 (SqL.of h2.qq) ?_
         walk_at "run"
         refine a84 h2.qq (by rw [a08]; omega) ?_
         rw [a53]
         refine ⟨?_,(KeepL.own x.mq).hd hl2,rfl⟩
         unfold touQ
         rw [egk,etc,if_pos hx0]
         exact h2.updQ
       · refine a34 (fun z=>hx0 (List.length_eq_zero_iff.mp (by omega))) ?_
         walk_at "run"
         refine ⟨?_,hl2,rfl⟩
         unfold touQ
         rw [egk,etc,if_neg hx0]
         exact h2
     · rintro σ3 H3 ⟨h3,hl3,rfl⟩
       obtain ⟨d,kvs,vs,u1,u2,u3,u4,u5⟩:=h3.putT (a:=k) (v:=.bl true) hx
       walk_at "run"
       refine ⟨x.p,_,x.dx,_,_,rfl,h3.o,T.cl_Grouping,T.n_Grouping_touched,ac0 x,?_⟩
       walk_at "run"
       refine a49 (SqL.of u1) (a02 u2) ?_
       walk_at "run"
       refine ⟨d,_,rfl,DPut.k (k:=Sum.inl ((k:Nat):Int)) u3 (by omega),?_⟩
       walk_at "run"
       have e1:touT gs ts2 k=ts2.set c (addN xs k):=by
        unfold touT
        rw [egk,etc]
       rw [← e1] at u5
       refine ⟨(List.getElem?_eq_some_iff.mp hk').1,⟨_,_,u5,n1,fun b=>?_⟩,(KeepL.dic u3).hd hl3,_,_,rfl⟩
       rw [n2,hb2,List.take_add_one,hk',Option.toList_some,List.mem_append,List.mem_singleton,or_assoc]
   · rintro σ H2 ⟨hi,⟨ts2,qs2,h2,hT2,hb2⟩,hl2,y,z,rfl⟩
     rw [a08,List.take_length] at hb2
     exact q H2 ts2 qs2 h2 hT2 hb2
def bi0 (K:PySem.W.Frag) (C:Addr):Sp:=fun vs H Q _=>∃ (H0:Hp) (x:GA) (nw ns:Nat→List Nat) (n:Nat) (gs:List Nat) (ms ts:List (List Nat)) (qs:List Nat) (c:Nat),vs=[.ref x.p,.int (c:Nat)]∧GrAt C H0 H x nw ns n gs ms ts qs∧GSt n gs ms ts (qs++[c])∧n≤60∧(∀ a,a<n→(nw a).length≤100∧∀ k∈nw a,k<n) ∧
 (∀ a b,gs[a]?=some c→gs[b]?=some c→¬ Tt gs ts a→¬ Tt gs ts b→(nw a).map (fun k=>gs.getD k 0)=(nw b).map fun k=>gs.getD k 0) ∧
 ∀ (l:Addr) (ls:List (Addr×List Nat)) H',H l=none→(∀ y∈ls,H y.1=none)→H' l=some (.lst (ls.map fun y=>.ref y.1))→(∀ y∈ls,H' y.1=some (.lst (natsV y.2)))→PartsOf gs (fun a=>(nw a).map fun k=>gs.getD k 0) c (ls.map (·.2))→GrAt C H0 H' x nw ns n gs ms (ts.set c []) qs→Q (.ref l) H'
theorem ae6 (T:Txt K mg t):FnOk P w K mg base CX0 2 t.a_Grouping_parts_of t.fd_Grouping_parts_of ["self","group"] (bi0 K t.c_Grouping):=by
 have G_Grouping_led_groups:=ad2 (P:=P) (w:=w) (base:=base) T
 refine T.F_Grouping_parts_of.ok sc_Grouping_parts_of (fun vs H Q E h=>?_) (fun cdv A outer s H vs Q E hr h=>?_)
 · obtain ⟨H0,x,nw,ns,n,gs,ms,ts,qs,c,rfl,_⟩:=h
   rfl
 · obtain ⟨H0,x,nw,ns,n,gs,ms,ts,qs,c,rfl,hG,hS,hn,hw,hled,q⟩:=h
   refine ⟨_,(@a03 _ _ _ _ _ (@a45 _ _ 2 _ _ _ _ sc_Grouping_parts_of.nd rfl (by walk_at "o") (@a29 _ _ _ _ _ _ _ (a07 K) (a76 K (pv 0) rfl) (pv 1) (fun _ _=>rfl)) (by rfl) (by walk_at "o"))
    (@a03 _ _ _ _ _ (@ag3 _ _ _ _ _ _ (@ay4 _ _) (ah8 (a76 K (pv 0) rfl) (pv 1) aa9) (by rfl) (by rfl) (by rfl))
    (@a03 _ _ _ _ _ (b79 (i:=3) (Nt:=["thing"]) (Nf:=["touched"]) (caps:=[2]) rfl (a83 (sc:=defScope a43) rfl rfl (by decide +kernel) (by decide +kernel) (by decide +kernel) rfl (by decide +kernel)) (a59 K (@a29 _ _ _ _ _ _ _ (a07 K) (a76 K (pv 0) rfl) (pv 1) (fun _ _=>rfl))) (fun _ _ _ _ _=>(a38 (i:=0) (show (["thing","touched"]:List Str).Nodup by decide +kernel) rfl (by walk_at "o"))) (fun _ _ _ _ _=>(@b78 _ _ _ (bs9 (b77 (by exact bu6 hr) (pv 0) (pv 1))))) (fun _ _ _ _ _=>(pv 0)) sc_Grouping_parts_of.nd rfl (by walk_at "o") rfl)
    (@a03 _ _ _ _ _ (@a45 _ _ 4 _ _ _ _ sc_Grouping_parts_of.nd rfl (by walk_at "o") (av5 w.params) (by rfl) (by walk_at "o"))
    (@a03 _ _ _ _ _ (@aa1 _ _ _ _ _ _ _ _ PassesOwn.never rfl (c50 (pv 2)) (a38 (i:=5) sc_Grouping_parts_of.nd rfl (by walk_at "o")) (@a05 _ _ _ (@a67 _ _ _ _ (@aa7 _ K _ _ _ _ _ _ _ _ _ _ _ PySem.F.plainAttrs_list PySem.F.slot_list_append PySem.F.type_list_append a70 (ao7 (P:=w.params) rfl (by exact hr.units) (pv 4) (ah2 (pv 0) T.cl_Grouping T.M_Grouping_led_groups G_Grouping_led_groups (hr.mono (by omega)) T.b_Grouping_led_groups .nil a85 (@a00 _ _ _ _ _ (pv 5) (@a04 _) (by rfl))) (@a52 _ _ _ _ (@a04 _)) ⟨by rfl,by rfl,by rfl,by rfl⟩) (@a00 _ _ _ _ _ (pv 5) (@a04 _) (by rfl)) (by rfl) (by rfl) (by rfl) (by rfl) (by rfl) (by rfl)) (by rfl))) (by intro _; rfl))
    (@ab7 _ _ _ _ _ (@a68 _ _ _ _ _ _ _ _ (@a36 _ _ _ _ _ _ _ _ b62 (@a77 _ _ _ _ _ _ _ _ _ (ab1 K) (by rfl) T.z_len ab6 (@a00 _ _ _ _ _ (pv 3) (@a04 _) (by rfl)) (by decide) (by decide) (by rfl) (by rfl)) (@a01 _ _ _ _) (nomark _)) (@a05 _ _ _ (@a67 _ _ _ _ (@aa7 _ K _ _ _ _ _ _ _ _ _ _ _ PySem.F.plainAttrs_list PySem.F.slot_list_extend PySem.F.type_list_extend b70 (ao7 (P:=w.params) rfl (by exact hr.units) (pv 4) (ah2 (pv 0) T.cl_Grouping T.M_Grouping_led_groups G_Grouping_led_groups (hr.mono (by omega)) T.b_Grouping_led_groups .nil a85 (@a00 _ _ _ _ _ (@a29 _ _ _ _ _ _ _ (a07 K) (pv 3) (@a01 _ _ _ _) (fun _ _=>rfl)) (@a04 _) (by rfl))) (@a52 _ _ _ _ (@a04 _)) ⟨by rfl,by rfl,by rfl,by rfl⟩) (@a00 _ _ _ _ _ (pv 3) (@a04 _) (by rfl)) (by rfl) (by rfl) (by rfl) (by rfl) (by rfl) (by rfl)) (by rfl))) (@a40 _))
    (@a05 _ _ _ (@a41 _ _ _ _ (@a78 _ _ _ _ _ _ _ _ _ (ay7 (P:=w.params) rfl rfl) (by rfl) T.z_list af3 (@a00 _ _ _ _ _ (ay6 (P:=w.params) rfl (pv 4)) (@a04 _) (by rfl)) (by decide) (by decide) (by rfl) (by rfl)))))))))),?_⟩
   have sl:(1000000:Nat)≤sizeLine:=le_line (Nat.le_refl _)
   obtain ⟨led,hled0⟩:∃ led:Nat→List Nat,led=fun a=>(nw a).map fun k=>gs.getD k 0:=⟨_,rfl⟩
   rw [← hled0] at q
   have gl:=hS.gl
   have hck:c<ms.length:=hS.ts.ql c (by simp)
   obtain ⟨xs,hx⟩:∃ xs,ts[c]?=some xs:=⟨_,List.getElem?_eq_getElem (by rw [hS.ts.tl]; exact hck)⟩
   obtain ⟨M,hM⟩:∃ M,ms[c]?=some M:=⟨_,List.getElem?_eq_getElem hck⟩
   obtain ⟨Mn,M0,Mm⟩:=hS.me c M hM
   have lt_of:∀ a,gs[a]?=some c→a<n:=fun a e=>by rw [← gl]; exact (List.getElem?_eq_some_iff.mp e).1
   have xn:=hS.ts.tn c xs hx
   have xg:=hS.ts.tg c xs hx
   have xl:xs.length≤n:=pigeon n xs xn fun a ha=>lt_of a (xg a ha)
   have Ml:M.length≤n:=pigeon n M Mn fun a ha=>lt_of a ((Mm a).mp ha)
   obtain ⟨ds,t1,t2,t3,t4⟩:=hG.tt
   obtain ⟨d,hd,hdT⟩:=t4.get hx
   have dm:=List.mem_of_getElem? hd
   have dsl:ds.length=ms.length:=by rw [t4.1,hS.ts.tl]
   walk_at "go"
   refine ⟨x.p,_,x.dx,_,_,rfl,hG.o,T.cl_Grouping,T.n_Grouping_touched,ac0 x,?_⟩
   walk_at "run"
   refine a49 (SqL.of t1) (a02 (by rw [List.getElem?_map,hd]; rfl)) ?_
   walk_at "run"
   intro d1 H1 f1 s1 e1
   walk_at "run"
   have hG1:=hG.same s1
   refine ⟨x.p,_,x.dx,_,_,rfl,hG1.o,T.cl_Grouping,T.n_Grouping_touched,ac0 x,?_⟩
   walk_at "run"
   refine ai0 (s1 _ _ t1) (j:=c) (aw3 (by rw [List.length_map]; omega)) ?_
   have hd1n:d1∉ds:=fun z=>by
    obtain ⟨i,hi,rfl⟩:=List.mem_iff_getElem.mp z
    obtain ⟨kvs,e,_⟩:=t4.2 i _ _ (List.getElem?_eq_getElem hi) (List.getElem?_eq_getElem (by rw [← t4.1]; exact hi))
    rw [f1] at e
    cases e
   have hG2:=hG1.updT (ds':=ds.set c d1) (ts':=ts.set c []) (bz7 t2 hd1n) (fun b hb=>by
    rcases List.mem_or_eq_of_mem_set hb with hb | rfl
    · exact t3 b hb
    · exact hG.b.free f1) (az3 (t4.mono fun d y hy=>hy.same s1) ⟨[],e1,rfl⟩)
   have e2:(ds.map V.ref).set c (.ref d1)=(ds.set c d1).map V.ref:=by rw [List.map_set]
   rw [e2]
   have hdT2:TouAt (upd H1 x.t (.lst ((ds.set c d1).map .ref))) d xs:=(hdT.same s1).lst (s1 _ _ t1)
   have et2:upd H1 x.t (.lst ((ds.set c d1).map .ref)) x.t=some (.lst ((ds.set c d1).map .ref)):=a27
   have hfree2:∀ {b:Addr},upd H1 x.t (.lst ((ds.set c d1).map .ref)) b=none→H b=none:=fun {b} e=>s1.free (by
    by_cases z:b=x.t
    · rw [z,a27] at e; cases e
    · rw [a06 z] at e; exact e)
   generalize upd H1 x.t (.lst ((ds.set c d1).map .ref))=H2 at hG2 hdT2 et2 hfree2
   have hdn:V.ref d∉(ds.set c d1).map V.ref:=fun z=>by
    obtain ⟨b,hb,e⟩:=List.mem_map.mp z
    cases e
    obtain ⟨i,hi,e⟩:=List.mem_iff_getElem.mp hb
    rw [List.length_set] at hi
    rw [List.getElem_set] at e
    by_cases z:c=i
    · rw [if_pos z] at e
      exact hd1n (e ▸ dm)
    · rw [if_neg z] at e
      obtain ⟨l2,g2⟩:=List.getElem?_eq_some_iff.mp hd
      have pw:=List.pairwise_iff_getElem.mp t2
      rcases Nat.lt_or_gt_of_ne z with q | q
      · exact pw c i l2 hi q (g2.trans e.symm)
      · exact pw i c hi l2 q (e.trans g2.symm)
   obtain ⟨us,m1,m2⟩:=hG2.mm
   obtain ⟨v,hv,pm,rfl,m3⟩:=m2.get hM
   obtain ⟨kvs,k1,k2,k3⟩:=hdT2.len
   walk_at "run"
   refine ⟨x.p,_,x.dx,_,_,rfl,hG2.o,T.cl_Grouping,T.n_Grouping_members,ae3 x,?_⟩
   walk_at "run"
   refine a49 (SqL.of m1) (a02 hv) ?_
   refine ⟨_,rfl,⟨_,SqL.of (af0 m3).1⟩,aa2 (xs:=natsV M) (by rw [a08]; omega) (fun i acc H'=>H'=H2∧i≤M.length∧acc=natsV ((M.take i).filter fun a=>decide (a∉xs))) ⟨rfl,Nat.zero_le _,rfl⟩ (fun i acc H' ⟨e,_,ea⟩=>⟨by
    rw [ea,a08]
    have:=List.length_filter_le (fun a=>decide (a∉xs)) (M.take i)
    simp at this ⊢
    omega,e ▸ SqL.of (af0 m3).1⟩) ?_ ?_⟩
   · rintro i v acc H3 hv ⟨rfl,hi,rfl⟩
     obtain ⟨a,ha,rfl⟩:=a96 hv
     have hi':=(List.getElem?_eq_some_iff.mp ha).1
     walk_at "run"
     refine ⟨d,_,rfl,DGet.k (k:=Sum.inl ((a:Nat):Int)) k1,?_⟩
     rw [bb6 k3]
     rw [List.take_add_one,ha,Option.toList_some,List.filter_append]
     by_cases hax:a∈xs
     · refine ⟨false,by simp [hax],?_⟩
       refine bx0 ?_
       exact ⟨rfl,hi',by simp [hax]⟩
     · refine ⟨true,by simp [hax],?_⟩
       refine bw9 ?_
       walk_at "run"
       refine ⟨rfl,hi',?_⟩
       rw [a53]
       simp [hax]
   · rintro acc H3 ⟨rfl,_,rfl⟩
     rw [a08,List.take_length]
     obtain ⟨R,hR⟩:∃ R,R=M.filter fun a=>decide (a∉xs):=⟨_,rfl⟩
     rw [← hR]
     have Rm:∀ a,a∈R↔a∈M∧a∉xs:=fun a=>by rw [hR,List.mem_filter,decide_eq_true_iff]
     have Rn:R.Nodup:=by rw [hR]; exact List.Pairwise.filter _ Mn
     have Rl:R.length≤n:=pigeon n R Rn fun a ha=>lt_of a ((Mm a).mp ((Rm a).mp ha).1)
     clear hR
     intro pr H4 f4 s4 e4
     walk_at "run"
     intro pd o fd hD
     walk_at "run"
     have k4:=s4 _ _ k1
     have hdp:pd≠d:=(a30 k4 fd).symm
     refine ⟨d,kvs,rfl,by rw [a06 hdp.symm]; exact k4,fun o2 H5 hH5=>?_⟩
     have hGB:=(hG2.same s4).frz (o:=.ext (frkP d o2)) k4 (t3 d dm) (s4 _ _ et2) hdn
     have sB:Same (upd H4 d (.ext (frkP d o2))) H5:=fun b u e=>by
      rw [hH5]
      by_cases z:b=d
      · rw [z,a27] at e ⊢; exact e
      · rw [a06 z] at e ⊢
        rw [a06 (a30 e fd)]
        exact e
     have bpd:upd H4 d (.ext (frkP d o2)) pd=none:=by rw [a06 hdp]; exact fd
     have bpr:upd H4 d (.ext (frkP d o2)) pr=some (.lst (natsV R)):=by rw [a06 (ad0 e4 k4 (fun z=>nomatch z))]; exact e4
     have bd:upd H4 d (.ext (frkP d o2)) d=some (.ext (frkP d o2)):=a27
     have bfree:∀ {b:Addr},upd H4 d (.ext (frkP d o2)) b=none→H b=none:=fun {b} e=>hfree2 (s4.free (by
      by_cases z:b=d
      · rw [z,a27] at e; cases e
      · rw [a06 z] at e; exact e))
     have hD5:DtAt w.params H5 pd (csD []):=by
      rw [hH5]
      exact hD.mono (b90 (by rw [a06 hdp.symm]; exact k4)) (a06 hdp)
     generalize upd H4 d (.ext (frkP d o2))=B at hGB sB bpd bpr bd bfree
     clear hH5 hD
     have key:∀ a,a<n→(nw a).map (fun k=>gs.getD k 0)=led a:=fun a _=>by rw [hled0]
     obtain ⟨Pv,hPv⟩:∃ Pv:Nat→St→Hp→Prop,Pv=(fun i σ H'=>i≤xs.length∧Same B H'∧(∃ cs,DtAt w.params H' pd (csD cs)∧CH B H' cs∧CI led cs (xs.take i))∧∃ y,σ=[some (.ref x.p),some (.int (c:Nat)),some (.ref d),some (.ref pr),some (.ref pd),y]):=⟨_,rfl⟩
     refine bz6 Pv (by rw [hPv]; exact ⟨Nat.zero_le _,sB,⟨[],hD5,fun y hy=>absurd hy (by simp),by simpa using CI.nil⟩,_,rfl⟩) (fun i σ H' _ h'=>by rw [hPv] at h'; exact h'.2.1 _ _ bd) ?_ ?_
     · intro i k σ H6 hk hI
       rw [hPv] at hI
       obtain ⟨hi,s6,⟨cs,hD6,hC6,hI6⟩,y,rfl⟩:=hI
       rw [k3,List.getElem?_map] at hk
       obtain ⟨a,ha,rfl⟩:=Option.map_eq_some_iff.mp hk
       have hi':=(List.getElem?_eq_some_iff.mp ha).1
       have han:=lt_of a (xg a (List.mem_of_getElem? ha))
       have hG6:=hGB.same s6
       have hfew:=hI6.few
       have htl:(xs.take i).length≤60:=by simp; omega
       have htk:xs.take (i+1)=xs.take i++[a]:=by rw [List.take_add_one,ha]; rfl
       show gName 5 (V.int ((a:Nat):Int)) _ _ _
       walk_at "run"
       refine ⟨pd,_,rfl,hD6,?_⟩
       walk_at "run"
       refine ⟨x.p,x.dx,_,rfl,hG6.o,b40 x (by decide +kernel),?_⟩
       walk_at "run"
       refine ⟨H0,x,nw,ns,n,gs,ms,_,qs,a,rfl,hG6,han,(hw a han).1,(fun k hk=>by rw [gl]; exact (hw a han).2 k hk),fun l7 H7 f7 s7 e7=>?_⟩
       rw [key a han] at e7
       walk_at "run"
       intro pn H8 f8 s8 e8
       have s68:=s7.trans s8
       have hD8:=aj5 hD6 s68
       have hC8:=hC6.same s68
       have sB8:=s6.trans s68
       obtain ⟨φ8,hpd8,_⟩:=hD8.ext'
       refine ⟨_,keyT (led a),hD8,bc0 (s8 _ _ e7),by unfold csD; rw [List.length_map]; omega,fun v hv=>?_,fun hv o' hD'=>?_⟩
       · rcases ak1 (l:=led a) (cs:=cs) with ⟨z,_⟩ | ⟨j,y,hy,hyk,hyv⟩
         · rw [z] at hv; cases hv
         · rw [hyv] at hv
           cases hv
           obtain ⟨b1,b2⟩:=hC8 y (List.mem_of_getElem? hy)
           have hyl:=hfew.2 y (List.mem_of_getElem? hy)
           refine ab3 (SqL.of b2) ?_
           walk_at "run"
           refine a84 b2 (by rw [a08]; omega) ?_
           rw [a53,hPv]
           refine ⟨hi',sB8.updNew b1,⟨_,?_,hC8.old hI6.an hy,?_⟩,_,rfl⟩
           · rw [bc1 hy]
             exact hD8.mono (Tups.upd b2) (a06 (ad0 hpd8 b2 (fun z=>nomatch z)))
           · rw [htk]
             exact hI6.old hy fun b hb=>by rw [List.mem_singleton.mp hb,hyk]
       · have hnk:led a∉cs.map (·.1):=by
          rcases ak1 (l:=led a) (cs:=cs) with ⟨_,z⟩ | ⟨j,y,hy,hyk,hyv⟩
          · exact z
          · rw [hyv] at hv; cases hv
         have npd:pn≠pd:=(a30 ((s7 _ _ (hD6.ext'.choose_spec.1))) f8).symm
         have e9:upd H8 pd o' pn=some (.lst (natsV [])):=by rw [a06 npd]; exact e8
         refine ab3 (SqL.of e9) ?_
         walk_at "run"
         refine a84 e9 (by rw [a08]; simp; omega) ?_
         rw [a53,hPv]
         have bpn:B pn=none:=(s6.trans s7).free f8
         refine ⟨hi',(sB8.updNew bpd).updNew bpn,⟨cs++[(led a,pn,[a])],?_,fun y hy=>?_,?_⟩,_,rfl⟩
         · have:=hD'.mono (Tups.upd (o:=.lst (natsV ([]++[a]))) e9) (a06 npd.symm)
           unfold csD at this ⊢
           rw [List.map_append]
           exact this
         · rcases List.mem_append.mp hy with hy | hy
           · obtain ⟨b1,b2⟩:=hC8 y hy
             have z1:y.2.1≠pn:=a30 ((hC6.same s7) y hy).2 f8
             refine ⟨b1,?_⟩
             rw [a06 z1,a06 (ad0 b2 hpd8 (fun z=>nomatch z))]
             exact b2
           · rw [List.mem_singleton.mp hy]
             exact ⟨bpn,a27⟩
         · rw [htk]
           exact hI6.new hnk ((hC6.same s7).no f8) (by simp) fun b hb=>by rw [List.mem_singleton.mp hb]
     · intro σ H6 hI
       rw [hPv] at hI
       obtain ⟨_,s6,⟨cs,hD6,hC6,hI6⟩,y,rfl⟩:=hI
       rw [show (kvs.map (·.1)).length=xs.length by rw [List.length_map]; exact k2,List.take_length] at hI6
       have hG6:=hGB.same s6
       have hfew:=hI6.few
       have unt:∀ b∈R,gs[b]?=some c∧¬ Tt gs ts b:=fun b hb=>by
        obtain ⟨z1,z2⟩:=(Rm b).mp hb
        have hg:=(Mm b).mp z1
        refine ⟨hg,fun ⟨c',xs',g1,g2,g3⟩=>z2 ?_⟩
        rw [hg] at g1
        cases g1
        rw [hx] at g2
        cases g2
        exact g3
       walk_at "run"
       refine al4 (fun σ' H'=>Same B H'∧(∃ cs,DtAt w.params H' pd (csD cs)∧CH B H' cs∧CI led cs (xs++R))∧∃ y,σ'=[some (.ref x.p),some (.int (c:Nat)),some (.ref d),some (.ref pr),some (.ref pd),y]) ?_ ?_
       · walk_at "run"
         refine ae9 (SqL.of (s6 _ _ bpr)) ?_
         rw [a08]
         walk_at "run"
         refine ite2 (fun hc=>?_) (fun hc=>?_)
         · have hR0:0<R.length:=by have:=of_decide_eq_true hc; omega
           obtain ⟨r0,hr0⟩:∃ r0,R[0]?=some r0:=⟨_,List.getElem?_eq_getElem hR0⟩
           have hr0m:=List.mem_of_getElem? hr0
           have han:=lt_of r0 (unt r0 hr0m).1
           walk_at "run"
           refine ⟨pd,_,rfl,hD6,?_⟩
           walk_at "run"
           refine ⟨x.p,x.dx,_,rfl,hG6.o,b40 x (by decide +kernel),?_⟩
           walk_at "run"
           refine a49 (SqL.of (s6 _ _ bpr)) (a02 (j:=0) (by unfold natsV; rw [List.getElem?_map,hr0]; rfl)) ?_
           walk_at "run"
           refine ⟨H0,x,nw,ns,n,gs,ms,_,qs,r0,rfl,hG6,han,(hw r0 han).1,(fun k hk=>by rw [gl]; exact (hw r0 han).2 k hk),fun l7 H7 f7 s7 e7=>?_⟩
           rw [key r0 han] at e7
           walk_at "run"
           intro pn H8 f8 s8 e8
           have s68:=s7.trans s8
           have hD8:=aj5 hD6 s68
           have hC8:=hC6.same s68
           have sB8:=s6.trans s68
           have er8:=sB8 _ _ bpr
           have allR:∀ b∈R,led b=led r0:=fun b hb=>by
            have:=hled b r0 (unt b hb).1 (unt r0 hr0m).1 (unt b hb).2 (unt r0 hr0m).2
            rw [hled0]
            exact this
           obtain ⟨φ8,hpd8,_⟩:=hD8.ext'
           refine ⟨_,keyT (led r0),hD8,bc0 (s8 _ _ e7),by unfold csD; rw [List.length_map]; omega,fun v hv=>?_,fun hv o' hD'=>?_⟩
           · rcases ak1 (l:=led r0) (cs:=cs) with ⟨z,_⟩ | ⟨j,y,hy,hyk,hyv⟩
             · rw [z] at hv; cases hv
             · rw [hyv] at hv
               cases hv
               obtain ⟨b1,b2⟩:=hC8 y (List.mem_of_getElem? hy)
               have hyl:=hfew.2 y (List.mem_of_getElem? hy)
               refine ab3 (SqL.of b2) ?_
               walk_at "run"
               refine ax9 b2 er8 (by rw [a08,a08]; omega) ?_
               rw [show natsV y.2.2++natsV R=natsV (y.2.2++R) by unfold natsV; rw [List.map_append]]
               refine ⟨sB8.updNew b1,⟨_,?_,hC8.old hI6.an hy,hI6.old hy fun b hb=>by rw [allR b hb,hyk]⟩,_,rfl⟩
               rw [bc1 hy]
               exact hD8.mono (Tups.upd b2) (a06 (ad0 hpd8 b2 (fun z=>nomatch z)))
           · have hnk:led r0∉cs.map (·.1):=by
              rcases ak1 (l:=led r0) (cs:=cs) with ⟨_,z⟩ | ⟨j,y,hy,hyk,hyv⟩
              · exact z
              · rw [hyv] at hv; cases hv
             have npd:pn≠pd:=(a30 ((s7 _ _ (hD6.ext'.choose_spec.1))) f8).symm
             have e9:upd H8 pd o' pn=some (.lst (natsV [])):=by rw [a06 npd]; exact e8
             have er9:upd H8 pd o' pr=some (.lst (natsV R)):=by rw [a06 (ad0 er8 hpd8 (fun z=>nomatch z))]; exact er8
             refine ab3 (SqL.of e9) ?_
             walk_at "run"
             refine ax9 e9 er9 (by rw [a08,a08]; simp; omega) ?_
             have bpn:B pn=none:=(s6.trans s7).free f8
             refine ⟨(sB8.updNew bpd).updNew bpn,⟨cs++[(led r0,pn,R)],?_,fun y hy=>?_,hI6.new hnk ((hC6.same s7).no f8) (fun z=>by rw [z] at hr0m; cases hr0m) allR⟩,_,rfl⟩
             · have:=hD'.mono (Tups.upd (o:=.lst (natsV []++natsV R)) e9) (a06 npd.symm)
               unfold csD at this ⊢
               rw [List.map_append]
               exact this
             · rcases List.mem_append.mp hy with hy | hy
               · obtain ⟨b1,b2⟩:=hC8 y hy
                 have z1:y.2.1≠pn:=a30 ((hC6.same s7) y hy).2 f8
                 refine ⟨b1,?_⟩
                 rw [a06 z1,a06 (ad0 b2 hpd8 (fun z=>nomatch z))]
                 exact b2
               · rw [List.mem_singleton.mp hy]
                 exact ⟨bpn,a27⟩
         · have hR0:R=[]:=List.length_eq_zero_iff.mp (by
            refine Nat.eq_zero_of_not_pos fun z=>hc ?_
            exact decide_eq_true (by omega))
           walk_at "run"
           refine ⟨s6,⟨cs,hD6,hC6,?_⟩,_,rfl⟩
           rw [hR0,List.append_nil]
           exact hI6
       · rintro σ7 H7 ⟨s7,⟨cs,hD7,hC7,hI7⟩,y,rfl⟩
         walk_at "run"
         refine ⟨pd,_,rfl,hD7,fun p8 H8 f8 s8 e8=>?_⟩
         walk_at "run"
         refine ⟨p8,pd,_,rfl,e8,aj5 hD7 s8,?_⟩
         intro p9 H9 f9 s9 e9
         have s79:=s8.trans s9
         have hzn:(xs++R).Nodup:=List.nodup_append.mpr ⟨xn,Rn,fun a ha b hb z=>((Rm b).mp hb).2 (z ▸ ha)⟩
         have hzm:∀ a,a∈xs++R↔gs[a]?=some c:=fun a=>by
          rw [List.mem_append]
          constructor
          · rintro (z | z)
            · exact xg a z
            · exact (Mm a).mp ((Rm a).mp z).1
          · intro z
            by_cases w:a∈xs
            · exact .inl w
            · exact .inr ((Rm a).mpr ⟨(Mm a).mpr z,w⟩)
         refine q p9 (cs.map fun y=>(y.2.1,y.2.2)) H9 (bfree ((s7.trans s8).free f9)) (fun y hy=>?_) ?_ (fun y hy=>?_) ?_ ((hGB.same s7).same s79)
         · obtain ⟨z,hz,rfl⟩:=List.mem_map.mp hy
           exact bfree (hC7 z hz).1
         · rw [e9]
           unfold csD
           rw [List.map_map,List.map_map]
           rfl
         · obtain ⟨z,hz,rfl⟩:=List.mem_map.mp hy
           exact s79 _ _ (hC7 z hz).2
         · have:=hI7.parts hzn hzm
           rw [List.map_map]
           exact this
structure NwP {α:Type}(lab:Nat→α) (nw:Nat→List Nat) (w:Nat→Nat→Nat) (n many:Nat) (ar:Nat→Nat):Prop where
 nw:∀ a,a<n→nw a=(List.range (ar a)).map (w a)
 le:∀ a,a<n→ar a≤many
 pad:∀ a j,a<n→ar a≤j→w a j=a
 eq:∀ a b,a<n→b<n→lab a=lab b→ar a=ar b
theorem NwP.len {α:Type}{lab:Nat→α}{nw:Nat→List Nat}{w:Nat→Nat→Nat}{n many:Nat}{ar:Nat→Nat}(h:NwP lab nw w n many ar) {a:Nat}(ha:a<n):(nw a).length≤many:=by
 rw [h.nw a ha]
 simpa using h.le a ha
theorem NwP.mem {α:Type}{lab:Nat→α}{nw:Nat→List Nat}{w:Nat→Nat→Nat}{n many:Nat}{ar:Nat→Nat}(h:NwP lab nw w n many ar) {a k:Nat}(ha:a<n) (hk:k∈nw a):∃ j,j<many∧k=w a j:=by
 rw [h.nw a ha] at hk
 obtain ⟨j,hj,rfl⟩:=List.mem_map.mp hk
 have:=h.le a ha
 have:=List.mem_range.mp hj
 exact ⟨j,by omega,rfl⟩
theorem NwP.led {α:Type}{lab:Nat→α}{nw:Nat→List Nat}{w:Nat→Nat→Nat}{n many:Nat}{ar:Nat→Nat}(h:NwP lab nw w n many ar) {g:Nat→Nat}{a b:Nat}(ha:a<n) (hb:b<n) (hl:lab a=lab b) (hg:g a=g b):(nw a).map g=(nw b).map g↔∀ j,j<many→g (w a j)=g (w b j):=by
 have e:=h.eq a b ha hb hl
 have l1:=h.le a ha
 rw [h.nw a ha,h.nw b hb,List.map_map,List.map_map,←e]
 constructor
 · intro z j hj
   by_cases hja:j<ar a
   · exact List.map_inj_left.mp z j (List.mem_range.mpr hja)
   · rw [h.pad a j ha (by omega),h.pad b j hb (by omega)]
     exact hg
 · intro z
   exact List.map_inj_left.mpr fun j hj=>z j (by have:=List.mem_range.mp hj; omega)
def bq5 (K:PySem.W.Frag) (C:Addr):Sp:=fun vs H Q _=>∃ (α:Type) (lab:Nat→α) (w:Nat→Nat→Nat) (many:Nat) (ar:Nat→Nat) (H0:Hp) (x:GA) (nw ns:Nat→List Nat) (n:Nat) (gs:List Nat) (ms ts:List (List Nat)) (qs:List Nat) (c:Nat),vs=[.ref x.p,.int (c:Nat)]∧GrAt C H0 H x nw ns n gs ms ts qs∧GSt n gs ms ts (qs++[c])∧Grp lab w n many (fun a=>gs.getD a 0) (Tt gs ts)∧n≤60∧many≤100 ∧
 NwP lab nw w n many ar∧(∀ a j,a<n→j<many→w a j<n)∧(∀ b,b<n→∀ a,a∈ns b↔a<n∧b∈nw a) ∧
 ∀ H' gs' ms' ts' qs',GrAt C H0 H' x nw ns n gs' ms' ts' qs'→GSt n gs' ms' ts' qs'→Grp lab w n many (fun a=>gs'.getD a 0) (Tt gs' ts')→(ms.length<ms'.length∨(ms'.length=ms.length∧qs'=qs))→Q .non H'
theorem ai3 (T:Txt K mg t):FnOk P w K mg base CX0 3 t.a_Grouping_part t.fd_Grouping_part ["self","group"] (bq5 K t.c_Grouping):=by
 have G_Grouping_parts_of:=ae6 (P:=P) (w:=w) (base:=base) T
 have G_Grouping_regroup:=af8 (P:=P) (w:=w) (base:=base) T
 have G_Grouping_touch_sources:=ab4 (P:=P) (w:=w) (base:=base) T
 refine T.F_Grouping_part.ok sc_Grouping_part (fun vs H Q E h=>?_) (fun cdv A outer s H vs Q E hr h=>?_)
 · obtain ⟨α,lab,ww,many,ar,H0,x,nw,ns,n,gs,ms,ts,qs,c,rfl,_⟩:=h
   rfl
 · obtain ⟨α,lab,ww,many,ar,H0,x,nw,ns,n,gs,ms,ts,qs,c,rfl,hG,hS,hR,hn,hmany,hnw,hww,hns,q⟩:=h
   refine ⟨_,(@a03 _ _ _ _ _ (@a45 _ _ 2 _ _ _ _ sc_Grouping_part.nd rfl (by walk_at "o") (b37 K (by rfl) (by rfl) T.z_sorted b82 (by rfl) T.z_len ab6 (@a00 _ _ _ _ _ (ah2 (pv 0) T.cl_Grouping T.M_Grouping_parts_of G_Grouping_parts_of (hr.mono (by omega)) T.b_Grouping_parts_of .nil a85 (@a00 _ _ _ _ _ (pv 1) (@a04 _) (by rfl))) (@a04 _) (by rfl)) (by rfl)) (by rfl) (by walk_at "o"))
    (@a03 _ _ _ _ _ (@ag3 _ _ _ _ _ _ (ao1 K PySem.F.plainAttrs_list PySem.F.slot_list_pop PySem.F.type_list_pop bj4 (pv 2)) (ah8 (a76 K (pv 0) rfl) (pv 1) aa9) (by rfl) (by rfl) (by rfl))
    (@a03 _ _ _ _ _ (@aa1 _ _ _ _ _ _ _ _ PassesOwn.never rfl (a59 K (pv 2)) (a38 (i:=3) sc_Grouping_part.nd rfl (by walk_at "o")) (@a05 _ _ _ (@a67 _ _ _ _ (ah2 (pv 0) T.cl_Grouping T.M_Grouping_regroup G_Grouping_regroup (hr.mono (by omega)) T.b_Grouping_regroup .nil a85 (@a00 _ _ _ _ _ (pv 3) (@a04 _) (by rfl))) (by rfl))) (by intro _; rfl))
    (@a05 _ _ _ (@aa1 _ _ _ _ _ _ _ _ PassesOwn.never rfl (a59 K (pv 2)) (a38 (i:=3) sc_Grouping_part.nd rfl (by walk_at "o")) (@a05 _ _ _ (@aa1 _ _ _ _ _ _ _ _ PassesOwn.never rfl (a59 K (pv 3)) (a38 (i:=4) sc_Grouping_part.nd rfl (by walk_at "o")) (@a05 _ _ _ (@a67 _ _ _ _ (ah2 (pv 0) T.cl_Grouping T.M_Grouping_touch_sources G_Grouping_touch_sources (hr.mono (by omega)) T.b_Grouping_touch_sources .nil a85 (@a00 _ _ _ _ _ (pv 4) (@a04 _) (by rfl))) (by rfl))) (by intro _; rfl))) (by intro _; rfl)))))),?_⟩
   have sl:(1000000:Nat)≤sizeLine:=le_line (Nat.le_refl _)
   have gl:=hS.gl
   have hck:c<ms.length:=hS.ts.ql c (by simp)
   have hfew:=hS.few
   have gx:∀ a,a<n→gs[a]?=some (gs.getD a 0):=fun a ha=>by
    have:a<gs.length:=by omega
    simp [List.getD,List.getElem?_eq_getElem this]
   have lt_of:∀ {a d:Nat},gs[a]?=some d→a<n:=fun e=>by rw [← gl]; exact (List.getElem?_eq_some_iff.mp e).1
   have led_iff:∀ a b,a<n→b<n→gs.getD a 0=c→gs.getD b 0=c→((nw a).map (fun k=>gs.getD k 0)=(nw b).map (fun k=>gs.getD k 0)↔∀ j,j<many→gs.getD (ww a j) 0=gs.getD (ww b j) 0):=fun a b ha hb ga gb =>
    hnw.led (g:=fun k=>gs.getD k 0) ha hb (hR.same a b ha hb (ga.trans gb.symm)) (ga.trans gb.symm)
   walk_at "go"
   unfold tSortLen
   walk_at "run"
   refine ⟨x.p,x.dx,_,rfl,hG.o,b40 x (by decide +kernel),?_⟩
   walk_at "run"
   refine ⟨H0,x,nw,ns,n,gs,ms,ts,qs,c,rfl,hG,hS,hn,fun a ha=>⟨Nat.le_trans (hnw.len ha) hmany,fun k hk=>?_⟩,fun a b ha hb na nb=>(led_iff a b (lt_of ha) (lt_of hb) (af6 ha) (af6 hb)).mpr (hR.led a b (lt_of ha) (lt_of hb) (by rw [af6 ha,af6 hb]) na nb),fun l ls H1 fl fls el els hP hG1=>?_⟩
   · obtain ⟨j,hj,rfl⟩:=hnw.mem ha hk
     exact hww a j ha hj
   walk_at "run"
   have hpf:=hP.few
   rw [List.length_map] at hpf
   refine ⟨l,ls.map (fun y=>(y.1,natsV y.2)),rfl,SqL.of (by rw [List.map_map]; exact el),fun y hy=>?_,by rw [List.length_map]; omega,fun p sls H2 f2 s2 e2 pm _=>?_⟩
   · obtain ⟨z,hz,rfl⟩:=List.mem_map.mp hy
     exact els z hz
   obtain ⟨ls2,hp2,rfl⟩:=bh5 pm rfl
   have hP2:=hP.perm (hp2.symm.map (·.2))
   obtain ⟨M,hM⟩:∃ M,ms[c]?=some M:=⟨_,List.getElem?_eq_getElem hck⟩
   obtain ⟨Mn,M0,Mm⟩:=hS.me c M hM
   obtain ⟨a0,ha0⟩:=List.exists_mem_of_ne_nil M M0
   have hne:ls2≠[]:=fun z=>hP2.some ((Mm a0).mp ha0) (by rw [z]; rfl)
   obtain ⟨r2,bb,rfl⟩:∃ r b,ls2=r++[b]:=⟨ls2.dropLast,ls2.getLast hne,(List.dropLast_concat_getLast hne).symm⟩
   obtain ⟨bl,big⟩:=bb
   have hin:∀ y∈r2++[(bl,big)],H y.1=none∧H1 y.1=some (.lst (natsV y.2)):=fun y hy=>⟨fls y (hp2.mem_iff.mp hy),els y (hp2.mem_iff.mp hy)⟩
   rw [List.map_append,List.map_cons,List.map_nil] at hP2
   obtain ⟨rs,hrs⟩:∃ rs,rs=r2.map (·.2):=⟨_,rfl⟩
   rw [← hrs] at hP2
   simp only [List.map_append,List.map_cons,List.map_nil,List.map_map] at e2
   clear pm hp2 hP els fls el hne
   walk_at "run"
   refine ab3 (SqL.of e2) ?_
   walk_at "run"
   refine bx5 e2 ?_
   have s3:Same H1 (upd H2 p (.lst (r2.map ((fun x=>V.ref x.1)∘fun y=>(y.1,natsV y.2))))):=s2.updNew f2
   have e3:upd H2 p (.lst (r2.map ((fun x=>V.ref x.1)∘fun y=>(y.1,natsV y.2)))) p=some (.lst (r2.map fun y=>V.ref y.1)):=a27
   generalize upd H2 p (.lst (r2.map ((fun x=>V.ref x.1)∘fun y=>(y.1,natsV y.2))))=H3 at s3 e3
   have hG3:=hG1.same s3
   obtain ⟨us,m1,m2⟩:=hG3.mm
   have pno:p∉x.own:=hG1.new f2
   have hNL:NL (hds x.own H3) (.ref bl) big:=by
    obtain ⟨z1,z2⟩:=hin (bl,big) (by simp)
    exact ⟨bl,rfl,aj8 (s3 _ _ z2) (hG.new z1)⟩
   walk_at "run"
   refine ⟨x.p,_,x.dx,_,_,rfl,hG3.o,T.cl_Grouping,T.n_Grouping_members,ae3 x,?_⟩
   walk_at "run"
   refine ai0 m1 (j:=c) (aw3 (by rw [m2.1]; exact hck)) ?_
   have hG4:=hG3.updM (us':=us.set c (.ref bl)) (ms':=ms.set c big) (az3 m2 hNL)
   have kp:KeepL x H3 (upd H3 x.m (.lst (us.set c (.ref bl)))):=.own x.mm
   generalize upd H3 x.m (.lst (us.set c (.ref bl)))=H4 at hG4 kp
   obtain ⟨B,hGB,sB0,hB⟩:=hG4.fix
   have hBp:B p=some (.lst (r2.map fun y=>V.ref y.1)):=hB _ _ pno (fun _ z=>nomatch z) (kp _ _ pno (fun _ z=>nomatch z) e3)
   have hBy:∀ y∈r2,y.1∉x.own∧B y.1=some (.lst (natsV y.2)):=fun y hy=>by
    obtain ⟨z1,z2⟩:=hin y (List.mem_append_left _ hy)
    have z3:=hG.new z1
    exact ⟨z3,hB _ _ z3 (fun _ z=>nomatch z) (kp _ _ z3 (fun _ z=>nomatch z) (s3 _ _ z2))⟩
   have rl:r2.length≤60:=by
    have:=hP2.few
    simp [hrs] at this
    omega
   have rsl:rs.length=r2.length:=by rw [hrs,List.length_map]
   have rsm:∀ xs∈rs,∀ a∈xs,gs[a]?=some c:=fun xs hxs a ha=>(hP2.me a).mp (by
    rw [List.flatten_append]
    exact List.mem_append_left _ (List.mem_flatten.mpr ⟨xs,hxs,ha⟩))
   clear hG3 hG1 hin m1 m2 e3 e2 hNL
   walk_at "run"
   obtain ⟨Pv,hPv⟩:∃ Pv:Nat→St→Hp→Prop,Pv=(fun i σ H'=>i≤r2.length∧GrAt t.c_Grouping B H' x nw ns n (regA gs (rs.take i) ms.length) (ms.set c big++rs.take i) (ts.set c []++(rs.take i).map fun _=>[]) qs∧∃ y z,σ=[some (.ref x.p),some (.int (c:Nat)),some (.ref p),y,z]):=⟨_,rfl⟩
   refine ⟨⟨_,SqL.of (hGB.b _ _ hBp)⟩,ac1 (K:=K) (a:=p) (xs:=r2.map fun y=>V.ref y.1) Pv (by rw [hPv]; exact ⟨Nat.zero_le _,by simpa [regA] using hGB,_,_,rfl⟩) (fun i σ H' _ h'=>by rw [hPv] at h'; exact SqL.of (h'.2.1.b _ _ hBp)) ?_ ?_⟩
   · intro i v σ H5 hv hI
     rw [hPv] at hI
     obtain ⟨hi,h5,y,z,rfl⟩:=hI
     rw [List.getElem?_map] at hv
     obtain ⟨yy,hyy,rfl⟩:=Option.map_eq_some_iff.mp hv
     obtain ⟨z1,z2⟩:=hBy yy (List.mem_of_getElem? hyy)
     have hi':=(List.getElem?_eq_some_iff.mp hyy).1
     have hrsi:rs[i]?=some yy.2:=by rw [hrs,List.getElem?_map,hyy]; rfl
     have tl:=hS.ts.tl
     walk_at "run"
     refine ⟨x.p,x.dx,_,rfl,h5.o,b40 x (by decide +kernel),?_⟩
     walk_at "run"
     refine ⟨B,x,nw,ns,n,_,_,_,qs,yy.1,yy.2,rfl,h5,aj8 (h5.b _ _ z2) z1,fun a ha=>?_,by simp; omega,by simp; omega,fun H6 h6=>?_⟩
     · rw [ap3]
       exact (List.getElem?_eq_some_iff.mp (rsm yy.2 (List.mem_of_getElem? hrsi) a ha)).1
     · walk_at "run"
       rw [hPv]
       refine ⟨hi',?_,_,_,rfl⟩
       rw [List.take_add_one,hrsi,Option.toList_some,as7,List.map_append,←List.append_assoc,←List.append_assoc]
       rw [List.length_append,List.length_set] at h6
       exact h6
   · intro σ H5 hI
     rw [hPv] at hI
     obtain ⟨_,h5,y,z,rfl⟩:=hI
     clear hPv Pv
     rw [List.length_map,←rsl,List.take_length] at h5
     have hS':=hS.part hP2
     obtain ⟨gs',hgs'⟩:∃ g,g=regA gs rs ms.length:=⟨_,rfl⟩
     obtain ⟨ms',hms'⟩:∃ m,m=ms.set c big++rs:=⟨_,rfl⟩
     obtain ⟨ts',hts'⟩:∃ t,t=ts.set c []++rs.map fun _=>([]:List Nat):=⟨_,rfl⟩
     have hml:ms'.length=ms.length+rs.length:=by rw [hms']; simp
     rw [← hgs',←hms',←hts'] at h5 hS'
     have hf':=hS'.few
     walk_at "run"
     obtain ⟨Pv,hPv⟩:∃ Pv:Nat→St→Hp→Prop,Pv=(fun i σ H'=>i≤r2.length∧(∃ ts2 qs2,GrAt t.c_Grouping B H' x nw ns n gs' ms' ts2 qs2∧TSt gs' ms'.length ts2 qs2∧(rs=[]→qs2=qs)∧∀ b,Tt gs' ts2 b↔Tt gs' ts' b∨∃ a∈(rs.take i).flatten,b∈ns a)∧∃ y z,σ=[some (.ref x.p),some (.int (c:Nat)),some (.ref p),y,z]):=⟨_,rfl⟩
     refine ⟨⟨_,SqL.of (h5.b _ _ hBp)⟩,ac1 (K:=K) (a:=p) (xs:=r2.map fun y=>V.ref y.1) Pv (by rw [hPv]; exact ⟨Nat.zero_le _,⟨ts',qs,h5,hS'.ts,fun _=>rfl,by simp⟩,_,_,rfl⟩) (fun i σ H' _ h'=>by rw [hPv] at h'; obtain ⟨_,⟨_,_,h',_⟩,_⟩:=h'; exact SqL.of (h'.b _ _ hBp)) ?_ ?_⟩
     · intro i v σ H6 hv hI
       rw [hPv] at hI
       obtain ⟨hi,⟨ts2,qs2,h6,hT6,hq6,hb6⟩,y,z,rfl⟩:=hI
       rw [List.getElem?_map] at hv
       obtain ⟨yy,hyy,rfl⟩:=Option.map_eq_some_iff.mp hv
       obtain ⟨z1,z2⟩:=hBy yy (List.mem_of_getElem? hyy)
       have hi':=(List.getElem?_eq_some_iff.mp hyy).1
       have hrsi:rs[i]?=some yy.2:=by rw [hrs,List.getElem?_map,hyy]; rfl
       have hrm:=List.mem_of_getElem? hrsi
       have hrne:rs≠[]:=fun z=>by rw [z] at hrm; cases hrm
       walk_at "run"
       obtain ⟨Pw,hPw⟩:∃ Pw:Nat→St→Hp→Prop,Pw=(fun j σ H'=>j≤yy.2.length∧(∃ ts2 qs2,GrAt t.c_Grouping B H' x nw ns n gs' ms' ts2 qs2∧TSt gs' ms'.length ts2 qs2∧∀ b,Tt gs' ts2 b↔Tt gs' ts' b∨∃ a∈(rs.take i).flatten++yy.2.take j,b∈ns a)∧∃ z,σ=[some (.ref x.p),some (.int (c:Nat)),some (.ref p),some (.ref yy.1),z]):=⟨_,rfl⟩
       refine ⟨⟨_,SqL.of (h6.b _ _ z2)⟩,ac1 (K:=K) (a:=yy.1) (xs:=natsV yy.2) Pw (by rw [hPw]; exact ⟨Nat.zero_le _,⟨ts2,qs2,h6,hT6,by simpa using hb6⟩,_,rfl⟩) (fun i σ H' _ h'=>by rw [hPw] at h'; obtain ⟨_,⟨_,_,h',_⟩,_⟩:=h'; exact SqL.of (h'.b _ _ z2)) ?_ ?_⟩
       · intro j v σ H7 hv hI
         rw [hPw] at hI
         obtain ⟨hj,⟨ts3,qs3,h7,hT7,hb7⟩,z,rfl⟩:=hI
         obtain ⟨a,ha,rfl⟩:=a96 hv
         have han:=lt_of (rsm yy.2 hrm a (List.mem_of_getElem? ha))
         walk_at "run"
         refine ⟨x.p,x.dx,_,rfl,h7.o,b40 x (by decide +kernel),?_⟩
         walk_at "run"
         refine ⟨B,x,nw,ns,n,gs',ms',ts3,qs3,a,rfl,h7,han,hS'.gl,by omega,by omega,fun s hs=>((hns a han s).mp hs).1,hS'.gk,hT7,fun H8 ts4 qs4 h8 hT8 hb8=>?_⟩
         walk_at "run"
         rw [hPw]
         refine ⟨(List.getElem?_eq_some_iff.mp ha).1,⟨ts4,qs4,h8,hT8,fun b=>?_⟩,_,rfl⟩
         rw [hb8,hb7,List.take_add_one,ha,Option.toList_some,←List.append_assoc,or_assoc]
         refine or_congr Iff.rfl ?_
         constructor
         · rintro (⟨e,h1,h2⟩ | h1)
           · exact ⟨e,List.mem_append_left _ h1,h2⟩
           · exact ⟨a,by simp,h1⟩
         · rintro ⟨e,h1,h2⟩
           rcases List.mem_append.mp h1 with h1 | h1
           · exact .inl ⟨e,h1,h2⟩
           · exact .inr (List.mem_singleton.mp h1 ▸ h2)
       · intro σ H7 hI
         rw [hPw] at hI
         obtain ⟨_,⟨ts3,qs3,h7,hT7,hb7⟩,z,rfl⟩:=hI
         rw [a08,List.take_length] at hb7
         rw [hPv]
         refine ⟨hi',⟨ts3,qs3,h7,hT7,fun z=>absurd z hrne,?_⟩,_,_,rfl⟩
         rw [List.take_add_one,hrsi,Option.toList_some,List.flatten_append,List.flatten_cons,List.flatten_nil,List.append_nil]
         exact hb7
     · intro σ H6 hI
       rw [hPv] at hI
       obtain ⟨_,⟨ts2,qs2,h6,hT6,hq6,hb6⟩,y,z,rfl⟩:=hI
       rw [List.length_map,←rsl,List.take_length] at hb6
       refine q H6 gs' ms' ts2 qs2 (h6.to sB0) ⟨hS'.gl,hS'.gk,hS'.me,hT6⟩ ?_ ?_
       · rw [hgs'] at hb6 ⊢
         refine bb2 (Real:=fun a j=>j<ar a) (fun a b j ha hb hl hj=>?_) hR hS hP2 hww led_iff (fun a h1 h2=>?_) (fun a j ha hj hr h1=>?_)
         · have e:=hnw.eq a b ha hb hl
           by_cases hja:j<ar a
           · exact .inl ⟨hja,by rw [← e]; exact hja⟩
           · exact .inr ⟨hnw.pad a j ha (by omega),hnw.pad b j hb (by omega)⟩
         · refine (hb6 a).mpr (.inl ?_)
           obtain ⟨c',xs,g1,g2,g3⟩:=h1
           rw [af6 g1] at h2
           have hl':c'<ts.length:=(List.getElem?_eq_some_iff.mp g2).1
           refine ⟨c',xs,(af5 hS hP2).mpr (.inl ⟨fun z=>?_,g1⟩),?_,g3⟩
           · obtain ⟨xs',z1,z2⟩:=List.mem_flatten.mp z
             have:=rsm xs' z1 a z2
             rw [g1] at this
             exact h2 (Option.some.inj this)
           · rw [hts',List.getElem?_append_left (by simpa using hl'),List.getElem?_set,if_neg (Ne.symm h2)]
             exact g2
         · refine (hb6 a).mpr (.inr ⟨ww a j,h1,(hns _ (hww a j ha hj) a).mpr ⟨ha,?_⟩⟩)
           rw [hnw.nw a ha]
           exact List.mem_map_of_mem (List.mem_range.mpr hr)
       · rw [hml]
         by_cases z:rs=[]
         · exact .inr ⟨by rw [z]; rfl,hq6 z⟩
         · have:=List.length_pos_iff.mpr z
           exact .inl (by omega)
def bq6 (K:PySem.W.Frag) (C:Addr):Sp:=fun vs H Q _=>∃ (H0:Hp) (p dx la wa:Addr) (us ws:List V) (α:Type) (_:DecidableEq α) (f:α→Tr) (labs:List α) (nw:Nat→List Nat) (n:Nat),vs=[.ref p,.ref la,.ref wa]∧H p=some (.ins C dx [])∧Same H0 H∧H0 p=none∧H la=some (.lst us)∧Tr.AtsB H (labs.map f) us∧(∀ a b,f a=f b→a=b)∧(∀ x,(f x).h≤8)∧labs.length=n∧H wa=some (.lst ws)∧Lsts H ws nw n∧n≤60∧(∀ a,a<n→(nw a).length≤100∧∀ k∈nw a,k<n) ∧
 ∀ x ns H',x.p=p→GrAt C H0 H' x nw ns n (canon labs) (memL (canon labs) (mets labs).length) (memL (canon labs) (mets labs).length) (List.range (mets labs).length)→(∀ b,b<n→∀ a,a∈ns b↔a<n∧b∈nw a)→Q .non H'
theorem ae7 (T:Txt K mg t):FnOk P w K mg base CX0 3 t.a_Grouping___init__ t.fd_Grouping___init__ ["self","labels","ways"] (bq6 K t.c_Grouping):=by
 have G_members_of:=ap7 (P:=P) (w:=w) (base:=base) T
 have G_numbered:=ak2 (P:=P) (w:=w) (base:=base) T
 have G_sources_of:=ap6 (P:=P) (w:=w) (base:=base) T
 refine T.F_Grouping___init__.ok ae5 (fun vs H Q E h=>?_) (fun cdv A outer s H vs Q E hr h=>?_)
 · obtain ⟨H0,p,dx,la,wa,us,ws,α,dα,f,labs,nw,n,rfl,_⟩:=h
   rfl
 · obtain ⟨H0,p,dx,la,wa,us,ws,α,dα,f,labs,nw,n,rfl,hp,hb,h0p,hla,hus,hf,h8,hln,hwa,hws,hn,hw,q⟩:=h
   refine ⟨_,(@a03 _ _ _ _ _ (ah4 K (pv 0) (pv 2) rfl)
    (@a03 _ _ _ _ _ (ah4 K (pv 0) (@a50 _ _ _ _ _ _ _ _ _ _ _ _ _ _ _ _ G_sources_of (hr.mono (by omega)) rfl T.m_sources_of T.F_sources_of.kp T.b_sources_of .nil a85 (@a00 _ _ _ _ _ (pv 2) (@a04 _) (by rfl)) (by decide) (by rfl) (by rfl)) rfl)
    (@a03 _ _ _ _ _ (ah4 K (pv 0) (@a50 _ _ _ _ _ _ _ _ _ _ _ _ _ _ _ _ G_numbered (hr.mono (by omega)) rfl T.m_numbered T.F_numbered.kp T.b_numbered .nil a85 (@a00 _ _ _ _ _ (pv 1) (@a04 _) (by rfl)) (by decide) (by rfl) (by rfl)) rfl)
    (@a03 _ _ _ _ _ (ah4 K (pv 0) (@a50 _ _ _ _ _ _ _ _ _ _ _ _ _ _ _ _ G_members_of (hr.mono (by omega)) rfl T.m_members_of T.F_members_of.kp T.b_members_of .nil a85 (@a00 _ _ _ _ _ (a76 K (pv 0) rfl) (@a04 _) (by rfl)) (by decide) (by rfl) (by rfl)) rfl)
    (@a03 _ _ _ _ _ (ah4 K (pv 0) (ae4 (Nt:=["things"]) (Nf:=[]) (caps:=[]) rfl (am8 (sc:=defScope a42) rfl rfl (by decide +kernel) (by decide +kernel) (by decide +kernel) rfl (by decide +kernel)) (a59 K (a76 K (pv 0) rfl)) (fun _ _ _ _ _=>(a38 (i:=0) (show (["things"]:List Str).Nodup by decide +kernel) rfl (by walk_at "o"))) (fun _ _ _ _ _=>(@a82 _)) (fun _ _ _ _ _=>(@a78 _ _ _ _ _ _ _ _ _ (bf8 K) (by rfl) T.z_dict bn4 (@a00 _ _ _ _ _ (ae4 (Nt:=["thing"]) (Nf:=[]) (caps:=[]) rfl (a83 rfl rfl (by decide +kernel) (by decide +kernel) (fun y hy h=>absurd h ((show ∀ y∈_,y.2≠NameKind.free by decide +kernel) y hy)) rfl (by decide +kernel)) (a59 K (pv 0)) (fun _ _ _ _ _=>(a38 (i:=0) (show (["thing"]:List Str).Nodup by decide +kernel) rfl (by walk_at "o"))) (fun _ _ _ _ _=>(@a82 _)) (fun _ _ _ _ _=>(@a33 _ _ _ _ _ (@a00 _ _ _ _ _ (pv 0) (@a00 _ _ _ _ _ (@aq7 _ _ _ _) (@a04 _) (by rfl)) (by rfl))))) (@a04 _) (by rfl)) (by decide) (by decide) (by rfl) (by rfl)))) rfl)
    (@a05 _ _ _ (ah4 K (pv 0) (@a78 _ _ _ _ _ _ _ _ _ (bg5 rfl) (by rfl) T.z_list af3 (@a00 _ _ _ _ _ (@a78 _ _ _ _ _ _ _ _ _ ba0 (by rfl) T.z_range bf5 (@a00 _ _ _ _ _ (@a77 _ _ _ _ _ _ _ _ _ (ab1 K) (by rfl) T.z_len ab6 (@a00 _ _ _ _ _ (a76 K (pv 0) rfl) (@a04 _) (by rfl)) (by decide) (by decide) (by rfl) (by rfl)) (@a04 _) (by rfl)) (by decide) (by decide) (by rfl) (by rfl)) (@a04 _) (by rfl)) (by decide) (by decide) (by rfl) (by rfl)) rfl))))))),?_⟩
   have sl:(1000000:Nat)≤sizeLine:=le_line (Nat.le_refl _)
   have hml:=ac7 labs
   have nlp:∀ {Hx:Hp}{fs:List (Str×V)}{a:Addr}{vs:List V},Hx p=some (.ins t.c_Grouping dx fs)→Hx a=some (.lst vs)→a≠p:=fun e1 e2=>ad0 e2 e1 (fun z=>nomatch z)
   walk_at "go"
   refine ⟨p,_,dx,_,rfl,hp,T.cl_Grouping,T.n_Grouping_ways,by simp,?_⟩
   have kA:But p H (upd H p (.ins t.c_Grouping dx (gF1 wa))):=But.refl.upd
   have p1:upd H p (.ins t.c_Grouping dx (gF1 wa)) p=some (.ins t.c_Grouping dx (gF1 wa)):=a27
   have tA:Tups H (upd H p (.ins t.c_Grouping dx (gF1 wa))):=as1 hp
   show tSeq _ _ _ _ (upd H p (.ins t.c_Grouping dx (gF1 wa)))
   generalize upd H p (.ins t.c_Grouping dx (gF1 wa))=H1 at kA p1 tA
   have hwa1:=kA _ _ (nlp hp hwa) hwa
   have hws1:Lsts H1 ws nw n:=⟨hws.1,fun i hi=>by
    obtain ⟨b,h1,h2⟩:=hws.2 i hi
    exact ⟨b,h1,kA _ _ (nlp hp h2) h2⟩⟩
   walk_at "run"
   refine ⟨wa,ws,nw,n,rfl,hwa1,hws1,hw,by omega,fun fs ls cs H2 hFL hcl hcm=>?_⟩
   walk_at "run"
   have p2:=hFL.b _ _ p1
   refine ⟨p,_,dx,_,rfl,p2,T.cl_Grouping,T.n_Grouping_sources,(by have:=a73 "ways" (V.ref wa) []; unfold gF1; simp at this ⊢; omega),?_⟩
   have kB:But p H2 (upd H2 p (.ins t.c_Grouping dx (gF2 wa fs))):=But.refl.upd
   have p3:upd H2 p (.ins t.c_Grouping dx (gF2 wa fs)) p=some (.ins t.c_Grouping dx (gF2 wa fs)):=a27
   have tB:Tups H2 (upd H2 p (.ins t.c_Grouping dx (gF2 wa fs))):=as1 p2
   show tSeq _ _ _ _ (upd H2 p (.ins t.c_Grouping dx (gF2 wa fs)))
   generalize upd H2 p (.ins t.c_Grouping dx (gF2 wa fs))=H3 at kB p3 tB
   have k03:But p H H3:=kA.trans (hFL.b.but.trans kB)
   have t03:Tups H H3:=tA.trans (hFL.b.tups.trans tB)
   walk_at "run"
   refine ⟨la,us,α,dα,f,labs,rfl,SqL.of (k03 _ _ (nlp hp hla) hla),hus.tups t03,hf,h8,by omega,fun g H4 f4 s4 e4=>?_⟩
   walk_at "run"
   have p4:=s4 _ _ p3
   refine ⟨p,_,dx,_,rfl,p4,T.cl_Grouping,T.n_Grouping_groups,(by have h1:=a73 "ways" (V.ref wa) []; have h2:=a73 "sources" (V.ref fs) (gF1 wa); unfold gF2; unfold gF1 at h2 ⊢; simp at h1; omega),?_⟩
   have kC:But p H4 (upd H4 p (.ins t.c_Grouping dx (gF3 wa fs g))):=But.refl.upd
   have p5:upd H4 p (.ins t.c_Grouping dx (gF3 wa fs g)) p=some (.ins t.c_Grouping dx (gF3 wa fs g)):=a27
   show tSeq _ _ _ _ (upd H4 p (.ins t.c_Grouping dx (gF3 wa fs g)))
   generalize upd H4 p (.ins t.c_Grouping dx (gF3 wa fs g))=H5 at kC p5
   have hgp:g≠p:=nlp p4 e4
   have e5:=kC _ _ hgp e4
   walk_at "run"
   refine ⟨p,_,dx,_,_,rfl,p5,T.cl_Grouping,T.n_Grouping_groups,al6 _ _ _,?_⟩
   walk_at "run"
   have emc:(mets (canon labs)).length=(mets labs).length:=by rw [al5 labs.length rfl,List.length_range]
   refine ⟨g,canon labs,rfl,e5,fun c hc=>by rw [emc]; exact ap2 hc,by rw [ab8]; omega,fun m mls H6 hFM=>?_⟩
   rw [emc] at hFM
   walk_at "run"
   have p6:=hFM.b _ _ p5
   have len3:(gF3 wa fs g).length≤3:=by
    have h1:=a73 "ways" (V.ref wa) []
    have h2:=a73 "sources" (V.ref fs) (gF1 wa)
    have h3:=a73 "groups" (V.ref g) (gF2 wa fs)
    unfold gF3
    unfold gF2 at h3 ⊢
    unfold gF1 at h3 h2 ⊢
    simp at h1
    omega
   refine ⟨p,_,dx,_,rfl,p6,T.cl_Grouping,T.n_Grouping_members,by omega,?_⟩
   have kD:But p H6 (upd H6 p (.ins t.c_Grouping dx (gF4 wa fs g m))):=But.refl.upd
   have p7:upd H6 p (.ins t.c_Grouping dx (gF4 wa fs g m)) p=some (.ins t.c_Grouping dx (gF4 wa fs g m)):=a27
   show tSeq _ _ _ _ (upd H6 p (.ins t.c_Grouping dx (gF4 wa fs g m)))
   generalize upd H6 p (.ins t.c_Grouping dx (gF4 wa fs g m))=H7 at kD p7
   have e7:=kD _ _ (nlp p6 hFM.e) hFM.e
   obtain ⟨K0,hK0⟩:∃ ms,ms=memL (canon labs) (mets labs).length:=⟨_,rfl⟩
   rw [← hK0] at hFM
   have mlen:mls.length=K0.length:=hFM.at_.1
   have K0l:K0.length=(mets labs).length:=by rw [hK0]; simp [memL]
   have hin7:∀ (i:Nat) (d:Addr),mls[i]?=some d→∃ xs,K0[i]?=some xs∧xs.Nodup∧xs.length≤n∧H7 d=some (.lst (natsV xs)):=fun i d hd=>by
    have hi:i<K0.length:=by rw [← mlen]; exact (List.getElem?_eq_some_iff.mp hd).1
    obtain ⟨xs,e⟩:∃ xs,K0[i]?=some xs:=⟨_,List.getElem?_eq_getElem hi⟩
    have e':=hFM.at_.2 i d _ hd e
    have hx:=e
    rw [hK0] at hx
    obtain ⟨_,x1,x2⟩:=ad5 hx
    exact ⟨xs,e,x1,pigeon n _ x1 (fun a ha=>by
     have:=(List.getElem?_eq_some_iff.mp ((x2 a).mp ha)).1
     rw [ab8] at this
     omega),kD _ _ (nlp p6 e') e'⟩
   walk_at "run"
   refine ⟨p,_,dx,_,_,rfl,p7,T.cl_Grouping,T.n_Grouping_members,aj9 _ _ _ _,?_⟩
   walk_at "run"
   refine ⟨⟨_,SqL.of e7⟩,aa2 (xs:=mls.map V.ref) (by rw [List.length_map]; omega) (fun i acc H'=>i≤mls.length∧Same H7 H'∧∃ ds:List Addr,acc=ds.map .ref∧ds.length=i∧ds.Nodup∧(∀ d∈ds,H7 d=none)∧Each (TouAt H') ds (K0.take i)) ⟨Nat.zero_le _,Same.refl _,[],rfl,rfl,List.nodup_nil,by simp,by simpa using Each.nil⟩ (fun i acc H' ⟨_,s',ds,e,el,_⟩=>⟨by rw [e,List.length_map]; omega,SqL.of (s' _ _ e7)⟩) ?_ ?_⟩
   · rintro i v acc H8 hv ⟨hi,s8,ds,rfl,el,hnd,hfr,hE⟩
     rw [List.getElem?_map] at hv
     obtain ⟨d,hd,rfl⟩:=Option.map_eq_some_iff.mp hv
     obtain ⟨xs,hxs,xn,xl,hdl⟩:=hin7 i d hd
     walk_at "run"
     refine ⟨⟨_,SqL.of (s8 _ _ hdl)⟩,aa2 (xs:=natsV xs) (by rw [a08]; omega) (fun j acc H'=>j≤xs.length∧Same H8 H'∧acc.length=j∧PrK H' acc ((xs.take j).map fun (x:Nat)=>(Sum.inl (x:Int),V.bl true))) ⟨Nat.zero_le _,Same.refl _,rfl,.nil⟩ (fun j acc H' ⟨_,s',e,_⟩=>⟨by omega,SqL.of ((s8.trans s') _ _ hdl)⟩) ?_ ?_⟩
     · rintro j v acc H9 hv ⟨hj,s9,ea,hpr⟩
       obtain ⟨a,ha,rfl⟩:=a96 hv
       walk_at "run"
       intro pt H10 f10 s10 e10
       refine ⟨(List.getElem?_eq_some_iff.mp ha).1,s9.trans s10,by simp [ea],?_⟩
       rw [List.take_add_one,ha,Option.toList_some,List.map_append]
       exact (hpr.mono s10.tups).snoc (k:=Sum.inl (a:Int)) e10
     · rintro acc H9 ⟨_,s9,ea,hpr⟩ pl H10 f10 s10 e10
       rw [a08,List.take_length] at hpr
       walk_at "run"
       refine bn8 (SqL.of e10) (hpr.mono s10.tups) ?_
       intro pd H11 f11 s11 e11
       have s811:=s9.trans (s10.trans s11)
       refine ⟨(List.getElem?_eq_some_iff.mp hd).1,s8.trans s811,ds++[pd],by simp,by simp [el],aa6 hnd fun z=>?_,fun b hb=>?_,?_⟩
       · obtain ⟨j,hj,ej⟩:=List.mem_iff_getElem.mp z
         have hj':j<(K0.take i).length:=by rw [← hE.1]; exact hj
         obtain ⟨kvs,g1,_⟩:=hE.2 j _ _ (List.getElem?_eq_getElem hj) (List.getElem?_eq_getElem hj')
         rw [ej] at g1
         have:=(s9.trans s10) _ _ g1
         rw [f11] at this
         cases this
       · rcases List.mem_append.mp hb with hb | hb
         · exact hfr b hb
         · rw [List.mem_singleton.mp hb]; exact (s8.trans (s9.trans s10)).free f11
       · rw [List.take_add_one,hxs,Option.toList_some]
         exact (hE.mono fun d y hy=>hy.same s811).snoc ⟨_,e11,bc2 xn⟩
   · rintro acc H8 ⟨_,s8,ds,rfl,el,hnd,hfr,hE⟩ tt H9 f9 s9 e9
     rw [List.length_map] at el
     rw [List.length_map,mlen,List.take_length] at hE
     walk_at "run"
     have p9:=(s8.trans s9) _ _ p7
     have len4:(gF4 wa fs g m).length≤4:=by
      have h4:=a73 "members" (V.ref m) (gF3 wa fs g)
      unfold gF4
      omega
     refine ⟨p,_,dx,_,rfl,p9,T.cl_Grouping,T.n_Grouping_touched,by omega,?_⟩
     have kE:But p H9 (upd H9 p (.ins t.c_Grouping dx (gF5 wa fs g m tt))):=But.refl.upd
     have p10:upd H9 p (.ins t.c_Grouping dx (gF5 wa fs g m tt)) p=some (.ins t.c_Grouping dx (gF5 wa fs g m tt)):=a27
     show sFld _ _ _ _ _ _ (upd H9 p (.ins t.c_Grouping dx (gF5 wa fs g m tt)))
     generalize upd H9 p (.ins t.c_Grouping dx (gF5 wa fs g m tt))=H10 at kE p10
     have hmp:m≠p:=nlp p6 hFM.e
     have em10:H10 m=some (.lst (mls.map .ref)):=kE _ _ hmp ((s8.trans s9) _ _ e7)
     walk_at "run"
     refine ⟨p,_,dx,_,_,rfl,p10,T.cl_Grouping,T.n_Grouping_members,ak0 _ _ _ _ _,?_⟩
     walk_at "run"
     refine ae9 (SqL.of em10) ?_
     rw [List.length_map,mlen,K0l]
     walk_at "run"
     refine bg6 (by omega) ?_
     intro pg H11 f11 s11 e11
     walk_at "run"
     refine bo6 e11 (by omega) ?_
     intro qa H12 f12 s12 e12
     walk_at "run"
     have s1012:=s11.trans s12
     have p12:=s1012 _ _ p10
     have len5:(gF5 wa fs g m tt).length≤5:=by
      have h4:=a73 "touched" (V.ref tt) (gF4 wa fs g m)
      unfold gF5
      omega
     refine ⟨p,_,dx,_,rfl,p12,T.cl_Grouping,T.n_Grouping_waiting,by omega,?_⟩
     have kF:But p H12 (upd H12 p (.ins t.c_Grouping dx (gF ⟨p,dx,wa,fs,g,m,tt,qa⟩))):=But.refl.upd
     have p13:upd H12 p (.ins t.c_Grouping dx (gF ⟨p,dx,wa,fs,g,m,tt,qa⟩)) p=some (.ins t.c_Grouping dx (gF ⟨p,dx,wa,fs,g,m,tt,qa⟩)):=a27
     have tF:∀ {d:Addr}{xs:List Nat},TouAt H12 d xs→TouAt (upd H12 p (.ins t.c_Grouping dx (gF ⟨p,dx,wa,fs,g,m,tt,qa⟩))) d xs:=fun {d xs} ⟨kvs,e1,e2⟩=>⟨kvs,by rw [a06 (ad0 e1 p12 (fun z=>nomatch z))]; exact e1,e2⟩
     have tE:∀ {d:Addr}{xs:List Nat},TouAt H9 d xs→TouAt H10 d xs:=fun {d xs} ⟨kvs,e1,e2⟩=>⟨kvs,kE _ _ (ad0 e1 p9 (fun z=>nomatch z)) e1,e2⟩
     show Q V.non (upd H12 p (.ins t.c_Grouping dx (gF ⟨p,dx,wa,fs,g,m,tt,qa⟩)))
     generalize upd H12 p (.ins t.c_Grouping dx (gF ⟨p,dx,wa,fs,g,m,tt,qa⟩))=H13 at kF p13 tF
     have htp:tt≠p:=nlp p9 e9
     have hqp:qa≠p:=nlp p12 e12
     have k1013:But p H10 H13:=s1012.but.trans kF
     have k913:But p H9 H13:=kE.trans k1013
     have k613:But p H6 H13:=kD.trans ((s8.trans s9).but.trans k913)
     have k413:But p H4 H13:=kC.trans (hFM.b.but.trans k613)
     have k213:But p H2 H13:=kB.trans (s4.but.trans k413)
     have k013:But p H H13:=kA.trans (hFL.b.but.trans k213)
     have k02:But p H H2:=kA.trans hFL.b.but
     have k35:But p H3 H5:=s4.but.trans kC
     have k58:But p H5 H8:=hFM.b.but.trans (kD.trans s8.but)
     have k811:But p H8 H11:=s9.but.trans (kE.trans s11.but)
     have p8:=s8 _ _ p7
     have p11:=s11 _ _ p10
     have own:∀ {b:Addr},b≠p→b≠g→b≠m→b≠tt→b≠qa→b∉(GA.mk p dx wa fs g m tt qa).own:=fun _ z1 z2 z3 z4=>by simp [GA.own,z1,z2,z3,z4]
     have old2:∀ {b:Addr}{vs:List V},H2 b=some (.lst vs)→hds (GA.mk p dx wa fs g m tt qa).own H13 b=some (.lst vs):=fun {b vs} e=>by
      have hbp:=nlp p2 e
      have e3:=kB _ _ hbp e
      have e5':=k35 _ _ hbp e3
      have e8':=k58 _ _ hbp e5'
      exact aj8 (k213 _ _ hbp e) (own hbp (a30 e3 f4) (a30 e5' hFM.f0) (a30 e8' f9) (a30 (k811 _ _ hbp e8') f12))
     have fr0:∀ {b:Addr},H2 b=none→H0 b=none:=fun f=>hb.free (k02.none p2 f)
     have fg2:H2 g=none:=kB.none p3 f4
     have fm5:H5 m=none:=hFM.f0
     have k25:But p H2 H5:=kB.trans k35
     have fm2:H2 m=none:=k25.none p5 fm5
     have k28:But p H2 H8:=k25.trans k58
     have ft2:H2 tt=none:=k28.none p8 f9
     have fq2:H2 qa=none:=(k28.trans k811).none p11 f12
     have k27:But p H2 H7:=k25.trans (hFM.b.but.trans kD)
     have gm:g≠m:=a30 e5 fm5
     have g8:=k58 _ _ hgp e5
     have m8:=s8 _ _ e7
     have gt:g≠tt:=a30 g8 f9
     have mt:m≠tt:=a30 m8 f9
     have gq:g≠qa:=a30 (k811 _ _ hgp g8) f12
     have mq:m≠qa:=a30 (k811 _ _ hmp m8) f12
     have k911:But p H9 H11:=kE.trans s11.but
     have tq:tt≠qa:=a30 (k911 _ _ htp e9) f12
     refine q ⟨p,dx,wa,fs,g,m,tt,qa⟩ (fun i=>cs.getD i []) H13 rfl ⟨fun b o e=>k013 _ _ (a30 e h0p) (hb _ _ e),fun a ha=>?_,?_,p13,⟨ws,?_,hws.1,fun i hi=>?_⟩,⟨ls.map .ref,old2 hFL.e,?_⟩,k413 _ _ hgp e4,⟨mls.map .ref,k613 _ _ hmp hFM.e,by rw [List.length_map,mlen,hK0],fun i v xs h1 h2=>?_⟩,⟨ds,k913 _ _ htp e9,hnd,fun d hd=>fr0 (k27.none p7 (hfr d hd)),?_⟩,kF _ _ hqp e12⟩ (fun b hb' a=>?_)
     · simp only [GA.own,List.mem_cons,List.not_mem_nil,or_false] at ha
       rcases ha with rfl | rfl | rfl | rfl
       · exact fr0 fg2
       · exact fr0 fm2
       · exact fr0 ft2
       · exact fr0 fq2
     · simp only [GA.own,List.nodup_cons,List.mem_cons,List.not_mem_nil,or_false,not_or,not_false_eq_true,List.nodup_nil,and_true]
       exact ⟨⟨gm,gt,gq⟩,⟨mt,mq⟩,tq⟩
     · exact old2 (k02 _ _ (nlp hp hwa) hwa)
     · obtain ⟨b,h1,h2⟩:=hws.2 i hi
       exact ⟨b,h1,old2 (k02 _ _ (nlp hp h2) h2)⟩
     · have:=hFL.lsts
       rw [hcl] at this
       exact ⟨this.1,fun i hi=>by
        obtain ⟨b,h1,h2⟩:=this.2 i hi
        exact ⟨b,h1,old2 h2⟩⟩
     · rw [List.getElem?_map] at h1
       obtain ⟨d,hd,rfl⟩:=Option.map_eq_some_iff.mp h1
       rw [← hK0] at h2
       have hd6:=hFM.at_.2 i d xs hd h2
       have hdm:=List.mem_of_getElem? hd
       have hdp:=nlp p6 hd6
       have hd8:H8 d=some (.lst (natsV xs)):=s8 _ _ (kD _ _ hdp hd6)
       exact ⟨d,rfl,aj8 (k613 _ _ hdp hd6) (own hdp (fun z=>by rw [z] at hdm; have:=hFM.fr g hdm; rw [e5] at this; cases this) (fun z=>hFM.nf (z ▸ hdm)) (a30 hd8 f9) (a30 (k811 _ _ hdp hd8) f12))⟩
     · rw [← hK0]
       exact hE.mono fun d y hy=>tF ((tE (hy.same s9)).same s1012)
     · have hbl:b<cs.length:=by omega
       have e:=List.getElem?_eq_getElem hbl
       show a∈cs.getD b []↔_
       rw [show cs.getD b []=cs[b] by simp [List.getD,e]]
       exact hcm b _ e a
def c00 (K:PySem.W.Frag):Sp:=fun vs H Q _=>∃ (la wa:Addr) (us ws:List V) (α:Type) (_:DecidableEq α) (f:α→Tr) (labs:List α) (ww:Nat→Nat→Nat) (many:Nat) (ar:Nat→Nat) (nw:Nat→List Nat) (n:Nat),vs=[.ref la,.ref wa]∧H la=some (.lst us)∧Tr.AtsB H (labs.map f) us∧(∀ a b,f a=f b→a=b)∧(∀ x,(f x).h≤8)∧labs.length=n∧H wa=some (.lst ws)∧Lsts H ws nw n∧n≤60∧many≤100∧NwP (fun a=>labs[a]?) nw ww n many ar∧(∀ a j,a<n→j<many→ww a j<n) ∧
 ∀ l H',H l=none→Same H H'→H' l=some (.lst (natsV (likeN (fun a=>labs[a]?) ww many (List.range n))))→Q (.ref l) H'
theorem ak3 (T:Txt K mg t):FnOk P w K mg base CX0 5 t.a_put_together t.fd_put_together ["labels","ways"] (c00 K):=by
 have G_Grouping___init__:=ae7 (P:=P) (w:=w) (base:=base) T
 have G_Grouping_part:=ai3 (P:=P) (w:=w) (base:=base) T
 have G_numbered:=ak2 (P:=P) (w:=w) (base:=base) T
 refine T.F_put_together.ok sc_put_together (fun vs H Q E h=>?_) (fun cdv A outer s H vs Q E hr h=>?_)
 · obtain ⟨la,wa,us,ws,α,dα,f,labs,ww,many,ar,nw,n,rfl,_⟩:=h
   rfl
 · obtain ⟨la,wa,us,ws,α,dα,f,labs,ww,many,ar,nw,n,rfl,hla,hus,hf,h8,hln,hwa,hws,hn,hmany,hnw,hww,q⟩:=h
   refine ⟨_,(@a03 _ _ _ _ _ (@a45 _ _ 2 _ _ _ _ sc_put_together.nd rfl (by walk_at "o") (bm1 T.mk_Grouping G_Grouping___init__ (hr.mono (by omega)) rfl T.m_Grouping T.b_Grouping___init__ .nil a85 (@a00 _ _ _ _ _ (pv 0) (@a00 _ _ _ _ _ (pv 1) (@a04 _) (by rfl)) (by rfl))) (by rfl) (by walk_at "o"))
    (@a03 _ _ _ _ _ (@ax4 _ _ _ _ _ _ PassesOwn.never (@a36 _ _ _ _ _ _ _ _ b62 (@a77 _ _ _ _ _ _ _ _ _ (ab1 K) (by rfl) T.z_len ab6 (@a00 _ _ _ _ _ (a76 K (pv 2) rfl) (@a04 _) (by rfl)) (by decide) (by decide) (by rfl) (by rfl)) (@a01 _ _ _ _) (nomark _)) (@a05 _ _ _ (@a67 _ _ _ _ (ah2 (pv 2) T.cl_Grouping T.M_Grouping_part G_Grouping_part (hr.mono (by omega)) T.b_Grouping_part .nil a85 (@a00 _ _ _ _ _ (ao1 K PySem.F.plainAttrs_list PySem.F.slot_list_pop PySem.F.type_list_pop bj4 (a76 K (pv 2) rfl)) (@a04 _) (by rfl))) (by rfl))))
    (@a05 _ _ _ (@a41 _ _ _ _ (@a50 _ _ _ _ _ _ _ _ _ _ _ _ _ _ _ _ G_numbered (hr.mono (by omega)) rfl T.m_numbered T.F_numbered.kp T.b_numbered .nil a85 (@a00 _ _ _ _ _ (a76 K (pv 2) rfl) (@a04 _) (by rfl)) (by decide) (by rfl) (by rfl)))))),?_⟩
   have sl:(1000000:Nat)≤sizeLine:=le_line (Nat.le_refl _)
   walk_at "go"
   intro p dx fp fdx hne
   have s1:Same H (upd (upd H dx (.own p)) p (.ins t.c_Grouping dx [])):=(Same.new fdx).trans (Same.new (by rw [a06 (Ne.symm hne)]; exact fp))
   refine ⟨H,p,dx,la,wa,us,ws,α,dα,f,labs,nw,n,rfl,a27,s1,fp,s1 _ _ hla,hus.tups s1.tups,hf,h8,hln,s1 _ _ hwa,hws.mono s1,hn,fun a ha=>⟨Nat.le_trans (hnw.len ha) hmany,fun k hk=>?_⟩,fun x ns H2 hxp hG hns=>⟨rfl,?_⟩⟩
   · obtain ⟨j,hj,rfl⟩:=hnw.mem ha hk
     exact hww a j ha hj
   subst hxp
   walk_at "run"
   subst hln
   have hS:=bb3 labs
   have hR:=bb4 (w:=ww) (many:=many) labs
   obtain ⟨Pv,hPv⟩:∃ Pv:Nat→St→Hp→Prop,Pv=(fun m σ H'=>σ=[some (.ref la),some (.ref wa),some (.ref x.p)]∧∃ gs ms ts qs,m=(labs.length - ms.length)*(labs.length+1)+qs.length∧GrAt t.c_Grouping H H' x nw ns labs.length gs ms ts qs∧GSt labs.length gs ms ts qs∧Grp (fun a=>labs[a]?) ww labs.length many (fun a=>gs.getD a 0) (Tt gs ts)):=⟨_,rfl⟩
   refine b89 Pv _ (by rw [hPv]; exact ⟨rfl,_,_,_,_,rfl,hG,hS,hR⟩) ?_
   intro m σ H3 hI
   rw [hPv] at hI
   obtain ⟨rfl,gs,ms,ts,qs,rfl,h3,hS3,hR3⟩:=hI
   clear hG hS hR
   walk_at "run"
   refine ⟨x.p,_,x.dx,_,_,rfl,h3.o,T.cl_Grouping,T.n_Grouping_waiting,ah5 x,?_⟩
   walk_at "run"
   refine ae9 (SqL.of h3.qq) ?_
   rw [a08]
   walk_at "run"
   refine ite2 (fun hc=>?_) (fun hc=>?_)
   · have hq0:0<qs.length:=by have:=of_decide_eq_true hc; omega
     obtain ⟨qs,c,rfl,_⟩:=ap1 (n:=qs.length - 1) (l:=qs) (by omega)
     refine ⟨fun σ' H'=>σ'=[some (.ref la),some (.ref wa),some (.ref x.p)]∧∃ gs' ms' ts' qs',GrAt t.c_Grouping H H' x nw ns labs.length gs' ms' ts' qs'∧GSt labs.length gs' ms' ts' qs'∧Grp (fun a=>labs[a]?) ww labs.length many (fun a=>gs'.getD a 0) (Tt gs' ts')∧(ms.length<ms'.length∨(ms'.length=ms.length∧qs'=qs)),fun σ' H' h'=>?_,?_⟩
     · obtain ⟨rfl,gs',ms',ts',qs',g1,g2,g3,g4⟩:=h'
       rw [hPv]
       refine ⟨_,?_,rfl,gs',ms',ts',qs',rfl,g1,g2,g3⟩
       have k1:=g2.few
       have k2:=g2.wait
       have k3:=hS3.few
       simp only [List.length_append,List.length_cons,List.length_nil]
       rcases g4 with g4 | ⟨g4,g5⟩
       · have:(labs.length - ms'.length+1)*(labs.length+1)≤(labs.length - ms.length)*(labs.length+1):=Nat.mul_le_mul_right _ (by omega)
         rw [Nat.add_mul] at this
         omega
       · rw [g4,g5]
         omega
     · walk_at "run"
       refine ⟨x.p,x.dx,_,rfl,h3.o,b40 x (by decide +kernel),?_⟩
       walk_at "run"
       refine ⟨x.p,_,x.dx,_,_,rfl,h3.o,T.cl_Grouping,T.n_Grouping_waiting,ah5 x,?_⟩
       have eq:=h3.qq
       rw [show natsV (qs++[c])=natsV qs++[.int (c:Nat)] from (a53 qs c).symm] at eq
       refine ab3 (SqL.of eq) ?_
       walk_at "run"
       refine bx5 eq ?_
       walk_at "run"
       refine ⟨_,fun a=>labs[a]?,ww,many,ar,H,x,nw,ns,labs.length,gs,ms,ts,qs,c,rfl,h3.updQ,hS3,hR3,hn,hmany,hnw,hww,hns,fun H' gs' ms' ts' qs' g1 g2 g3 g4=>?_⟩
       walk_at "run"
       exact ⟨rfl,gs',ms',ts',qs',g1,g2,g3,g4⟩
   · have hq0:qs=[]:=List.length_eq_zero_iff.mp (by
      refine Nat.eq_zero_of_not_pos fun z=>hc ?_
      exact decide_eq_true (by omega))
     subst hq0
     walk_at "run"
     refine ⟨x.p,_,x.dx,_,_,rfl,h3.o,T.cl_Grouping,T.n_Grouping_groups,ag9 x,?_⟩
     walk_at "run"
     have gl:=hS3.gl
     refine ⟨x.g,natsV gs,Nat,inferInstance,fun k=>Tr.int (k:Int),gs,rfl,SqL.of h3.gg,as8 gs,(fun a b e=>by have:=Tr.int.inj e; omega),fun a=>by simp [Tr.h],by omega,fun l H4 f4 s4 e4=>?_⟩
     refine q l H4 (h3.b.free f4) (h3.b.trans s4) ?_
     rw [e4]
     congr 3
     exact bb5 gl fun a b ha hb=>bq1 hR3 hS3 hww ha hb
def bk2 (K:PySem.W.Frag):Sp:=fun vs H Q _=>∃ (v:V) (l:Addr) (nd:Nd) (sf:List Nat),vs=[v,.ref l]∧nd.tr.At H v []∧H l=some (.lst (natsV sf))∧(∀ k∈nd.nexts,k<sf.length)∧nd.nexts.length≤100∧∀ v' H',Same H H'→(nd.ren fun i=>sf.getD i 0).tr.At H' v' []→Q v' H'
theorem bc6 {H':Hp}{nd:Nd}{k:Str}{r:List Tr}{n:Nat}{us:List V}{p:Addr}{m:Nat→Nat}(ho:nd.one?=some (k,r,n)) (hu:Tr.Ats H' r us []) (e:H' p=some (.tup ((V.str k::us)++[.int (m n:Nat)]))):(nd.ren m).tr.At H' (.ref p) []:=by
 unfold Nd.tr
 rw [(Nd.one_its ho).2.1]
 exact at_tup0.mpr ⟨p,_,rfl,e,ats_cons0.mpr ⟨_,us++[.int (m n:Nat)],rfl,a47,ats_app0.mpr ⟨us,_,rfl,hu,ats_cons0.mpr ⟨_,_,rfl,a58,ats_nil0.mpr rfl⟩⟩⟩⟩
theorem bc7 {H:Hp}{x:Tr}{v:V}{bs:List (List Pt×Nat)}{i:Nat}(e:(bs.map brT)[i]?=some x) (h:x.At H v []):∃ p u b,v=.ref p∧H p=some (.tup [u,.int (b.2:Nat)])∧bs[i]?=some b∧(Tr.tup (b.1.map Pt.tr)).At H u []:=by
 rw [List.getElem?_map] at e
 cases eb:bs[i]? with
 | none=>rw [eb] at e; cases e
 | some b =>
   rw [eb] at e
   obtain rfl:brT b=x:=Option.some.inj e
   obtain ⟨p,vs,rfl,e2,h⟩:=at_tup0.mp h
   obtain ⟨v1,w1,rfl,h1,h⟩:=ats_cons0.mp h
   obtain ⟨v2,w2,rfl,h2,h⟩:=ats_cons0.mp h
   obtain rfl:=ats_nil0.mp h
   obtain rfl:=at_int0.mp h2
   exact ⟨p,v1,b,rfl,e2,rfl,h1⟩
theorem a97 {H:Hp}{xs:List Tr}{vs:List V}(h:Tr.Ats H xs vs []) {i:Nat}{v:V}(e:vs[i]?=some v):∃ x,xs[i]?=some x∧x.At H v []:=by
 obtain ⟨x,f,h1,h2,h3⟩:=h.get i v e
 have:f=[]:=List.eq_nil_iff_forall_not_mem.mpr fun a m=>by simpa using h3 a m
 subst this
 exact ⟨x,h1,h2⟩
theorem aa8 {H:Hp}{xs:List Tr}{vs:List V}{x:Tr}{v:V}(h:Tr.Ats H xs vs []) (h2:x.At H v []):Tr.Ats H (xs++[x]) (vs++[v]) []:=h.snoc h2
theorem ap8 (T:Txt K mg t):FnOk P w K mg base CX0 1 t.a_renumbered t.fd_renumbered ["node","numbers"] (bk2 K):=by
 refine T.F_renumbered.ok sc_renumbered (fun vs H Q E h=>?_) (fun cdv A outer s H vs Q E hr h=>?_)
 · obtain ⟨v,l,nd,sf,rfl,_⟩:=h
   rfl
 · obtain ⟨v,l,nd,sf,rfl,hv,hl,hk,hz,q⟩:=h
   refine ⟨_,(@a03 _ _ _ _ _ (@a45 _ _ 2 _ _ _ _ sc_renumbered.nd rfl (by walk_at "o") (@a29 _ _ _ _ _ _ _ (a09 K) (pv 0) (@a01 _ _ _ _) (fun _ _=>rfl)) (by rfl) (by walk_at "o"))
    (@a03 _ _ _ _ _ (@a68 _ _ _ _ _ _ _ _ (@a36 _ _ _ _ _ _ _ _ a65 (pv 2) (@a28 _ _ _ _) (nomark _)) (@a05 _ _ _ (@a41 _ _ _ _ (@a33 _ _ _ _ _ (@a00 _ _ _ _ _ (@a28 _ _ _ _) (@a00 _ _ _ _ _ (@a29 _ _ _ _ _ _ _ (a09 K) (pv 0) (@a01 _ _ _ _) (fun _ _=>rfl)) (@a00 _ _ _ _ _ (@a78 _ _ _ _ _ _ _ _ _ (ad3 K) (by rfl) T.z_tuple ae1 (@a00 _ _ _ _ _ (ae4 (Nt:=["pattern","way"]) (Nf:=["numbers"]) (caps:=[1]) rfl (a83 (sc:=defScope a62) rfl rfl (by decide +kernel) (by decide +kernel) (by decide +kernel) rfl (by decide +kernel)) (aj2 K (@a29 _ _ _ _ _ _ _ (a09 K) (pv 0) (@a01 _ _ _ _) (fun _ _=>rfl))) (fun _ _ _ _ _=>(ab2 K (n:=2) rfl (a54 (a38 (i:=0) (show (["pattern","way","numbers"]:List Str).Nodup by decide +kernel) rfl (by walk_at "o")) (a54 (a38 (i:=1) (show (["pattern","way","numbers"]:List Str).Nodup by decide +kernel) rfl (by walk_at "o")) (@ab0 _))))) (fun _ _ _ _ _=>(@a82 _)) (fun _ _ _ _ _=>(@a33 _ _ _ _ _ (@a00 _ _ _ _ _ (pv 0) (@a00 _ _ _ _ _ (@a29 _ _ _ _ _ _ _ (a07 K) (pv 2) (pv 1) (fun _ _=>rfl)) (@a04 _) (by rfl)) (by rfl))))) (@a04 _) (by rfl)) (by decide) (by decide) (by rfl) (by rfl)) (@a00 _ _ _ _ _ (@a29 _ _ _ _ _ _ _ (a07 K) (pv 1) (@a29 _ _ _ _ _ _ _ (a09 K) (pv 0) (@a01 _ _ _ _) (fun _ _=>rfl)) (fun _ _=>rfl)) (@a04 _) (by rfl)) (by rfl)) (by rfl)) (by rfl))))) (@a40 _))
    (@a03 _ _ _ _ _ (@a68 _ _ _ _ _ _ _ _ (@a36 _ _ _ _ _ _ _ _ a65 (pv 2) (@a28 _ _ _ _) (nomark _)) (@a05 _ _ _ (@a41 _ _ _ _ (@a33 _ _ _ _ _ (@a00 _ _ _ _ _ (@a28 _ _ _ _) (@a00 _ _ _ _ _ (@a29 _ _ _ _ _ _ _ (a09 K) (pv 0) (@a01 _ _ _ _) (fun _ _=>rfl)) (@a00 _ _ _ _ _ (@a29 _ _ _ _ _ _ _ (a07 K) (pv 1) (@a29 _ _ _ _ _ _ _ (a09 K) (pv 0) (@a01 _ _ _ _) (fun _ _=>rfl)) (fun _ _=>rfl)) (@a00 _ _ _ _ _ (@a29 _ _ _ _ _ _ _ (a07 K) (pv 1) (@a29 _ _ _ _ _ _ _ (a09 K) (pv 0) (@a01 _ _ _ _) (fun _ _=>rfl)) (fun _ _=>rfl)) (@a04 _) (by rfl)) (by rfl)) (by rfl)) (by rfl))))) (@a40 _))
    (@a03 _ _ _ _ _ (@a68 _ _ _ _ _ _ _ _ (@a36 _ _ _ _ _ _ _ _ a65 (pv 2) (@a28 _ _ _ _) (nomark _)) (@a05 _ _ _ (@a41 _ _ _ _ (@a33 _ _ _ _ _ (@a00 _ _ _ _ _ (@a28 _ _ _ _) (@a00 _ _ _ _ _ (@a29 _ _ _ _ _ _ _ (a07 K) (pv 1) (@a29 _ _ _ _ _ _ _ (a09 K) (pv 0) (@a01 _ _ _ _) (fun _ _=>rfl)) (fun _ _=>rfl)) (@a00 _ _ _ _ _ (@a29 _ _ _ _ _ _ _ (a07 K) (pv 1) (@a29 _ _ _ _ _ _ _ (a09 K) (pv 0) (@a01 _ _ _ _) (fun _ _=>rfl)) (fun _ _=>rfl)) (@a04 _) (by rfl)) (by rfl)) (by rfl))))) (@a40 _))
    (@a03 _ _ _ _ _ (@a68 _ _ _ _ _ _ _ _ (@PW.pt _ _ _ (@ak6 _ _ _ _ _ _ _ (@a36 _ _ _ _ _ _ _ _ a65 (pv 2) (@a28 _ _ _ _) (nomark _)) (@ah7 _ _ _ _ (@a36 _ _ _ _ _ _ _ _ a65 (pv 2) (@a28 _ _ _ _) (nomark _))))) (@a05 _ _ _ (@a41 _ _ _ _ (pv 0))) (@a40 _))
    (@a05 _ _ _ (@a41 _ _ _ _ (@a31 _ _ _ _ _ _ _ _ (ay1 K) (@am4 _ _ _ _ _ _ _ _ _ _ (au6 K) (pv 0) (@at9 _) (@au0 _ _ _ (@aq9 _ _ _ _ _ _ ah9 (@a01 _ _ _ _)))) (@a33 _ _ _ _ _ (@a00 _ _ _ _ _ (@a29 _ _ _ _ _ _ _ (a07 K) (pv 1) (@a29 _ _ _ _ _ _ _ (a09 K) (pv 0) (@aq9 _ _ _ _ _ _ ah9 (@a01 _ _ _ _)) (fun _ _=>rfl)) (fun _ _=>rfl)) (@a04 _) (by rfl))))))))))),?_⟩
   cases ho:nd.one? with
   | some p =>
     obtain ⟨k,r,n⟩:=p
     obtain ⟨_,e2,e3,n1,n2,n3,n4,n5,_⟩:=Nd.one_its ho
     obtain ⟨a,us,rfl,ha,hu,hul⟩:=Nd.one_at ho hv
     have hn:n<sf.length:=hk n (by rw [e3]; simp)
     walk_at "go"
     refine a32 (SqT.of ha) (a02 (j:=0) rfl) ?_
     walk_at "run"
     refine a34 n1 ?_
     walk_at "run"
     refine a34 n2 ?_
     walk_at "run"
     refine a34 n3 ?_
     walk_at "run"
     refine a34 n4 ?_
     walk_at "run"
     refine a34 n5 ?_
     walk_at "run"
     refine ao3 (xs:=V.str k::us) (y:=.int (n:Nat)) (SqT.of ha) ?_
     intro p1 H1 f1 s1 e1
     walk_at "run"
     refine a32 (SqT.of (s1 _ _ ha)) (ai4 _ _) ?_
     walk_at "run"
     refine a49 (SqL.of (s1 _ _ hl)) (a60 hn) ?_
     walk_at "run"
     intro p2 H2 f2 s2 e2'
     walk_at "run"
     refine bj9 (SqT.of (s2 _ _ e1)) (SqT.of e2') (by simp) (by simp) (le_line (by simp; omega)) ?_
     intro p3 H3 f3 s3 e3'
     have sA:=s1.trans (s2.trans s3)
     exact q _ _ sA (bc6 ho (hu.same sA) e3')
   | none =>
     cases nd with
     | say w m=>cases ho
     | hand w m k=>cases ho
     | put b e m=>cases ho
     | test c m n =>
       obtain ⟨a,u,rfl,ha,hc⟩:=Nd.test_at hv
       walk_at "go"
       refine a32 (SqT.of ha) (a02 (j:=0) rfl) ?_
       walk_at "run"
       refine a34 (by decide +kernel) ?_
       walk_at "run"
       refine a66 rfl ?_
       walk_at "run"
       refine a32 (SqT.of ha) (a02 (j:=1) rfl) ?_
       walk_at "run"
       refine a32 (SqT.of ha) (a02 (j:=2) rfl) ?_
       walk_at "run"
       refine a49 (SqL.of hl) (a60 (hk m (by simp [Nd.nexts]))) ?_
       walk_at "run"
       refine a32 (SqT.of ha) (a02 (j:=3) rfl) ?_
       walk_at "run"
       refine a49 (SqL.of hl) (a60 (hk n (by simp [Nd.nexts]))) ?_
       walk_at "run"
       intro p1 H1 f1 s1 e1
       exact q _ _ s1 (ac6 e1 a47 (hc.same s1) a58 a58)
     | call m n =>
       obtain ⟨a,rfl,ha⟩:=Nd.call_at hv
       walk_at "go"
       refine a32 (SqT.of ha) (a02 (j:=0) rfl) ?_
       walk_at "run"
       refine a34 (by decide +kernel) ?_
       walk_at "run"
       refine a34 (by decide +kernel) ?_
       walk_at "run"
       refine a66 rfl ?_
       walk_at "run"
       refine a32 (SqT.of ha) (a02 (j:=1) rfl) ?_
       walk_at "run"
       refine a49 (SqL.of hl) (a60 (hk m (by simp [Nd.nexts]))) ?_
       walk_at "run"
       refine a32 (SqT.of ha) (a02 (j:=2) rfl) ?_
       walk_at "run"
       refine a49 (SqL.of hl) (a60 (hk n (by simp [Nd.nexts]))) ?_
       walk_at "run"
       intro p1 H1 f1 s1 e1
       exact q _ _ s1 (af4 e1 a47 a58 a58)
     | back =>
       obtain ⟨a,rfl,ha⟩:=Nd.back_at hv
       walk_at "go"
       refine a32 (SqT.of ha) (a02 (j:=0) rfl) ?_
       walk_at "run"
       refine a34 (by decide +kernel) ?_
       walk_at "run"
       refine a34 (by decide +kernel) ?_
       walk_at "run"
       refine a34 (by decide +kernel) ?_
       walk_at "run"
       refine a66 rfl ?_
       walk_at "run"
       exact q _ _ (Same.refl _) hv
     | stop =>
       obtain ⟨a,rfl,ha⟩:=Nd.stop_at hv
       walk_at "go"
       refine a32 (SqT.of ha) (a02 (j:=0) rfl) ?_
       walk_at "run"
       refine a34 (by decide +kernel) ?_
       walk_at "run"
       refine a34 (by decide +kernel) ?_
       walk_at "run"
       refine a34 (by decide +kernel) ?_
       walk_at "run"
       refine a34 (by decide +kernel) ?_
       walk_at "run"
       refine a66 rfl ?_
       walk_at "run"
       exact q _ _ (Same.refl _) hv
     | wait wl bs n =>
       obtain ⟨a,b,us,rfl,ha,hb,hu⟩:=Nd.wait_at hv
       have hul:=hu.len
       simp only [Nd.nexts,List.length_append,List.length_map,List.length_cons,List.length_nil] at hz hul
       walk_at "go"
       refine a32 (SqT.of ha) (a02 (j:=0) rfl) ?_
       walk_at "run"
       refine a66 rfl ?_
       walk_at "run"
       refine a32 (SqT.of ha) (a02 (j:=1) rfl) ?_
       walk_at "run"
       refine a32 (SqT.of ha) (a02 (j:=2) rfl) ?_
       walk_at "run"
       refine ⟨⟨_,SqT.of hb⟩,ad4 (xs:=us) (le_line (by omega)) (fun i acc H'=>Same H H'∧i≤bs.length∧Tr.Ats H' ((bs.take i).map fun x=>brT (renB (fun i=>sf.getD i 0) x)) acc []) ⟨Same.refl _,Nat.zero_le _,ats_nil0.mpr rfl⟩ (fun i acc H' ⟨s',hi,e⟩=>⟨?_,SqT.of (s' _ _ hb)⟩) ?_ ?_⟩
       · rw [e.len]
         simp only [List.length_map,List.length_take]
         omega
       · rintro i x acc H' hx ⟨s',hi,e⟩
         obtain ⟨t,ht,hxt⟩:=a97 hu hx
         obtain ⟨p,u,bb,rfl,hp,hbb,hpu⟩:=bc7 ht hxt
         have hi':i<bs.length:=(List.getElem?_eq_some_iff.mp hbb).1
         have hlt:bb.2<sf.length:=hk _ (by simp only [Nd.nexts,List.mem_append,List.mem_map]; exact .inl ⟨bb,List.mem_of_getElem? hbb,rfl⟩)
         refine ⟨p,u,.int (bb.2:Nat),rfl,SqT.of (s' _ _ hp),?_⟩
         walk_at "run"
         refine a49 (SqL.of (s' _ _ hl)) (a60 hlt) ?_
         walk_at "run"
         intro p1 H1 f1 s1 e1
         refine ⟨s'.trans s1,hi',?_⟩
         rw [List.take_add_one,hbb,List.map_append]
         exact aa8 (e.same s1) (a99 e1 (hpu.same (s'.trans s1)) a58)
       · rintro acc H' ⟨s',_,e⟩ p1 H1 f1 s1 e1
         walk_at "run"
         refine ag6 (SqL.of e1) ?_
         intro p2 H2 f2 s2 e2
         walk_at "run"
         have sA:=s'.trans (s1.trans s2)
         refine a32 (SqT.of (sA _ _ ha)) (a02 (j:=3) rfl) ?_
         walk_at "run"
         refine a49 (SqL.of (sA _ _ hl)) (a60 (hk n (by simp [Nd.nexts]))) ?_
         walk_at "run"
         intro p3 H3 f3 s3 e3
         rw [hul,List.take_length] at e
         refine q _ _ (sA.trans s3) (ac6 e3 a47 a58 (at_tup0.mpr ⟨p2,_,rfl,s3 _ _ e2,?_⟩) a58)
         rw [List.map_map]
         exact e.same (s1.trans (s2.trans s3))
def az6 (K:PySem.W.Frag):Sp:=fun vs H Q _=>∃ (v:V) (nd:Nd),vs=[v]∧nd.tr.At H v []∧nd.nexts.length≤100∧∀ l H',H l=none→Same H H'→H' l=some (.lst (natsV nd.nexts))→Q (.ref l) H'
theorem at1 (T:Txt K mg t):FnOk P w K mg base CX0 1 t.a_next_ones t.fd_next_ones ["node"] (az6 K):=by
 refine T.F_next_ones.ok sc_next_ones (fun vs H Q E h=>?_) (fun cdv A outer s H vs Q E hr h=>?_)
 · obtain ⟨v,nd,rfl,_⟩:=h
   rfl
 · obtain ⟨v,nd,rfl,hv,hz,q⟩:=h
   refine ⟨_,(@a03 _ _ _ _ _ (@a45 _ _ 1 _ _ _ _ sc_next_ones.nd rfl (by walk_at "o") (@a29 _ _ _ _ _ _ _ (a09 K) (pv 0) (@a01 _ _ _ _) (fun _ _=>rfl)) (by rfl) (by walk_at "o"))
    (@a03 _ _ _ _ _ (@a68 _ _ _ _ _ _ _ _ (@a36 _ _ _ _ _ _ _ _ a65 (pv 1) (@a28 _ _ _ _) (nomark _)) (@a05 _ _ _ (@a41 _ _ _ _ (@a31 _ _ _ _ _ _ _ _ a57 (ae4 (Nt:=["pattern","way"]) (Nf:=[]) (caps:=[]) rfl (a83 (sc:=defScope a74) rfl rfl (by decide +kernel) (by decide +kernel) (by decide +kernel) rfl (by decide +kernel)) (aj2 K (@a29 _ _ _ _ _ _ _ (a09 K) (pv 0) (@a01 _ _ _ _) (fun _ _=>rfl))) (fun _ _ _ _ _=>(ab2 K (n:=2) rfl (a54 (a38 (i:=0) (show (["pattern","way"]:List Str).Nodup by decide +kernel) rfl (by walk_at "o")) (a54 (a38 (i:=1) (show (["pattern","way"]:List Str).Nodup by decide +kernel) rfl (by walk_at "o")) (@ab0 _))))) (fun _ _ _ _ _=>(@a82 _)) (fun _ _ _ _ _=>(pv 1))) (@a52 _ _ _ _ (@a00 _ _ _ _ _ (@a29 _ _ _ _ _ _ _ (a09 K) (pv 0) (@a01 _ _ _ _) (fun _ _=>rfl)) (@a04 _) (by rfl)))))) (@a40 _))
    (@a03 _ _ _ _ _ (@a68 _ _ _ _ _ _ _ _ (@a36 _ _ _ _ _ _ _ _ a65 (pv 1) (@a28 _ _ _ _) (nomark _)) (@a05 _ _ _ (@a41 _ _ _ _ (@a52 _ _ _ _ (@a00 _ _ _ _ _ (@a29 _ _ _ _ _ _ _ (a09 K) (pv 0) (@a01 _ _ _ _) (fun _ _=>rfl)) (@a00 _ _ _ _ _ (@a29 _ _ _ _ _ _ _ (a09 K) (pv 0) (@a01 _ _ _ _) (fun _ _=>rfl)) (@a04 _) (by rfl)) (by rfl))))) (@a40 _))
    (@a03 _ _ _ _ _ (@a68 _ _ _ _ _ _ _ _ (@a36 _ _ _ _ _ _ _ _ a65 (pv 1) (@a28 _ _ _ _) (nomark _)) (@a05 _ _ _ (@a41 _ _ _ _ (@a52 _ _ _ _ (@a00 _ _ _ _ _ (@a29 _ _ _ _ _ _ _ (a09 K) (pv 0) (@a01 _ _ _ _) (fun _ _=>rfl)) (@a00 _ _ _ _ _ (@a29 _ _ _ _ _ _ _ (a09 K) (pv 0) (@a01 _ _ _ _) (fun _ _=>rfl)) (@a04 _) (by rfl)) (by rfl))))) (@a40 _))
    (@a03 _ _ _ _ _ (@a68 _ _ _ _ _ _ _ _ (@PW.pt _ _ _ (@ak6 _ _ _ _ _ _ _ (@a36 _ _ _ _ _ _ _ _ a65 (pv 1) (@a28 _ _ _ _) (nomark _)) (@ah7 _ _ _ _ (@a36 _ _ _ _ _ _ _ _ a65 (pv 1) (@a28 _ _ _ _) (nomark _))))) (@a05 _ _ _ (@a41 _ _ _ _ (@a52 _ _ _ _ (@a04 _)))) (@a40 _))
    (@a05 _ _ _ (@a41 _ _ _ _ (@a52 _ _ _ _ (@a00 _ _ _ _ _ (@a29 _ _ _ _ _ _ _ (a09 K) (pv 0) (@aq9 _ _ _ _ _ _ ah9 (@a01 _ _ _ _)) (fun _ _=>rfl)) (@a04 _) (by rfl)))))))))),?_⟩
   cases ho:nd.one? with
   | some p =>
     obtain ⟨k,r,n⟩:=p
     obtain ⟨_,e2,e3,n1,n2,n3,n4,n5,_⟩:=Nd.one_its ho
     obtain ⟨a,us,rfl,ha,hu,hul⟩:=Nd.one_at ho hv
     rw [e3] at q
     walk_at "go"
     refine a32 (SqT.of ha) (a02 (j:=0) rfl) ?_
     walk_at "run"
     refine a34 n1 ?_
     walk_at "run"
     refine a34 n2 ?_
     walk_at "run"
     refine a34 n3 ?_
     walk_at "run"
     refine a34 n4 ?_
     walk_at "run"
     refine a34 n5 ?_
     walk_at "run"
     refine a32 (SqT.of ha) (ai4 _ _) ?_
     walk_at "run"
     intro p1 H1 f1 s1 e1
     exact q p1 H1 f1 s1 e1
   | none =>
     cases nd with
     | say w m=>cases ho
     | hand w m k=>cases ho
     | put b e m=>cases ho
     | test c m n =>
       obtain ⟨a,u,rfl,ha,hc⟩:=Nd.test_at hv
       walk_at "go"
       refine a32 (SqT.of ha) (a02 (j:=0) rfl) ?_
       walk_at "run"
       refine a34 (by decide +kernel) ?_
       walk_at "run"
       refine a66 rfl ?_
       walk_at "run"
       refine a32 (SqT.of ha) (a02 (j:=2) rfl) ?_
       walk_at "run"
       refine a32 (SqT.of ha) (a02 (j:=3) rfl) ?_
       walk_at "run"
       intro p1 H1 f1 s1 e1
       exact q p1 H1 f1 s1 e1
     | call m n =>
       obtain ⟨a,rfl,ha⟩:=Nd.call_at hv
       walk_at "go"
       refine a32 (SqT.of ha) (a02 (j:=0) rfl) ?_
       walk_at "run"
       refine a34 (by decide +kernel) ?_
       walk_at "run"
       refine a34 (by decide +kernel) ?_
       walk_at "run"
       refine a66 rfl ?_
       walk_at "run"
       refine a32 (SqT.of ha) (a02 (j:=1) rfl) ?_
       walk_at "run"
       refine a32 (SqT.of ha) (a02 (j:=2) rfl) ?_
       walk_at "run"
       intro p1 H1 f1 s1 e1
       exact q p1 H1 f1 s1 e1
     | back =>
       obtain ⟨a,rfl,ha⟩:=Nd.back_at hv
       walk_at "go"
       refine a32 (SqT.of ha) (a02 (j:=0) rfl) ?_
       walk_at "run"
       refine a34 (by decide +kernel) ?_
       walk_at "run"
       refine a34 (by decide +kernel) ?_
       walk_at "run"
       refine a34 (by decide +kernel) ?_
       walk_at "run"
       refine a66 rfl ?_
       walk_at "run"
       intro p1 H1 f1 s1 e1
       exact q p1 H1 f1 s1 e1
     | stop =>
       obtain ⟨a,rfl,ha⟩:=Nd.stop_at hv
       walk_at "go"
       refine a32 (SqT.of ha) (a02 (j:=0) rfl) ?_
       walk_at "run"
       refine a34 (by decide +kernel) ?_
       walk_at "run"
       refine a34 (by decide +kernel) ?_
       walk_at "run"
       refine a34 (by decide +kernel) ?_
       walk_at "run"
       refine a34 (by decide +kernel) ?_
       walk_at "run"
       refine a66 rfl ?_
       walk_at "run"
       intro p1 H1 f1 s1 e1
       exact q p1 H1 f1 s1 e1
     | wait wl bs n =>
       obtain ⟨a,b,us,rfl,ha,hb,hu⟩:=Nd.wait_at hv
       have hul:=hu.len
       simp only [Nd.nexts,List.length_append,List.length_map,List.length_cons,List.length_nil] at hz hul
       walk_at "go"
       refine a32 (SqT.of ha) (a02 (j:=0) rfl) ?_
       walk_at "run"
       refine a66 rfl ?_
       walk_at "run"
       refine a32 (SqT.of ha) (a02 (j:=2) rfl) ?_
       walk_at "run"
       refine ⟨⟨_,SqT.of hb⟩,ad4 (xs:=us) (le_line (by omega)) (fun i acc H'=>H'=H∧i≤bs.length∧acc=natsV ((bs.take i).map (·.2))) ⟨rfl,Nat.zero_le _,rfl⟩ (fun i acc H' ⟨e0,hi,e⟩=>⟨?_,e0 ▸ SqT.of hb⟩) ?_ ?_⟩
       · rw [e,a08,List.length_map,List.length_take]
         omega
       · rintro i x acc H' hx ⟨rfl,hi,rfl⟩
         obtain ⟨t,ht,hxt⟩:=a97 hu hx
         obtain ⟨p,u,bb,rfl,hp,hbb,hpu⟩:=bc7 ht hxt
         have hi':i<bs.length:=(List.getElem?_eq_some_iff.mp hbb).1
         refine ⟨p,u,.int (bb.2:Nat),rfl,SqT.of hp,?_⟩
         walk_at "run"
         refine ⟨rfl,hi',?_⟩
         rw [a53,List.take_add_one,hbb,List.map_append]
         rfl
       · rintro acc H' ⟨rfl,_,rfl⟩ p1 H1 f1 s1 e1
         rw [hul,List.take_length] at e1
         walk_at "run"
         refine a32 (SqT.of (s1 _ _ ha)) (a02 (j:=3) rfl) ?_
         walk_at "run"
         intro p2 H2 f2 s2 e2
         walk_at "run"
         refine b83 (s2 _ _ e1) e2 (le_line (by rw [a08,List.length_map]; simp; omega)) ?_
         intro p3 H3 f3 s3 e3
         refine q p3 H3 ((s1.trans s2).free f3) (s1.trans (s2.trans s3)) ?_
         rw [e3]
         simp [natsV,Nd.nexts]
theorem at2 (T:Txt K mg t):FnOk P w K mg base CX0 1 t.a__law_nexts t.fd__law_nexts ["node"] (az6 K):=by
 refine T.F__law_nexts.ok as9 (fun vs H Q E h=>?_) (fun cdv A outer s H vs Q E hr h=>?_)
 · obtain ⟨v,nd,rfl,_⟩:=h
   rfl
 · obtain ⟨v,nd,rfl,hv,hz,q⟩:=h
   refine ⟨_,(@a03 _ _ _ _ _ (@a68 _ _ _ _ _ _ _ _ (@a36 _ _ _ _ _ _ _ _ a65 (@a29 _ _ _ _ _ _ _ (a09 K) (pv 0) (@a01 _ _ _ _) (fun _ _=>rfl)) (@a28 _ _ _ _) (nomark _)) (@a05 _ _ _ (@a41 _ _ _ _ (@a31 _ _ _ _ _ _ _ _ a57 (ae4 (Nt:=["pattern","to"]) (Nf:=[]) (caps:=[]) rfl (a83 (sc:=defScope a75) rfl rfl (by decide +kernel) (by decide +kernel) (by decide +kernel) rfl (by decide +kernel)) (aj2 K (@a29 _ _ _ _ _ _ _ (a09 K) (pv 0) (@a01 _ _ _ _) (fun _ _=>rfl))) (fun _ _ _ _ _=>(ab2 K (n:=2) rfl (a54 (a38 (i:=0) (show (["pattern","to"]:List Str).Nodup by decide +kernel) rfl (by walk_at "o")) (a54 (a38 (i:=1) (show (["pattern","to"]:List Str).Nodup by decide +kernel) rfl (by walk_at "o")) (@ab0 _))))) (fun _ _ _ _ _=>(@a82 _)) (fun _ _ _ _ _=>(pv 1))) (@a52 _ _ _ _ (@a00 _ _ _ _ _ (@a29 _ _ _ _ _ _ _ (a09 K) (pv 0) (@a01 _ _ _ _) (fun _ _=>rfl)) (@a04 _) (by rfl)))))) (@a40 _))
    (@a03 _ _ _ _ _ (@a68 _ _ _ _ _ _ _ _ (@a36 _ _ _ _ _ _ _ _ a65 (@a29 _ _ _ _ _ _ _ (a09 K) (pv 0) (@a01 _ _ _ _) (fun _ _=>rfl)) (@a28 _ _ _ _) (nomark _)) (@a05 _ _ _ (@a41 _ _ _ _ (@a52 _ _ _ _ (@a00 _ _ _ _ _ (@a29 _ _ _ _ _ _ _ (a09 K) (pv 0) (@a01 _ _ _ _) (fun _ _=>rfl)) (@a00 _ _ _ _ _ (@a29 _ _ _ _ _ _ _ (a09 K) (pv 0) (@a01 _ _ _ _) (fun _ _=>rfl)) (@a04 _) (by rfl)) (by rfl))))) (@a40 _))
    (@a03 _ _ _ _ _ (@a68 _ _ _ _ _ _ _ _ (@a36 _ _ _ _ _ _ _ _ a65 (@a29 _ _ _ _ _ _ _ (a09 K) (pv 0) (@a01 _ _ _ _) (fun _ _=>rfl)) (@a28 _ _ _ _) (nomark _)) (@a05 _ _ _ (@a41 _ _ _ _ (@a52 _ _ _ _ (@a00 _ _ _ _ _ (@a29 _ _ _ _ _ _ _ (a09 K) (pv 0) (@a01 _ _ _ _) (fun _ _=>rfl)) (@a00 _ _ _ _ _ (@a29 _ _ _ _ _ _ _ (a09 K) (pv 0) (@a01 _ _ _ _) (fun _ _=>rfl)) (@a04 _) (by rfl)) (by rfl))))) (@a40 _))
    (@a03 _ _ _ _ _ (@a68 _ _ _ _ _ _ _ _ (@PW.pt _ _ _ (@ak6 _ _ _ _ _ _ _ (@a36 _ _ _ _ _ _ _ _ a65 (@a29 _ _ _ _ _ _ _ (a09 K) (pv 0) (@a01 _ _ _ _) (fun _ _=>rfl)) (@a28 _ _ _ _) (nomark _)) (@ah7 _ _ _ _ (@a36 _ _ _ _ _ _ _ _ a65 (@a29 _ _ _ _ _ _ _ (a09 K) (pv 0) (@a01 _ _ _ _) (fun _ _=>rfl)) (@a28 _ _ _ _) (nomark _))))) (@a05 _ _ _ (@a41 _ _ _ _ (@a52 _ _ _ _ (@a04 _)))) (@a40 _))
    (@a05 _ _ _ (@a41 _ _ _ _ (@a52 _ _ _ _ (@a00 _ _ _ _ _ (@a29 _ _ _ _ _ _ _ (a09 K) (pv 0) (@aq9 _ _ _ _ _ _ ah9 (@a01 _ _ _ _)) (fun _ _=>rfl)) (@a04 _) (by rfl))))))))),?_⟩
   cases ho:nd.one? with
   | some p =>
     obtain ⟨k,r,n⟩:=p
     obtain ⟨_,e2,e3,n1,n2,n3,n4,n5,_⟩:=Nd.one_its ho
     obtain ⟨a,us,rfl,ha,hu,hul⟩:=Nd.one_at ho hv
     rw [e3] at q
     walk_at "go"
     refine a32 (SqT.of ha) (a02 (j:=0) rfl) ?_
     walk_at "run"
     refine a34 n1 ?_
     walk_at "run"
     refine a32 (SqT.of ha) (a02 (j:=0) rfl) ?_
     walk_at "run"
     refine a34 n2 ?_
     walk_at "run"
     refine a32 (SqT.of ha) (a02 (j:=0) rfl) ?_
     walk_at "run"
     refine a34 n3 ?_
     walk_at "run"
     refine a32 (SqT.of ha) (a02 (j:=0) rfl) ?_
     walk_at "run"
     refine a34 n4 ?_
     walk_at "run"
     refine a32 (SqT.of ha) (a02 (j:=0) rfl) ?_
     walk_at "run"
     refine a34 n5 ?_
     walk_at "run"
     refine a32 (SqT.of ha) (ai4 _ _) ?_
     walk_at "run"
     intro p1 H1 f1 s1 e1
     exact q p1 H1 f1 s1 e1
   | none =>
     cases nd with
     | say w m=>cases ho
     | hand w m k=>cases ho
     | put b e m=>cases ho
     | test c m n =>
       obtain ⟨a,u,rfl,ha,hc⟩:=Nd.test_at hv
       walk_at "go"
       refine a32 (SqT.of ha) (a02 (j:=0) rfl) ?_
       walk_at "run"
       refine a34 (by decide +kernel) ?_
       walk_at "run"
       refine a32 (SqT.of ha) (a02 (j:=0) rfl) ?_
       walk_at "run"
       refine a66 rfl ?_
       walk_at "run"
       refine a32 (SqT.of ha) (a02 (j:=2) rfl) ?_
       walk_at "run"
       refine a32 (SqT.of ha) (a02 (j:=3) rfl) ?_
       walk_at "run"
       intro p1 H1 f1 s1 e1
       exact q p1 H1 f1 s1 e1
     | call m n =>
       obtain ⟨a,rfl,ha⟩:=Nd.call_at hv
       walk_at "go"
       refine a32 (SqT.of ha) (a02 (j:=0) rfl) ?_
       walk_at "run"
       refine a34 (by decide +kernel) ?_
       walk_at "run"
       refine a32 (SqT.of ha) (a02 (j:=0) rfl) ?_
       walk_at "run"
       refine a34 (by decide +kernel) ?_
       walk_at "run"
       refine a32 (SqT.of ha) (a02 (j:=0) rfl) ?_
       walk_at "run"
       refine a66 rfl ?_
       walk_at "run"
       refine a32 (SqT.of ha) (a02 (j:=1) rfl) ?_
       walk_at "run"
       refine a32 (SqT.of ha) (a02 (j:=2) rfl) ?_
       walk_at "run"
       intro p1 H1 f1 s1 e1
       exact q p1 H1 f1 s1 e1
     | back =>
       obtain ⟨a,rfl,ha⟩:=Nd.back_at hv
       walk_at "go"
       refine a32 (SqT.of ha) (a02 (j:=0) rfl) ?_
       walk_at "run"
       refine a34 (by decide +kernel) ?_
       walk_at "run"
       refine a32 (SqT.of ha) (a02 (j:=0) rfl) ?_
       walk_at "run"
       refine a34 (by decide +kernel) ?_
       walk_at "run"
       refine a32 (SqT.of ha) (a02 (j:=0) rfl) ?_
       walk_at "run"
       refine a34 (by decide +kernel) ?_
       walk_at "run"
       refine a32 (SqT.of ha) (a02 (j:=0) rfl) ?_
       walk_at "run"
       refine a66 rfl ?_
       walk_at "run"
       intro p1 H1 f1 s1 e1
       exact q p1 H1 f1 s1 e1
     | stop =>
       obtain ⟨a,rfl,ha⟩:=Nd.stop_at hv
       walk_at "go"
       refine a32 (SqT.of ha) (a02 (j:=0) rfl) ?_
       walk_at "run"
       refine a34 (by decide +kernel) ?_
       walk_at "run"
       refine a32 (SqT.of ha) (a02 (j:=0) rfl) ?_
       walk_at "run"
       refine a34 (by decide +kernel) ?_
       walk_at "run"
       refine a32 (SqT.of ha) (a02 (j:=0) rfl) ?_
       walk_at "run"
       refine a34 (by decide +kernel) ?_
       walk_at "run"
       refine a32 (SqT.of ha) (a02 (j:=0) rfl) ?_
       walk_at "run"
       refine a34 (by decide +kernel) ?_
       walk_at "run"
       refine a32 (SqT.of ha) (a02 (j:=0) rfl) ?_
       walk_at "run"
       refine a66 rfl ?_
       walk_at "run"
       intro p1 H1 f1 s1 e1
       exact q p1 H1 f1 s1 e1
     | wait wl bs n =>
       obtain ⟨a,b,us,rfl,ha,hb,hu⟩:=Nd.wait_at hv
       have hul:=hu.len
       simp only [Nd.nexts,List.length_append,List.length_map,List.length_cons,List.length_nil] at hz hul
       walk_at "go"
       refine a32 (SqT.of ha) (a02 (j:=0) rfl) ?_
       walk_at "run"
       refine a66 rfl ?_
       walk_at "run"
       refine a32 (SqT.of ha) (a02 (j:=2) rfl) ?_
       walk_at "run"
       refine ⟨⟨_,SqT.of hb⟩,ad4 (xs:=us) (le_line (by omega)) (fun i acc H'=>H'=H∧i≤bs.length∧acc=natsV ((bs.take i).map (·.2))) ⟨rfl,Nat.zero_le _,rfl⟩ (fun i acc H' ⟨e0,hi,e⟩=>⟨?_,e0 ▸ SqT.of hb⟩) ?_ ?_⟩
       · rw [e,a08,List.length_map,List.length_take]
         omega
       · rintro i x acc H' hx ⟨rfl,hi,rfl⟩
         obtain ⟨t,ht,hxt⟩:=a97 hu hx
         obtain ⟨p,u,bb,rfl,hp,hbb,hpu⟩:=bc7 ht hxt
         have hi':i<bs.length:=(List.getElem?_eq_some_iff.mp hbb).1
         refine ⟨p,u,.int (bb.2:Nat),rfl,SqT.of hp,?_⟩
         walk_at "run"
         refine ⟨rfl,hi',?_⟩
         rw [a53,List.take_add_one,hbb,List.map_append]
         rfl
       · rintro acc H' ⟨rfl,_,rfl⟩ p1 H1 f1 s1 e1
         rw [hul,List.take_length] at e1
         walk_at "run"
         refine a32 (SqT.of (s1 _ _ ha)) (a02 (j:=3) rfl) ?_
         walk_at "run"
         intro p2 H2 f2 s2 e2
         walk_at "run"
         refine b83 (s2 _ _ e1) e2 (le_line (by rw [a08,List.length_map]; simp; omega)) ?_
         intro p3 H3 f3 s3 e3
         refine q p3 H3 ((s1.trans s2).free f3) (s1.trans (s2.trans s3)) ?_
         rw [e3]
         simp [natsV,Nd.nexts]
def bq7 (K:PySem.W.Frag):Sp:=fun vs H Q _=>∃ (a:Addr) (ns:List Int) (k:Nat),vs=[.ref a,.int (k:Nat)]∧SqL K H a (ns.map V.int)∧∀ z:Int,Q (.int z) H
theorem af1 (T:Txt K mg t):FnOk P w K mg base CX0 1 t.a__law_cell_at t.fd__law_cell_at ["script","k"] (bq7 K):=by
 refine T.F__law_cell_at.ok ak7 (fun vs H Q E h=>?_) (fun cdv A outer s H vs Q E hr h=>?_)
 · obtain ⟨a,ns,k,rfl,_⟩:=h
   rfl
 · obtain ⟨a,ns,k,rfl,hS,q⟩:=h
   refine ⟨_,(@a03 _ _ _ _ _ (@a68 _ _ _ _ _ _ _ _ (@a36 _ _ _ _ _ _ _ _ bd9 (pv 1) (@a77 _ _ _ _ _ _ _ _ _ (ab1 K) (by rfl) T.z_len ab6 (@a00 _ _ _ _ _ (pv 0) (@a04 _) (by rfl)) (by decide) (by decide) (by rfl) (by rfl)) (nomark _)) (@a05 _ _ _ (@a41 _ _ _ _ (@a29 _ _ _ _ _ _ _ (a07 K) (pv 0) (pv 1) (fun _ _=>rfl)))) (@a40 _))
    (@a05 _ _ _ (@a41 _ _ _ _ (@a01 _ _ _ _)))),?_⟩
   walk_at "go"
   refine ae9 hS ?_
   walk_at "run"
   refine ite2 (fun h=>?_) (fun h=>?_)
   · walk_at "run"
     have hk:k<ns.length:=by
      have:=of_decide_eq_true h
      rw [List.length_map] at this
      omega
     refine a49 hS (a02 (j:=k) (v:=.int ns[k]) (by simp [hk])) ?_
     exact q _
   · walk_at "run"
     exact q _
def bq8:Sp:=fun vs H Q _=>∃ (d:Int),vs=[.int d]∧∀ v H' e,Same H H'→e.tr.At H' v []→Ex.ok bxs e→Ex.h e≤2→Q v H'
theorem at2k (x:Int):∃ k:Bool,atI [V.str (Str.ofString "plus"),V.str (Str.ofString "less")] (x % 2)=some (.str (markS k)):=by
 have h:x % 2=0∨x % 2=1:=by omega
 rcases h with h | h <;> rw [h]
 · exact ⟨true,rfl⟩
 · exact ⟨false,rfl⟩
theorem at2k' (x:Int):∃ k:Bool,atI [V.str (Str.ofString "less"),V.str (Str.ofString "plus")] (x % 2)=some (.str (markS k)):=by
 have h:x % 2=0∨x % 2=1:=by omega
 rcases h with h | h <;> rw [h]
 · exact ⟨false,rfl⟩
 · exact ⟨true,rfl⟩
theorem at2c (x:Int):∃ k:Bool,atI [V.str (Str.ofString "same"),V.str (Str.ofString "under")] (x % 2)=some (.str (markC k)):=by
 have h:x % 2=0∨x % 2=1:=by omega
 rcases h with h | h <;> rw [h]
 · exact ⟨true,rfl⟩
 · exact ⟨false,rfl⟩
theorem at2b (x:Int):∃ n∈bxs,atI [V.str (Str.ofString "many"),V.str (Str.ofString "mana")] (x % 2)=some (.str n):=by
 have h:x % 2=0∨x % 2=1:=by omega
 rcases h with h | h <;> rw [h]
 · exact ⟨_,by simp,rfl⟩
 · exact ⟨_,by simp,rfl⟩
theorem at3b (x:Int):∃ n∈bxs3,atI [V.str (Str.ofString "many"),V.str (Str.ofString "mana"),V.str (Str.ofString "mano")] (x % 3)=some (.str n):=by
 have h:x % 3=0∨x % 3=1∨x % 3=2:=by omega
 rcases h with h | h | h <;> rw [h]
 · exact ⟨_,by simp,rfl⟩
 · exact ⟨_,by simp,rfl⟩
 · exact ⟨_,by simp,rfl⟩
theorem at3s (a b c:Str) (x:Int):∃ n,atI [V.str a,V.str b,V.str c] (x % 3)=some (.str n):=by
 have h:x % 3=0∨x % 3=1∨x % 3=2:=by omega
 rcases h with h | h | h <;> rw [h]
 · exact ⟨_,rfl⟩
 · exact ⟨_,rfl⟩
 · exact ⟨_,rfl⟩
theorem num_at {H:Hp}{p:Addr}{i:Int}(e:H p=some (.tup [.str (Str.ofString "number"),.int i])):(Ex.num i).tr.At H (.ref p) []:=a99 e a47 a58
theorem c01 {H:Hp}{p:Addr}{i:Str}(e:H p=some (.tup [.str (Str.ofString "box"),.str i])):(Ex.box i).tr.At H (.ref p) []:=a99 e a47 a47
theorem az7 {H:Hp}{p:Addr}{k:Bool}{a b:Ex}{u v:V}(e:H p=some (.tup [.str (markS k),u,v])) (ha:a.tr.At H u []) (hb:b.tr.At H v []):(Ex.two k a b).tr.At H (.ref p) []:=af4 e a47 ha hb
theorem ak4 (T:Txt K mg t):FnOk P w K mg base CX0 1 t.a__law_expr t.fd__law_expr ["d"] bq8:=by
 refine T.F__law_expr.ok sc_law_expr (fun vs H Q E h=>?_) (fun cdv A outer s H vs Q E hr h=>?_)
 · obtain ⟨d,rfl,_⟩:=h
   rfl
 · obtain ⟨d,rfl,q⟩:=h
   refine ⟨_,(@a03 _ _ _ _ _ (@a45 _ _ 1 _ _ _ _ sc_law_expr.nd rfl (by walk_at "o") (@a33 _ _ _ _ _ (@a00 _ _ _ _ _ (@a28 _ _ _ _) (@a00 _ _ _ _ _ (@a31 _ _ _ _ _ _ _ _ a48 (@a31 _ _ _ _ _ _ _ _ a44 (pv 0) (@a01 _ _ _ _)) (@a01 _ _ _ _)) (@a04 _) (by rfl)) (by rfl))) (by rfl) (by walk_at "o"))
    (@ab7 _ _ _ _ _ (@a68 _ _ _ _ _ _ _ _ (@a36 _ _ _ _ _ _ _ _ a65 (@a31 _ _ _ _ _ _ _ _ a48 (@a31 _ _ _ _ _ _ _ _ a44 (pv 0) (@a01 _ _ _ _)) (@a01 _ _ _ _)) (@a01 _ _ _ _) (nomark _)) (@a05 _ _ _ (@a45 _ _ 1 _ _ _ _ sc_law_expr.nd rfl (by walk_at "o") (@a33 _ _ _ _ _ (@a00 _ _ _ _ _ (@a28 _ _ _ _) (@a00 _ _ _ _ _ (@a29 _ _ _ _ _ _ _ (a07 K) (@a52 _ _ _ _ (@a00 _ _ _ _ _ (@a28 _ _ _ _) (@a00 _ _ _ _ _ (@a28 _ _ _ _) (@a04 _) (by rfl)) (by rfl))) (@a31 _ _ _ _ _ _ _ _ a48 (@a31 _ _ _ _ _ _ _ _ a44 (pv 0) (@a01 _ _ _ _)) (@a01 _ _ _ _)) (fun _ _=>rfl)) (@a04 _) (by rfl)) (by rfl))) (by rfl) (by walk_at "o"))) (@a40 _))
    (@a03 _ _ _ _ _ (@a68 _ _ _ _ _ _ _ _ (@a36 _ _ _ _ _ _ _ _ bd9 (@a31 _ _ _ _ _ _ _ _ a48 (pv 0) (@a01 _ _ _ _)) (@a01 _ _ _ _) (nomark _)) (@a05 _ _ _ (@a41 _ _ _ _ (pv 1))) (@a40 _))
    (@a03 _ _ _ _ _ (@a45 _ _ 2 _ _ _ _ sc_law_expr.nd rfl (by walk_at "o") (@a29 _ _ _ _ _ _ _ (a07 K) (@a52 _ _ _ _ (@a00 _ _ _ _ _ (@a28 _ _ _ _) (@a00 _ _ _ _ _ (@a28 _ _ _ _) (@a04 _) (by rfl)) (by rfl))) (@a31 _ _ _ _ _ _ _ _ a48 (@a31 _ _ _ _ _ _ _ _ a44 (pv 0) (@a01 _ _ _ _)) (@a01 _ _ _ _)) (fun _ _=>rfl)) (by rfl) (by walk_at "o"))
    (@a03 _ _ _ _ _ (@a68 _ _ _ _ _ _ _ _ (@a36 _ _ _ _ _ _ _ _ a65 (@a31 _ _ _ _ _ _ _ _ a48 (pv 0) (@a01 _ _ _ _)) (@a01 _ _ _ _) (nomark _)) (@a05 _ _ _ (@a41 _ _ _ _ (@a33 _ _ _ _ _ (@a00 _ _ _ _ _ (pv 2) (@a00 _ _ _ _ _ (pv 1) (@a00 _ _ _ _ _ (@a33 _ _ _ _ _ (@a00 _ _ _ _ _ (@a28 _ _ _ _) (@a00 _ _ _ _ _ (@a31 _ _ _ _ _ _ _ _ a48 (@a31 _ _ _ _ _ _ _ _ a44 (pv 0) (@a01 _ _ _ _)) (@a01 _ _ _ _)) (@a04 _) (by rfl)) (by rfl))) (@a04 _) (by rfl)) (by rfl)) (by rfl))))) (@a40 _))
    (@a03 _ _ _ _ _ (@a45 _ _ 3 _ _ _ _ sc_law_expr.nd rfl (by walk_at "o") (@a33 _ _ _ _ _ (@a00 _ _ _ _ _ (@a29 _ _ _ _ _ _ _ (a07 K) (@a52 _ _ _ _ (@a00 _ _ _ _ _ (@a28 _ _ _ _) (@a00 _ _ _ _ _ (@a28 _ _ _ _) (@a04 _) (by rfl)) (by rfl))) (@a31 _ _ _ _ _ _ _ _ a48 (@a31 _ _ _ _ _ _ _ _ a44 (pv 0) (@a01 _ _ _ _)) (@a01 _ _ _ _)) (fun _ _=>rfl)) (@a00 _ _ _ _ _ (pv 1) (@a00 _ _ _ _ _ (@a33 _ _ _ _ _ (@a00 _ _ _ _ _ (@a28 _ _ _ _) (@a00 _ _ _ _ _ (@a31 _ _ _ _ _ _ _ _ a48 (@a31 _ _ _ _ _ _ _ _ a44 (pv 0) (@a01 _ _ _ _)) (@a01 _ _ _ _)) (@a04 _) (by rfl)) (by rfl))) (@a04 _) (by rfl)) (by rfl)) (by rfl))) (by rfl) (by walk_at "o"))
    (@a03 _ _ _ _ _ (@a68 _ _ _ _ _ _ _ _ (@a36 _ _ _ _ _ _ _ _ a65 (@a31 _ _ _ _ _ _ _ _ a48 (@a31 _ _ _ _ _ _ _ _ a44 (pv 0) (@a01 _ _ _ _)) (@a01 _ _ _ _)) (@a01 _ _ _ _) (nomark _)) (@a05 _ _ _ (@a41 _ _ _ _ (@a33 _ _ _ _ _ (@a00 _ _ _ _ _ (pv 2) (@a00 _ _ _ _ _ (@a33 _ _ _ _ _ (@a00 _ _ _ _ _ (@a28 _ _ _ _) (@a00 _ _ _ _ _ (@a31 _ _ _ _ _ _ _ _ a48 (@a31 _ _ _ _ _ _ _ _ a44 (pv 0) (@a01 _ _ _ _)) (@a01 _ _ _ _)) (@a04 _) (by rfl)) (by rfl))) (@a00 _ _ _ _ _ (pv 3) (@a04 _) (by rfl)) (by rfl)) (by rfl))))) (@a40 _))
    (@a05 _ _ _ (@a41 _ _ _ _ (@a33 _ _ _ _ _ (@a00 _ _ _ _ _ (pv 2) (@a00 _ _ _ _ _ (pv 3) (@a00 _ _ _ _ _ (@a33 _ _ _ _ _ (@a00 _ _ _ _ _ (@a28 _ _ _ _) (@a00 _ _ _ _ _ (@a31 _ _ _ _ _ _ _ _ a48 (@a31 _ _ _ _ _ _ _ _ a44 (pv 0) (@a01 _ _ _ _)) (@a01 _ _ _ _)) (@a04 _) (by rfl)) (by rfl))) (@a04 _) (by rfl)) (by rfl)) (by rfl)))))))))))),?_⟩
   walk_at "go"
   intro p1 H1 f1 s1 e1
   walk_at "run"
   refine al4 (fun σ' H'=>∃ v e,σ'=[some (.int d),some v,none,none]∧Same H H'∧Tr.At H' (Ex.tr e) v []∧Ex.ok bxs e∧Ex.h e=0) ?_ ?_
   · walk_at "run"
     refine ite2 (fun h=>?_) (fun h=>?_)
     · walk_at "run"
       intro p2 H2 f2 s2 e2
       walk_at "run"
       obtain ⟨n,hn,hx⟩:=at2b (d / 160)
       refine a49 (SqL.of e2) hx ?_
       walk_at "run"
       intro p3 H3 f3 s3 e3
       walk_at "run"
       exact ⟨_,.box n,rfl,s1.trans (s2.trans s3),c01 e3,hn,rfl⟩
     · walk_at "run"
       exact ⟨_,.num _,rfl,s1,num_at e1,⟨by omega,by omega⟩,rfl⟩
   · rintro σ' H2 ⟨v,e,rfl,s2,he,hok,hh⟩
     walk_at "run"
     refine ite2 (fun h=>?_) (fun h=>?_)
     · walk_at "run"
       exact q v H2 e s2 he hok (by omega)
     walk_at "run"
     intro p3 H3 f3 s3 e3
     walk_at "run"
     obtain ⟨k,hk⟩:=at2k (d / 4)
     refine a49 (SqL.of e3) hk ?_
     walk_at "run"
     refine ite2 (fun h2=>?_) (fun h2=>?_)
     · walk_at "run"
       intro p4 H4 f4 s4 e4
       walk_at "run"
       intro p5 H5 f5 s5 e5
       have sA:=s3.trans (s4.trans s5)
       exact q _ H5 (.two k e (.num _)) (s2.trans sA) (az7 e5 (he.same sA) ((num_at e4).same s5)) ⟨hok,by omega,by omega⟩ (by simp [Ex.h,hh])
     walk_at "run"
     intro p4 H4 f4 s4 e4
     walk_at "run"
     obtain ⟨k2,hk2⟩:=at2k' (d / 320)
     refine a49 (SqL.of e4) hk2 ?_
     walk_at "run"
     intro p5 H5 f5 s5 e5
     walk_at "run"
     intro p6 H6 f6 s6 e6
     walk_at "run"
     have sA:=s3.trans (s4.trans (s5.trans s6))
     have hpt:(Ex.two k2 e (.num (d / 640 % 10))).tr.At H6 (.ref p6) []:=az7 e6 (he.same sA) ((num_at e5).same s6)
     refine ite2 (fun h3=>?_) (fun h3=>?_)
     · walk_at "run"
       intro p7 H7 f7 s7 e7
       walk_at "run"
       intro p8 H8 f8 s8 e8
       exact q _ H8 (.two k (.num _) (.two k2 e (.num _))) (s2.trans (sA.trans (s7.trans s8))) (az7 e8 ((num_at e7).same s8) (hpt.same (s7.trans s8))) ⟨⟨by omega,by omega⟩,hok,by omega,by omega⟩ (by simp [Ex.h,hh])
     · walk_at "run"
       intro p7 H7 f7 s7 e7
       walk_at "run"
       intro p8 H8 f8 s8 e8
       exact q _ H8 (.two k (.two k2 e (.num _)) (.num _)) (s2.trans (sA.trans (s7.trans s8))) (az7 e8 (hpt.same (s7.trans s8)) ((num_at e7).same s8)) ⟨⟨hok,by omega,by omega⟩,by omega,by omega⟩ (by simp [Ex.h,hh])
def bq9:Sp:=fun vs H Q _=>∃ (d:Int),vs=[.int d]∧∀ v H' c,Same H H'→Tr.At H' (Cd.tr c) v []→Cd.ok bxs 2 c→Cd.h c≤3→Q v H'
theorem bk3 {H:Hp}{p:Addr}{k:Bool}{a b:Ex}{u v:V}(e:H p=some (.tup [.str (markC k),u,v])) (ha:a.tr.At H u []) (hb:b.tr.At H v []):(Cd.cmp k a b).tr.At H (.ref p) []:=af4 e a47 ha hb
theorem c02 {H:Hp}{p:Addr}{c:Cd}{u:V}(e:H p=some (.tup [.str (Str.ofString "not"),u])) (ha:c.tr.At H u []):(Cd.nt c).tr.At H (.ref p) []:=a99 e a47 ha
theorem bc8 {H:Hp}{p:Addr}{c d:Cd}{u v:V}(e:H p=some (.tup [.str (Str.ofString "both"),u,v])) (ha:c.tr.At H u []) (hb:d.tr.At H v []):(Cd.both c d).tr.At H (.ref p) []:=af4 e a47 ha hb
theorem aw4 (T:Txt K mg t):FnOk P w K mg base CX0 2 t.a__law_cond t.fd__law_cond ["d"] bq9:=by
 have G__law_expr:=ak4 (P:=P) (w:=w) (base:=base) T
 refine T.F__law_cond.ok sc_law_cond (fun vs H Q E h=>?_) (fun cdv A outer s H vs Q E hr h=>?_)
 · obtain ⟨d,rfl,_⟩:=h
   rfl
 · obtain ⟨d,rfl,q⟩:=h
   refine ⟨_,(@a03 _ _ _ _ _ (@a45 _ _ 1 _ _ _ _ sc_law_cond.nd rfl (by walk_at "o") (@a33 _ _ _ _ _ (@a00 _ _ _ _ _ (@a29 _ _ _ _ _ _ _ (a07 K) (@a52 _ _ _ _ (@a00 _ _ _ _ _ (@a28 _ _ _ _) (@a00 _ _ _ _ _ (@a28 _ _ _ _) (@a04 _) (by rfl)) (by rfl))) (@a31 _ _ _ _ _ _ _ _ a48 (@a31 _ _ _ _ _ _ _ _ a44 (pv 0) (@a01 _ _ _ _)) (@a01 _ _ _ _)) (fun _ _=>rfl)) (@a00 _ _ _ _ _ (@a50 _ _ _ _ _ _ _ _ _ _ _ _ _ _ _ _ G__law_expr (hr.mono (by omega)) rfl T.m__law_expr T.F__law_expr.kp T.b__law_expr .nil a85 (@a00 _ _ _ _ _ (@a31 _ _ _ _ _ _ _ _ a44 (pv 0) (@a01 _ _ _ _)) (@a04 _) (by rfl)) (by decide) (by rfl) (by rfl)) (@a00 _ _ _ _ _ (@a50 _ _ _ _ _ _ _ _ _ _ _ _ _ _ _ _ G__law_expr (hr.mono (by omega)) rfl T.m__law_expr T.F__law_expr.kp T.b__law_expr .nil a85 (@a00 _ _ _ _ _ (@a31 _ _ _ _ _ _ _ _ a44 (pv 0) (@a01 _ _ _ _)) (@a04 _) (by rfl)) (by decide) (by rfl) (by rfl)) (@a04 _) (by rfl)) (by rfl)) (by rfl))) (by rfl) (by walk_at "o"))
    (@a03 _ _ _ _ _ (@a45 _ _ 2 _ _ _ _ sc_law_cond.nd rfl (by walk_at "o") (@a33 _ _ _ _ _ (@a00 _ _ _ _ _ (@a28 _ _ _ _) (@a00 _ _ _ _ _ (@a33 _ _ _ _ _ (@a00 _ _ _ _ _ (@a28 _ _ _ _) (@a00 _ _ _ _ _ (@a31 _ _ _ _ _ _ _ _ a48 (@a31 _ _ _ _ _ _ _ _ a44 (pv 0) (@a01 _ _ _ _)) (@a01 _ _ _ _)) (@a04 _) (by rfl)) (by rfl))) (@a00 _ _ _ _ _ (@a33 _ _ _ _ _ (@a00 _ _ _ _ _ (@a28 _ _ _ _) (@a00 _ _ _ _ _ (@a31 _ _ _ _ _ _ _ _ a48 (@a31 _ _ _ _ _ _ _ _ a44 (pv 0) (@a01 _ _ _ _)) (@a01 _ _ _ _)) (@a04 _) (by rfl)) (by rfl))) (@a04 _) (by rfl)) (by rfl)) (by rfl))) (by rfl) (by walk_at "o"))
    (@a03 _ _ _ _ _ (@a68 _ _ _ _ _ _ _ _ (@a36 _ _ _ _ _ _ _ _ bd9 (@a31 _ _ _ _ _ _ _ _ a48 (pv 0) (@a01 _ _ _ _)) (@a01 _ _ _ _) (nomark _)) (@a05 _ _ _ (@a41 _ _ _ _ (pv 1))) (@a40 _))
    (@a03 _ _ _ _ _ (@a68 _ _ _ _ _ _ _ _ (@a36 _ _ _ _ _ _ _ _ a65 (@a31 _ _ _ _ _ _ _ _ a48 (pv 0) (@a01 _ _ _ _)) (@a01 _ _ _ _) (nomark _)) (@a05 _ _ _ (@a41 _ _ _ _ (@a33 _ _ _ _ _ (@a00 _ _ _ _ _ (@a28 _ _ _ _) (@a00 _ _ _ _ _ (pv 1) (@a04 _) (by rfl)) (by rfl))))) (@a40 _))
    (@a03 _ _ _ _ _ (@a68 _ _ _ _ _ _ _ _ (@a36 _ _ _ _ _ _ _ _ a65 (@a31 _ _ _ _ _ _ _ _ a48 (pv 0) (@a01 _ _ _ _)) (@a01 _ _ _ _) (nomark _)) (@a05 _ _ _ (@a41 _ _ _ _ (@a33 _ _ _ _ _ (@a00 _ _ _ _ _ (@a28 _ _ _ _) (@a00 _ _ _ _ _ (pv 1) (@a00 _ _ _ _ _ (pv 2) (@a04 _) (by rfl)) (by rfl)) (by rfl))))) (@a40 _))
    (@a05 _ _ _ (@a41 _ _ _ _ (@a33 _ _ _ _ _ (@a00 _ _ _ _ _ (@a28 _ _ _ _) (@a00 _ _ _ _ _ (@a33 _ _ _ _ _ (@a00 _ _ _ _ _ (@a28 _ _ _ _) (@a00 _ _ _ _ _ (pv 2) (@a00 _ _ _ _ _ (pv 1) (@a04 _) (by rfl)) (by rfl)) (by rfl))) (@a04 _) (by rfl)) (by rfl)))))))))),?_⟩
   walk_at "go"
   intro p1 H1 f1 s1 e1
   walk_at "run"
   obtain ⟨k,hk⟩:=at2c (d / 5)
   refine a49 (SqL.of e1) hk ?_
   walk_at "run"
   refine ⟨_,rfl,fun v2 H2 x s2 hx okx hhx=>?_⟩
   walk_at "run"
   refine ⟨_,rfl,fun v3 H3 y s3 hy oky hhy=>?_⟩
   walk_at "run"
   intro p4 H4 f4 s4 e4
   walk_at "run"
   intro p5 H5 f5 s5 e5
   walk_at "run"
   intro p6 H6 f6 s6 e6
   walk_at "run"
   intro p7 H7 f7 s7 e7
   walk_at "run"
   have hone:(Cd.cmp k x y).tr.At H4 (.ref p4) []:=bk3 e4 (hx.same (s3.trans s4)) (hy.same s4)
   have s47:=s5.trans (s6.trans s7)
   have hone7:=hone.same s47
   have hoth:(Cd.cmp false (.num (d / 7 % 4)) (.num (d / 29 % 4))).tr.At H7 (.ref p7) []:=bk3 e7 ((num_at e5).same (s6.trans s7)) ((num_at e6).same s7)
   have sA:=s1.trans (s2.trans (s3.trans (s4.trans s47)))
   have ok1:(Cd.cmp k x y).ok bxs 2:=⟨⟨okx,by omega⟩,oky,by omega⟩
   have ok2:(Cd.cmp false (.num (d / 7 % 4)) (.num (d / 29 % 4))).ok bxs 2:=⟨⟨⟨by omega,by omega⟩,Nat.zero_le _⟩,⟨by omega,by omega⟩,Nat.zero_le _⟩
   refine ite2 (fun h1=>?_) (fun h1=>?_)
   · walk_at "run"
     exact q _ H7 _ sA hone7 ok1 (by simp [Cd.h])
   walk_at "run"
   refine ite2 (fun h2=>?_) (fun h2=>?_)
   · walk_at "run"
     intro p8 H8 f8 s8 e8
     exact q _ H8 (.nt _) (sA.trans s8) (c02 e8 (hone7.same s8)) ok1 (by simp [Cd.h])
   walk_at "run"
   refine ite2 (fun h3=>?_) (fun h3=>?_)
   · walk_at "run"
     intro p8 H8 f8 s8 e8
     exact q _ H8 (.both _ _) (sA.trans s8) (bc8 e8 (hone7.same s8) (hoth.same s8)) ⟨ok1,ok2⟩ (by simp [Cd.h])
   · walk_at "run"
     intro p8 H8 f8 s8 e8
     walk_at "run"
     intro p9 H9 f9 s9 e9
     exact q _ H9 (.nt (.both _ _)) (sA.trans (s8.trans s9)) (c02 e9 ((bc8 e8 (hoth.same s8) (hone7.same s8)).same s9)) ⟨ok2,ok1⟩ (by simp [Cd.h])
def okS (n i:Nat) (d:Nd):Prop:=d.okAt n i∧d.tr.h≤8
theorem ap9 {ys:List Str}:∀ {c:Cd},c.ok ys 2→c.ok ys 5
 | .cmp _ a b,h=>⟨⟨h.1.1,by have:=h.1.2; omega⟩,h.2.1,by have:=h.2.2; omega⟩
 | .nt c,h=>ap9 (c:=c) h
 | .both c d,h=>⟨ap9 h.1,ap9 h.2⟩
theorem aq0 {ys:List Str}:∀ {c:Cd},c.ok ys 2→c.tr.h≤c.h+4
 | .cmp k a b,h=>by
   have h1:=ai1 a
   have h2:=ai1 b
   have h3:=h.1.2
   have h4:=h.2.2
   simp only [Cd.tr,Tr.h,Tr.hs,Cd.h]
   omega
 | .nt c,h=>by
   have:=aq0 (c:=c) h
   simp only [Cd.tr,Tr.h,Tr.hs,Cd.h]
   omega
 | .both c d,h=>by
   have:=aq0 (c:=c) h.1
   have:=aq0 (c:=d) h.2
   simp only [Cd.tr,Tr.h,Tr.hs,Cd.h]
   omega
theorem c03 {ys:List Str}{c:Cd}{m n:Nat}(h:c.ok ys 2) (h2:c.h≤3):(Nd.test c m n).tr.h≤8:=by
 have:=aq0 h
 simp only [Nd.tr,Nd.its,Tr.h,Tr.hs]
 omega
theorem c53 {b:Str}{e:Ex}{n:Nat}(h:e.h≤4):(Nd.put b e n).tr.h≤8:=by
 have:=ai1 e
 simp only [Nd.tr,Nd.its,Tr.h,Tr.hs]
 omega
theorem bk4 (l:Int) (bs:List (List Pt×Nat)) (m:Nat):(Nd.wait l bs m).tr.h≤8:=by
 have hb:∀ bs:List (List Pt×Nat),Tr.hs (bs.map brT)≤2:=fun bs=>by
  induction bs with
  | nil=>simp [Tr.hs]
  | cons b bs ih=>simp only [List.map_cons,Tr.hs,brT,Tr.h,aj4]; omega
 have:=hb bs
 simp only [Nd.tr,Nd.its,Tr.h,Tr.hs]
 omega
def br0:Sp:=fun vs H Q _=>∃ (d:Int) (number low high n:Nat),vs=[.int d,.int (number:Nat),.int (low:Nat),.int (high:Nat)]∧low≤number∧number<high∧high≤n∧n≤100∧∀ v H' nd,Same H H'→Tr.At H' (Nd.tr nd) v []→okS n number nd→Q v H'
def pats:List (List Pt):=[[.s "key",.i 0],[.s "key",.i 1],[.s "word",.s "a"],[.s "word",.s "b"],[.s "other"]]
theorem br1 {H:Hp}{a b c d e:Addr}(ha:H a=some (.tup [.str (Str.ofString "key"),.int 0])) (hb:H b=some (.tup [.str (Str.ofString "key"),.int 1])) (hc:H c=some (.tup [.str (Str.ofString "word"),.str (Str.ofString "a")])) (hd:H d=some (.tup [.str (Str.ofString "word"),.str (Str.ofString "b")])) (he:H e=some (.tup [.str (Str.ofString "other")])) :
 Tr.Ats H (pats.map fun p=>Tr.tup (p.map Pt.tr)) [.ref a,.ref b,.ref c,.ref d,.ref e] [] :=
 ats_cons0.mpr ⟨_,_,rfl,a99 ha a47 a58,ats_cons0.mpr ⟨_,_,rfl,a99 hb a47 a58,ats_cons0.mpr ⟨_,_,rfl,a99 hc a47 a47,ats_cons0.mpr ⟨_,_,rfl,a99 hd a47 a47,ats_cons0.mpr ⟨_,_,rfl,au7 he a47,ats_nil0.mpr rfl⟩⟩⟩⟩⟩
theorem bi1 {H:Hp}{vs:List V}(h:Tr.Ats H (pats.map fun p=>Tr.tup (p.map Pt.tr)) vs []) (x:Int):∃ (v:V) (p:List Pt),atI vs (x % 5)=some v∧(Tr.tup (p.map Pt.tr)).At H v []:=by
 have hl:vs.length=5:=h.len
 obtain ⟨m,hm⟩:∃ m:Nat,x % 5=(m:Nat):=Int.eq_ofNat_of_zero_le (by omega)
 have hm5:m<vs.length:=by omega
 obtain ⟨t,ht,h2⟩:=a97 h (List.getElem?_eq_getElem hm5)
 rw [List.getElem?_map] at ht
 cases e:pats[m]? with
 | none=>rw [e] at ht; cases ht
 | some p =>
   rw [e] at ht
   obtain rfl:Tr.tup (p.map Pt.tr)=t:=Option.some.inj ht
   exact ⟨_,p,by rw [hm]; exact a02 (List.getElem?_eq_getElem hm5),h2⟩
theorem bc9 (low high:Nat) (h:low<high) (r:Int):∃ k:Nat,(low:Int)+r % ((high:Int) - (low:Int))=(k:Nat)∧k<high:=by
 have h1:=Int.emod_nonneg r (show (high:Int) - (low:Int)≠0 by omega)
 have h2:=Int.emod_lt_of_pos r (show (0:Int)<(high:Int) - (low:Int) by omega)
 exact ⟨((low:Int)+r % ((high:Int) - (low:Int))).toNat,by omega,by omega⟩
theorem c04 {H:Hp}{p:Addr}{u:V}{k:Nat}{ps:List Pt}(e:H p=some (.tup [u,.int (k:Nat)])) (h:(Tr.tup (ps.map Pt.tr)).At H u []):(brT (ps,k)).At H (.ref p) []:=a99 e h a58
theorem aw5 (T:Txt K mg t):FnOk P w K mg base CX0 1 t.a__law_wait t.fd__law_wait ["d","number","low","high"] br0:=by
 refine T.F__law_wait.ok sc_law_wait (fun vs H Q E h=>?_) (fun cdv A outer s H vs Q E hr h=>?_)
 · obtain ⟨d,number,low,high,n,rfl,_⟩:=h
   rfl
 · obtain ⟨d,number,low,high,n,rfl,h1,h2,h3,h4,q⟩:=h
   refine ⟨_,(@a03 _ _ _ _ _ (@a45 _ _ 4 _ _ _ _ sc_law_wait.nd rfl (by walk_at "o") (@a52 _ _ _ _ (@a00 _ _ _ _ _ (@a33 _ _ _ _ _ (@a00 _ _ _ _ _ (@a28 _ _ _ _) (@a00 _ _ _ _ _ (@a01 _ _ _ _) (@a04 _) (by rfl)) (by rfl))) (@a00 _ _ _ _ _ (@a33 _ _ _ _ _ (@a00 _ _ _ _ _ (@a28 _ _ _ _) (@a00 _ _ _ _ _ (@a01 _ _ _ _) (@a04 _) (by rfl)) (by rfl))) (@a00 _ _ _ _ _ (@a33 _ _ _ _ _ (@a00 _ _ _ _ _ (@a28 _ _ _ _) (@a00 _ _ _ _ _ (@a28 _ _ _ _) (@a04 _) (by rfl)) (by rfl))) (@a00 _ _ _ _ _ (@a33 _ _ _ _ _ (@a00 _ _ _ _ _ (@a28 _ _ _ _) (@a00 _ _ _ _ _ (@a28 _ _ _ _) (@a04 _) (by rfl)) (by rfl))) (@a00 _ _ _ _ _ (@a33 _ _ _ _ _ (@a00 _ _ _ _ _ (@a28 _ _ _ _) (@a04 _) (by rfl))) (@a04 _) (by rfl)) (by rfl)) (by rfl)) (by rfl)) (by rfl))) (by rfl) (by walk_at "o"))
    (@a03 _ _ _ _ _ (@a45 _ _ 5 _ _ _ _ sc_law_wait.nd rfl (by walk_at "o") (@a52 _ _ _ _ (@a04 _)) (by rfl) (by walk_at "o"))
    (@a03 _ _ _ _ _ (@a45 _ _ 6 _ _ _ _ sc_law_wait.nd rfl (by walk_at "o") (@a31 _ _ _ _ _ _ _ _ a44 (pv 0) (@a01 _ _ _ _)) (by rfl) (by walk_at "o"))
    (@a03 _ _ _ _ _ (@aa1 _ _ _ _ _ _ _ _ PassesOwn.never rfl (aa0 rfl T.z_range (@a00 _ _ _ _ _ (@a31 _ _ _ _ _ _ _ _ a48 (@a31 _ _ _ _ _ _ _ _ a44 (pv 0) (@a01 _ _ _ _)) (@a01 _ _ _ _)) (@a04 _) (by rfl))) (a38 (i:=7) sc_law_wait.nd rfl (by walk_at "o")) (@a03 _ _ _ _ _ (@a45 _ _ 8 _ _ _ _ sc_law_wait.nd rfl (by walk_at "o") (@a29 _ _ _ _ _ _ _ (a07 K) (pv 4) (@a31 _ _ _ _ _ _ _ _ a48 (@a31 _ _ _ _ _ _ _ _ a57 (@a31 _ _ _ _ _ _ _ _ a44 (pv 0) (@a01 _ _ _ _)) (@a31 _ _ _ _ _ _ _ _ am7 (pv 7) (@a31 _ _ _ _ _ _ _ _ a57 (@a01 _ _ _ _) (@a31 _ _ _ _ _ _ _ _ a48 (@a31 _ _ _ _ _ _ _ _ a44 (pv 0) (@a01 _ _ _ _)) (@a01 _ _ _ _))))) (@a01 _ _ _ _)) (fun _ _=>rfl)) (by rfl) (by walk_at "o"))
     (@a03 _ _ _ _ _ (@a67 _ _ _ _ (@aa7 _ K _ _ _ _ _ _ _ _ _ _ _ PySem.F.plainAttrs_list PySem.F.slot_list_append PySem.F.type_list_append a70 (pv 5) (@a00 _ _ _ _ _ (@a33 _ _ _ _ _ (@a00 _ _ _ _ _ (pv 8) (@a00 _ _ _ _ _ (@a31 _ _ _ _ _ _ _ _ a57 (pv 2) (@a31 _ _ _ _ _ _ _ _ a48 (pv 6) (@a31 _ _ _ _ _ _ _ _ ai7 (pv 3) (pv 2)))) (@a04 _) (by rfl)) (by rfl))) (@a04 _) (by rfl)) (by rfl) (by rfl) (by rfl) (by rfl) (by rfl) (by rfl)) (by rfl))
     (@a05 _ _ _ (@a45 _ _ 6 _ _ _ _ sc_law_wait.nd rfl (by walk_at "o") (@a31 _ _ _ _ _ _ _ _ a44 (pv 6) (@a01 _ _ _ _)) (by rfl) (by walk_at "o"))))) (by intro _; rfl))
    (@a03 _ _ _ _ _ (@a68 _ _ _ _ _ _ _ _ (@a36 _ _ _ _ _ _ _ _ a65 (@a31 _ _ _ _ _ _ _ _ a48 (pv 0) (@a01 _ _ _ _)) (@a01 _ _ _ _) (nomark _)) (@a05 _ _ _ (@a41 _ _ _ _ (@a33 _ _ _ _ _ (@a00 _ _ _ _ _ (@a28 _ _ _ _) (@a00 _ _ _ _ _ (@a01 _ _ _ _) (@a00 _ _ _ _ _ (@a78 _ _ _ _ _ _ _ _ _ (ad3 K) (by rfl) T.z_tuple ae1 (@a00 _ _ _ _ _ (pv 5) (@a04 _) (by rfl)) (by decide) (by decide) (by rfl) (by rfl)) (@a00 _ _ _ _ _ (pv 1) (@a04 _) (by rfl)) (by rfl)) (by rfl)) (by rfl))))) (@a40 _))
    (@a05 _ _ _ (@a41 _ _ _ _ (@a33 _ _ _ _ _ (@a00 _ _ _ _ _ (@a28 _ _ _ _) (@a00 _ _ _ _ _ (@a31 _ _ _ _ _ _ _ _ a48 (pv 0) (@a01 _ _ _ _)) (@a00 _ _ _ _ _ (@a78 _ _ _ _ _ _ _ _ _ (ad3 K) (by rfl) T.z_tuple ae1 (@a00 _ _ _ _ _ (pv 5) (@a04 _) (by rfl)) (by decide) (by decide) (by rfl) (by rfl)) (@a00 _ _ _ _ _ (@a31 _ _ _ _ _ _ _ _ a57 (pv 2) (@a31 _ _ _ _ _ _ _ _ a48 (@a31 _ _ _ _ _ _ _ _ a44 (pv 0) (@a01 _ _ _ _)) (@a31 _ _ _ _ _ _ _ _ ai7 (pv 3) (pv 2)))) (@a04 _) (by rfl)) (by rfl)) (by rfl)) (by rfl)))))))))),?_⟩
   walk_at "go"
   intro p1 H1 f1 s1 e1
   walk_at "run"
   intro p2 H2 f2 s2 e2
   walk_at "run"
   intro p3 H3 f3 s3 e3
   walk_at "run"
   intro p4 H4 f4 s4 e4
   walk_at "run"
   intro p5 H5 f5 s5 e5
   walk_at "run"
   intro pl H6 f6 s6 e6
   walk_at "run"
   have s26:=s3.trans (s4.trans (s5.trans s6))
   have hpats:Tr.Ats H6 (pats.map fun p=>Tr.tup (p.map Pt.tr)) [.ref p1,.ref p2,.ref p3,.ref p4,.ref p5] []:=br1 (s26 _ _ (s2 _ _ e1)) (s26 _ _ e2) ((s4.trans (s5.trans s6)) _ _ e3) ((s5.trans s6) _ _ e4) (s6 _ _ e5)
   intro pb H7 f7 s7 e7
   walk_at "run"
   have s17:=s1.trans (s2.trans (s26.trans s7))
   have fb:H pb=none:=(s1.trans (s2.trans s26)).free f7
   refine ab5 (lo:=0) (n:=(d / 4 % 4).toNat) (fun i σ H'=>∃ (bs:List (List Pt×Nat)) (acc:List V) (r:Int) (y1 y2:Option V),σ=[some (.int d),some (.int (number:Nat)),some (.int (low:Nat)),some (.int (high:Nat)),some (.ref pl),some (.ref pb),some (.int r),y1,y2]∧Same H H'∧Tups H6 H'∧H' pl=some (.lst [.ref p1,.ref p2,.ref p3,.ref p4,.ref p5])∧H' pb=some (.lst acc)∧Tr.Ats H' (bs.map brT) acc []∧bs.length=i∧∀ b∈bs,b.2<high) ⟨[],[],_,_,_,rfl,s17,s7.tups,s7 _ _ e6,e7,ats_nil0.mpr rfl,rfl,by simp⟩ ?_ ?_
   · rintro i σ H8 hi ⟨bs,acc,r,y1,y2,rfl,s8,t8,hpl,hpb,hac,hbl,hbs⟩
     have hal:acc.length=i:=by rw [hac.len,List.length_map,hbl]
     walk_at "run"
     refine ai5 (.inr (.inl ⟨by omega,by omega⟩)) ?_
     walk_at "run"
     obtain ⟨v,ps,hv,hpt⟩:=bi1 (hpats.tups t8) (d / 16+(0+(i:Nat))*(1+d / 80 % 4))
     refine a49 (SqL.of hpl) hv ?_
     walk_at "run"
     refine ab3 (SqL.of hpb) ?_
     walk_at "run"
     obtain ⟨k,hk,hkh⟩:=bc9 low high (by omega) r
     rw [hk]
     intro p9 H9 f9 s9 e9
     walk_at "run"
     have hpb9:=s9 _ _ hpb
     refine a84 hpb9 (Nat.lt_of_lt_of_le (show acc.length<1000000 by omega) (le_line (Nat.le_refl _))) ?_
     walk_at "run"
     have tU:Tups H8 (upd H9 pb (.lst (acc++[.ref p9]))):=s9.tups.trans (Tups.upd hpb9)
     refine ⟨bs++[(ps,k)],_,_,_,_,rfl,(s8.trans s9).updNew fb,t8.trans tU,?_,a27,?_,by simp [hbl],?_⟩
     · have hne:pl≠pb:=a30 e6 f7
       rw [a06 hne]
       exact s9 _ _ hpl
     · rw [List.map_append]
       exact aa8 (hac.tups tU) ((c04 e9 (hpt.same s9)).tups (Tups.upd hpb9))
     · intro b hb
       rcases List.mem_append.mp hb with hb | hb
       · exact hbs b hb
       · simp at hb
         rw [hb]
         exact hkh
   · rintro σ H8 ⟨bs,acc,r,y1,y2,rfl,s8,t8,hpl,hpb,hac,hbl,hbs⟩
     have hb3:bs.length≤3:=by omega
     walk_at "run"
     refine ite2 (fun hc=>?_) (fun hc=>?_)
     · walk_at "run"
       refine ag6 (SqL.of hpb) ?_
       intro p9 H9 f9 s9 e9
       walk_at "run"
       intro p10 H10 f10 s10 e10
       exact q _ H10 (.wait 0 bs number) (s8.trans (s9.trans s10)) (ac6 e10 a47 a58 (at_tup0.mpr ⟨p9,acc,rfl,s10 _ _ e9,hac.same (s9.trans s10)⟩) a58) ⟨⟨fun b hb=>Nat.lt_of_lt_of_le (hbs b hb) h3,by omega,hb3⟩,bk4 _ _ _⟩
     · walk_at "run"
       refine ag6 (SqL.of hpb) ?_
       intro p9 H9 f9 s9 e9
       walk_at "run"
       obtain ⟨k,hk,hkh⟩:=bc9 low high (by omega) (d / 160)
       rw [hk]
       intro p10 H10 f10 s10 e10
       exact q _ H10 (.wait (d % 4) bs k) (s8.trans (s9.trans s10)) (ac6 e10 a47 a58 (at_tup0.mpr ⟨p9,acc,rfl,s10 _ _ e9,hac.same (s9.trans s10)⟩) a58) ⟨⟨fun b hb=>Nat.lt_of_lt_of_le (hbs b hb) h3,by omega,hb3⟩,bk4 _ _ _⟩
def br2:Sp:=fun vs H Q _=>∃ (cell:Int) (number low high deep n:Nat),vs=[.int cell,.int (number:Nat),.int (low:Nat),.int (high:Nat),.int (deep:Nat)]∧low≤number∧number<high∧high≤n∧n≤100∧(deep<2→high+2≤n)∧∀ v H' nd,Same H H'→Tr.At H' (Nd.tr nd) v []→okS n number nd→Q v H'
theorem bd0 (number high:Nat) (x:Int) (hx:0≤x) (h:number+1<high):∃ k:Nat,min ((number:Int)+1+x) ((high:Int) - 1)=(k:Nat)∧number<k∧k<high:=by
 have h1:(number:Int)+1≤min ((number:Int)+1+x) ((high:Int) - 1):=by omega
 have h2:min ((number:Int)+1+x) ((high:Int) - 1)≤(high:Int) - 1:=by omega
 exact ⟨(min ((number:Int)+1+x) ((high:Int) - 1)).toNat,by omega,by omega,by omega⟩
theorem br3 (high:Nat) (x:Int):∃ k:Nat,(high:Int)+x % 2=(k:Nat)∧high≤k∧k<high+2:=⟨((high:Int)+x % 2).toNat,by omega,by omega,by omega⟩
theorem bk5 {H:Hp}{p:Addr}{w:Str}{n:Nat}(e:H p=some (.tup [.str (Str.ofString "say"),.str w,.int (n:Nat)])):(Nd.say w n).tr.At H (.ref p) []:=af4 e a47 a47 a58
theorem br4 {H:Hp}{p:Addr}{l:Int}{w:Str}{n:Nat}(e:H p=some (.tup [.str (Str.ofString "hand"),.int l,.str w,.int (n:Nat)])):(Nd.hand l w n).tr.At H (.ref p) []:=ac6 e a47 a58 a47 a58
theorem c05 {H:Hp}{p:Addr}{b:Str}{x:Ex}{u:V}{n:Nat}(e:H p=some (.tup [.str (Str.ofString "put"),.str b,u,.int (n:Nat)])) (h:x.tr.At H u []):(Nd.put b x n).tr.At H (.ref p) []:=ac6 e a47 a47 h a58
theorem br5 {H:Hp}{p:Addr}{c:Cd}{u:V}{m n:Nat}(e:H p=some (.tup [.str (Str.ofString "test"),u,.int (m:Nat),.int (n:Nat)])) (h:c.tr.At H u []):(Nd.test c m n).tr.At H (.ref p) []:=ac6 e a47 h a58 a58
theorem br6 {H:Hp}{p:Addr}{m n:Nat}(e:H p=some (.tup [.str (Str.ofString "call"),.int (m:Nat),.int (n:Nat)])):(Nd.call m n).tr.At H (.ref p) []:=af4 e a47 a58 a58
theorem aw6 {H:Hp}{p:Addr}(e:H p=some (.tup [.str (Str.ofString "back")])):Nd.back.tr.At H (.ref p) []:=au7 e a47
theorem br7 {H:Hp}{p:Addr}(e:H p=some (.tup [.str (Str.ofString "stop")])):Nd.stop.tr.At H (.ref p) []:=au7 e a47
theorem aw7 (T:Txt K mg t):FnOk P w K mg base CX0 3 t.a__law_node t.fd__law_node ["cell","number","low","high","deep"] br2:=by
 have G__law_cond:=aw4 (P:=P) (w:=w) (base:=base) T
 have G__law_expr:=ak4 (P:=P) (w:=w) (base:=base) T
 have G__law_wait:=aw5 (P:=P) (w:=w) (base:=base) T
 refine T.F__law_node.ok sc_law_node (fun vs H Q E h=>?_) (fun cdv A outer s H vs Q E hr h=>?_)
 · obtain ⟨cell,number,low,high,deep,n,rfl,_⟩:=h
   rfl
 · obtain ⟨cell,number,low,high,deep,n,rfl,h1,h2,h3,h4,h5,q⟩:=h
   refine ⟨_,(@a03 _ _ _ _ _ (@a45 _ _ 5 _ _ _ _ sc_law_node.nd rfl (by walk_at "o") (@a31 _ _ _ _ _ _ _ _ a48 (pv 0) (@a01 _ _ _ _)) (by rfl) (by walk_at "o"))
    (@a03 _ _ _ _ _ (@a45 _ _ 6 _ _ _ _ sc_law_node.nd rfl (by walk_at "o") (@a31 _ _ _ _ _ _ _ _ a44 (pv 0) (@a01 _ _ _ _)) (by rfl) (by walk_at "o"))
    (@a03 _ _ _ _ _ (@a45 _ _ 7 _ _ _ _ sc_law_node.nd rfl (by walk_at "o") (@a77 _ _ _ _ _ _ _ _ _ al3 (by rfl) T.z_min bj7 (@a00 _ _ _ _ _ (@a31 _ _ _ _ _ _ _ _ a57 (@a31 _ _ _ _ _ _ _ _ a57 (pv 1) (@a01 _ _ _ _)) (@a31 _ _ _ _ _ _ _ _ a48 (pv 6) (@a01 _ _ _ _))) (@a00 _ _ _ _ _ (@a31 _ _ _ _ _ _ _ _ ai7 (pv 3) (@a01 _ _ _ _)) (@a04 _) (by rfl)) (by rfl)) (by decide) (by decide) (by rfl) (by rfl)) (by rfl) (by walk_at "o"))
    (@a03 _ _ _ _ _ (@a68 _ _ _ _ _ _ _ _ (@ao4 _ _ _ (@PW.pt _ _ _ (@ak6 _ _ _ _ _ _ _ (@a36 _ _ _ _ _ _ _ _ a65 (pv 1) (@a31 _ _ _ _ _ _ _ _ ai7 (pv 3) (@a01 _ _ _ _)) (nomark _)) (@ah7 _ _ _ _ (@a36 _ _ _ _ _ _ _ _ a65 (pv 5) (@a01 _ _ _ _) (nomark _)))))) (@a03 _ _ _ _ _ (@a68 _ _ _ _ _ _ _ _ (@ao4 _ _ _ (@PW.pt _ _ _ (@aq8 _ _ _ _ _ _ _ (@a36 _ _ _ _ _ _ _ _ b62 (pv 4) (@a01 _ _ _ _) (nomark _)) (@am2 _ _ _ _ (@a36 _ _ _ _ _ _ _ _ a65 (@a31 _ _ _ _ _ _ _ _ a48 (pv 6) (@a01 _ _ _ _)) (@a01 _ _ _ _) (nomark _)))))) (@a05 _ _ _ (@a41 _ _ _ _ (@a33 _ _ _ _ _ (@a00 _ _ _ _ _ (@a28 _ _ _ _) (@a04 _) (by rfl))))) (@a40 _))
     (@a05 _ _ _ (@a41 _ _ _ _ (@a29 _ _ _ _ _ _ _ (a07 K) (@a52 _ _ _ _ (@a00 _ _ _ _ _ (@a33 _ _ _ _ _ (@a00 _ _ _ _ _ (@a28 _ _ _ _) (@a04 _) (by rfl))) (@a00 _ _ _ _ _ (@a33 _ _ _ _ _ (@a00 _ _ _ _ _ (@a28 _ _ _ _) (@a04 _) (by rfl))) (@a00 _ _ _ _ _ (@a50 _ _ _ _ _ _ _ _ _ _ _ _ _ _ _ _ G__law_wait (hr.mono (by omega)) rfl T.m__law_wait T.F__law_wait.kp T.b__law_wait .nil a85 (@a00 _ _ _ _ _ (@a31 _ _ _ _ _ _ _ _ a44 (pv 6) (@a01 _ _ _ _)) (@a00 _ _ _ _ _ (pv 1) (@a00 _ _ _ _ _ (pv 2) (@a00 _ _ _ _ _ (pv 3) (@a04 _) (by rfl)) (by rfl)) (by rfl)) (by rfl)) (by decide) (by rfl) (by rfl)) (@a04 _) (by rfl)) (by rfl)) (by rfl))) (@a31 _ _ _ _ _ _ _ _ a48 (pv 6) (@a01 _ _ _ _)) (fun _ _=>rfl))))) (@a40 _))
    (@a03 _ _ _ _ _ (@a68 _ _ _ _ _ _ _ _ (@a36 _ _ _ _ _ _ _ _ a65 (pv 5) (@a01 _ _ _ _) (nomark _)) (@a05 _ _ _ (@a41 _ _ _ _ (@a33 _ _ _ _ _ (@a00 _ _ _ _ _ (@a28 _ _ _ _) (@a00 _ _ _ _ _ (@a29 _ _ _ _ _ _ _ (a07 K) (@a52 _ _ _ _ (@a00 _ _ _ _ _ (@a28 _ _ _ _) (@a00 _ _ _ _ _ (@a28 _ _ _ _) (@a00 _ _ _ _ _ (@a28 _ _ _ _) (@a04 _) (by rfl)) (by rfl)) (by rfl))) (@a31 _ _ _ _ _ _ _ _ a48 (@a31 _ _ _ _ _ _ _ _ a44 (pv 6) (@a01 _ _ _ _)) (@a01 _ _ _ _)) (fun _ _=>rfl)) (@a00 _ _ _ _ _ (pv 7) (@a04 _) (by rfl)) (by rfl)) (by rfl))))) (@a40 _))
    (@a03 _ _ _ _ _ (@a68 _ _ _ _ _ _ _ _ (@a36 _ _ _ _ _ _ _ _ a65 (pv 5) (@a01 _ _ _ _) (nomark _)) (@a05 _ _ _ (@a41 _ _ _ _ (@a33 _ _ _ _ _ (@a00 _ _ _ _ _ (@a28 _ _ _ _) (@a00 _ _ _ _ _ (@a31 _ _ _ _ _ _ _ _ a48 (@a31 _ _ _ _ _ _ _ _ a44 (pv 6) (@a01 _ _ _ _)) (@a01 _ _ _ _)) (@a00 _ _ _ _ _ (@a28 _ _ _ _) (@a00 _ _ _ _ _ (pv 7) (@a04 _) (by rfl)) (by rfl)) (by rfl)) (by rfl))))) (@a40 _))
    (@a03 _ _ _ _ _ (@a68 _ _ _ _ _ _ _ _ (@a36 _ _ _ _ _ _ _ _ a65 (pv 5) (@a01 _ _ _ _) (nomark _)) (@a05 _ _ _ (@a41 _ _ _ _ (@a33 _ _ _ _ _ (@a00 _ _ _ _ _ (@a28 _ _ _ _) (@a00 _ _ _ _ _ (@a29 _ _ _ _ _ _ _ (a07 K) (@a52 _ _ _ _ (@a00 _ _ _ _ _ (@a28 _ _ _ _) (@a00 _ _ _ _ _ (@a28 _ _ _ _) (@a00 _ _ _ _ _ (@a28 _ _ _ _) (@a04 _) (by rfl)) (by rfl)) (by rfl))) (@a31 _ _ _ _ _ _ _ _ a48 (@a31 _ _ _ _ _ _ _ _ a44 (pv 6) (@a01 _ _ _ _)) (@a01 _ _ _ _)) (fun _ _=>rfl)) (@a00 _ _ _ _ _ (@a50 _ _ _ _ _ _ _ _ _ _ _ _ _ _ _ _ G__law_expr (hr.mono (by omega)) rfl T.m__law_expr T.F__law_expr.kp T.b__law_expr .nil a85 (@a00 _ _ _ _ _ (@a31 _ _ _ _ _ _ _ _ a44 (pv 6) (@a01 _ _ _ _)) (@a04 _) (by rfl)) (by decide) (by rfl) (by rfl)) (@a00 _ _ _ _ _ (pv 7) (@a04 _) (by rfl)) (by rfl)) (by rfl)) (by rfl))))) (@a40 _))
    (@a03 _ _ _ _ _ (@a68 _ _ _ _ _ _ _ _ (@ao4 _ _ _ (@PW.pt _ _ _ (@ak6 _ _ _ _ _ _ _ (@a36 _ _ _ _ _ _ _ _ a65 (pv 5) (@a01 _ _ _ _) (nomark _)) (@ah7 _ _ _ _ (@a36 _ _ _ _ _ _ _ _ a65 (pv 5) (@a01 _ _ _ _) (nomark _)))))) (@a05 _ _ _ (@a41 _ _ _ _ (@a33 _ _ _ _ _ (@a00 _ _ _ _ _ (@a28 _ _ _ _) (@a00 _ _ _ _ _ (@a50 _ _ _ _ _ _ _ _ _ _ _ _ _ _ _ _ G__law_cond (hr.mono (by omega)) rfl T.m__law_cond T.F__law_cond.kp T.b__law_cond .nil a85 (@a00 _ _ _ _ _ (@a31 _ _ _ _ _ _ _ _ a44 (pv 6) (@a01 _ _ _ _)) (@a04 _) (by rfl)) (by decide) (by rfl) (by rfl)) (@a00 _ _ _ _ _ (pv 7) (@a00 _ _ _ _ _ (@a77 _ _ _ _ _ _ _ _ _ al3 (by rfl) T.z_min bj7 (@a00 _ _ _ _ _ (@a31 _ _ _ _ _ _ _ _ a57 (@a31 _ _ _ _ _ _ _ _ a57 (pv 1) (@a01 _ _ _ _)) (@a31 _ _ _ _ _ _ _ _ a48 (@a31 _ _ _ _ _ _ _ _ a44 (pv 6) (@a01 _ _ _ _)) (@a01 _ _ _ _))) (@a00 _ _ _ _ _ (@a31 _ _ _ _ _ _ _ _ ai7 (pv 3) (@a01 _ _ _ _)) (@a04 _) (by rfl)) (by rfl)) (by decide) (by decide) (by rfl) (by rfl)) (@a04 _) (by rfl)) (by rfl)) (by rfl)) (by rfl))))) (@a40 _))
    (@a03 _ _ _ _ _ (@a68 _ _ _ _ _ _ _ _ (@ao4 _ _ _ (@PW.pt _ _ _ (@aq8 _ _ _ _ _ _ _ (@a36 _ _ _ _ _ _ _ _ a65 (pv 5) (@a01 _ _ _ _) (nomark _)) (@am2 _ _ _ _ (@a36 _ _ _ _ _ _ _ _ bd9 (pv 4) (@a01 _ _ _ _) (nomark _)))))) (@a05 _ _ _ (@a41 _ _ _ _ (@a33 _ _ _ _ _ (@a00 _ _ _ _ _ (@a28 _ _ _ _) (@a00 _ _ _ _ _ (@a31 _ _ _ _ _ _ _ _ a57 (pv 3) (@a31 _ _ _ _ _ _ _ _ a48 (@a31 _ _ _ _ _ _ _ _ a44 (pv 6) (@a01 _ _ _ _)) (@a01 _ _ _ _))) (@a00 _ _ _ _ _ (pv 7) (@a04 _) (by rfl)) (by rfl)) (by rfl))))) (@a40 _))
    (@a05 _ _ _ (@a41 _ _ _ _ (@a50 _ _ _ _ _ _ _ _ _ _ _ _ _ _ _ _ G__law_wait (hr.mono (by omega)) rfl T.m__law_wait T.F__law_wait.kp T.b__law_wait .nil a85 (@a00 _ _ _ _ _ (pv 6) (@a00 _ _ _ _ _ (pv 1) (@a00 _ _ _ _ _ (pv 2) (@a00 _ _ _ _ _ (pv 3) (@a04 _) (by rfl)) (by rfl)) (by rfl)) (by rfl)) (by decide) (by rfl) (by rfl))))))))))))),?_⟩
   walk_at "go"
   refine ay2 (number+1=high∨cell % 8=7) (fun R hR=>?_) ?_
   · walk_at "run"
     by_cases hh:number+1=high
     · refine a66 (by omega) ?_
       exact rT hR (.inl hh)
     · refine a34 (by omega) ?_
       walk_at "run"
       by_cases h7:cell % 8=7
       · rw [decide_eq_true h7]
         exact rT hR (.inr h7)
       · rw [decide_eq_false h7]
         exact rF hR (fun z=>by rcases z with z | z; exact hh z; exact h7 z)
   refine ite2 (fun hc=>?_) (fun hc=>?_)
   · walk_at "run"
     refine ay2 (0<deep∧cell / 8 % 2=0) (fun R hR=>?_) ?_
     · walk_at "run"
       by_cases hh:0<deep
       · refine a66 (by omega) ?_
         walk_at "run"
         by_cases h7:cell / 8 % 2=0
         · rw [decide_eq_true h7]
           exact rT hR ⟨hh,h7⟩
         · rw [decide_eq_false h7]
           exact rF hR (fun z=>h7 z.2)
       · refine a34 (by omega) ?_
         exact rF hR (fun z=>hh z.1)
     refine ite2 (fun hc2=>?_) (fun hc2=>?_)
     · walk_at "run"
       intro p1 H1 f1 s1 e1
       exact q _ H1 .back s1 (aw6 e1) ⟨trivial,by simp [Nd.tr,Nd.its,Tr.h,Tr.hs]⟩
     · walk_at "run"
       intro p1 H1 f1 s1 e1
       walk_at "run"
       intro p2 H2 f2 s2 e2
       walk_at "run"
       refine ⟨_,number,low,high,n,rfl,h1,h2,h3,h4,fun v3 H3 nd s3 hn okn=>?_⟩
       walk_at "run"
       intro p4 H4 f4 s4 e4
       walk_at "run"
       have sA:=s1.trans (s2.trans (s3.trans s4))
       have hx:cell / 8 % 3=0∨cell / 8 % 3=1∨cell / 8 % 3=2:=by omega
       rcases hx with hx | hx | hx
       · refine a49 (SqL.of e4) (v:=.ref p1) (by rw [hx]; rfl) ?_
         exact q _ H4 .back sA ((aw6 e1).same (s2.trans (s3.trans s4))) ⟨trivial,by simp [Nd.tr,Nd.its,Tr.h,Tr.hs]⟩
       · refine a49 (SqL.of e4) (v:=.ref p2) (by rw [hx]; rfl) ?_
         exact q _ H4 .stop sA ((br7 e2).same (s3.trans s4)) ⟨trivial,by simp [Nd.tr,Nd.its,Tr.h,Tr.hs]⟩
       · refine a49 (SqL.of e4) (v:=v3) (by rw [hx]; rfl) ?_
         exact q _ H4 nd sA (hn.same s4) okn
   have hc':¬ (number+1=high∨cell % 8=7):=fun z=>hc (decide_eq_true z)
   have hnh:number+1<high:=by omega
   obtain ⟨to,hto,ht1,ht2⟩:=bd0 number high (cell / 8 % 3) (by omega) hnh
   rw [hto]
   walk_at "run"
   refine ite2 (fun k0=>?_) (fun k0=>?_)
   · walk_at "run"
     intro p1 H1 f1 s1 e1
     walk_at "run"
     obtain ⟨w,hw⟩:=at3s "yes" "no" "well" (cell / 8 / 3)
     refine a49 (SqL.of e1) hw ?_
     walk_at "run"
     intro p2 H2 f2 s2 e2
     exact q _ H2 (.say w to) (s1.trans s2) (bk5 e2) ⟨⟨ht1,by omega⟩,by simp [Nd.tr,Nd.its,Tr.h,Tr.hs]⟩
   walk_at "run"
   refine ite2 (fun k1=>?_) (fun k1=>?_)
   · walk_at "run"
     intro p2 H2 f2 s2 e2
     exact q _ H2 (.hand _ _ to) s2 (br4 e2) ⟨⟨ht1,by omega⟩,by simp [Nd.tr,Nd.its,Tr.h,Tr.hs]⟩
   walk_at "run"
   refine ite2 (fun k2=>?_) (fun k2=>?_)
   · walk_at "run"
     intro p1 H1 f1 s1 e1
     walk_at "run"
     obtain ⟨b,hb,hw⟩:=at3b (cell / 8 / 3)
     refine a49 (SqL.of e1) hw ?_
     walk_at "run"
     refine ⟨_,rfl,fun v2 H2 x s2 hx okx hhx=>?_⟩
     walk_at "run"
     intro p3 H3 f3 s3 e3
     exact q _ H3 (.put b x to) (s1.trans (s2.trans s3)) (c05 e3 (hx.same s3)) ⟨⟨⟨ht1,by omega⟩,⟨okx,by omega⟩,hb⟩,c53 (by omega)⟩
   walk_at "run"
   refine ay2 (cell % 8=3∨cell % 8=4) (fun R hR=>?_) ?_
   · walk_at "run"
     by_cases hh:cell % 8=3
     · refine a66 hh ?_
       exact rT hR (.inl hh)
     · refine a34 hh ?_
       walk_at "run"
       by_cases h7:cell % 8=4
       · rw [decide_eq_true h7]
         exact rT hR (.inr h7)
       · rw [decide_eq_false h7]
         exact rF hR (fun z=>by rcases z with z | z; exact hh z; exact h7 z)
   refine ite2 (fun k3=>?_) (fun k3=>?_)
   · walk_at "run"
     refine ⟨_,rfl,fun v2 H2 c s2 hx okx hhx=>?_⟩
     walk_at "run"
     obtain ⟨to2,hto2,hu1,hu2⟩:=bd0 number high (cell / 8 / 3 % 5) (by omega) hnh
     rw [hto2]
     intro p3 H3 f3 s3 e3
     exact q _ H3 (.test c to to2) (s2.trans s3) (br5 e3 (hx.same s3)) ⟨⟨⟨ht1,by omega⟩,⟨hu1,by omega⟩,ap9 okx,hhx⟩,c03 okx hhx⟩
   walk_at "run"
   refine ay2 (cell % 8=5∧deep<2) (fun R hR=>?_) ?_
   · walk_at "run"
     by_cases hh:cell % 8=5
     · refine a66 hh ?_
       walk_at "run"
       by_cases h7:deep<2
       · rw [decide_eq_true (by omega)]
         exact rT hR ⟨hh,h7⟩
       · rw [decide_eq_false (by omega)]
         exact rF hR (fun z=>h7 z.2)
     · refine a34 hh ?_
       exact rF hR (fun z=>hh z.1)
   refine ite2 (fun k5=>?_) (fun k5=>?_)
   · have k5':deep<2:=(of_decide_eq_true k5).2
     have h6:=h5 k5'
     walk_at "run"
     obtain ⟨en,hen,he1,he2⟩:=br3 high (cell / 8 / 3)
     rw [hen]
     intro p3 H3 f3 s3 e3
     exact q _ H3 (.call en to) s3 (br6 e3) ⟨⟨⟨by omega,by omega⟩,ht1,by omega⟩,by simp [Nd.tr,Nd.its,Tr.h,Tr.hs]⟩
   · walk_at "run"
     refine ⟨_,number,low,high,n,rfl,h1,h2,h3,h4,fun v3 H3 nd s3 hn okn=>?_⟩
     exact q _ H3 nd s3 hn okn
def bi2 (K:PySem.W.Frag):Sp:=fun vs H Q _=>∃ (a:Addr) (ns:List Int),vs=[.ref a]∧SqL K H a (ns.map V.int)∧∀ v H' bs ds f b n,Same H H'→GAt H' v bs ds f b n→Gok ds f→(∀ d∈ds,d.tr.h≤8)→H n=none→b≠n→ds.length≤60→1<ds.length→bs.map (·.1)=bxs3→Q v H'
theorem aq1 {H:Hp}:∀ {xs:List Tr}{vs:List V}{x:Tr}{v:V}(j:Nat),Tr.Ats H xs vs []→x.At H v []→Tr.Ats H (xs.set j x) (vs.set j v) []
 | [],vs,x,v,j,h,h2=>by
   rw [ats_nil0.mp h]
   simpa using ats_nil0.mpr rfl
 | y::xs,vs,x,v,j,h,h2=>by
   obtain ⟨u,ws,rfl,h3,h4⟩:=ats_cons0.mp h
   cases j with
   | zero=>exact ats_cons0.mpr ⟨v,ws,rfl,h2,h4⟩
   | succ j=>exact ats_cons0.mpr ⟨u,ws.set j v,rfl,h3,aq1 j h4 h2⟩
theorem bi3 {ns:List Nd}{m j:Nat}(h:∀ (i:Nat) (d:Nd),ns[i]?=some d→okS m i d):∀ (i:Nat) (d:Nd),(ns.set j .back)[i]?=some d→okS m i d:=by
 intro i d e
 rw [List.getElem?_set] at e
 split at e
 · split at e
   · cases e; exact ⟨trivial,by simp [Nd.tr,Nd.its,Tr.h,Tr.hs]⟩
   · cases e
 · exact h i d e
theorem bd1 {ns:List Nd}{m:Nat}{x:Nd}(h:∀ (i:Nat) (d:Nd),ns[i]?=some d→okS m i d) (hx:okS m ns.length x):∀ (i:Nat) (d:Nd),(ns++[x])[i]?=some d→okS m i d:=by
 intro i d e
 by_cases hi:i<ns.length
 · rw [List.getElem?_append_left hi] at e
   exact h i d e
 · rw [List.getElem?_append_right (by omega)] at e
   have h0:i - ns.length=0:=by
    have:=(List.getElem?_eq_some_iff.mp e).1
    simp at this; omega
   rw [h0] at e
   simp at e
   subst e
   rw [show i=ns.length by omega]
   exact hx
theorem br8 (z:Int) (num:Nat) (h:num≤100):CBig (z % 10 ^ Int.toNat 40+(num:Nat)) (z % 10 ^ Int.toNat 40+7*(num:Nat)+2):=by
 have h1:=Int.emod_nonneg z (show (10:Int) ^ Int.toNat 40≠0 by decide)
 have h2:=Int.emod_lt_of_pos z (show (0:Int)<10 ^ Int.toNat 40 by decide)
 have h3:(10:Int) ^ Int.toNat 40≤2 ^ 199:=by decide
 have hb:∀ x:Int,0≤x→x<2 ^ 200→x.natAbs<2 ^ 4096:=fun x h0 h1=>Nat.lt_of_lt_of_le (show x.natAbs<2 ^ 200 by omega) (Nat.pow_le_pow_right (by decide) (by decide))
 exact .inl ⟨hb _ (by omega) (by omega),hb _ (by omega) (by omega)⟩
theorem at3 (T:Txt K mg t):FnOk P w K mg base CX0 4 t.a__law_graph t.fd__law_graph ["script"] (bi2 K):=by
 have G__law_cell_at:=af1 (P:=P) (w:=w) (base:=base) T
 have G__law_node:=aw7 (P:=P) (w:=w) (base:=base) T
 refine T.F__law_graph.ok sc_law_graph (fun vs H Q E h=>?_) (fun cdv A outer s H vs Q E hr h=>?_)
 · obtain ⟨a,ns,rfl,_⟩:=h
   rfl
 · obtain ⟨a,ns,rfl,hS,q⟩:=h
   refine ⟨_,(@a03 _ _ _ _ _ (@a45 _ _ 1 _ _ _ _ sc_law_graph.nd rfl (by walk_at "o") (@a50 _ _ _ _ _ _ _ _ _ _ _ _ _ _ _ _ G__law_cell_at (hr.mono (by omega)) rfl T.m__law_cell_at T.F__law_cell_at.kp T.b__law_cell_at .nil a85 (@a00 _ _ _ _ _ (pv 0) (@a00 _ _ _ _ _ (@a01 _ _ _ _) (@a04 _) (by rfl)) (by rfl)) (by decide) (by rfl) (by rfl)) (by rfl) (by walk_at "o"))
    (@a03 _ _ _ _ _ (@a45 _ _ 2 _ _ _ _ sc_law_graph.nd rfl (by walk_at "o") (@a52 _ _ _ _ (@a00 _ _ _ _ _ (@a01 _ _ _ _) (@a00 _ _ _ _ _ (@a31 _ _ _ _ _ _ _ _ a57 (@a01 _ _ _ _) (@a31 _ _ _ _ _ _ _ _ a48 (@a31 _ _ _ _ _ _ _ _ a44 (pv 1) (@a01 _ _ _ _)) (@a01 _ _ _ _))) (@a04 _) (by rfl)) (by rfl))) (by rfl) (by walk_at "o"))
    (@a03 _ _ _ _ _ (@a67 _ _ _ _ (@aa7 _ K _ _ _ _ _ _ _ _ _ _ _ PySem.F.plainAttrs_list PySem.F.slot_list_append PySem.F.type_list_append a70 (pv 2) (@a00 _ _ _ _ _ (@a31 _ _ _ _ _ _ _ _ a57 (@a31 _ _ _ _ _ _ _ _ a57 (@a29 _ _ _ _ _ _ _ (a07 K) (pv 2) (@a01 _ _ _ _) (fun _ _=>rfl)) (@a01 _ _ _ _)) (@a31 _ _ _ _ _ _ _ _ a48 (@a31 _ _ _ _ _ _ _ _ a44 (pv 1) (@a01 _ _ _ _)) (@a01 _ _ _ _))) (@a04 _) (by rfl)) (by rfl) (by rfl) (by rfl) (by rfl) (by rfl) (by rfl)) (by rfl))
    (@a03 _ _ _ _ _ (@a67 _ _ _ _ (@aa7 _ K _ _ _ _ _ _ _ _ _ _ _ PySem.F.plainAttrs_list PySem.F.slot_list_append PySem.F.type_list_append a70 (pv 2) (@a00 _ _ _ _ _ (@a31 _ _ _ _ _ _ _ _ a57 (@a31 _ _ _ _ _ _ _ _ a57 (@a29 _ _ _ _ _ _ _ (a07 K) (pv 2) (@a01 _ _ _ _) (fun _ _=>rfl)) (@a01 _ _ _ _)) (@a31 _ _ _ _ _ _ _ _ a48 (@a31 _ _ _ _ _ _ _ _ a44 (pv 1) (@a01 _ _ _ _)) (@a01 _ _ _ _))) (@a04 _) (by rfl)) (by rfl) (by rfl) (by rfl) (by rfl) (by rfl) (by rfl)) (by rfl))
    (@a03 _ _ _ _ _ (@a45 _ _ 3 _ _ _ _ sc_law_graph.nd rfl (by walk_at "o") (@a52 _ _ _ _ (@a04 _)) (by rfl) (by walk_at "o"))
    (@a03 _ _ _ _ _ (@aa1 _ _ _ _ _ _ _ _ PassesOwn.never rfl (aa0 rfl T.z_range (@a00 _ _ _ _ _ (@a01 _ _ _ _) (@a04 _) (by rfl))) (a38 (i:=4) sc_law_graph.nd rfl (by walk_at "o")) (@a03 _ _ _ _ _ (@aa1 _ _ _ _ _ _ _ _ PassesOwn.never rfl (b60 rfl T.z_range (@a00 _ _ _ _ _ (@a29 _ _ _ _ _ _ _ (a07 K) (pv 2) (pv 4) (fun _ _=>rfl)) (@a00 _ _ _ _ _ (@a29 _ _ _ _ _ _ _ (a07 K) (pv 2) (@a31 _ _ _ _ _ _ _ _ a57 (pv 4) (@a01 _ _ _ _)) (fun _ _=>rfl)) (@a04 _) (by rfl)) (by rfl))) (a38 (i:=5) sc_law_graph.nd rfl (by walk_at "o")) (@a03 _ _ _ _ _ (@a45 _ _ 6 _ _ _ _ sc_law_graph.nd rfl (by walk_at "o") (@a50 _ _ _ _ _ _ _ _ _ _ _ _ _ _ _ _ G__law_cell_at (hr.mono (by omega)) rfl T.m__law_cell_at T.F__law_cell_at.kp T.b__law_cell_at .nil a85 (@a00 _ _ _ _ _ (pv 0) (@a00 _ _ _ _ _ (@a31 _ _ _ _ _ _ _ _ a57 (@a01 _ _ _ _) (pv 5)) (@a04 _) (by rfl)) (by rfl)) (by decide) (by rfl) (by rfl)) (by rfl) (by walk_at "o"))
     (@ab7 _ _ _ _ _ (@a68 _ _ _ _ _ _ _ _ (@a36 _ _ _ _ _ _ _ _ a65 (@a31 _ _ _ _ _ _ _ _ a48 (pv 1) (@a01 _ _ _ _)) (@a01 _ _ _ _) (nomark _)) (@a05 _ _ _ (@a45 _ _ 6 _ _ _ _ sc_law_graph.nd rfl (by walk_at "o") (@a31 _ _ _ _ _ _ _ _ a44 (@a31 _ _ _ _ _ _ _ _ am7 (@a31 _ _ _ _ _ _ _ _ a57 (@a31 _ _ _ _ _ _ _ _ a48 (pv 6) (@a31 _ _ _ _ _ _ _ _ bj1 (@a01 _ _ _ _) (@a01 _ _ _ _))) (pv 5)) (@a31 _ _ _ _ _ _ _ _ a57 (@a31 _ _ _ _ _ _ _ _ a57 (@a31 _ _ _ _ _ _ _ _ a48 (pv 6) (@a31 _ _ _ _ _ _ _ _ bj1 (@a01 _ _ _ _) (@a01 _ _ _ _))) (@a31 _ _ _ _ _ _ _ _ am7 (@a01 _ _ _ _) (pv 5))) (@a01 _ _ _ _))) (@a01 _ _ _ _)) (by rfl) (by walk_at "o"))) (@a40 _))
     (@a05 _ _ _ (@a67 _ _ _ _ (@aa7 _ K _ _ _ _ _ _ _ _ _ _ _ PySem.F.plainAttrs_list PySem.F.slot_list_append PySem.F.type_list_append a70 (pv 3) (@a00 _ _ _ _ _ (@a50 _ _ _ _ _ _ _ _ _ _ _ _ _ _ _ _ G__law_node (hr.mono (by omega)) rfl T.m__law_node T.F__law_node.kp T.b__law_node .nil a85 (@a00 _ _ _ _ _ (pv 6) (@a00 _ _ _ _ _ (pv 5) (@a00 _ _ _ _ _ (@a29 _ _ _ _ _ _ _ (a07 K) (pv 2) (pv 4) (fun _ _=>rfl)) (@a00 _ _ _ _ _ (@a29 _ _ _ _ _ _ _ (a07 K) (pv 2) (@a31 _ _ _ _ _ _ _ _ a57 (pv 4) (@a01 _ _ _ _)) (fun _ _=>rfl)) (@a00 _ _ _ _ _ (pv 4) (@a04 _) (by rfl)) (by rfl)) (by rfl)) (by rfl)) (by rfl)) (by decide) (by rfl) (by rfl)) (@a04 _) (by rfl)) (by rfl) (by rfl) (by rfl) (by rfl) (by rfl) (by rfl)) (by rfl))))) (by intro _; rfl))
     (@a05 _ _ _ (@a68 _ _ _ _ _ _ _ _ (@a36 _ _ _ _ _ _ _ _ b62 (pv 4) (@a01 _ _ _ _) (nomark _)) (@a05 _ _ _ (@ag3 _ _ _ _ _ _ (@a33 _ _ _ _ _ (@a00 _ _ _ _ _ (@a28 _ _ _ _) (@a04 _) (by rfl))) (ah8 (pv 3) (@aq9 _ _ _ _ _ _ ah9 (@a01 _ _ _ _)) aa9) (by rfl) (by rfl) (by rfl))) (@a40 _)))) (by intro _; rfl))
    (@a05 _ _ _ (@a41 _ _ _ _ (@a33 _ _ _ _ _ (@a00 _ _ _ _ _ (@a52 _ _ _ _ (@a00 _ _ _ _ _ (@a33 _ _ _ _ _ (@a00 _ _ _ _ _ (@a28 _ _ _ _) (@a00 _ _ _ _ _ (@a31 _ _ _ _ _ _ _ _ a57 (@a01 _ _ _ _) (@a31 _ _ _ _ _ _ _ _ a48 (@a31 _ _ _ _ _ _ _ _ a44 (pv 1) (@a01 _ _ _ _)) (@a01 _ _ _ _))) (@a04 _) (by rfl)) (by rfl))) (@a00 _ _ _ _ _ (@a33 _ _ _ _ _ (@a00 _ _ _ _ _ (@a28 _ _ _ _) (@a00 _ _ _ _ _ (@a01 _ _ _ _) (@a04 _) (by rfl)) (by rfl))) (@a00 _ _ _ _ _ (@a33 _ _ _ _ _ (@a00 _ _ _ _ _ (@a28 _ _ _ _) (@a00 _ _ _ _ _ (@a01 _ _ _ _) (@a04 _) (by rfl)) (by rfl))) (@a04 _) (by rfl)) (by rfl)) (by rfl))) (@a00 _ _ _ _ _ (pv 3) (@a00 _ _ _ _ _ (@a31 _ _ _ _ _ _ _ _ a48 (@a31 _ _ _ _ _ _ _ _ a44 (pv 1) (@a01 _ _ _ _)) (@a01 _ _ _ _)) (@a04 _) (by rfl)) (by rfl)) (by rfl))))))))))),?_⟩
   walk_at "go"
   refine ⟨a,ns,0,rfl,hS,fun cell=>?_⟩
   walk_at "run"
   intro pe H1 f1 s1 e1
   walk_at "run"
   refine ab3 (SqL.of e1) ?_
   walk_at "run"
   refine a49 (SqL.of e1) (a02 (j:=1) rfl) ?_
   walk_at "run"
   refine a84 e1 (show 2<sizeLine by decide) ?_
   walk_at "run"
   refine ab3 (SqL.of a27) ?_
   walk_at "run"
   refine a49 (SqL.of a27) (a02 (j:=2) rfl) ?_
   walk_at "run"
   refine a84 a27 (show 3<sizeLine by decide) ?_
   rw [bl1]
   walk_at "run"
   obtain ⟨m1,hm1,hm1a,hm1b⟩:∃ m:Nat,4+cell / 2 % 6=(m:Nat)∧4≤m∧m≤9:=⟨(4+cell / 2 % 6).toNat,by omega,by omega,by omega⟩
   obtain ⟨m2,hm2,hm2a,hm2b⟩:∃ m:Nat,(m1:Int)+2+cell / 12 % 3=(m:Nat)∧m1+2≤m∧m≤20:=⟨((m1:Int)+2+cell / 12 % 3).toNat,by omega,by omega,by omega⟩
   obtain ⟨m3,hm3,hm3a,hm3b⟩:∃ m:Nat,(m2:Int)+2+cell / 36 % 2=(m:Nat)∧m2+2≤m∧m≤30:=⟨((m2:Int)+2+cell / 36 % 2).toNat,by omega,by omega,by omega⟩
   simp only [hm1,hm2,hm3,List.cons_append,List.nil_append]
   generalize hH2:upd H1 pe _=H2
   have e2:H2 pe=some (.lst (natsV [0,m1,m2,m3])):=by rw [← hH2,a27]; rfl
   have s2:Same H H2:=by rw [← hH2]; exact s1.updNew f1
   clear hH2
   have hen:∀ i,i<3→[0,m1,m2,m3].getD i 0+2≤[0,m1,m2,m3].getD (i+1) 0∧[0,m1,m2,m3].getD (i+1) 0≤m3∧(i<2→[0,m1,m2,m3].getD (i+1) 0+2≤m3):=by
    intro i hi
    have:i=0∨i=1∨i=2:=by omega
    rcases this with rfl | rfl | rfl
    · simp; omega
    · simp; omega
    · simp; omega
   generalize hE:[0,m1,m2,m3]=E at e2 hen
   have hEl:E.length=4:=by rw [← hE]; rfl
   have hE0:E.getD 0 0=0:=by rw [← hE]; rfl
   have hE3:E.getD 3 0=m3:=by rw [← hE]; rfl
   intro pn H3 f3 s3 e3
   walk_at "run"
   have fn:H pn=none:=s2.free f3
   refine ab5 (lo:=0) (n:=3) (fun i σ H'=>∃ (ds:List Nd) (acc:List V) (y1 y2 y3:Option V),σ=[some (.ref a),some (.int cell),some (.ref pe),some (.ref pn),y1,y2,y3]∧Same H2 H'∧H' pn=some (.lst acc)∧Tr.Ats H' (ds.map Nd.tr) acc []∧ds.length=E.getD i 0∧∀ (j:Nat) (d:Nd),ds[j]?=some d→okS m3 j d) ⟨[],[],_,_,_,rfl,s3,e3,ats_nil0.mpr rfl,by rw [hE0]; rfl,fun j d e=>by simp at e⟩ ?_ ?_
   · rintro i σ H4 hi ⟨ds,acc,y1,y2,y3,rfl,s4,hpn,hac,hdl,hok⟩
     obtain ⟨en1,en2,en3⟩:=hen i hi
     rw [Int.zero_add]
     walk_at "run"
     refine a49 (SqL.of (s4 _ _ e2)) (a60 (by omega)) ?_
     walk_at "run"
     refine a49 (SqL.of (s4 _ _ e2)) (a60 (k:=i+1) (by omega)) ?_
     walk_at "run"
     refine ⟨_,_,rfl,⟨by omega,by omega,by omega,by omega⟩,?_⟩
     refine ab5 (lo:=(E.getD i 0:Nat)) (n:=((E.getD (i+1) 0:Nat) - (E.getD i 0:Nat):Int).toNat) (fun k σ H'=>∃ (ds:List Nd) (acc:List V) (y2 y3:Option V),σ=[some (.ref a),some (.int cell),some (.ref pe),some (.ref pn),some (.int (i:Nat)),y2,y3]∧Same H2 H'∧H' pn=some (.lst acc)∧Tr.Ats H' (ds.map Nd.tr) acc []∧ds.length=E.getD i 0+k∧∀ (j:Nat) (d:Nd),ds[j]?=some d→okS m3 j d) ⟨ds,acc,_,_,rfl,s4,hpn,hac,by omega,hok⟩ ?_ ?_
     · rintro k σ H5 hk ⟨ds,acc,y2,y3,rfl,s5,hpn,hac,hdl,hok⟩
       rw [show ((E.getD i 0:Nat):Int)+(k:Nat)=((E.getD i 0+k:Nat):Int) by omega]
       generalize hnum:E.getD i 0+k=num at hdl
       have hacl:acc.length=num:=by rw [hac.len,List.length_map,hdl]
       walk_at "run"
       refine ⟨a,ns,1+num,by simp,(s2.trans s5).seq hS,fun z=>?_⟩
       walk_at "run"
       refine al4 (fun σ' H'=>H5=H'∧∃ z:Int,σ'=[some (.ref a),some (.int cell),some (.ref pe),some (.ref pn),some (.int (i:Nat)),some (.int (num:Nat)),some (.int z)]) ?_ ?_
       · walk_at "run"
         refine ite2 (fun hc=>?_) (fun hc=>?_)
         · walk_at "run"
           refine ai5 (br8 z num (by omega)) ?_
           walk_at "run"
           exact ⟨rfl,_,rfl⟩
         · walk_at "run"
           exact ⟨rfl,_,rfl⟩
       · rintro σ' H' ⟨rfl,z,rfl⟩
         walk_at "run"
         refine ab3 (SqL.of hpn) ?_
         walk_at "run"
         refine a49 (SqL.of (s5 _ _ e2)) (a60 (by omega)) ?_
         walk_at "run"
         refine a49 (SqL.of (s5 _ _ e2)) (a60 (k:=i+1) (by omega)) ?_
         walk_at "run"
         refine ⟨z,num,E.getD i 0,E.getD (i+1) 0,i,m3,rfl,by omega,by omega,en2,by omega,en3,fun v H6 nd s6 hn okn=>?_⟩
         walk_at "run"
         have hpn6:=s6 _ _ hpn
         refine a84 hpn6 (Nat.lt_of_lt_of_le (show acc.length<1000000 by omega) (le_line (Nat.le_refl _))) ?_
         walk_at "run"
         have tU:Tups H5 (upd H6 pn (.lst (acc++[v]))):=s6.tups.trans (Tups.upd hpn6)
         refine ⟨ds++[nd],_,_,_,rfl,(s5.trans s6).updNew f3,a27,?_,by rw [List.length_append,hdl]; show num+1=_; omega,bd1 hok (by rw [hdl]; exact okn)⟩
         rw [List.map_append]
         exact aa8 (hac.tups tU) (hn.tups (Tups.upd hpn6))
     · rintro σ H5 ⟨ds,acc,y2,y3,rfl,s5,hpn,hac,hdl,hok⟩
       have hdl2:ds.length=E.getD (i+1) 0:=by omega
       have hacl:acc.length=ds.length:=by rw [hac.len,List.length_map]
       walk_at "run"
       refine ite2 (fun hc=>?_) (fun hc=>?_)
       · walk_at "run"
         intro p6 H6 f6 s6 e6
         walk_at "run"
         have hpn6:=s6 _ _ hpn
         refine ai0 hpn6 (j:=acc.length - 1) (by unfold ixN; rw [if_neg (by omega),if_pos (by omega)]; congr 1; omega) ?_
         have tU:Tups H5 (upd H6 pn (.lst (acc.set (acc.length - 1) (.ref p6)))):=s6.tups.trans (Tups.upd hpn6)
         refine ⟨ds.set (acc.length - 1) .back,_,_,_,_,rfl,(s5.trans s6).updNew f3,a27,?_,by rw [List.length_set]; exact hdl2,bi3 hok⟩
         rw [List.map_set]
         exact aq1 _ (hac.tups tU) ((aw6 e6).tups (Tups.upd hpn6))
       · walk_at "run"
         exact ⟨ds,acc,_,_,_,rfl,s5,hpn,hac,hdl2,hok⟩
   · rintro σ H4 ⟨ds,acc,y1,y2,y3,rfl,s4,hpn,hac,hdl,hok⟩
     walk_at "run"
     intro p5 H5 f5 s5 e5
     walk_at "run"
     intro p6 H6 f6 s6 e6
     walk_at "run"
     intro p7 H7 f7 s7 e7
     walk_at "run"
     intro p8 H8 f8 s8 e8
     walk_at "run"
     obtain ⟨fs,hfs,hfs2⟩:∃ m:Nat,cell / 72 % 2=(m:Nat)∧m<2:=⟨(cell / 72 % 2).toNat,by omega,by omega⟩
     rw [hfs]
     intro p9 H9 f9 s9 e9
     have s59:=s6.trans (s7.trans (s8.trans s9))
     have s49:=s5.trans s59
     rw [hE3] at hdl
     refine q _ H9 [(Str.ofString "many",2+cell / 72 % 2),(Str.ofString "mana",3),(Str.ofString "mano",2)] ds fs p8 pn (s2.trans (s4.trans s49)) ⟨p9,_,acc,rfl,e9,s9 _ _ e8,?_,s49 _ _ hpn,hac.same s49⟩ ⟨by rw [hdl]; exact fun i d h=>(hok i d h).1,by omega,by omega⟩ (fun d hd=>by obtain ⟨i,hi,rfl⟩:=List.mem_iff_getElem.mp hd; exact (hok i _ (List.getElem?_eq_getElem hi)).2) fn (a30 ((s5.trans (s6.trans s7)) _ _ hpn) f8).symm (by omega) (by omega) rfl
     exact ats_cons0.mpr ⟨_,_,rfl,a99 (s59 _ _ e5) a47 a58,ats_cons0.mpr ⟨_,_,rfl,a99 ((s7.trans (s8.trans s9)) _ _ e6) a47 a58,ats_cons0.mpr ⟨_,_,rfl,a99 ((s8.trans s9) _ _ e7) a47 a58,ats_nil0.mpr rfl⟩⟩⟩
theorem b52 (T:Txt K mg t):FnOk P w K mg base CX0 1 t.a__law_new t.fd__law_new ["node","where"] (bk2 K):=by
 refine T.F__law_new.ok b46 (fun vs H Q E h=>?_) (fun cdv A outer s H vs Q E hr h=>?_)
 · obtain ⟨v,l,nd,sf,rfl,_⟩:=h
   rfl
 · obtain ⟨v,l,nd,sf,rfl,hv,hl,hk,hz,q⟩:=h
   refine ⟨_,(@a03 _ _ _ _ _ (@a68 _ _ _ _ _ _ _ _ (@a36 _ _ _ _ _ _ _ _ a65 (@a29 _ _ _ _ _ _ _ (a09 K) (pv 0) (@a01 _ _ _ _) (fun _ _=>rfl)) (@a28 _ _ _ _) (nomark _)) (@a05 _ _ _ (@a41 _ _ _ _ (@a33 _ _ _ _ _ (@a00 _ _ _ _ _ (@a28 _ _ _ _) (@a00 _ _ _ _ _ (@a29 _ _ _ _ _ _ _ (a09 K) (pv 0) (@a01 _ _ _ _) (fun _ _=>rfl)) (@a00 _ _ _ _ _ (@a78 _ _ _ _ _ _ _ _ _ (ad3 K) (by rfl) T.z_tuple ae1 (@a00 _ _ _ _ _ (ae4 (Nt:=["pattern","to"]) (Nf:=["where"]) (caps:=[1]) rfl (a83 (sc:=defScope a93) rfl rfl (by decide +kernel) (by decide +kernel) (by decide +kernel) rfl (by decide +kernel)) (aj2 K (@a29 _ _ _ _ _ _ _ (a09 K) (pv 0) (@a01 _ _ _ _) (fun _ _=>rfl))) (fun _ _ _ _ _=>(ab2 K (n:=2) rfl (a54 (a38 (i:=0) (show (["pattern","to","where"]:List Str).Nodup by decide +kernel) rfl (by walk_at "o")) (a54 (a38 (i:=1) (show (["pattern","to","where"]:List Str).Nodup by decide +kernel) rfl (by walk_at "o")) (@ab0 _))))) (fun _ _ _ _ _=>(@a82 _)) (fun _ _ _ _ _=>(@a33 _ _ _ _ _ (@a00 _ _ _ _ _ (pv 0) (@a00 _ _ _ _ _ (@a29 _ _ _ _ _ _ _ (a07 K) (pv 2) (pv 1) (fun _ _=>rfl)) (@a04 _) (by rfl)) (by rfl))))) (@a04 _) (by rfl)) (by decide) (by decide) (by rfl) (by rfl)) (@a00 _ _ _ _ _ (@a29 _ _ _ _ _ _ _ (a07 K) (pv 1) (@a29 _ _ _ _ _ _ _ (a09 K) (pv 0) (@a01 _ _ _ _) (fun _ _=>rfl)) (fun _ _=>rfl)) (@a04 _) (by rfl)) (by rfl)) (by rfl)) (by rfl))))) (@a40 _))
    (@a03 _ _ _ _ _ (@a68 _ _ _ _ _ _ _ _ (@a36 _ _ _ _ _ _ _ _ a65 (@a29 _ _ _ _ _ _ _ (a09 K) (pv 0) (@a01 _ _ _ _) (fun _ _=>rfl)) (@a28 _ _ _ _) (nomark _)) (@a05 _ _ _ (@a41 _ _ _ _ (@a33 _ _ _ _ _ (@a00 _ _ _ _ _ (@a28 _ _ _ _) (@a00 _ _ _ _ _ (@a29 _ _ _ _ _ _ _ (a09 K) (pv 0) (@a01 _ _ _ _) (fun _ _=>rfl)) (@a00 _ _ _ _ _ (@a29 _ _ _ _ _ _ _ (a07 K) (pv 1) (@a29 _ _ _ _ _ _ _ (a09 K) (pv 0) (@a01 _ _ _ _) (fun _ _=>rfl)) (fun _ _=>rfl)) (@a00 _ _ _ _ _ (@a29 _ _ _ _ _ _ _ (a07 K) (pv 1) (@a29 _ _ _ _ _ _ _ (a09 K) (pv 0) (@a01 _ _ _ _) (fun _ _=>rfl)) (fun _ _=>rfl)) (@a04 _) (by rfl)) (by rfl)) (by rfl)) (by rfl))))) (@a40 _))
    (@a03 _ _ _ _ _ (@a68 _ _ _ _ _ _ _ _ (@a36 _ _ _ _ _ _ _ _ a65 (@a29 _ _ _ _ _ _ _ (a09 K) (pv 0) (@a01 _ _ _ _) (fun _ _=>rfl)) (@a28 _ _ _ _) (nomark _)) (@a05 _ _ _ (@a41 _ _ _ _ (@a33 _ _ _ _ _ (@a00 _ _ _ _ _ (@a28 _ _ _ _) (@a00 _ _ _ _ _ (@a29 _ _ _ _ _ _ _ (a07 K) (pv 1) (@a29 _ _ _ _ _ _ _ (a09 K) (pv 0) (@a01 _ _ _ _) (fun _ _=>rfl)) (fun _ _=>rfl)) (@a00 _ _ _ _ _ (@a29 _ _ _ _ _ _ _ (a07 K) (pv 1) (@a29 _ _ _ _ _ _ _ (a09 K) (pv 0) (@a01 _ _ _ _) (fun _ _=>rfl)) (fun _ _=>rfl)) (@a04 _) (by rfl)) (by rfl)) (by rfl))))) (@a40 _))
    (@a03 _ _ _ _ _ (@a68 _ _ _ _ _ _ _ _ (@PW.pt _ _ _ (@ak6 _ _ _ _ _ _ _ (@a36 _ _ _ _ _ _ _ _ a65 (@a29 _ _ _ _ _ _ _ (a09 K) (pv 0) (@a01 _ _ _ _) (fun _ _=>rfl)) (@a28 _ _ _ _) (nomark _)) (@ah7 _ _ _ _ (@a36 _ _ _ _ _ _ _ _ a65 (@a29 _ _ _ _ _ _ _ (a09 K) (pv 0) (@a01 _ _ _ _) (fun _ _=>rfl)) (@a28 _ _ _ _) (nomark _))))) (@a05 _ _ _ (@a41 _ _ _ _ (pv 0))) (@a40 _))
    (@a05 _ _ _ (@a41 _ _ _ _ (@a31 _ _ _ _ _ _ _ _ (ay1 K) (@am4 _ _ _ _ _ _ _ _ _ _ (au6 K) (pv 0) (@at9 _) (@au0 _ _ _ (@aq9 _ _ _ _ _ _ ah9 (@a01 _ _ _ _)))) (@a33 _ _ _ _ _ (@a00 _ _ _ _ _ (@a29 _ _ _ _ _ _ _ (a07 K) (pv 1) (@a29 _ _ _ _ _ _ _ (a09 K) (pv 0) (@aq9 _ _ _ _ _ _ ah9 (@a01 _ _ _ _)) (fun _ _=>rfl)) (fun _ _=>rfl)) (@a04 _) (by rfl)))))))))),?_⟩
   cases ho:nd.one? with
   | some p =>
     obtain ⟨k,r,n⟩:=p
     obtain ⟨_,e2,e3,n1,n2,n3,n4,n5,_⟩:=Nd.one_its ho
     obtain ⟨a,us,rfl,ha,hu,hul⟩:=Nd.one_at ho hv
     have hn:n<sf.length:=hk n (by rw [e3]; simp)
     walk_at "go"
     refine a32 (SqT.of ha) (a02 (j:=0) rfl) ?_
     walk_at "run"
     refine a34 n1 ?_
     walk_at "run"
     refine a32 (SqT.of ha) (a02 (j:=0) rfl) ?_
     walk_at "run"
     refine a34 n2 ?_
     walk_at "run"
     refine a32 (SqT.of ha) (a02 (j:=0) rfl) ?_
     walk_at "run"
     refine a34 n3 ?_
     walk_at "run"
     refine a32 (SqT.of ha) (a02 (j:=0) rfl) ?_
     walk_at "run"
     refine a34 n4 ?_
     walk_at "run"
     refine a32 (SqT.of ha) (a02 (j:=0) rfl) ?_
     walk_at "run"
     refine a34 n5 ?_
     walk_at "run"
     refine ao3 (xs:=V.str k::us) (y:=.int (n:Nat)) (SqT.of ha) ?_
     intro p1 H1 f1 s1 e1
     walk_at "run"
     refine a32 (SqT.of (s1 _ _ ha)) (ai4 _ _) ?_
     walk_at "run"
     refine a49 (SqL.of (s1 _ _ hl)) (a60 hn) ?_
     walk_at "run"
     intro p2 H2 f2 s2 e2'
     walk_at "run"
     refine bj9 (SqT.of (s2 _ _ e1)) (SqT.of e2') (by simp) (by simp) (le_line (by simp; omega)) ?_
     intro p3 H3 f3 s3 e3'
     have sA:=s1.trans (s2.trans s3)
     exact q _ _ sA (bc6 ho (hu.same sA) e3')
   | none =>
     cases nd with
     | say w m=>cases ho
     | hand w m k=>cases ho
     | put b e m=>cases ho
     | test c m n =>
       obtain ⟨a,u,rfl,ha,hc⟩:=Nd.test_at hv
       walk_at "go"
       refine a32 (SqT.of ha) (a02 (j:=0) rfl) ?_
       walk_at "run"
       refine a34 (by decide +kernel) ?_
       walk_at "run"
       refine a32 (SqT.of ha) (a02 (j:=0) rfl) ?_
       walk_at "run"
       refine a66 rfl ?_
       walk_at "run"
       refine a32 (SqT.of ha) (a02 (j:=1) rfl) ?_
       walk_at "run"
       refine a32 (SqT.of ha) (a02 (j:=2) rfl) ?_
       walk_at "run"
       refine a49 (SqL.of hl) (a60 (hk m (by simp [Nd.nexts]))) ?_
       walk_at "run"
       refine a32 (SqT.of ha) (a02 (j:=3) rfl) ?_
       walk_at "run"
       refine a49 (SqL.of hl) (a60 (hk n (by simp [Nd.nexts]))) ?_
       walk_at "run"
       intro p1 H1 f1 s1 e1
       exact q _ _ s1 (ac6 e1 a47 (hc.same s1) a58 a58)
     | call m n =>
       obtain ⟨a,rfl,ha⟩:=Nd.call_at hv
       walk_at "go"
       refine a32 (SqT.of ha) (a02 (j:=0) rfl) ?_
       walk_at "run"
       refine a34 (by decide +kernel) ?_
       walk_at "run"
       refine a32 (SqT.of ha) (a02 (j:=0) rfl) ?_
       walk_at "run"
       refine a34 (by decide +kernel) ?_
       walk_at "run"
       refine a32 (SqT.of ha) (a02 (j:=0) rfl) ?_
       walk_at "run"
       refine a66 rfl ?_
       walk_at "run"
       refine a32 (SqT.of ha) (a02 (j:=1) rfl) ?_
       walk_at "run"
       refine a49 (SqL.of hl) (a60 (hk m (by simp [Nd.nexts]))) ?_
       walk_at "run"
       refine a32 (SqT.of ha) (a02 (j:=2) rfl) ?_
       walk_at "run"
       refine a49 (SqL.of hl) (a60 (hk n (by simp [Nd.nexts]))) ?_
       walk_at "run"
       intro p1 H1 f1 s1 e1
       exact q _ _ s1 (af4 e1 a47 a58 a58)
     | back =>
       obtain ⟨a,rfl,ha⟩:=Nd.back_at hv
       walk_at "go"
       refine a32 (SqT.of ha) (a02 (j:=0) rfl) ?_
       walk_at "run"
       refine a34 (by decide +kernel) ?_
       walk_at "run"
       refine a32 (SqT.of ha) (a02 (j:=0) rfl) ?_
       walk_at "run"
       refine a34 (by decide +kernel) ?_
       walk_at "run"
       refine a32 (SqT.of ha) (a02 (j:=0) rfl) ?_
       walk_at "run"
       refine a34 (by decide +kernel) ?_
       walk_at "run"
       refine a32 (SqT.of ha) (a02 (j:=0) rfl) ?_
       walk_at "run"
       refine a66 rfl ?_
       walk_at "run"
       exact q _ _ (Same.refl _) hv
     | stop =>
       obtain ⟨a,rfl,ha⟩:=Nd.stop_at hv
       walk_at "go"
       refine a32 (SqT.of ha) (a02 (j:=0) rfl) ?_
       walk_at "run"
       refine a34 (by decide +kernel) ?_
       walk_at "run"
       refine a32 (SqT.of ha) (a02 (j:=0) rfl) ?_
       walk_at "run"
       refine a34 (by decide +kernel) ?_
       walk_at "run"
       refine a32 (SqT.of ha) (a02 (j:=0) rfl) ?_
       walk_at "run"
       refine a34 (by decide +kernel) ?_
       walk_at "run"
       refine a32 (SqT.of ha) (a02 (j:=0) rfl) ?_
       walk_at "run"
       refine a34 (by decide +kernel) ?_
       walk_at "run"
       refine a32 (SqT.of ha) (a02 (j:=0) rfl) ?_
       walk_at "run"
       refine a66 rfl ?_
       walk_at "run"
       exact q _ _ (Same.refl _) hv
     | wait wl bs n =>
       obtain ⟨a,b,us,rfl,ha,hb,hu⟩:=Nd.wait_at hv
       have hul:=hu.len
       simp only [Nd.nexts,List.length_append,List.length_map,List.length_cons,List.length_nil] at hz hul
       walk_at "go"
       refine a32 (SqT.of ha) (a02 (j:=0) rfl) ?_
       walk_at "run"
       refine a66 rfl ?_
       walk_at "run"
       refine a32 (SqT.of ha) (a02 (j:=1) rfl) ?_
       walk_at "run"
       refine a32 (SqT.of ha) (a02 (j:=2) rfl) ?_
       walk_at "run"
       refine ⟨⟨_,SqT.of hb⟩,ad4 (xs:=us) (le_line (by omega)) (fun i acc H'=>Same H H'∧i≤bs.length∧Tr.Ats H' ((bs.take i).map fun x=>brT (renB (fun i=>sf.getD i 0) x)) acc []) ⟨Same.refl _,Nat.zero_le _,ats_nil0.mpr rfl⟩ (fun i acc H' ⟨s',hi,e⟩=>⟨?_,SqT.of (s' _ _ hb)⟩) ?_ ?_⟩
       · rw [e.len]
         simp only [List.length_map,List.length_take]
         omega
       · rintro i x acc H' hx ⟨s',hi,e⟩
         obtain ⟨t,ht,hxt⟩:=a97 hu hx
         obtain ⟨p,u,bb,rfl,hp,hbb,hpu⟩:=bc7 ht hxt
         have hi':i<bs.length:=(List.getElem?_eq_some_iff.mp hbb).1
         have hlt:bb.2<sf.length:=hk _ (by simp only [Nd.nexts,List.mem_append,List.mem_map]; exact .inl ⟨bb,List.mem_of_getElem? hbb,rfl⟩)
         refine ⟨p,u,.int (bb.2:Nat),rfl,SqT.of (s' _ _ hp),?_⟩
         walk_at "run"
         refine a49 (SqL.of (s' _ _ hl)) (a60 hlt) ?_
         walk_at "run"
         intro p1 H1 f1 s1 e1
         refine ⟨s'.trans s1,hi',?_⟩
         rw [List.take_add_one,hbb,List.map_append]
         exact aa8 (e.same s1) (a99 e1 (hpu.same (s'.trans s1)) a58)
       · rintro acc H' ⟨s',_,e⟩ p1 H1 f1 s1 e1
         walk_at "run"
         refine ag6 (SqL.of e1) ?_
         intro p2 H2 f2 s2 e2
         walk_at "run"
         have sA:=s'.trans (s1.trans s2)
         refine a32 (SqT.of (sA _ _ ha)) (a02 (j:=3) rfl) ?_
         walk_at "run"
         refine a49 (SqL.of (sA _ _ hl)) (a60 (hk n (by simp [Nd.nexts]))) ?_
         walk_at "run"
         intro p3 H3 f3 s3 e3
         rw [hul,List.take_length] at e
         refine q _ _ (sA.trans s3) (ac6 e3 a47 a58 (at_tup0.mpr ⟨p2,_,rfl,s3 _ _ e2,?_⟩) a58)
         rw [List.map_map]
         exact e.same (s1.trans (s2.trans s3))
def labZ (d:Nd):Tr:=(d.ren fun _=>0).tr
theorem bk6 (f:Nat→Nat):∀ bs:List (List Pt×Nat),Tr.hs ((bs.map (renB f)).map brT)=Tr.hs (bs.map brT)
 | []=>rfl
 | b::bs=>by
   have:=bk6 f bs
   simp only [List.map_cons,Tr.hs,brT,renB,Tr.h] at this ⊢
   rw [this]
theorem br9 (f:Nat→Nat) (d:Nd):(d.ren f).tr.h=d.tr.h:=by
 cases d with
 | wait l bs n =>
   have:=bk6 f bs
   simp only [Nd.tr,Nd.ren,Nd.its,Tr.h,Tr.hs]
   rw [this]
 | _=>simp [Nd.tr,Nd.ren,Nd.its,Tr.h,Tr.hs]
def lookT:Nd→Tw
 | .say w _=>.tup [.sc (.str "say"),.sc (.str w)]
 | .hand l w _=>.tup [.sc (.str "hand"),.sc (.int l),.sc (.str w)]
 | .put b e _=>.tup [.sc (.str "put"),.sc (.str b),toW e.tr]
 | .test c _ _=>.tup [.sc (.str "test"),toW c.tr]
 | .wait l bs _=>.tup [.sc (.str "wait"),.sc (.int l),.lst (bs.map fun b=>toW (.tup (b.1.map Pt.tr)))]
 | .call _ _=>.tup [.sc (.str "call")]
 | .back=>.tup [.sc (.str "back")]
 | .stop=>.tup [.sc (.str "stop")]
mutual
theorem aq2:∀ {a b:Tr},toW a=toW b→a=b
 | .non,.non,_=>rfl
 | .int _,.int _,h=>by simp [toW] at h; rw [h]
 | .str _,.str _,h=>by simp [toW] at h; rw [h]
 | .tup xs,.tup ys,h=>by simp only [toW,Tw.tup.injEq] at h; rw [aq3 h]
 | .lst xs,.lst ys,h=>by simp only [toW,Tw.lst.injEq] at h; rw [aq3 h]
 | .non,.int _,h=>by simp [toW] at h
 | .non,.str _,h=>by simp [toW] at h
 | .non,.tup _,h=>by simp [toW] at h
 | .non,.lst _,h=>by simp [toW] at h
 | .int _,.non,h=>by simp [toW] at h
 | .int _,.str _,h=>by simp [toW] at h
 | .int _,.tup _,h=>by simp [toW] at h
 | .int _,.lst _,h=>by simp [toW] at h
 | .str _,.non,h=>by simp [toW] at h
 | .str _,.int _,h=>by simp [toW] at h
 | .str _,.tup _,h=>by simp [toW] at h
 | .str _,.lst _,h=>by simp [toW] at h
 | .tup _,.non,h=>by simp [toW] at h
 | .tup _,.int _,h=>by simp [toW] at h
 | .tup _,.str _,h=>by simp [toW] at h
 | .tup _,.lst _,h=>by simp [toW] at h
 | .lst _,.non,h=>by simp [toW] at h
 | .lst _,.int _,h=>by simp [toW] at h
 | .lst _,.str _,h=>by simp [toW] at h
 | .lst _,.tup _,h=>by simp [toW] at h
theorem aq3:∀ {a b:List Tr},toWs a=toWs b→a=b
 | [],[],_=>rfl
 | [],_::_,h=>by simp [toWs] at h
 | _::_,[],h=>by simp [toWs] at h
 | x::xs,y::ys,h=>by
   simp only [toWs,List.cons.injEq] at h
   rw [aq2 h.1,aq3 h.2]
end
theorem az8:∀ {bs cs:List (List Pt×Nat)},(bs.map (renB fun _=>0)).map brT=(cs.map (renB fun _=>0)).map brT↔(bs.map fun b=>toW (.tup (b.1.map Pt.tr)))=cs.map fun b=>toW (.tup (b.1.map Pt.tr))
 | [],[]=>by simp
 | [],_::_=>by simp
 | _::_,[]=>by simp
 | b::bs,c::cs=>by
   have ih:=az8 (bs:=bs) (cs:=cs)
   simp only [List.map_cons,List.cons.injEq,ih]
   refine and_congr_left fun _=>?_
   simp only [brT,renB,Tr.tup.injEq,List.cons.injEq,and_true]
   exact ⟨fun h=>by rw [h],fun h=>by
    have:=aq2 h
    simpa using this⟩
theorem look_iff {d e:Nd}:lookT d=lookT e↔labZ d=labZ e:=by
 cases d <;> cases e <;> simp only [lookT,labZ,Nd.ren,Nd.tr,Nd.its,Tw.tup.injEq,Tw.sc.injEq,Tr.tup.injEq,List.cons.injEq,V.str.injEq,V.int.injEq,Tr.str.injEq,Tr.int.injEq,Tw.lst.injEq,and_true,true_and,az8] <;> try (first | (simp; done) | (simp only [reduceCtorEq,false_and,and_false]; done) | (constructor <;> (rintro ⟨h,_⟩; exact absurd h (by decide +kernel))) | (constructor <;> (intro h; exact absurd h (by decide +kernel))))
 · exact and_congr_right fun _=>⟨aq2,fun h=>by rw [h]⟩
 · exact ⟨aq2,fun h=>by rw [h]⟩
theorem c06 {d e:Nd}(h:labZ d=labZ e):d.nexts.length=e.nexts.length:=by
 have hl:=look_iff.mpr h
 cases d <;> cases e <;> simp only [lookT,Tw.tup.injEq,Tw.sc.injEq,List.cons.injEq,V.str.injEq,Tw.lst.injEq,and_true] at hl <;> first
  | rfl
  | exact absurd hl.1 (by decide +kernel)
  | exact absurd hl (by decide +kernel)
  | skip
 have:=congrArg List.length hl.2.2
 simpa [Nd.nexts] using this
def wwN (ns:List Nd) (a j:Nat):Nat:=((ns.getD a .back).nexts[j]?).getD a
theorem bi4 {n i:Nat}{d:Nd}(h:d.okAt n i):d.nexts.length≤4:=by
 cases d with
 | wait l bs k=>have:=h.2.2; simp [Nd.nexts]; omega
 | _=>simp [Nd.nexts]
theorem aa3 {ns:List Nd}{a:Nat}(ha:a<ns.length):ns[a]?=some (ns.getD a .back):=by
 rw [List.getD_eq_getElem?_getD,List.getElem?_eq_getElem ha]
 rfl
abbrev LabZ:Type:={ t:Tr // t.h≤8 }
noncomputable instance labDec:DecidableEq LabZ:=fun _ _=>Classical.propDecidable _
def labS (d:Nd):LabZ:=if h:(labZ d).h≤8 then ⟨labZ d,h⟩ else ⟨.non,by simp [Tr.h]⟩
theorem ac8 {d:Nd}(h:d.tr.h≤8):(labS d).1=labZ d:=by
 have:(labZ d).h≤8:=by unfold labZ; rw [br9]; exact h
 unfold labS
 rw [dif_pos this]
theorem nwP {ns:List Nd}{f:Nat}(g:Gok ns f) (hh:∀ d∈ns,d.tr.h≤8):NwP (fun a=>(ns.map labS)[a]?) (fun a=>(ns.getD a .back).nexts) (wwN ns) ns.length 4 (fun a=>(ns.getD a .back).nexts.length):=by
 refine ⟨fun a ha=>?_,fun a ha=>bi4 (g.at_ a _ (aa3 ha)),fun a j ha hj=>?_,fun a b ha hb e=>?_⟩
 · refine List.ext_getElem? fun j=>?_
   rw [List.getElem?_map]
   by_cases hj:j<(ns.getD a .back).nexts.length
   · rw [List.getElem?_range hj,List.getElem?_eq_getElem hj]
     show _=some (wwN ns a j)
     unfold wwN
     rw [List.getElem?_eq_getElem hj]
     rfl
   · rw [List.getElem?_eq_none_iff.mpr (Nat.le_of_not_lt hj),List.getElem?_eq_none_iff.mpr (by rw [List.length_range]; exact Nat.le_of_not_lt hj)]
     rfl
 · unfold wwN
   rw [List.getElem?_eq_none_iff.mpr hj]
   rfl
 · simp only [List.getElem?_map,aa3 ha,aa3 hb,Option.map_some,Option.some.injEq] at e
   have e2:=congrArg Subtype.val e
   rw [ac8 (hh _ (List.mem_of_getElem? (aa3 ha))),ac8 (hh _ (List.mem_of_getElem? (aa3 hb)))] at e2
   exact c06 e2
theorem b53 {ns:List Nd}{f:Nat}(g:Gok ns f) (a j:Nat) (ha:a<ns.length):wwN ns a j<ns.length:=by
 unfold wwN
 cases e:(ns.getD a .back).nexts[j]? with
 | none=>exact ha
 | some k=>exact (g.at_ a _ (aa3 ha)).lt k (List.mem_of_getElem? e)
noncomputable def shF (ns:List Nd):List Nat:=likeN (fun a=>(ns.map labS)[a]?) (wwN ns) 4 (List.range ns.length)
mutual
theorem c07 {H:Hp}:∀ {t:Tr}{v:V},t.At H v []→t.AtB H v
 | .non,v,h=>by simp only [Tr.At] at h; exact h.1
 | .int z,v,h=>by simp only [Tr.At] at h; exact .inl h.1
 | .str x,v,h=>by simp only [Tr.At] at h; exact h.1
 | .tup ts,v,h=>by
   obtain ⟨a,vs,rfl,e,r⟩:=at_tup0.mp h
   exact ⟨a,vs,rfl,e,aw8 r⟩
 | .lst ts,v,h=>by
   simp only [Tr.At] at h
   obtain ⟨a,vs,gs,_,_,_,e⟩:=h
   simp at e
theorem aw8 {H:Hp}:∀ {ts:List Tr}{vs:List V},Tr.Ats H ts vs []→Tr.AtsB H ts vs
 | [],vs,h=>ats_nil0.mp h
 | t::ts,vs,h=>by
   obtain ⟨v,r,rfl,a,b⟩:=ats_cons0.mp h
   exact ⟨v,r,rfl,c07 a,aw8 b⟩
end
def bi5 (K:PySem.W.Frag):Sp:=fun vs H Q _=>∃ (v:V) (b n:Addr) (bs:List (Str×Int)) (ns:List Nd) (f:Nat),vs=[v]∧GAt H v bs ns f b n∧Gok ns f∧(∀ d∈ns,d.tr.h≤8)∧bs.length≤100∧ns.length≤60 ∧
 ∀ v' H' b' n' l',Same H H'→H b'=none→H n'=none→H l'=none→OutAt H' v' bs (leftN ns ((mets (shF ns)).map fun x=>(shF ns).idxOf x) (shF ns)) ((shF ns).getD f 0) (shF ns) b' n' l'→Q v' H'
theorem bs0 (ns:List Nd):(shF ns).length=ns.length:=by simp [shF,likeN,canon]
theorem bi6 (T:Txt K mg t):FnOk P w K mg base CX0 6 t.a_share t.fd_share ["graph"] (bi5 K):=by
 have G_firsts:=at0 (P:=P) (w:=w) (base:=base) T
 have G_next_ones:=at1 (P:=P) (w:=w) (base:=base) T
 have G_put_together:=ak3 (P:=P) (w:=w) (base:=base) T
 have G_renumbered:=ap8 (P:=P) (w:=w) (base:=base) T
 refine T.F_share.ok sc_share (fun vs H Q E h=>?_) (fun cdv A outer s H vs Q E hr h=>?_)
 · obtain ⟨v,b,n,bs,ns,f,rfl,_⟩:=h
   rfl
 · obtain ⟨v,b,n,bs,ns,f,rfl,hg,gk,hh,hbl,hn,q⟩:=h
   refine ⟨_,(@a03 _ _ _ _ _ (@a45 _ _ 1 _ _ _ _ sc_share.nd rfl (by walk_at "o") (@a29 _ _ _ _ _ _ _ (a09 K) (pv 0) (@a01 _ _ _ _) (fun _ _=>rfl)) (by rfl) (by walk_at "o"))
    (@a03 _ _ _ _ _ (@a45 _ _ 2 _ _ _ _ sc_share.nd rfl (by walk_at "o") (ae4 (Nt:=["node"]) (Nf:=[]) (caps:=[]) rfl (a83 (sc:=defScope a98) rfl rfl (by decide +kernel) (by decide +kernel) (by decide +kernel) rfl (by decide +kernel)) (a59 K (pv 1)) (fun _ _ _ _ _=>(a38 (i:=0) (show (["node"]:List Str).Nodup by decide +kernel) rfl (by walk_at "o"))) (fun _ _ _ _ _=>(@a82 _)) (fun _ _ _ _ _=>(@a01 _ _ _ _))) (by rfl) (by walk_at "o"))
    (@a03 _ _ _ _ _ (@a45 _ _ 3 _ _ _ _ sc_share.nd rfl (by walk_at "o") (@a50 _ _ _ _ _ _ _ _ _ _ _ _ _ _ _ _ G_put_together (hr.mono (by omega)) rfl T.m_put_together T.F_put_together.kp T.b_put_together .nil a85 (@a00 _ _ _ _ _ (ae4 (Nt:=["node"]) (Nf:=["nowhere"]) (caps:=[2]) rfl (a83 (sc:=defScope a98) rfl rfl (by decide +kernel) (by decide +kernel) (by decide +kernel) rfl (by decide +kernel)) (a59 K (pv 1)) (fun _ _ _ _ _=>(a38 (i:=0) (show (["node","nowhere"]:List Str).Nodup by decide +kernel) rfl (by walk_at "o"))) (fun _ _ _ _ _=>(@a82 _)) (fun _ _ _ _ _=>(@a50 _ _ _ _ _ _ _ _ _ _ _ _ _ _ _ _ G_renumbered (hr.mono (by omega)) rfl T.m_renumbered T.F_renumbered.kp T.b_renumbered .nil a85 (@a00 _ _ _ _ _ (pv 0) (@a00 _ _ _ _ _ (pv 1) (@a04 _) (by rfl)) (by rfl)) (by decide) (by rfl) (by rfl)))) (@a00 _ _ _ _ _ (ae4 (Nt:=["node"]) (Nf:=[]) (caps:=[]) rfl (a83 (sc:=defScope a98) rfl rfl (by decide +kernel) (by decide +kernel) (by decide +kernel) rfl (by decide +kernel)) (a59 K (pv 1)) (fun _ _ _ _ _=>(a38 (i:=0) (show (["node"]:List Str).Nodup by decide +kernel) rfl (by walk_at "o"))) (fun _ _ _ _ _=>(@a82 _)) (fun _ _ _ _ _=>(@a50 _ _ _ _ _ _ _ _ _ _ _ _ _ _ _ _ G_next_ones (hr.mono (by omega)) rfl T.m_next_ones T.F_next_ones.kp T.b_next_ones .nil a85 (@a00 _ _ _ _ _ (pv 0) (@a04 _) (by rfl)) (by decide) (by rfl) (by rfl)))) (@a04 _) (by rfl)) (by rfl)) (by decide) (by rfl) (by rfl)) (by rfl) (by walk_at "o"))
    (@a03 _ _ _ _ _ (b79 (i:=4) (Nt:=["number"]) (Nf:=["nodes","stands_for"]) (caps:=[1,3]) rfl (a83 (sc:=defScope a98) rfl rfl (by decide +kernel) (by decide +kernel) (by decide +kernel) rfl (by decide +kernel)) (a59 K (@a50 _ _ _ _ _ _ _ _ _ _ _ _ _ _ _ _ G_firsts (hr.mono (by omega)) rfl T.m_firsts T.F_firsts.kp T.b_firsts .nil a85 (@a00 _ _ _ _ _ (pv 3) (@a04 _) (by rfl)) (by decide) (by rfl) (by rfl))) (fun _ _ _ _ _=>(a38 (i:=0) (show (["number","nodes","stands_for"]:List Str).Nodup by decide +kernel) rfl (by walk_at "o"))) (fun _ _ _ _ _=>(@a82 _)) (fun _ _ _ _ _=>(@a50 _ _ _ _ _ _ _ _ _ _ _ _ _ _ _ _ G_renumbered (hr.mono (by omega)) rfl T.m_renumbered T.F_renumbered.kp T.b_renumbered .nil a85 (@a00 _ _ _ _ _ (@a29 _ _ _ _ _ _ _ (a07 K) (pv 1) (pv 0) (fun _ _=>rfl)) (@a00 _ _ _ _ _ (pv 2) (@a04 _) (by rfl)) (by rfl)) (by decide) (by rfl) (by rfl))) sc_share.nd rfl (by walk_at "o") rfl)
    (@a05 _ _ _ (@a41 _ _ _ _ (@a33 _ _ _ _ _ (@a00 _ _ _ _ _ (@a33 _ _ _ _ _ (@a00 _ _ _ _ _ (@a78 _ _ _ _ _ _ _ _ _ (ao0 K) (by rfl) T.z_list af3 (@a00 _ _ _ _ _ (@a29 _ _ _ _ _ _ _ (a09 K) (pv 0) (@a01 _ _ _ _) (fun _ _=>rfl)) (@a04 _) (by rfl)) (by decide) (by decide) (by rfl) (by rfl)) (@a00 _ _ _ _ _ (pv 4) (@a00 _ _ _ _ _ (@a29 _ _ _ _ _ _ _ (a07 K) (pv 3) (@a29 _ _ _ _ _ _ _ (a09 K) (pv 0) (@a01 _ _ _ _) (fun _ _=>rfl)) (fun _ _=>rfl)) (@a04 _) (by rfl)) (by rfl)) (by rfl))) (@a00 _ _ _ _ _ (pv 3) (@a04 _) (by rfl)) (by rfl))))))))),?_⟩
   have sl:(1000000:Nat)≤sizeLine:=le_line (Nat.le_refl _)
   obtain ⟨ga,ub,un,rfl,g1,g2,g3,g4,g5⟩:=hg.ex
   have hul:un.length=ns.length:=by rw [g5.len,List.length_map]
   have node:∀ {H':Hp}{i:Nat}{x:V},Same H H'→un[i]?=some x→i<ns.length∧(ns.getD i .back).tr.At H' x []:=fun {H' i x} s hx=>by
    have hi:i<ns.length:=by rw [← hul]; exact (List.getElem?_eq_some_iff.mp hx).1
    obtain ⟨t,ht,hxt⟩:=a97 (g5.same s) hx
    rw [List.getElem?_map,aa3 hi] at ht
    rw [← Option.some.inj ht] at hxt
    exact ⟨hi,hxt⟩
   have nlt:∀ {i:Nat},i<ns.length→(∀ k∈(ns.getD i .back).nexts,k<ns.length)∧(ns.getD i .back).nexts.length≤4:=fun hi=>⟨(gk.at_ _ _ (aa3 hi)).lt,bi4 (gk.at_ _ _ (aa3 hi))⟩
   walk_at "go"
   refine a32 (SqT.of g1) (a02 (j:=1) rfl) ?_
   walk_at "run"
   refine ⟨⟨_,SqL.of g4⟩,aa2 (xs:=un) (by omega) (fun i acc H'=>H=H'∧i≤un.length∧acc=natsV (List.replicate i 0)) ⟨rfl,Nat.zero_le _,rfl⟩ (fun i acc H' ⟨e0,hi,e⟩=>⟨by rw [e,a08]; simp,e0 ▸ SqL.of g4⟩) ?_ ?_⟩
   · rintro i x acc H' hx ⟨rfl,hi,rfl⟩
     walk_at "run"
     refine ⟨rfl,(List.getElem?_eq_some_iff.mp hx).1,?_⟩
     rw [List.replicate_succ']
     exact a53 _ 0
   rintro acc H' ⟨rfl,_,rfl⟩ p1 H1 f1 s1 e1
   rw [hul] at e1
   walk_at "run"
   refine ⟨⟨_,SqL.of (s1 _ _ g4)⟩,aa2 (xs:=un) (by omega) (fun i acc H'=>Same H1 H'∧acc.length=i∧i≤un.length∧Tr.Ats H' ((ns.take i).map labZ) acc []) ⟨Same.refl _,rfl,Nat.zero_le _,ats_nil0.mpr rfl⟩ (fun i acc H' ⟨s',e,_⟩=>⟨by omega,SqL.of (s' _ _ (s1 _ _ g4))⟩) ?_ ?_⟩
   · rintro i x acc H2 hx ⟨s2,ea,hi,hat⟩
     obtain ⟨hin,hxt⟩:=node (s1.trans s2) hx
     obtain ⟨n1,n2⟩:=nlt hin
     walk_at "run"
     refine ⟨x,p1,ns.getD i .back,List.replicate ns.length 0,rfl,hxt,s2 _ _ e1,fun k hk=>by rw [List.length_replicate]; exact n1 k hk,by omega,fun v' H3 s3 hv=>?_⟩
     refine ⟨s2.trans s3,by simp [ea],by omega,?_⟩
     rw [List.take_add_one,aa3 hin,Option.toList_some,List.map_append]
     refine aa8 (hat.same s3) ?_
     have:(fun i=>(List.replicate ns.length 0).getD i 0)=fun _=>0:=funext fun i=>by
      rw [List.getD_eq_getElem?_getD,List.getElem?_replicate]
      split <;> rfl
     rw [this] at hv
     exact hv
   rintro us H2 ⟨s2,_,_,hat⟩ p3 H3 f3 s3 e3
   rw [hul,List.take_length] at hat
   have s13:=s2.trans s3
   have s03:=s1.trans s13
   have hat3:=hat.same s3
   walk_at "run"
   refine ⟨⟨_,SqL.of (s03 _ _ g4)⟩,aa2 (xs:=un) (by omega) (fun i acc H'=>Same H3 H'∧acc.length=i∧i≤un.length∧∀ j,j<i→∃ p,acc[j]?=some (.ref p)∧H' p=some (.lst (natsV (ns.getD j .back).nexts))) ⟨Same.refl _,rfl,Nat.zero_le _,fun j h=>absurd h (by omega)⟩ (fun i acc H' ⟨s',e,_⟩=>⟨by omega,SqL.of (s' _ _ (s03 _ _ g4))⟩) ?_ ?_⟩
   · rintro i x acc H4 hx ⟨s4,ea,hi,hac⟩
     obtain ⟨hin,hxt⟩:=node (s03.trans s4) hx
     obtain ⟨n1,n2⟩:=nlt hin
     walk_at "run"
     refine ⟨x,ns.getD i .back,rfl,hxt,by omega,fun l H5 f5 s5 e5=>?_⟩
     refine ⟨s4.trans s5,by simp [ea],by omega,fun j hj=>?_⟩
     by_cases hji:j=i
     · subst hji
       exact ⟨l,by rw [← ea,List.getElem?_append_right (Nat.le_refl _),Nat.sub_self]; rfl,e5⟩
     · obtain ⟨p,h1,h2⟩:=hac j (by omega)
       exact ⟨p,by rw [List.getElem?_append_left (by omega)]; exact h1,s5 _ _ h2⟩
   rintro ws H4 ⟨s4,wl,_,hws⟩ p5 H5 f5 s5 e5
   rw [hul] at hws wl
   have s35:=s4.trans s5
   have s05:=s03.trans s35
   walk_at "run"
   have hmp:(ns.map labS).map Subtype.val=ns.map labZ:=by
    rw [List.map_map]
    exact List.map_congr_left fun d hd=>ac8 (hh d hd)
   refine ⟨p3,p5,us,ws,LabZ,labDec,Subtype.val,ns.map labS,wwN ns,4,_,_,ns.length,rfl,s35 _ _ e3,by rw [hmp]; exact aw8 (hat3.same s35),fun a b e=>Subtype.ext e,fun x=>x.2,by rw [List.length_map],e5,⟨wl,fun i hi=>?_⟩,hn,by omega,nwP gk hh,fun a j ha _=>b53 gk a j ha,fun l H6 f6 s6 e6=>?_⟩
   · obtain ⟨p,h1,h2⟩:=hws i hi
     exact ⟨p,h1,s5 _ _ h2⟩
   change H6 l=some (.lst (natsV (shF ns))) at e6
   have sfl:=bs0 ns
   walk_at "run"
   refine ⟨l,shF ns,rfl,SqL.of e6,by omega,fun l2 H7 f7 s7 e7=>?_⟩
   have s57:=s6.trans s7
   have s07:=s05.trans s57
   obtain ⟨fl,hfl⟩:∃ fl,fl=(mets (shF ns)).map fun x=>(shF ns).idxOf x:=⟨_,rfl⟩
   have flt:∀ k∈fl,k<ns.length:=fun k hk=>by
    rw [hfl] at hk
    obtain ⟨x,hx,rfl⟩:=List.mem_map.mp hk
    rw [← sfl]
    exact List.idxOf_lt_length_of_mem ((a56 _ _).mp hx)
   have fll:fl.length≤ns.length:=by
    rw [hfl,List.length_map,←sfl]
    exact ac7 _
   rw [← hfl] at e7
   refine ⟨l2,rfl,⟨_,SqL.of e7⟩,aa2 (xs:=natsV fl) (by rw [a08]; omega) (fun i acc H'=>Same H7 H'∧acc.length=i∧i≤fl.length∧Tr.Ats H' ((leftN ns (fl.take i) (shF ns)).map Nd.tr) acc []) ⟨Same.refl _,rfl,Nat.zero_le _,ats_nil0.mpr rfl⟩ (fun i acc H' ⟨s',e,_⟩=>⟨by omega,SqL.of (s' _ _ e7)⟩) ?_ ?_⟩
   · rintro i x acc H8 hx ⟨s8,ea,hi,hat⟩
     obtain ⟨k,hk,rfl⟩:∃ k:Nat,fl[i]?=some k∧x=.int (k:Nat):=by
      simp only [natsV,List.getElem?_map] at hx
      obtain ⟨k,h1,h2⟩:=Option.map_eq_some_iff.mp hx
      exact ⟨k,h1,h2.symm⟩
     have hkl:=flt k (List.mem_of_getElem? hk)
     obtain ⟨x,hx⟩:∃ x,un[k]?=some x:=⟨_,List.getElem?_eq_getElem (by omega)⟩
     have s08:=s07.trans s8
     obtain ⟨hin,hxt⟩:=node s08 hx
     obtain ⟨n1,n2⟩:=nlt hin
     walk_at "run"
     refine a49 (SqL.of (s08 _ _ g4)) (a02 hx) ?_
     walk_at "run"
     refine ⟨x,l,ns.getD k .back,shF ns,rfl,hxt,(s7.trans s8) _ _ e6,fun j hj=>by rw [sfl]; exact n1 j hj,by omega,fun v' H9 s9 hv=>?_⟩
     refine ⟨s8.trans s9,by simp [ea],(List.getElem?_eq_some_iff.mp hk).1,?_⟩
     rw [List.take_add_one,hk,Option.toList_some]
     unfold leftN at hat ⊢
     rw [List.map_append,List.map_append]
     exact aa8 (hat.same s9) hv
   rintro acc H8 ⟨s8,_,_,hac⟩ p9 H9 f9 s9 e9
   rw [a08,List.take_length] at hac
   have s79:=s8.trans s9
   have s09:=s07.trans s79
   walk_at "run"
   refine a32 (SqT.of (s09 _ _ g1)) (a02 (j:=0) rfl) ?_
   walk_at "run"
   refine au3 (SqL.of (s09 _ _ g2)) ?_
   intro p10 H10 f10 s10 e10
   walk_at "run"
   refine a32 (SqT.of ((s09.trans s10) _ _ g1)) (a02 (j:=2) rfl) ?_
   walk_at "run"
   have ff:=gk.first
   have ef:(natsV (shF ns))[f]?=some (.int ((shF ns).getD f 0:Nat)):=by
    simp only [natsV,List.getElem?_map,List.getD_eq_getElem?_getD,List.getElem?_eq_getElem (show f<(shF ns).length by omega)]
    rfl
   have s610:=s7.trans (s79.trans s10)
   refine a49 (SqL.of (s610 _ _ e6)) (a02 ef) ?_
   walk_at "run"
   intro pg H11 f11 s11 e11
   walk_at "run"
   intro po H12 f12 s12 e12
   have s012:=s09.trans (s10.trans (s11.trans s12))
   have s1012:=s11.trans s12
   rw [hfl] at hac
   exact q (.ref po) H12 p10 p9 l s012 (s09.free f10) ((s07.trans s8).free f9) (s05.free f6) ⟨po,pg,rfl,e12,⟨pg,ub,acc,rfl,s12 _ _ e11,s1012 _ _ e10,g3.same s012,(s10.trans s1012) _ _ e9,hac.same (s9.trans (s10.trans s1012))⟩,(s610.trans s1012) _ _ e6⟩
def bs1 (K:PySem.W.Frag):Sp:=fun vs H Q _=>∃ (v:V) (nd:Nd),vs=[v]∧nd.tr.At H v []∧nd.nexts.length≤100∧∀ v' fs H',Same H H'→(lookT nd).At H' v' fs→Q v' H'
theorem tw1 {H:Hp}{p:Addr}{s:Str}(e:H p=some (.tup [.str s])):(Tw.tup [.sc (.str s)]).At H (.ref p) []:=by
 simp only [Tw.At,Tw.Ats]
 exact ⟨p,_,rfl,e,_,_,[],[],rfl,rfl,⟨rfl,trivial,rfl⟩,rfl,rfl⟩
theorem bi7 {H:Hp}{nd:Nd}{k:Str}{r:List Tr}{n:Nat}{us:List V}{p:Addr}(ho:nd.one?=some (k,r,n)) (hu:Tr.Ats H r us []) (e:H p=some (.tup (V.str k::us))):(lookT nd).At H (.ref p) []:=by
 have key:lookT nd=.tup (toW (.str k)::toWs r):=by
  cases nd <;> simp only [Nd.one?,Option.some.injEq,Prod.mk.injEq,reduceCtorEq] at ho
  all_goals
   obtain ⟨rfl,rfl,rfl⟩:=ho
   simp [lookT,toW,toWs]
 rw [key]
 simp only [Tw.At,Tw.Ats]
 exact ⟨p,_,rfl,e,_,_,[],[],rfl,rfl,by simp [toW,Tw.At,Scal],ao9 hu⟩
theorem aw9 (T:Txt K mg t):FnOk P w K mg base CX0 1 t.a__law_look t.fd__law_look ["node"] (bs1 K):=by
 refine T.F__law_look.ok aw1 (fun vs H Q E h=>?_) (fun cdv A outer s H vs Q E hr h=>?_)
 · obtain ⟨v,nd,rfl,_⟩:=h
   rfl
 · obtain ⟨v,nd,rfl,hv,hz,q⟩:=h
   refine ⟨_,(@a03 _ _ _ _ _ (@a68 _ _ _ _ _ _ _ _ (@a36 _ _ _ _ _ _ _ _ a65 (@a29 _ _ _ _ _ _ _ (a09 K) (pv 0) (@a01 _ _ _ _) (fun _ _=>rfl)) (@a28 _ _ _ _) (nomark _)) (@a05 _ _ _ (@a41 _ _ _ _ (@a33 _ _ _ _ _ (@a00 _ _ _ _ _ (@a28 _ _ _ _) (@a00 _ _ _ _ _ (@a29 _ _ _ _ _ _ _ (a09 K) (pv 0) (@a01 _ _ _ _) (fun _ _=>rfl)) (@a00 _ _ _ _ _ (ae4 (Nt:=["pattern","to"]) (Nf:=[]) (caps:=[]) rfl (a83 (sc:=defScope a87) rfl rfl (by decide +kernel) (by decide +kernel) (by decide +kernel) rfl (by decide +kernel)) (aj2 K (@a29 _ _ _ _ _ _ _ (a09 K) (pv 0) (@a01 _ _ _ _) (fun _ _=>rfl))) (fun _ _ _ _ _=>(ab2 K (n:=2) rfl (a54 (a38 (i:=0) (show (["pattern","to"]:List Str).Nodup by decide +kernel) rfl (by walk_at "o")) (a54 (a38 (i:=1) (show (["pattern","to"]:List Str).Nodup by decide +kernel) rfl (by walk_at "o")) (@ab0 _))))) (fun _ _ _ _ _=>(@a82 _)) (fun _ _ _ _ _=>(pv 0))) (@a04 _) (by rfl)) (by rfl)) (by rfl))))) (@a40 _))
    (@a03 _ _ _ _ _ (@a68 _ _ _ _ _ _ _ _ (@a36 _ _ _ _ _ _ _ _ a65 (@a29 _ _ _ _ _ _ _ (a09 K) (pv 0) (@a01 _ _ _ _) (fun _ _=>rfl)) (@a28 _ _ _ _) (nomark _)) (@a05 _ _ _ (@a41 _ _ _ _ (@a33 _ _ _ _ _ (@a00 _ _ _ _ _ (@a28 _ _ _ _) (@a00 _ _ _ _ _ (@a29 _ _ _ _ _ _ _ (a09 K) (pv 0) (@a01 _ _ _ _) (fun _ _=>rfl)) (@a04 _) (by rfl)) (by rfl))))) (@a40 _))
    (@a03 _ _ _ _ _ (@a68 _ _ _ _ _ _ _ _ (@PW.pt _ _ _ (@ak6 _ _ _ _ _ _ _ (@a36 _ _ _ _ _ _ _ _ a65 (@a29 _ _ _ _ _ _ _ (a09 K) (pv 0) (@a01 _ _ _ _) (fun _ _=>rfl)) (@a28 _ _ _ _) (nomark _)) (@ak6 _ _ _ _ _ _ _ (@a36 _ _ _ _ _ _ _ _ a65 (@a29 _ _ _ _ _ _ _ (a09 K) (pv 0) (@a01 _ _ _ _) (fun _ _=>rfl)) (@a28 _ _ _ _) (nomark _)) (@ah7 _ _ _ _ (@a36 _ _ _ _ _ _ _ _ a65 (@a29 _ _ _ _ _ _ _ (a09 K) (pv 0) (@a01 _ _ _ _) (fun _ _=>rfl)) (@a28 _ _ _ _) (nomark _)))))) (@a05 _ _ _ (@a41 _ _ _ _ (@a33 _ _ _ _ _ (@a00 _ _ _ _ _ (@a29 _ _ _ _ _ _ _ (a09 K) (pv 0) (@a01 _ _ _ _) (fun _ _=>rfl)) (@a04 _) (by rfl))))) (@a40 _))
    (@a05 _ _ _ (@a41 _ _ _ _ (@am4 _ _ _ _ _ _ _ _ _ _ (au6 K) (pv 0) (@at9 _) (@au0 _ _ _ (@aq9 _ _ _ _ _ _ ah9 (@a01 _ _ _ _))))))))),?_⟩
   cases ho:nd.one? with
   | some p =>
     obtain ⟨k,r,n⟩:=p
     obtain ⟨_,e2,e3,n1,n2,n3,n4,n5,_⟩:=Nd.one_its ho
     obtain ⟨a,us,rfl,ha,hu,hul⟩:=Nd.one_at ho hv
     walk_at "go"
     refine a32 (SqT.of ha) (a02 (j:=0) rfl) ?_
     walk_at "run"
     refine a34 n1 ?_
     walk_at "run"
     refine a32 (SqT.of ha) (a02 (j:=0) rfl) ?_
     walk_at "run"
     refine a34 n2 ?_
     walk_at "run"
     refine a32 (SqT.of ha) (a02 (j:=0) rfl) ?_
     walk_at "run"
     refine a34 n3 ?_
     walk_at "run"
     refine a32 (SqT.of ha) (a02 (j:=0) rfl) ?_
     walk_at "run"
     refine a34 n4 ?_
     walk_at "run"
     refine a32 (SqT.of ha) (a02 (j:=0) rfl) ?_
     walk_at "run"
     refine a34 n5 ?_
     walk_at "run"
     refine ao3 (xs:=V.str k::us) (y:=.int (n:Nat)) (SqT.of ha) ?_
     intro p1 H1 f1 s1 e1
     exact q _ [] H1 s1 (bi7 ho (hu.same s1) e1)
   | none =>
     cases nd with
     | say w m=>cases ho
     | hand w m k=>cases ho
     | put b e m=>cases ho
     | test c m n =>
       obtain ⟨a,u,rfl,ha,hc⟩:=Nd.test_at hv
       walk_at "go"
       refine a32 (SqT.of ha) (a02 (j:=0) rfl) ?_
       walk_at "run"
       refine a34 (by decide +kernel) ?_
       walk_at "run"
       refine a32 (SqT.of ha) (a02 (j:=0) rfl) ?_
       walk_at "run"
       refine a66 rfl ?_
       walk_at "run"
       refine a32 (SqT.of ha) (a02 (j:=1) rfl) ?_
       walk_at "run"
       intro p1 H1 f1 s1 e1
       refine q _ [] H1 s1 ?_
       simp only [lookT,Tw.At,Tw.Ats]
       exact ⟨p1,_,rfl,e1,_,_,[],[],rfl,rfl,⟨rfl,trivial,rfl⟩,_,_,[],[],rfl,rfl,ba4 (hc.same s1),rfl,rfl⟩
     | call m n =>
       obtain ⟨a,rfl,ha⟩:=Nd.call_at hv
       walk_at "go"
       refine a32 (SqT.of ha) (a02 (j:=0) rfl) ?_
       walk_at "run"
       refine a34 (by decide +kernel) ?_
       walk_at "run"
       refine a32 (SqT.of ha) (a02 (j:=0) rfl) ?_
       walk_at "run"
       refine a34 (by decide +kernel) ?_
       walk_at "run"
       refine a32 (SqT.of ha) (a02 (j:=0) rfl) ?_
       walk_at "run"
       refine a66 rfl ?_
       walk_at "run"
       refine a32 (SqT.of ha) (a02 (j:=0) rfl) ?_
       walk_at "run"
       intro p1 H1 f1 s1 e1
       exact q _ [] H1 s1 (tw1 e1)
     | back =>
       obtain ⟨a,rfl,ha⟩:=Nd.back_at hv
       walk_at "go"
       refine a32 (SqT.of ha) (a02 (j:=0) rfl) ?_
       walk_at "run"
       refine a34 (by decide +kernel) ?_
       walk_at "run"
       refine a32 (SqT.of ha) (a02 (j:=0) rfl) ?_
       walk_at "run"
       refine a34 (by decide +kernel) ?_
       walk_at "run"
       refine a32 (SqT.of ha) (a02 (j:=0) rfl) ?_
       walk_at "run"
       refine a34 (by decide +kernel) ?_
       walk_at "run"
       refine a32 (SqT.of ha) (a02 (j:=0) rfl) ?_
       walk_at "run"
       refine a66 rfl ?_
       walk_at "run"
       refine a32 (SqT.of ha) (a02 (j:=0) rfl) ?_
       walk_at "run"
       intro p1 H1 f1 s1 e1
       exact q _ [] H1 s1 (tw1 e1)
     | stop =>
       obtain ⟨a,rfl,ha⟩:=Nd.stop_at hv
       walk_at "go"
       refine a32 (SqT.of ha) (a02 (j:=0) rfl) ?_
       walk_at "run"
       refine a34 (by decide +kernel) ?_
       walk_at "run"
       refine a32 (SqT.of ha) (a02 (j:=0) rfl) ?_
       walk_at "run"
       refine a34 (by decide +kernel) ?_
       walk_at "run"
       refine a32 (SqT.of ha) (a02 (j:=0) rfl) ?_
       walk_at "run"
       refine a34 (by decide +kernel) ?_
       walk_at "run"
       refine a32 (SqT.of ha) (a02 (j:=0) rfl) ?_
       walk_at "run"
       refine a34 (by decide +kernel) ?_
       walk_at "run"
       refine a32 (SqT.of ha) (a02 (j:=0) rfl) ?_
       walk_at "run"
       refine a66 rfl ?_
       walk_at "run"
       refine a32 (SqT.of ha) (a02 (j:=0) rfl) ?_
       walk_at "run"
       intro p1 H1 f1 s1 e1
       exact q _ [] H1 s1 (tw1 e1)
     | wait wl bs n =>
       obtain ⟨a,b,us,rfl,ha,hb,hu⟩:=Nd.wait_at hv
       have hul:=hu.len
       simp only [Nd.nexts,List.length_append,List.length_map,List.length_cons,List.length_nil] at hz hul
       walk_at "go"
       refine a32 (SqT.of ha) (a02 (j:=0) rfl) ?_
       walk_at "run"
       refine a66 rfl ?_
       walk_at "run"
       refine a32 (SqT.of ha) (a02 (j:=1) rfl) ?_
       walk_at "run"
       refine a32 (SqT.of ha) (a02 (j:=2) rfl) ?_
       walk_at "run"
       refine ⟨⟨_,SqT.of hb⟩,ad4 (xs:=us) (le_line (by omega)) (fun i acc H'=>H=H'∧i≤bs.length∧acc.length=i∧Tw.Ats H ((bs.take i).map fun b=>toW (.tup (b.1.map Pt.tr))) acc []) ⟨rfl,Nat.zero_le _,rfl,by simp [Tw.Ats]⟩ (fun i acc H' ⟨e0,hi,e,_⟩=>⟨by omega,e0 ▸ SqT.of hb⟩) ?_ ?_⟩
       · rintro i x acc H' hx ⟨rfl,hi,ea,hat⟩
         obtain ⟨t,ht,hxt⟩:=a97 hu hx
         obtain ⟨p,u,bb,rfl,hp,hbb,hpu⟩:=bc7 ht hxt
         have hi':i<bs.length:=(List.getElem?_eq_some_iff.mp hbb).1
         refine ⟨p,u,.int (bb.2:Nat),rfl,SqT.of hp,?_⟩
         walk_at "run"
         refine ⟨rfl,hi',by simp [ea],?_⟩
         rw [List.take_add_one,hbb,Option.toList_some,List.map_append]
         exact Tw.Ats.snoc (gs:=[]) hat (ba4 hpu)
       · rintro acc H' ⟨rfl,_,ea,hat⟩ p1 H1 f1 s1 e1
         rw [hul,List.take_length] at hat
         walk_at "run"
         intro p2 H2 f2 s2 e2
         refine q _ [p1] H2 (s1.trans s2) ?_
         simp only [lookT,Tw.At,Tw.Ats]
         exact ⟨p2,_,rfl,e2,_,_,[],[p1],rfl,rfl,⟨rfl,trivial,rfl⟩,_,_,[],[p1],rfl,rfl,⟨rfl,trivial,rfl⟩,_,_,[p1],[],rfl,rfl,⟨p1,_,[],rfl,s2 _ _ e1,hat.same (s1.trans s2),rfl⟩,rfl,rfl⟩
section
variable {β:Type}{lb:Nat→β}{w:Nat→Nat→Nat}{many n:Nat}{R:Nat→Nat→Prop}
theorem az9 (hsym:∀ a b,R a b→R b a) (hdg:∀ a,¬ R a a) (hlab:∀ a b,a<n→b<n→lb a≠lb b→R a b) (hw:∀ a j,a<n→j<many→w a j<n)
 (hcl:∀ k j,k<n→j<k→¬ R k j→∀ i,i<many→¬ R (w k i) (w j i)):∀ {v:List Nat}{a b:Nat},a<n→b<n→¬ R a b→Evs many v→¬ Apart lb w a b v
 | [],a,b,ha,hb,hn,_=>fun h=>hn (hlab a b ha hb h)
 | j::v,a,b,ha,hb,hn,hv=>by
   have hj:=hv j (by simp)
   have step:¬ R (w a j) (w b j):=by
    rcases Nat.lt_trichotomy a b with h | h | h
    · exact fun z=>hcl b a hb h (fun y=>hn (hsym _ _ y)) j hj (hsym _ _ z)
    · rw [h]; exact hdg _
    · exact hcl a b ha h hn j hj
   show ¬ Apart lb w (w a j) (w b j) v
   exact az9 hsym hdg hlab hw hcl (hw a j ha hj) (hw b j hb hj) step fun i hi=>hv i (by simp [hi])
theorem bi8 (hsym:∀ a b,R a b→R b a) (hdg:∀ a,¬ R a a) (hlab:∀ a b,a<n→b<n→lb a≠lb b→R a b) (hw:∀ a j,a<n→j<many→w a j<n)
 (hcl:∀ k j,k<n→j<k→¬ R k j→∀ i,i<many→¬ R (w k i) (w j i)) (hsd:∀ a b,a<n→b<n→R a b→ApartR lb w many a b) {a b:Nat}(ha:a<n) (hb:b<n):R a b↔ApartR lb w many a b :=
 ⟨hsd a b ha hb,fun ⟨v,h1,h2⟩=>Classical.not_not.mp fun hn=>az9 hsym hdg hlab hw hcl ha hb hn h1 h2⟩
end
def bd2 (K:PySem.W.Frag):Sp:=fun vs H Q _=>∃ (a:Addr) (ns:List Int),vs=[.ref a]∧SqL K H a (ns.map V.int)∧∀ v H' bs ds f b n,Same H H'→GAt H' v bs ds f b n→Gok ds f→(∀ d∈ds,d.tr.h≤8)→ds.length≤60→bs.length≤100→Q v H'
theorem bd3 {ds:List Nd}{f j:Nat}{d:Nd}(g:Gok ds f) (hd:d.okAt ds.length j):Gok (ds.set j d) f:=by
 refine ⟨fun i e h=>?_,by rw [List.length_set]; exact g.first,by rw [List.length_set]; exact g.few⟩
 rw [List.length_set]
 rw [List.getElem?_set] at h
 split at h
 · next hij =>
   split at h
   · cases h
     rw [← hij]
     exact hd
   · cases h
 · exact g.at_ i e h
theorem bd4 {H:Hp}{a b n:Addr}{bs:List (Str×Int)}{ds:List Nd}{f j:Nat}{ub un:List V}{d:Nd}{v:V}(hne:b≠n) (g1:H a=some (.tup [.ref b,.ref n,.int (f:Nat)])) (g2:H b=some (.lst ub)) (g3:Tr.Ats H (bs.map boxT) ub []) (g4:H n=some (.lst un)) (g5:Tr.Ats H (ds.map Nd.tr) un []) (hv:d.tr.At H v []) :
 GAt (upd H n (.lst (un.set j v))) (.ref a) bs (ds.set j d) f b n:=by
 have t:Tups H (upd H n (.lst (un.set j v))):=fun c ys e=>by
  rw [a06 (ad0 e g4 (fun z=>nomatch z))]
  exact e
 refine ⟨a,ub,un.set j v,rfl,t _ _ g1,by rw [a06 hne]; exact g2,g3.tups t,a27,?_⟩
 rw [List.map_set]
 exact (aq1 j g5 hv).tups t
theorem aq4 (T:Txt K mg t):FnOk P w K mg base CX0 5 t.a__law_copied t.fd__law_copied ["script"] (bd2 K):=by
 have G__law_cell_at:=af1 (P:=P) (w:=w) (base:=base) T
 have G__law_graph:=at3 (P:=P) (w:=w) (base:=base) T
 refine T.F__law_copied.ok sc_law_copied (fun vs H Q E h=>?_) (fun cdv A outer s H vs Q E hr h=>?_)
 · obtain ⟨a,ns,rfl,_⟩:=h
   rfl
 · obtain ⟨a0,ns,rfl,hS,q⟩:=h
   refine ⟨_,(@a03 _ _ _ _ _ (@a45 _ _ 1 _ _ _ _ sc_law_copied.nd rfl (by walk_at "o") (@a50 _ _ _ _ _ _ _ _ _ _ _ _ _ _ _ _ G__law_graph (hr.mono (by omega)) rfl T.m__law_graph T.F__law_graph.kp T.b__law_graph .nil a85 (@a00 _ _ _ _ _ (pv 0) (@a04 _) (by rfl)) (by decide) (by rfl) (by rfl)) (by rfl) (by walk_at "o"))
    (@a03 _ _ _ _ _ (@a45 _ _ 2 _ _ _ _ sc_law_copied.nd rfl (by walk_at "o") (@a31 _ _ _ _ _ _ _ _ a44 (@a50 _ _ _ _ _ _ _ _ _ _ _ _ _ _ _ _ G__law_cell_at (hr.mono (by omega)) rfl T.m__law_cell_at T.F__law_cell_at.kp T.b__law_cell_at .nil a85 (@a00 _ _ _ _ _ (pv 0) (@a00 _ _ _ _ _ (@a01 _ _ _ _) (@a04 _) (by rfl)) (by rfl)) (by decide) (by rfl) (by rfl)) (@a01 _ _ _ _)) (by rfl) (by walk_at "o"))
    (@a03 _ _ _ _ _ (@a45 _ _ 3 _ _ _ _ sc_law_copied.nd rfl (by walk_at "o") (@a29 _ _ _ _ _ _ _ (a09 K) (pv 1) (@a01 _ _ _ _) (fun _ _=>rfl)) (by rfl) (by walk_at "o"))
    (@a03 _ _ _ _ _ (@a45 _ _ 4 _ _ _ _ sc_law_copied.nd rfl (by walk_at "o") (@a31 _ _ _ _ _ _ _ _ a48 (@a31 _ _ _ _ _ _ _ _ a44 (pv 2) (@a01 _ _ _ _)) (@a31 _ _ _ _ _ _ _ _ ai7 (@a77 _ _ _ _ _ _ _ _ _ (ab1 K) (by rfl) T.z_len ab6 (@a00 _ _ _ _ _ (pv 3) (@a04 _) (by rfl)) (by decide) (by decide) (by rfl) (by rfl)) (@a01 _ _ _ _))) (by rfl) (by walk_at "o"))
    (@ab7 _ _ _ _ _ (@a68 _ _ _ _ _ _ _ _ (@PW.pt _ _ _ (@aq8 _ _ _ _ _ _ _ (@a36 _ _ _ _ _ _ _ _ a65 (@a31 _ _ _ _ _ _ _ _ a48 (pv 2) (@a01 _ _ _ _)) (@a01 _ _ _ _) (nomark _)) (@aq8 _ _ _ _ _ _ _ (@a36 _ _ _ _ _ _ _ _ a65 (@a29 _ _ _ _ _ _ _ (a09 K) (@a29 _ _ _ _ _ _ _ (a07 K) (pv 3) (@a31 _ _ _ _ _ _ _ _ a57 (pv 4) (@a01 _ _ _ _)) (fun _ _=>rfl)) (@a01 _ _ _ _) (fun _ _=>rfl)) (@a28 _ _ _ _) (nomark _)) (@am2 _ _ _ _ (@a36 _ _ _ _ _ _ _ _ b62 (@a29 _ _ _ _ _ _ _ (a09 K) (@a29 _ _ _ _ _ _ _ (a07 K) (pv 3) (@a31 _ _ _ _ _ _ _ _ a57 (pv 4) (@a01 _ _ _ _)) (fun _ _=>rfl)) (@a01 _ _ _ _) (fun _ _=>rfl)) (@a01 _ _ _ _) (nomark _)))))) (@a05 _ _ _ (@ag3 _ _ _ _ _ _ (@a29 _ _ _ _ _ _ _ (a07 K) (pv 3) (@a31 _ _ _ _ _ _ _ _ a57 (pv 4) (@a01 _ _ _ _)) (fun _ _=>rfl)) (ah8 (pv 3) (pv 4) aa9) (by rfl) (by rfl) (by rfl))) (@a40 _))
    (@ab7 _ _ _ _ _ (@a68 _ _ _ _ _ _ _ _ (@PW.pt _ _ _ (@aq8 _ _ _ _ _ _ _ (@a36 _ _ _ _ _ _ _ _ a65 (@a31 _ _ _ _ _ _ _ _ a48 (pv 2) (@a01 _ _ _ _)) (@a01 _ _ _ _) (nomark _)) (@am2 _ _ _ _ (@a36 _ _ _ _ _ _ _ _ a65 (@a29 _ _ _ _ _ _ _ (a09 K) (@a29 _ _ _ _ _ _ _ (a07 K) (pv 3) (pv 4) (fun _ _=>rfl)) (@a01 _ _ _ _) (fun _ _=>rfl)) (@a28 _ _ _ _) (nomark _))))) (@a05 _ _ _ (@ag3 _ _ _ _ _ _ (@a33 _ _ _ _ _ (@a00 _ _ _ _ _ (@a28 _ _ _ _) (@a00 _ _ _ _ _ (@a28 _ _ _ _) (@a00 _ _ _ _ _ (@a29 _ _ _ _ _ _ _ (a09 K) (@a29 _ _ _ _ _ _ _ (a07 K) (pv 3) (pv 4) (fun _ _=>rfl)) (@a01 _ _ _ _) (fun _ _=>rfl)) (@a04 _) (by rfl)) (by rfl)) (by rfl))) (ah8 (pv 3) (pv 4) aa9) (by rfl) (by rfl) (by rfl))) (@a40 _))
    (@a05 _ _ _ (@a41 _ _ _ _ (pv 1))))))))),?_⟩
   have sl:(1000000:Nat)≤sizeLine:=le_line (Nat.le_refl _)
   walk_at "go"
   refine ⟨a0,ns,rfl,hS,fun v H1 bs ds f b n s1 hg gk hh fn hbn hl60 hl1 hbx=>?_⟩
   obtain ⟨ga,ub,un,rfl,g1,g2,g3,g4,g5⟩:=hg.ex
   have hul:un.length=ds.length:=by rw [g5.len,List.length_map]
   have hbl:bs.length≤100:=by have:=congrArg List.length hbx; simp at this; omega
   walk_at "run"
   refine ⟨a0,ns,0,rfl,s1.seq hS,fun z=>?_⟩
   walk_at "run"
   refine a32 (SqT.of g1) (a02 (j:=1) rfl) ?_
   walk_at "run"
   refine ae9 (SqL.of g4) ?_
   walk_at "run"
   obtain ⟨k,hk,ek⟩:∃ k:Nat,k+1<un.length∧z / 144 / 4 % ((un.length:Int) - 1)=(k:Nat):=by
    have h1:=Int.emod_nonneg (z / 144 / 4) (show ((un.length:Int) - 1)≠0 by omega)
    have h2:=Int.emod_lt_of_pos (z / 144 / 4) (show (0:Int)<(un.length:Int) - 1 by omega)
    exact ⟨(z / 144 / 4 % ((un.length:Int) - 1)).toNat,by omega,by omega⟩
   rw [ek]
   generalize z / 144=cell
   obtain ⟨x1,hx1⟩:∃ x,un[k+1]?=some x:=⟨_,List.getElem?_eq_getElem hk⟩
   have hd1:=aa3 (ns:=ds) (a:=k+1) (by omega)
   have hx1t:(ds.getD (k+1) .back).tr.At H1 x1 []:=by
    obtain ⟨t,ht,hxt⟩:=a97 g5 hx1
    rw [List.getElem?_map,hd1] at ht
    rw [← Option.some.inj ht] at hxt
    exact hxt
   have fH:∀ {y:Addr}{o:HO},H y=some o→y≠n:=fun e=>a30 e fn
   refine al4 (fun σ' H'=>∃ (ds':List Nd) (un':List V),σ'=[some (.ref a0),some (.ref ga),some (.int cell),some (.ref n),some (.int (k:Nat))]∧Same H H'∧H' ga=some (.tup [.ref b,.ref n,.int (f:Nat)])∧H' b=some (.lst ub)∧Tr.Ats H' (bs.map boxT) ub []∧H' n=some (.lst un')∧Tr.Ats H' (ds'.map Nd.tr) un' []∧Gok ds' f∧(∀ d∈ds',d.tr.h≤8)∧ds'.length=ds.length) ?_ ?_
   · have stay:∃ (ds':List Nd) (un':List V),[some (V.ref a0),some (.ref ga),some (.int cell),some (.ref n),some (.int (k:Nat))]=[some (.ref a0),some (.ref ga),some (.int cell),some (.ref n),some (.int (k:Nat))]∧Same H H1∧H1 ga=some (.tup [.ref b,.ref n,.int (f:Nat)])∧H1 b=some (.lst ub)∧Tr.Ats H1 (bs.map boxT) ub []∧H1 n=some (.lst un')∧Tr.Ats H1 (ds'.map Nd.tr) un' []∧Gok ds' f∧(∀ d∈ds',d.tr.h≤8)∧ds'.length=ds.length:=⟨ds,un,rfl,s1,g1,g2,g3,g4,g5,gk,hh,rfl⟩
     obtain ⟨aw,usw,rfl,haw⟩:=Nd.word_at hx1t
     walk_at "run"
     refine ite2 (fun hc=>?_) (fun hc=>?_)
     · walk_at "run"
       rw [show ((k:Nat):Int)+1=((k+1:Nat):Int) by omega]
       refine a49 (SqL.of g4) (a02 hx1) ?_
       walk_at "run"
       refine a32 (SqT.of haw) (a02 (j:=0) rfl) ?_
       walk_at "run"
       refine ite2 (fun hc2=>?_) (fun hc2=>?_)
       · cases hd:ds.getD (k+1) .back with
         | wait l bs' m =>
           rw [hd] at hx1t hd1
           obtain ⟨a2,b2,us2,e2,ha2,_,_⟩:=Nd.wait_at hx1t
           cases e2
           walk_at "run"
           refine a49 (SqL.of g4) (a02 hx1) ?_
           walk_at "run"
           refine a32 (SqT.of ha2) (a02 (j:=1) rfl) ?_
           walk_at "run"
           refine ite2 (fun hc3=>?_) (fun hc3=>?_)
           · walk_at "run"
             refine a49 (SqL.of g4) (a02 hx1) ?_
             walk_at "run"
             refine ai0 g4 (j:=k) (by unfold ixN; rw [if_pos (by omega),if_pos (by omega)]; simp) ?_
             have hP:=bd4 (d:=.wait l bs' m) (j:=k) hbn g1 g2 g3 g4 g5 hx1t
             obtain ⟨ga',ub',un',e',p1,p2,p3,p4,p5⟩:=hP.ex
             cases e'
             have e2:ub'=ub:=by rw [a06 hbn,g2] at p2; cases p2; rfl
             subst e2
             refine ⟨_,un',rfl,fun y o e=>by rw [a06 (fH e)]; exact s1 _ _ e,p1,p2,p3,p4,p5,bd3 gk (gk.at_ (k+1) _ hd1),fun d hd'=>?_,by rw [List.length_set]⟩
             rcases List.mem_or_eq_of_mem_set hd' with h | h
             · exact hh d h
             · rw [h]; exact hh _ (List.mem_of_getElem? hd1)
           · exact stay
         | _=>rw [hd] at hc2; exact absurd (of_decide_eq_true hc2) (by simp only [Nd.word]; decide +kernel)
       · exact stay
     · exact stay
   rintro σ' H2 ⟨ds2,un2,rfl,s2,p1,p2,p3,p4,p5,gk2,hh2,hl2⟩
   have hul2:un2.length=ds.length:=by rw [p5.len,List.length_map,hl2]
   obtain ⟨x0,hx0⟩:∃ x,un2[k]?=some x:=⟨_,List.getElem?_eq_getElem (by omega)⟩
   have hd0:=aa3 (ns:=ds2) (a:=k) (by omega)
   have hx0t:(ds2.getD k .back).tr.At H2 x0 []:=by
    obtain ⟨t,ht,hxt⟩:=a97 p5 hx0
    rw [List.getElem?_map,hd0] at ht
    rw [← Option.some.inj ht] at hxt
    exact hxt
   have fin:∀ (H':Hp) (ds':List Nd) (un':List V),Same H H'→H' ga=some (.tup [.ref b,.ref n,.int (f:Nat)])→H' b=some (.lst ub)→Tr.Ats H' (bs.map boxT) ub []→H' n=some (.lst un')→Tr.Ats H' (ds'.map Nd.tr) un' []→Gok ds' f→(∀ d∈ds',d.tr.h≤8)→ds'.length=ds.length→Q (.ref ga) H':=fun H' ds' un' s r1 r2 r3 r4 r5 r6 r7 r8=>q _ H' bs ds' f b n s ⟨ga,ub,un',rfl,r1,r2,r3,r4,r5⟩ r6 r7 (by omega) hbl
   refine al4 (fun σ' H'=>σ'=[some (.ref a0),some (.ref ga),some (.int cell),some (.ref n),some (.int (k:Nat))]∧Q (.ref ga) H') ?_ ?_
   rotate_left
   · rintro σ' H3 ⟨rfl,hq⟩
     walk_at "run"
     exact hq
   obtain ⟨aw,usw,rfl,haw⟩:=Nd.word_at hx0t
   have stay:=fin H2 ds2 un2 s2 p1 p2 p3 p4 p5 gk2 hh2 hl2
   walk_at "run"
   refine ite2 (fun hc=>?_) (fun hc=>?_)
   · walk_at "run"
     refine a49 (SqL.of p4) (a02 hx0) ?_
     walk_at "run"
     refine a32 (SqT.of haw) (a02 (j:=0) rfl) ?_
     walk_at "run"
     refine ite2 (fun hc2=>?_) (fun hc2=>?_)
     · cases hd:ds2.getD k .back with
       | say w m =>
         rw [hd] at hx0t hd0
         obtain ⟨a2,us2,e2,ha2,hu2,_⟩:=Nd.one_at (d:=.say w m) rfl hx0t
         cases e2
         walk_at "run"
         refine a49 (SqL.of p4) (a02 hx0) ?_
         walk_at "run"
         obtain ⟨u1,r1,e1,_,r2⟩:=ats_cons0.mp hu2
         obtain rfl:=ats_nil0.mp r2
         subst e1
         refine a32 (SqT.of ha2) (a02 (j:=2) rfl) ?_
         walk_at "run"
         intro p6 H3 f3 s3 e3
         walk_at "run"
         refine ai0 (s3 _ _ p4) (j:=k) (by unfold ixN; rw [if_pos (by omega),if_pos (by omega)]; simp) ?_
         have hok0:(Nd.say (Str.ofString "no") m).okAt ds2.length k:=gk2.at_ k (.say w m) hd0
         have hP:=bd4 (d:=.say (Str.ofString "no") m) (j:=k) hbn (s3 _ _ p1) (s3 _ _ p2) (p3.same s3) (s3 _ _ p4) (p5.same s3) (bk5 e3)
         obtain ⟨ga',ub',un',e',v1,v2,v3,v4,v5⟩:=hP.ex
         cases e'
         have e2:ub'=ub:=by rw [a06 hbn,s3 _ _ p2] at v2; cases v2; rfl
         subst e2
         refine ⟨rfl,fin _ _ un' (fun y o e=>by rw [a06 (fH e)]; exact s3 _ _ (s2 _ _ e)) v1 v2 v3 v4 v5 (bd3 gk2 hok0) (fun d hd'=>?_) (by rw [List.length_set]; exact hl2)⟩
         rcases List.mem_or_eq_of_mem_set hd' with h | h
         · exact hh2 d h
         · rw [h]; simp [Nd.tr,Nd.its,Tr.h,Tr.hs]
       | _=>rw [hd] at hc2; exact absurd (of_decide_eq_true hc2) (by simp only [Nd.word]; decide +kernel)
     · exact ⟨rfl,stay⟩
   · exact ⟨rfl,stay⟩
structure WhR (AP:Nat→Nat→Prop) (i:Nat) (fv W:List Nat):Prop where
 len:W.length=i
 mt:mets W=List.range fv.length
 cn:canon W=W
 to:∀ (a x:Nat),W[a]?=some x→∃ y,fv[x]?=some y∧¬ AP a y
 fr:∀ (x y:Nat),fv[x]?=some y→y<i∧W[y]?=some x∧∀ a,a<y→W[a]?≠some x
 ap:∀ (x x' y y':Nat),fv[x]?=some y→fv[x']?=some y'→x≠x'→AP y y'
section
variable {AP:Nat→Nat→Prop}{i:Nat}{fv W:List Nat}
theorem WhR.zero:WhR AP 0 [] []:=⟨rfl,rfl,rfl,fun a x h=>by simp at h,fun x y h=>by simp at h,fun x x' y y' h=>by simp at h⟩
theorem WhR.mem (h:WhR AP i fv W) {x:Nat}:x∈W↔x<fv.length:=by
 rw [← a56,h.mt,List.mem_range]
theorem bd5 {m x:Nat}(hx:x<m):(List.range m).idxOf x=x:=by
 have hm:x∈List.range m:=List.mem_range.mpr hx
 have hl:=List.idxOf_lt_length_of_mem hm
 have:=List.getElem_idxOf hl
 rw [List.getElem_range] at this
 exact this
theorem WhR.old (h:WhR AP i fv W) {p y:Nat}(hp:fv[p]?=some y) (hn:¬ AP i y):WhR AP (i+1) fv (W++[p]):=by
 have hpl:p<fv.length:=(List.getElem?_eq_some_iff.mp hp).1
 have hm:p∈W:=h.mem.mpr hpl
 refine ⟨by simp [h.len],?_,?_,fun a x e=>?_,fun x y' e=>?_,h.ap⟩
 · rw [a88]
   unfold met1
   rw [if_pos ((a56 _ _).mpr hm),h.mt]
 · rw [ab9,h.cn,if_pos hm,h.mt,bd5 hpl]
 · by_cases ha:a<W.length
   · rw [List.getElem?_append_left ha] at e
     exact h.to a x e
   · have hl:=(List.getElem?_eq_some_iff.mp e).1
     simp at hl
     have:a=W.length:=by omega
     subst this
     rw [List.getElem?_append_right (Nat.le_refl _),Nat.sub_self] at e
     have:x=p:=by simpa using e.symm
     subst this
     exact ⟨y,hp,by rw [h.len]; exact hn⟩
 · obtain ⟨h1,h2,h3⟩:=h.fr x y' e
   have hy:y'<W.length:=by rw [h.len]; exact h1
   refine ⟨by omega,by rw [List.getElem?_append_left hy]; exact h2,fun a ha=>?_⟩
   rw [List.getElem?_append_left (by omega)]
   exact h3 a ha
theorem WhR.new (h:WhR AP i fv W) (hi:¬ AP i i) (hsym:∀ a b,AP a b→AP b a) (hn:∀ (p y:Nat),fv[p]?=some y→AP i y):WhR AP (i+1) (fv++[i]) (W++[fv.length]):=by
 have hm:¬ fv.length∈W:=fun z=>absurd (h.mem.mp z) (Nat.lt_irrefl _)
 have fg:∀ {x y:Nat},(fv++[i])[x]?=some y→fv[x]?=some y∨(x=fv.length∧y=i):=fun {x y} e=>by
  by_cases hx:x<fv.length
  · rw [List.getElem?_append_left hx] at e
    exact .inl e
  · have hl:=(List.getElem?_eq_some_iff.mp e).1
    simp at hl
    have:x=fv.length:=by omega
    subst this
    rw [List.getElem?_append_right (Nat.le_refl _),Nat.sub_self] at e
    exact .inr ⟨rfl,by simpa using e.symm⟩
 refine ⟨by simp [h.len],?_,?_,fun a x e=>?_,fun x y e=>?_,fun x x' y y' e1 e2 hne=>?_⟩
 · rw [a88]
   unfold met1
   rw [if_neg (fun z=>hm ((a56 _ _).mp z)),h.mt,List.length_append,List.length_cons,List.length_nil,List.range_succ]
 · rw [ab9,h.cn,if_neg hm,h.mt,List.length_range]
 · by_cases ha:a<W.length
   · rw [List.getElem?_append_left ha] at e
     obtain ⟨y,h1,h2⟩:=h.to a x e
     exact ⟨y,by rw [List.getElem?_append_left (List.getElem?_eq_some_iff.mp h1).1]; exact h1,h2⟩
   · have hl:=(List.getElem?_eq_some_iff.mp e).1
     simp at hl
     have:a=W.length:=by omega
     subst this
     rw [List.getElem?_append_right (Nat.le_refl _),Nat.sub_self] at e
     have:x=fv.length:=by simpa using e.symm
     subst this
     exact ⟨i,by simp,by rw [h.len]; exact hi⟩
 · rcases fg e with e | ⟨rfl,rfl⟩
   · obtain ⟨h1,h2,h3⟩:=h.fr x y e
     have hy:y<W.length:=by rw [h.len]; exact h1
     refine ⟨by omega,by rw [List.getElem?_append_left hy]; exact h2,fun a ha=>?_⟩
     rw [List.getElem?_append_left (by omega)]
     exact h3 a ha
   · refine ⟨Nat.lt_succ_self _,by rw [← h.len]; simp,fun a ha z=>?_⟩
     rw [List.getElem?_append_left (by rw [h.len]; exact ha)] at z
     exact hm (List.mem_of_getElem? z)
 · rcases fg e1 with e1 | ⟨a1,a2⟩ <;> rcases fg e2 with e2 | ⟨b1,b2⟩
   · exact h.ap x x' y y' e1 e2 hne
   · rw [b2]; exact hsym _ _ (hn x y e1)
   · rw [a2]; exact hn x' y' e2
   · exact absurd (a1.trans b1.symm) hne
theorem WhR.ker (h:WhR AP i fv W) (hsym:∀ a b,AP a b→AP b a) (htr:∀ a b c,AP a c→AP a b∨AP b c) {a b:Nat}(ha:a<i) (hb:b<i):W[a]?=W[b]?↔¬ AP a b:=by
 obtain ⟨x,hx⟩:∃ x,W[a]?=some x:=⟨_,List.getElem?_eq_getElem (by rw [h.len]; exact ha)⟩
 obtain ⟨x',hx'⟩:∃ x,W[b]?=some x:=⟨_,List.getElem?_eq_getElem (by rw [h.len]; exact hb)⟩
 obtain ⟨y,e1,n1⟩:=h.to a x hx
 obtain ⟨y',e2,n2⟩:=h.to b x' hx'
 rw [hx,hx',Option.some_inj]
 constructor
 · rintro rfl hap
   rw [e1] at e2
   cases e2
   rcases htr a y b hap with z | z
   · exact n1 z
   · exact n2 (hsym _ _ z)
 · intro hn
   refine Classical.not_not.mp fun hne=>?_
   have:=h.ap x x' y y' e1 e2 hne
   rcases htr y a y' this with z | z
   · exact n1 (hsym _ _ z)
   · rcases htr a b y' z with z | z
     · exact hn z
     · exact n2 z
theorem bk7:∀ (l:List Nat) (x a:Nat),a<l.idxOf x→l[a]?≠some x
 | [],x,a,h=>by simp
 | y::l,x,a,h=>by
   rw [List.idxOf_cons] at h
   by_cases hy:y=x
   · simp [hy] at h
   · have hb:(y == x)=false:=by simpa using hy
     rw [hb] at h
     cases a with
     | zero=>simpa using hy
     | succ a =>
       have:a<l.idxOf x:=by simpa using h
       simpa using bk7 l x a this
theorem WhR.firsts (h:WhR AP i fv W):(mets W).map (fun x=>W.idxOf x)=fv:=by
 rw [h.mt]
 refine List.ext_getElem? fun x=>?_
 rw [List.getElem?_map]
 by_cases hx:x<fv.length
 · rw [List.getElem?_range hx,List.getElem?_eq_getElem hx]
   obtain ⟨h1,h2,h3⟩:=h.fr x _ (List.getElem?_eq_getElem hx)
   show some (W.idxOf x)=_
   congr 1
   have hm:x∈W:=List.mem_of_getElem? h2
   have hl:=List.idxOf_lt_length_of_mem hm
   have e:=List.getElem_idxOf hl
   have e2:W[W.idxOf x]?=some x:=by rw [List.getElem?_eq_getElem hl,e]
   refine Nat.le_antisymm ?_ (Nat.le_of_not_lt fun z=>h3 _ z e2)
   refine Nat.le_of_not_lt fun z=>?_
   have hne:=bk7 W x _ z
   exact hne h2
 · rw [List.getElem?_eq_none_iff.mpr (by simp; omega),List.getElem?_eq_none_iff.mpr (by omega)]
   rfl
end
theorem WhR.shF {ns:List Nd}{fv W:List Nat}(h:WhR (ApartR (fun a=>(ns.map labS)[a]?) (wwN ns) 4) ns.length fv W):shF ns=W:=by
 have:=bb5 (lab:=fun a=>(ns.map labS)[a]?) (w:=wwN ns) (many:=4) h.len fun a b ha hb=>h.ker (fun a b ⟨v,h1,h2⟩=>⟨v,h1,h2.symm⟩) (fun a b c ⟨v,h1,h2⟩=>(h2.tri (b:=b)).imp (fun z=>⟨v,h1,z⟩) fun z=>⟨v,h1,z⟩) ha hb
 rw [h.cn] at this
 exact this.symm
mutual
theorem b00:∀ t:Tr,(toW t).nb
 | .non=>by simp [toW,Tw.nb,nbV]
 | .int _=>by simp [toW,Tw.nb,nbV]
 | .str _=>by simp [toW,Tw.nb,nbV]
 | .tup xs=>by simp only [toW,Tw.nb]; exact ax0 xs
 | .lst xs=>by simp only [toW,Tw.nb]; exact ax0 xs
theorem ax0:∀ ts:List Tr,Tw.nbs (toWs ts)
 | []=>by simp [toWs,Tw.nbs]
 | t::ts=>by simp only [toWs,Tw.nbs]; exact ⟨b00 t,ax0 ts⟩
end
theorem bk8:∀ bs:List (List Pt×Nat),Tw.nbs (bs.map fun b=>toW (.tup (b.1.map Pt.tr)))
 | []=>by simp [Tw.nbs]
 | b::bs=>by simp only [List.map_cons,Tw.nbs]; exact ⟨b00 _,bk8 bs⟩
theorem bk9:∀ bs:List (List Pt×Nat),Tw.hs (bs.map fun b=>toW (.tup (b.1.map Pt.tr)))≤2
 | []=>by simp [Tw.hs]
 | b::bs=>by
   have:=bk9 bs
   simp only [List.map_cons,Tw.hs,bh0,Tr.h,aj4]
   omega
theorem b01 {d:Nd}(h:d.tr.h≤8):∃ xs,lookT d=.tup xs∧Tw.nbs xs∧Tw.hs xs≤50:=by
 cases d with
 | say w n=>exact ⟨_,rfl,by simp [Tw.nbs,Tw.nb,nbV],by simp [Tw.hs,Tw.h]⟩
 | hand l w n=>exact ⟨_,rfl,by simp [Tw.nbs,Tw.nb,nbV],by simp [Tw.hs,Tw.h]⟩
 | put b e n =>
   refine ⟨_,rfl,by simp only [Tw.nbs,Tw.nb,nbV,true_and,and_true]; exact b00 _,?_⟩
   simp only [Nd.tr,Nd.its,Tr.h,Tr.hs] at h
   simp only [Tw.hs,Tw.h,bh0]
   omega
 | test c m n =>
   refine ⟨_,rfl,by simp only [Tw.nbs,Tw.nb,nbV,true_and,and_true]; exact b00 _,?_⟩
   simp only [Nd.tr,Nd.its,Tr.h,Tr.hs] at h
   simp only [Tw.hs,Tw.h,bh0]
   omega
 | wait l bs n =>
   refine ⟨_,rfl,by simp only [Tw.nbs,Tw.nb,nbV,true_and,and_true]; exact bk8 _,?_⟩
   have:=bk9 bs
   simp only [Tw.hs,Tw.h]
   omega
 | call m n=>exact ⟨_,rfl,by simp [Tw.nbs,Tw.nb,nbV],by simp [Tw.hs,Tw.h]⟩
 | back=>exact ⟨_,rfl,by simp [Tw.nbs,Tw.nb,nbV],by simp [Tw.hs,Tw.h]⟩
 | stop=>exact ⟨_,rfl,by simp [Tw.nbs,Tw.nb,nbV],by simp [Tw.hs,Tw.h]⟩
def rowV (n:Nat) (f:Nat→Bool):List V:=(List.range n).map fun j=>V.bl (f j)
theorem ac9 (n:Nat) (f:Nat→Bool):(rowV n f).length=n:=by simp [rowV]
theorem ak5 {n j:Nat}{f:Nat→Bool}(h:j<n):(rowV n f)[j]?=some (.bl (f j)):=by simp [rowV,h]
theorem bd6 (n:Nat) (f:Nat→Bool):rowV n f++[.bl (f n)]=rowV (n+1) f:=by simp [rowV,List.range_succ]
theorem al9 {n:Nat}{f g:Nat→Bool}(h:∀ j,j<n→f j=g j):rowV n f=rowV n g:=by
 unfold rowV
 exact List.map_congr_left fun j hj=>by rw [h j (List.mem_range.mp hj)]
theorem bi9 {n j:Nat}{f:Nat→Bool}:(rowV n f).set j (.bl true)=rowV n (fun b=>if b=j then true else f b):=by
 refine List.ext_getElem? fun i=>?_
 rw [List.getElem?_set]
 by_cases hi:i<n
 · rw [ak5 hi,ak5 hi,ac9]
   by_cases hj:j=i
   · subst hj
     simp [hi]
   · rw [if_neg hj,if_neg (fun e=>hj e.symm)]
 · have e1:(rowV n f)[i]?=none:=List.getElem?_eq_none_iff.mpr (by rw [ac9]; omega)
   have e2:(rowV n fun b=>if b=j then true else f b)[i]?=none:=List.getElem?_eq_none_iff.mpr (by rw [ac9]; omega)
   rw [e1,e2,ac9]
   split
   · next h=>rw [if_neg (by omega)]
   · rfl
def mput (M:Nat→Nat→Bool) (k j:Nat):Nat→Nat→Bool:=fun a b=>if a=k∧b=j then true else M a b
structure MxAt (H:Hp) (l:Addr) (ps:List Addr) (n:Nat) (M:Nat→Nat→Bool):Prop where
 top:H l=some (.lst (ps.map V.ref))
 len:ps.length=n
 nd:ps.Nodup
 nl:l∉ps
 row:∀ (i:Nat) (p:Addr),ps[i]?=some p→H p=some (.lst (rowV n (M i)))
theorem MxAt.same {H H':Hp}{l:Addr}{ps:List Addr}{n:Nat}{M:Nat→Nat→Bool}(h:MxAt H l ps n M) (s:Same H H'):MxAt H' l ps n M:=⟨s _ _ h.top,h.len,h.nd,h.nl,fun i p e=>s _ _ (h.row i p e)⟩
theorem MxAt.get {H:Hp}{l:Addr}{ps:List Addr}{n:Nat}{M:Nat→Nat→Bool}(h:MxAt H l ps n M) {k:Nat}(hk:k<n):∃ p,ps[k]?=some p∧(ps.map V.ref)[k]?=some (.ref p)∧H p=some (.lst (rowV n (M k))):=by
 have hl:k<ps.length:=by rw [h.len]; exact hk
 exact ⟨_,List.getElem?_eq_getElem hl,by rw [List.getElem?_map,List.getElem?_eq_getElem hl]; rfl,h.row k _ (List.getElem?_eq_getElem hl)⟩
theorem MxAt.put {H:Hp}{l p:Addr}{ps:List Addr}{n k j:Nat}{M:Nat→Nat→Bool}(h:MxAt H l ps n M) (hk:ps[k]?=some p):MxAt (upd H p (.lst ((rowV n (M k)).set j (.bl true)))) l ps n (mput M k j):=by
 have hm:p∈ps:=List.mem_of_getElem? hk
 refine ⟨by rw [a06 (fun e:l=p=>h.nl (by rw [e]; exact hm))]; exact h.top,h.len,h.nd,h.nl,fun i q e=>?_⟩
 by_cases hi:i=k
 · subst hi
   rw [hk] at e
   cases e
   rw [a27,bi9]
   congr 2
   refine al9 fun b _=>?_
   simp [mput]
 · have hqp:q≠p:=fun z=>by
    subst z
    obtain ⟨l1,e1⟩:=List.getElem?_eq_some_iff.mp e
    obtain ⟨l2,e2⟩:=List.getElem?_eq_some_iff.mp hk
    have pw:=List.pairwise_iff_getElem.mp h.nd
    rcases Nat.lt_or_gt_of_ne hi with z | z
    · exact pw _ _ l1 l2 z (by rw [e1,e2])
    · exact pw _ _ l2 l1 z (by rw [e1,e2])
   rw [a06 hqp,h.row i q e]
   congr 2
   refine al9 fun b _=>?_
   simp [mput,hi]
def cntM (n:Nat) (M:Nat→Nat→Bool):Nat:=(List.range (n*n)).countP fun i=>!M (i / n) (i % n)
theorem am0 {α:Type}{p q:α→Bool}:∀ {l:List α},(∀ x∈l,p x=true→q x=true)→l.countP p≤l.countP q
 | [],_=>by simp
 | x::l,h=>by
   have ih:=am0 (p:=p) (q:=q) (l:=l) fun y hy=>h y (by simp [hy])
   rw [List.countP_cons,List.countP_cons]
   by_cases hp:p x=true
   · rw [if_pos hp,if_pos (h x (by simp) hp)]
     omega
   · rw [if_neg hp]
     split <;> omega
theorem am1 {α:Type}{p q:α→Bool}:∀ {l:List α}{x:α},(∀ x∈l,p x=true→q x=true)→x∈l→q x=true→p x=false→l.countP p<l.countP q
 | [],_,_,hx,_,_=>by simp at hx
 | y::l,x,h,hx,hq,hp=>by
   have h':∀ x∈l,p x=true→q x=true:=fun z hz=>h z (by simp [hz])
   rw [List.countP_cons,List.countP_cons]
   rcases List.mem_cons.mp hx with e | hx
   · subst e
     have:=am0 h'
     rw [if_pos hq,if_neg (by rw [hp]; exact Bool.false_ne_true)]
     omega
   · have ih:=am1 h' hx hq hp
     by_cases hpy:p y=true
     · rw [if_pos hpy,if_pos (h y (by simp) hpy)]
       omega
     · rw [if_neg hpy]
       split <;> omega
theorem ad6 {M:Nat→Nat→Bool}{k j a b:Nat}(h:M a b=true):mput M k j a b=true:=by
 unfold mput
 split <;> simp [h]
theorem bs2 {n k j:Nat}{M:Nat→Nat→Bool}(hk:k<n) (hj:j<n) (h:M k j=false):cntM n (mput (mput M k j) j k)<cntM n M:=by
 unfold cntM
 have hn:0<n:=by omega
 refine am1 (x:=k*n+j) (fun x _ hx=>?_) (List.mem_range.mpr ?_) ?_ ?_
 · cases e:M (x / n) (x % n) with
   | false=>rfl
   | true=>rw [ad6 (ad6 e)] at hx; simp at hx
 · have:(k+1)*n≤n*n:=Nat.mul_le_mul_right n hk
   rw [Nat.add_mul,Nat.one_mul] at this
   omega
 · rw [Nat.mul_comm k n,Nat.mul_add_div hn,Nat.div_eq_of_lt hj,Nat.add_zero,Nat.mul_add_mod,Nat.mod_eq_of_lt hj,h]
   rfl
 · rw [Nat.mul_comm k n,Nat.mul_add_div hn,Nat.div_eq_of_lt hj,Nat.add_zero,Nat.mul_add_mod,Nat.mod_eq_of_lt hj]
   rw [ad6 (show mput M k j k j=true by simp [mput])]
   rfl
structure MkR (ns:List Nd) (M:Nat→Nat→Bool):Prop where
 sym:∀ a b,M a b=M b a
 dg:∀ a,M a a=false
 lab:∀ a b,a<ns.length→b<ns.length→(ns.map labS)[a]?≠(ns.map labS)[b]?→M a b=true
 sd:∀ a b,a<ns.length→b<ns.length→M a b=true→ApartR (fun a=>(ns.map labS)[a]?) (wwN ns) 4 a b
def ClM (ns:List Nd) (M:Nat→Nat→Bool) (K J:Nat):Prop:=∀ k j,k<ns.length→j<k→(k<K∨(k=K∧j<J))→M k j=false→∀ i,i<4→M (wwN ns k i) (wwN ns j i)=false
theorem b02 {α:Type}{lb:Nat→α}{w:Nat→Nat→Nat}{many a b:Nat}(h:ApartR lb w many a b):ApartR lb w many b a:=by
 obtain ⟨v,h1,h2⟩:=h
 exact ⟨v,h1,h2.symm⟩
theorem MkR.put {ns:List Nd}{M:Nat→Nat→Bool}{k j:Nat}(h:MkR ns M) (hkj:j≠k) (hap:ApartR (fun a=>(ns.map labS)[a]?) (wwN ns) 4 k j):MkR ns (mput (mput M k j) j k):=by
 refine ⟨fun a b=>?_,fun a=>?_,fun a b ha hb hl=>ad6 (ad6 (h.lab a b ha hb hl)),fun a b ha hb e=>?_⟩
 · unfold mput
   have:=h.sym a b
   by_cases h1:a=j∧b=k
   · obtain ⟨rfl,rfl⟩:=h1
     simp
   · by_cases h2:a=k∧b=j
     · obtain ⟨rfl,rfl⟩:=h2
       simp
     · have h3:¬ (b=j∧a=k):=fun z=>h2 ⟨z.2,z.1⟩
       have h4:¬ (b=k∧a=j):=fun z=>h1 ⟨z.2,z.1⟩
       rw [if_neg h1,if_neg h2,if_neg h3,if_neg h4]
       exact this
 · unfold mput
   rw [if_neg (fun z=>hkj (z.1.symm.trans z.2)),if_neg (fun z=>hkj (z.2.symm.trans z.1))]
   exact h.dg a
 · unfold mput at e
   by_cases h1:a=j∧b=k
   · obtain ⟨rfl,rfl⟩:=h1
     exact b02 hap
   · by_cases h2:a=k∧b=j
     · obtain ⟨rfl,rfl⟩:=h2
       exact hap
     · rw [if_neg h1,if_neg h2] at e
       exact h.sd a b ha hb e
theorem MkR.iff {ns:List Nd}{f:Nat}{M:Nat→Nat→Bool}(g:Gok ns f) (h:MkR ns M) (hc:ClM ns M ns.length 0) {a b:Nat}(ha:a<ns.length) (hb:b<ns.length):M a b=true↔ApartR (fun a=>(ns.map labS)[a]?) (wwN ns) 4 a b :=
 bi8 (R:=fun a b=>M a b=true) (fun a b e=>by rw [← e]; exact h.sym b a) (fun a e=>by rw [h.dg a] at e; cases e) h.lab (fun a j ha _=>b53 g a j ha) (fun k j hk hj e i hi z=>by
  rw [hc k j hk hj (.inl hk) (by simpa using e) i hi] at z
  cases z) h.sd ha hb
noncomputable def M0 (ns:List Nd) (a b:Nat):Bool:=!sameW (lookT (ns.getD a .back)) (lookT (ns.getD b .back))
theorem bl0 {ns:List Nd}(hh:∀ d∈ns,d.tr.h≤8) {a b:Nat}(ha:a<ns.length) (hb:b<ns.length):M0 ns a b=true↔(ns.map labS)[a]?≠(ns.map labS)[b]?:=by
 unfold M0
 simp only [List.getElem?_map,aa3 ha,aa3 hb,Option.map_some,ne_eq,Option.some.injEq,Bool.not_eq_true']
 rw [← Bool.not_eq_true,sameW_iff,look_iff]
 refine not_congr ⟨fun e=>?_,fun e=>?_⟩
 · refine Subtype.ext ?_
   rw [ac8 (hh _ (List.mem_of_getElem? (aa3 ha))),ac8 (hh _ (List.mem_of_getElem? (aa3 hb))),e]
 · have:=congrArg Subtype.val e
   rw [ac8 (hh _ (List.mem_of_getElem? (aa3 ha))),ac8 (hh _ (List.mem_of_getElem? (aa3 hb)))] at this
   exact this
theorem c54 {ns:List Nd}(hh:∀ d∈ns,d.tr.h≤8):MkR ns (M0 ns):=by
 refine ⟨fun a b=>?_,fun a=>?_,fun a b ha hb hl=>(bl0 hh ha hb).mpr hl,fun a b ha hb e=>⟨[],fun i hi=>by simp at hi,(bl0 hh ha hb).mp e⟩⟩
 · unfold M0
   congr 1
   rw [Bool.eq_iff_iff,sameW_iff,sameW_iff]
   exact eq_comm
 · unfold M0
   rw [ah0 rfl]
   rfl
def bj0 (K:PySem.W.Frag):Sp:=fun vs H Q _=>∃ (n:Addr) (un:List V) (ns:List Nd) (f:Nat),vs=[.ref n]∧H n=some (.lst un)∧Tr.Ats H (ns.map Nd.tr) un []∧Gok ns f∧(∀ d∈ns,d.tr.h≤8)∧ns.length≤60 ∧
 ∀ l H' ps M,Same H H'→MxAt H' l ps ns.length M→(∀ a b,a<ns.length→b<ns.length→(M a b=true↔ApartR (fun a=>(ns.map labS)[a]?) (wwN ns) 4 a b))→Q (.ref l) H'
theorem ax1 (T:Txt K mg t):FnOk P w K mg base CX0 2 t.a__law_part t.fd__law_part ["nodes"] (bj0 K):=by
 have G__law_look:=aw9 (P:=P) (w:=w) (base:=base) T
 have G__law_nexts:=at2 (P:=P) (w:=w) (base:=base) T
 refine T.F__law_part.ok sc_law_part (fun vs H Q E h=>?_) (fun cdv A outer s H vs Q E hr h=>?_)
 · obtain ⟨n,un,ns,f,rfl,_⟩:=h
   rfl
 · obtain ⟨n,un,ns,f,rfl,g4,g5,gk,hh,hn,q⟩:=h
   refine ⟨_,(@a03 _ _ _ _ _ (@a45 _ _ 1 _ _ _ _ sc_law_part.nd rfl (by walk_at "o") (@a77 _ _ _ _ _ _ _ _ _ (ab1 K) (by rfl) T.z_len ab6 (@a00 _ _ _ _ _ (pv 0) (@a04 _) (by rfl)) (by decide) (by decide) (by rfl) (by rfl)) (by rfl) (by walk_at "o"))
    (@a03 _ _ _ _ _ (@a45 _ _ 2 _ _ _ _ sc_law_part.nd rfl (by walk_at "o") (ae4 (Nt:=["k"]) (Nf:=["many","nodes"]) (caps:=[1,0]) rfl (am8 (sc:=defScope a69) rfl rfl (by decide +kernel) (by decide +kernel) (by decide +kernel) rfl (by decide +kernel)) (aa0 rfl T.z_range (@a00 _ _ _ _ _ (pv 1) (@a04 _) (by rfl))) (fun _ _ _ _ _=>(a38 (i:=0) (show (["k","many","nodes"]:List Str).Nodup by decide +kernel) rfl (by walk_at "o"))) (fun _ _ _ _ _=>(@a82 _)) (fun _ _ _ _ _=>(ae4 (Nt:=["j"]) (Nf:=["nodes","k"]) (caps:=[2,0]) rfl (a83 (ba1 (sc0:=defScope a69) rfl) rfl (by decide +kernel) (by decide +kernel) (by decide +kernel) rfl (by decide +kernel)) (aa0 rfl T.z_range (@a00 _ _ _ _ _ (pv 1) (@a04 _) (by rfl))) (fun _ _ _ _ _=>(a38 (i:=0) (show (["j","nodes","k"]:List Str).Nodup by decide +kernel) rfl (by walk_at "o"))) (fun _ _ _ _ _=>(@a82 _)) (fun _ _ _ _ _=>(@at7 _ _ _ _ _ _ _ _ (bh8 (by exact hr.units)) (@a50 _ _ _ _ _ _ _ _ _ _ _ _ _ _ _ _ G__law_look (hr.mono (by omega)) rfl T.m__law_look T.F__law_look.kp T.b__law_look .nil a85 (@a00 _ _ _ _ _ (@a29 _ _ _ _ _ _ _ (a07 K) (pv 1) (pv 2) (fun _ _=>rfl)) (@a04 _) (by rfl)) (by decide) (by rfl) (by rfl)) (@a50 _ _ _ _ _ _ _ _ _ _ _ _ _ _ _ _ G__law_look (hr.mono (by omega)) rfl T.m__law_look T.F__law_look.kp T.b__law_look .nil a85 (@a00 _ _ _ _ _ (@a29 _ _ _ _ _ _ _ (a07 K) (pv 1) (pv 0) (fun _ _=>rfl)) (@a04 _) (by rfl)) (by decide) (by rfl) (by rfl)) (nomark _)))))) (by rfl) (by walk_at "o"))
    (@a03 _ _ _ _ _ (@a45 _ _ 3 _ _ _ _ sc_law_part.nd rfl (by walk_at "o") (@aq7 _ _ _ _) (by rfl) (by walk_at "o"))
    (@a03 _ _ _ _ _ (@ax4 _ _ _ _ _ _ PassesOwn.never (aj1 K (pv 3) (fun _=>rfl)) (@a03 _ _ _ _ _ (@a45 _ _ 3 _ _ _ _ sc_law_part.nd rfl (by walk_at "o") (@aq7 _ _ _ _) (by rfl) (by walk_at "o"))
     (@a05 _ _ _ (@aa1 _ _ _ _ _ _ _ _ PassesOwn.never rfl (aa0 rfl T.z_range (@a00 _ _ _ _ _ (pv 1) (@a04 _) (by rfl))) (a38 (i:=4) sc_law_part.nd rfl (by walk_at "o")) (@a05 _ _ _ (@aa1 _ _ _ _ _ _ _ _ PassesOwn.never rfl (aa0 rfl T.z_range (@a00 _ _ _ _ _ (pv 4) (@a04 _) (by rfl))) (a38 (i:=5) sc_law_part.nd rfl (by walk_at "o")) (@a05 _ _ _ (@a68 _ _ _ _ _ _ _ _ (@b58 _ _ _ _ (aj1 K (@a29 _ _ _ _ _ _ _ (a07 K) (@a29 _ _ _ _ _ _ _ (a07 K) (pv 2) (pv 4) (fun _ _=>rfl)) (pv 5) (fun _ _=>rfl)) (fun _=>rfl))) (@a03 _ _ _ _ _ (@a45 _ _ 6 _ _ _ _ sc_law_part.nd rfl (by walk_at "o") (b44 K (by rfl) (by rfl) T.z_list (by rfl) T.z_zip (@a00 _ _ _ _ _ (@a50 _ _ _ _ _ _ _ _ _ _ _ _ _ _ _ _ G__law_nexts (hr.mono (by omega)) rfl T.m__law_nexts T.F__law_nexts.kp T.b__law_nexts .nil a85 (@a00 _ _ _ _ _ (@a29 _ _ _ _ _ _ _ (a07 K) (pv 0) (pv 4) (fun _ _=>rfl)) (@a04 _) (by rfl)) (by decide) (by rfl) (by rfl)) (@a00 _ _ _ _ _ (@a50 _ _ _ _ _ _ _ _ _ _ _ _ _ _ _ _ G__law_nexts (hr.mono (by omega)) rfl T.m__law_nexts T.F__law_nexts.kp T.b__law_nexts .nil a85 (@a00 _ _ _ _ _ (@a29 _ _ _ _ _ _ _ (a07 K) (pv 0) (pv 5) (fun _ _=>rfl)) (@a04 _) (by rfl)) (by decide) (by rfl) (by rfl)) (@a04 _) (by rfl)) (by rfl))) (by rfl) (by walk_at "o"))
      (@a05 _ _ _ (@a68 _ _ _ _ _ _ _ _ (aj1 K (@a77 _ _ _ _ _ _ _ _ _ (bq4 K) (by rfl) T.z_any bv7 (@a00 _ _ _ _ _ (ae4 (Nt:=["one","other"]) (Nf:=["part"]) (caps:=[2]) rfl (a83 (sc:=defScope a69) rfl rfl (by decide +kernel) (by decide +kernel) (by decide +kernel) rfl (by decide +kernel)) (a59 K (pv 6)) (fun _ _ _ _ _=>(ab2 K (n:=2) rfl (a54 (a38 (i:=0) (show (["one","other","part"]:List Str).Nodup by decide +kernel) rfl (by walk_at "o")) (a54 (a38 (i:=1) (show (["one","other","part"]:List Str).Nodup by decide +kernel) rfl (by walk_at "o")) (@ab0 _))))) (fun _ _ _ _ _=>(@a82 _)) (fun _ _ _ _ _=>(@a29 _ _ _ _ _ _ _ (a07 K) (@a29 _ _ _ _ _ _ _ (a07 K) (pv 2) (pv 0) (fun _ _=>rfl)) (pv 1) (fun _ _=>rfl)))) (@a04 _) (by rfl)) (by decide) (by decide) (by rfl) (by rfl)) (fun _=>rfl)) (@a03 _ _ _ _ _ (@ag3 _ _ _ _ _ _ (@aq7 _ _ _ _) (ah8 (@a29 _ _ _ _ _ _ _ (a07 K) (pv 2) (pv 4) (fun _ _=>rfl)) (pv 5) aa9) (by rfl) (by rfl) (by rfl))
       (@a03 _ _ _ _ _ (@ag3 _ _ _ _ _ _ (@aq7 _ _ _ _) (ah8 (@a29 _ _ _ _ _ _ _ (a07 K) (pv 2) (pv 5) (fun _ _=>rfl)) (pv 4) aa9) (by rfl) (by rfl) (by rfl))
       (@a05 _ _ _ (@a45 _ _ 3 _ _ _ _ sc_law_part.nd rfl (by walk_at "o") (@aq7 _ _ _ _) (by rfl) (by walk_at "o"))))) (@a40 _)))) (@a40 _))) (by intro _; rfl))) (by intro _; rfl)))))
    (@a05 _ _ _ (@a41 _ _ _ _ (pv 2))))))),?_⟩
   have sl:(1000000:Nat)≤sizeLine:=le_line (Nat.le_refl _)
   have hul:un.length=ns.length:=by rw [g5.len,List.length_map]
   have node:∀ {H':Hp}{i:Nat},Same H H'→i<ns.length→∃ x,un[i]?=some x∧(ns.getD i .back).tr.At H' x []:=fun {H' i} s hi=>by
    obtain ⟨x,hx⟩:∃ x,un[i]?=some x:=⟨_,List.getElem?_eq_getElem (by omega)⟩
    obtain ⟨t,ht,hxt⟩:=a97 (g5.same s) hx
    rw [List.getElem?_map,aa3 hi] at ht
    rw [← Option.some.inj ht] at hxt
    exact ⟨x,hx,hxt⟩
   have nlt:∀ {i:Nat},i<ns.length→(∀ k∈(ns.getD i .back).nexts,k<ns.length)∧(ns.getD i .back).nexts.length≤4:=fun hi=>⟨(gk.at_ _ _ (aa3 hi)).lt,bi4 (gk.at_ _ _ (aa3 hi))⟩
   have nh:∀ {i:Nat},i<ns.length→(ns.getD i .back).tr.h≤8:=fun hi=>hh _ (List.mem_of_getElem? (aa3 hi))
   walk_at "go"
   refine ae9 (SqL.of g4) ?_
   walk_at "run"
   rw [hul]
   refine am9 (lo:=0) (n:=ns.length) (by omega) (fun i acc H'=>Same H H'∧∃ ps:List Addr,acc=ps.map V.ref∧ps.length=i∧ps.Nodup∧(∀ p∈ps,H p=none)∧∀ (j:Nat) (p:Addr),ps[j]?=some p→H' p=some (.lst (rowV ns.length (M0 ns j)))) ⟨Same.refl _,[],rfl,rfl,List.nodup_nil,by simp,by simp⟩ (fun i acc H' ⟨_,ps,e,hl,_⟩=>by rw [e,List.length_map,hl]; exact Nat.le_refl _) ?_ ?_
   · rintro i acc H1 hi ⟨s1,ps,rfl,hpl,hnd,hpf,hrow⟩
     rw [Int.zero_add]
     walk_at "run"
     refine am9 (lo:=0) (n:=ns.length) (by omega) (fun j acc H'=>Same H1 H'∧acc=rowV j (M0 ns i)) ⟨Same.refl _,rfl⟩ (fun j acc H' ⟨_,e⟩=>by rw [e,ac9]; exact Nat.le_refl _) ?_ ?_
     · rintro j acc2 H2 hj ⟨s2,rfl⟩
       rw [Int.zero_add]
       have s02:=s1.trans s2
       obtain ⟨xk,hxk,hxkt⟩:=node s02 hi
       obtain ⟨xj,hxj,hxjt⟩:=node s02 hj
       have li:=(nlt hi).2
       have lj:=(nlt hj).2
       walk_at "run"
       refine a49 (SqL.of (s02 _ _ g4)) (a02 hxk) ?_
       walk_at "run"
       refine ⟨xk,ns.getD i .back,rfl,hxkt,by omega,fun v' fs H3 s3 hv=>?_⟩
       walk_at "run"
       refine a49 (SqL.of ((s02.trans s3) _ _ g4)) (a02 hxj) ?_
       walk_at "run"
       refine ⟨xj,ns.getD j .back,rfl,hxjt.same s3,by omega,fun w' gs H4 s4 hw=>?_⟩
       obtain ⟨xs,ex,nbx,hsx⟩:=b01 (nh hi)
       obtain ⟨ys,ey,nby,_⟩:=b01 (nh hj)
       rw [ex] at hv
       rw [ey] at hw
       refine ⟨xs,ys,fs,gs,hv.same s4,hw,nbx,nby,hsx,?_⟩
       rw [show (!sameW (.tup xs) (.tup ys))=M0 ns i j by unfold M0; rw [ex,ey]]
       exact ⟨s2.trans (s3.trans s4),bd6 _ _⟩
     · rintro acc2 H2 ⟨s2,rfl⟩ p H3 f3 s3 e3
       have hpn:p∉ps:=fun z=>by
        obtain ⟨j,hj⟩:=List.mem_iff_getElem?.mp z
        rw [s2 _ _ (hrow j p hj)] at f3
        cases f3
       refine ⟨s1.trans (s2.trans s3),ps++[p],by simp,by simp [hpl],List.nodup_append.mpr ⟨hnd,by simp,fun a ha b hb e=>by simp at hb; rw [e,hb] at ha; exact hpn ha⟩,fun q' hq=>?_,fun j q' hj=>?_⟩
       · rcases List.mem_append.mp hq with h | h
         · exact hpf q' h
         · simp at h
           rw [h]
           exact (s1.trans s2).free f3
       · by_cases hjl:j<ps.length
         · rw [List.getElem?_append_left hjl] at hj
           exact s3 _ _ (s2 _ _ (hrow j q' hj))
         · have hl:=(List.getElem?_eq_some_iff.mp hj).1
           simp at hl
           have:j=ps.length:=by omega
           subst this
           rw [List.getElem?_append_right (Nat.le_refl _),Nat.sub_self] at hj
           have:q'=p:=by simpa using hj.symm
           subst this
           rw [e3,hpl]
   rintro acc H2 ⟨s2,ps,rfl,hpl,hnd,hpf,hrow⟩ l H3 f3 s3 e3
   have mx0:MxAt H3 l ps ns.length (M0 ns):=⟨e3,hpl,hnd,fun z=>(by
    obtain ⟨j,hj⟩:=List.mem_iff_getElem?.mp z
    rw [hrow j l hj] at f3
    exact absurd f3 (by simp)),fun i p e=>s3 _ _ (hrow i p e)⟩
   have pf:∀ {k:Nat}{p:Addr},ps[k]?=some p→H p=none:=fun e=>hpf _ (List.mem_of_getElem? e)
   walk_at "run"
   refine b89 (fun m σ H'=>∃ (M:Nat→Nat→Bool) (ag:Bool) (y1 y2 y3:Option V),σ=[some (.ref n),some (.int (ns.length:Nat)),some (.ref l),some (.bl ag),y1,y2,y3]∧Same H H'∧MxAt H' l ps ns.length M∧MkR ns M∧(ag=false→ClM ns M ns.length 0)∧m=2*cntM ns.length M+(if ag then 1 else 0)) _ ⟨M0 ns,true,_,_,_,rfl,s2.trans s3,mx0,c54 hh,(fun e=>by cases e),rfl⟩ ?_
   rintro m σ H4 ⟨M,ag,y1,y2,y3,rfl,s4,mx,mk,cl,rfl⟩
   walk_at "run"
   cases ag with
   | false =>
     walk_at "run"
     exact q l H4 ps M s4 mx fun a b ha hb=>mk.iff gk (cl rfl) ha hb
   | true =>
     obtain ⟨Pv,hPv⟩:∃ Pv:Nat→Nat→St→Hp→Prop,Pv=fun k j σ H'=>∃ (M':Nat→Nat→Bool) (ag:Bool) (y1 y2 y3:Option V),σ=[some (.ref n),some (.int (ns.length:Nat)),some (.ref l),some (.bl ag),y1,y2,y3]∧Same H H'∧MxAt H' l ps ns.length M'∧MkR ns M'∧(ag=false→ClM ns M' k j)∧cntM ns.length M'≤cntM ns.length M∧(ag=true→cntM ns.length M'<cntM ns.length M):=⟨_,rfl⟩
     refine ⟨Pv ns.length 0,fun σ' H' hP=>?_,?_⟩
     · rw [hPv] at hP
       obtain ⟨M',ag,z1,z2,z3,e,a1,a2,a3,a4,a5,a6⟩:=hP
       refine ⟨_,?_,M',ag,z1,z2,z3,e,a1,a2,a3,a4,rfl⟩
       cases ag with
       | false=>simp; omega
       | true=>have:=a6 rfl; simp; omega
     walk_at "run"
     refine ab5 (lo:=0) (n:=ns.length) (fun k=>Pv k 0) ?_ ?_ fun σ H' h=>h
     · rw [hPv]
       exact ⟨M,false,_,_,_,rfl,s4,mx,mk,fun _ k j hk hj h=>by omega,Nat.le_refl _,fun e=>by cases e⟩
     rintro k σ H5 hk hP
     rw [Int.zero_add]
     rw [hPv] at hP
     obtain ⟨M1,ag1,z1,z2,z3,rfl,a1,a2,a3,a4,a5,a6⟩:=hP
     walk_at "run"
     refine ab5 (lo:=0) (n:=k) (fun j σ H'=>∃ (M':Nat→Nat→Bool) (ag:Bool) (y2 y3:Option V),σ=[some (.ref n),some (.int (ns.length:Nat)),some (.ref l),some (.bl ag),some (.int (k:Nat)),y2,y3]∧Same H H'∧MxAt H' l ps ns.length M'∧MkR ns M'∧(ag=false→ClM ns M' k j)∧cntM ns.length M'≤cntM ns.length M∧(ag=true→cntM ns.length M'<cntM ns.length M)) ⟨M1,ag1,_,_,rfl,a1,a2,a3,a4,a5,a6⟩ ?_ ?_
     rotate_left
     · rintro σ H6 ⟨M2,ag2,y2,y3,rfl,b1,b2,b3,b4,b5,b6⟩
       rw [hPv]
       exact ⟨M2,ag2,_,_,_,rfl,b1,b2,b3,fun e a b ha hb h=>b4 e a b ha hb (by omega),b5,b6⟩
     rintro j σ H6 hj ⟨M2,ag2,y2,y3,rfl,b1,b2,b3,b4,b5,b6⟩
     rw [Int.zero_add]
     have hjn:j<ns.length:=by omega
     obtain ⟨pk,hpk,hrk,hk2⟩:=b2.get hk
     walk_at "run"
     refine a49 (SqL.of b2.top) (a02 hrk) ?_
     walk_at "run"
     refine a49 (SqL.of hk2) (a02 (ak5 hjn)) ?_
     walk_at "run"
     cases hm:M2 k j with
     | true =>
       walk_at "run"
       refine ⟨M2,ag2,_,_,rfl,b1,b2,b3,fun e a b ha hb h hM=>?_,b5,b6⟩
       refine b4 e a b ha hb ?_ hM
       rcases h with h | ⟨h1,h2⟩
       · exact .inl h
       · refine .inr ⟨h1,?_⟩
         by_cases hbj:b=j
         · rw [h1,hbj,hm] at hM
           cases hM
         · omega
     | false =>
       have s06:=b1
       obtain ⟨xk,hxk,hxkt⟩:=node s06 hk
       obtain ⟨xj,hxj,hxjt⟩:=node s06 hjn
       have lk:=(nlt hk).2
       have lj:=(nlt hjn).2
       have hlab:(ns.map labS)[k]?=(ns.map labS)[j]?:=Classical.not_not.mp fun z=>by
        rw [b3.lab k j hk hjn z] at hm
        cases hm
       have np:=nwP gk hh
       have har:(ns.getD k .back).nexts.length=(ns.getD j .back).nexts.length:=np.eq k j hk hjn hlab
       walk_at "run"
       unfold tLZ
       walk_at "run"
       refine a49 (SqL.of (s06 _ _ g4)) (a02 hxk) ?_
       walk_at "run"
       refine ⟨xk,ns.getD k .back,rfl,hxkt,by omega,fun l1 H7 f7 s7 e7=>?_⟩
       walk_at "run"
       refine a49 (SqL.of ((s06.trans s7) _ _ g4)) (a02 hxj) ?_
       walk_at "run"
       refine ⟨xj,ns.getD j .back,rfl,hxjt.same s7,by omega,fun l2 H8 f8 s8 e8=>?_⟩
       refine ⟨l1,l2,_,_,rfl,SqL.of (s8 _ _ e7),SqL.of e8,fun lz acc H9 f9 s9 e9 zp=>?_⟩
       rw [a08,a08,←har,Nat.min_self] at zp
       have s69:=s7.trans (s8.trans s9)
       have b29:=b2.same s69
       have ww:∀ {a t:Nat}{v:V},(natsV (ns.getD a .back).nexts)[t]?=some v→v=.int (wwN ns a t:Nat):=fun {a t v} e=>by
        simp only [natsV,List.getElem?_map] at e
        obtain ⟨z,h1,h2⟩:=Option.map_eq_some_iff.mp e
        unfold wwN
        rw [h1,←h2]
        rfl
       walk_at "run"
       refine ⟨⟨_,SqL.of e9⟩,bf7 (xs:=acc) (by rw [zp.1]; omega) (fun i ac H'=>H9=H'∧ac=blsV ((List.range i).map fun t=>M2 (wwN ns k t) (wwN ns j t))) ⟨rfl,rfl⟩ (fun i ac H' ⟨e0,e⟩=>⟨by rw [e]; simp [blsV],e0 ▸ SqL.of e9⟩) ?_ ?_⟩
       · rintro i x ac H' hx ⟨rfl,rfl⟩
         have hil:i<(ns.getD k .back).nexts.length:=by rw [← zp.1]; exact (List.getElem?_eq_some_iff.mp hx).1
         obtain ⟨p,x1,x2,e1,hp,h1,h2⟩:=zp.2 i hil
         rw [hx] at e1
         cases e1
         cases ww h1
         cases ww h2
         refine ⟨p,_,_,rfl,SqT.of hp,?_⟩
         walk_at "run"
         obtain ⟨pr,hpr,hrr,hr2⟩:=b29.get (b53 gk k i hk)
         refine a49 (SqL.of b29.top) (a02 hrr) ?_
         walk_at "run"
         refine a49 (SqL.of hr2) (a02 (ak5 (b53 gk j i hjn))) ?_
         exact ⟨rfl,by simp [blsV,List.range_succ]⟩
       rintro ac H' ⟨rfl,rfl⟩ p10 H10 f10 s10 e10
       rw [zp.1] at e10
       have s610:=s69.trans s10
       have s010:=s06.trans s610
       have b210:=b2.same s610
       walk_at "run"
       refine c51 (SqL.of e10) ?_
       walk_at "run"
       cases hany:((List.range (ns.getD k .back).nexts.length).map fun t=>M2 (wwN ns k t) (wwN ns j t)).any id with
       | false =>
         refine ⟨M2,ag2,_,_,rfl,s010,b210,b3,fun e a b ha hb h hM=>?_,b5,b6⟩
         by_cases hab:a=k∧b=j
         · intro t ht
           rw [hab.1,hab.2]
           by_cases hta:t<(ns.getD k .back).nexts.length
           · rw [List.any_eq_false] at hany
             have:=hany _ (List.mem_map_of_mem (List.mem_range.mpr hta))
             simpa using this
           · rw [np.pad k t hk (by omega),np.pad j t hjn (by rw [← har]; omega)]
             exact hm
         · exact b4 e a b ha hb (by omega) hM
       | true =>
         obtain ⟨t,ht,hMt⟩:∃ t,t<(ns.getD k .back).nexts.length∧M2 (wwN ns k t) (wwN ns j t)=true:=by
          obtain ⟨z,hz,hz2⟩:=List.any_eq_true.mp hany
          obtain ⟨t,ht,rfl⟩:=List.mem_map.mp hz
          exact ⟨t,List.mem_range.mp ht,hz2⟩
         have hap:ApartR (fun a=>(ns.map labS)[a]?) (wwN ns) 4 k j:=ApartR.cons (j:=t) (by omega) (b3.sd _ _ (b53 gk k t hk) (b53 gk j t hjn) hMt)
         obtain ⟨pk,hpk,hrk,hk2⟩:=b210.get hk
         have mx1:=b210.put (j:=j) hpk
         have sx1:=s010.updNew (o:=.lst ((rowV ns.length (M2 k)).set j (.bl true))) (pf hpk)
         walk_at "run"
         refine a49 (SqL.of b210.top) (a02 hrk) ?_
         walk_at "run"
         refine ai0 hk2 (j:=j) (by unfold ixN; rw [if_pos (by omega),if_pos (by rw [ac9]; omega)]; simp) ?_
         generalize upd H10 pk (.lst ((rowV ns.length (M2 k)).set j (.bl true)))=HA at mx1 sx1 ⊢
         obtain ⟨pj,hpj,hrj,hj2⟩:=mx1.get hjn
         have mx2:=mx1.put (j:=k) hpj
         have sx2:=sx1.updNew (o:=.lst ((rowV ns.length (mput M2 k j j)).set k (.bl true))) (pf hpj)
         walk_at "run"
         refine a49 (SqL.of mx1.top) (a02 hrj) ?_
         walk_at "run"
         refine ai0 hj2 (j:=k) (by unfold ixN; rw [if_pos (by omega),if_pos (by rw [ac9]; omega)]; simp) ?_
         walk_at "run"
         have hc:=bs2 hk hjn hm
         exact ⟨_,true,_,_,rfl,sx2,mx2,b3.put (by omega) hap,fun e=>(by cases e),by omega,fun _=>by omega⟩
theorem at4 (g:Nat→Bool) (i:Nat):(List.range (i+1)).filter g=(List.range i).filter g++(if g i=true then [i] else []):=by
 rw [List.range_succ,List.filter_append]
 by_cases h:g i=true <;> simp [h]
theorem bs3 {ns:List Nd}{i:Nat}:¬ ApartR (fun a=>(ns.map labS)[a]?) (wwN ns) 4 i i:=fun ⟨_,_,h⟩=>h.irr
theorem c08 (T:Txt K mg t):FnOk P w K mg base CX0 8 t.a_law t.fd_law ["script"] (al0 K):=by
 have G__law_copied:=aq4 (P:=P) (w:=w) (base:=base) T
 have G__law_new:=b52 (P:=P) (w:=w) (base:=base) T
 have G__law_part:=ax1 (P:=P) (w:=w) (base:=base) T
 have G_share:=bi6 (P:=P) (w:=w) (base:=base) T
 refine T.F_law.ok sc_law (fun vs H Q E h=>?_) (fun cdv A outer s H vs Q E hr h=>?_)
 · obtain ⟨a,ns,rfl,_⟩:=h
   rfl
 · obtain ⟨a0,is,rfl,hS,hl,q⟩:=h
   refine ⟨_,(@a03 _ _ _ _ _ (@a45 _ _ 1 _ _ _ _ sc_law.nd rfl (by walk_at "o") (@a50 _ _ _ _ _ _ _ _ _ _ _ _ _ _ _ _ G__law_copied (hr.mono (by omega)) rfl T.m__law_copied T.F__law_copied.kp T.b__law_copied .nil a85 (@a00 _ _ _ _ _ (pv 0) (@a04 _) (by rfl)) (by decide) (by rfl) (by rfl)) (by rfl) (by walk_at "o"))
    (@a03 _ _ _ _ _ (@ag3 _ _ _ _ _ _ (pv 1) (ab2 K (n:=3) rfl (a54 (a38 (i:=2) sc_law.nd rfl (by walk_at "o")) (a54 (a38 (i:=3) sc_law.nd rfl (by walk_at "o")) (a54 (a38 (i:=4) sc_law.nd rfl (by walk_at "o")) (@ab0 _))))) (by rfl) (by rfl) (by rfl))
    (@a03 _ _ _ _ _ (@a45 _ _ 5 _ _ _ _ sc_law.nd rfl (by walk_at "o") (@a50 _ _ _ _ _ _ _ _ _ _ _ _ _ _ _ _ G__law_part (hr.mono (by omega)) rfl T.m__law_part T.F__law_part.kp T.b__law_part .nil a85 (@a00 _ _ _ _ _ (pv 3) (@a04 _) (by rfl)) (by decide) (by rfl) (by rfl)) (by rfl) (by walk_at "o"))
    (@a03 _ _ _ _ _ (@a45 _ _ 6 _ _ _ _ sc_law.nd rfl (by walk_at "o") (@a52 _ _ _ _ (@a04 _)) (by rfl) (by walk_at "o"))
    (@a03 _ _ _ _ _ (@a45 _ _ 7 _ _ _ _ sc_law.nd rfl (by walk_at "o") (@a52 _ _ _ _ (@a04 _)) (by rfl) (by walk_at "o"))
    (@a03 _ _ _ _ _ (@aa1 _ _ _ _ _ _ _ _ PassesOwn.never rfl (aa0 rfl T.z_range (@a00 _ _ _ _ _ (@a77 _ _ _ _ _ _ _ _ _ (ab1 K) (by rfl) T.z_len ab6 (@a00 _ _ _ _ _ (pv 3) (@a04 _) (by rfl)) (by decide) (by decide) (by rfl) (by rfl)) (@a04 _) (by rfl))) (a38 (i:=8) sc_law.nd rfl (by walk_at "o")) (@a03 _ _ _ _ _ (b79 (i:=9) (Nt:=["place"]) (Nf:=["part","number","firsts_v"]) (caps:=[5,8,7]) rfl (a83 (sc:=defScope aj0) rfl rfl (by decide +kernel) (by decide +kernel) (by decide +kernel) rfl (by decide +kernel)) (aa0 rfl T.z_range (@a00 _ _ _ _ _ (@a77 _ _ _ _ _ _ _ _ _ (ab1 K) (by rfl) T.z_len ab6 (@a00 _ _ _ _ _ (pv 7) (@a04 _) (by rfl)) (by decide) (by decide) (by rfl) (by rfl)) (@a04 _) (by rfl))) (fun _ _ _ _ _=>(a38 (i:=0) (show (["place","part","number","firsts_v"]:List Str).Nodup by decide +kernel) rfl (by walk_at "o"))) (fun _ _ _ _ _=>(@b78 _ _ _ (@b58 _ _ _ _ (aj1 K (@a29 _ _ _ _ _ _ _ (a07 K) (@a29 _ _ _ _ _ _ _ (a07 K) (pv 1) (pv 2) (fun _ _=>rfl)) (@a29 _ _ _ _ _ _ _ (a07 K) (pv 3) (pv 0) (fun _ _=>rfl)) (fun _ _=>rfl)) (fun _=>rfl))))) (fun _ _ _ _ _=>(pv 0)) sc_law.nd rfl (by walk_at "o") rfl)
     (@a05 _ _ _ (@a68 _ _ _ _ _ _ _ _ (@a36 _ _ _ _ _ _ _ _ (b98 K (by exact hr.units)) (pv 9) (@a52 _ _ _ _ (@a04 _)) (nomark _)) (@a03 _ _ _ _ _ (@a67 _ _ _ _ (@aa7 _ K _ _ _ _ _ _ _ _ _ _ _ PySem.F.plainAttrs_list PySem.F.slot_list_append PySem.F.type_list_append a70 (pv 7) (@a00 _ _ _ _ _ (pv 8) (@a04 _) (by rfl)) (by rfl) (by rfl) (by rfl) (by rfl) (by rfl) (by rfl)) (by rfl))
      (@a05 _ _ _ (@a67 _ _ _ _ (@aa7 _ K _ _ _ _ _ _ _ _ _ _ _ PySem.F.plainAttrs_list PySem.F.slot_list_append PySem.F.type_list_append a70 (pv 6) (@a00 _ _ _ _ _ (@a31 _ _ _ _ _ _ _ _ ai7 (@a77 _ _ _ _ _ _ _ _ _ (ab1 K) (by rfl) T.z_len ab6 (@a00 _ _ _ _ _ (pv 7) (@a04 _) (by rfl)) (by decide) (by decide) (by rfl) (by rfl)) (@a01 _ _ _ _)) (@a04 _) (by rfl)) (by rfl) (by rfl) (by rfl) (by rfl) (by rfl) (by rfl)) (by rfl)))) (@a05 _ _ _ (@a67 _ _ _ _ (@aa7 _ K _ _ _ _ _ _ _ _ _ _ _ PySem.F.plainAttrs_list PySem.F.slot_list_append PySem.F.type_list_append a70 (pv 6) (@a00 _ _ _ _ _ (@a29 _ _ _ _ _ _ _ (a07 K) (pv 9) (@a01 _ _ _ _) (fun _ _=>rfl)) (@a04 _) (by rfl)) (by rfl) (by rfl) (by rfl) (by rfl) (by rfl) (by rfl)) (by rfl)))))) (by intro _; rfl))
    (@a03 _ _ _ _ _ (@a45 _ _ 10 _ _ _ _ sc_law.nd rfl (by walk_at "o") (@a33 _ _ _ _ _ (@a00 _ _ _ _ _ (@a78 _ _ _ _ _ _ _ _ _ (ao0 K) (by rfl) T.z_list af3 (@a00 _ _ _ _ _ (pv 2) (@a04 _) (by rfl)) (by decide) (by decide) (by rfl) (by rfl)) (@a00 _ _ _ _ _ (@a78 _ _ _ _ _ _ _ _ _ (ao0 K) (by rfl) T.z_list af3 (@a00 _ _ _ _ _ (pv 3) (@a04 _) (by rfl)) (by decide) (by decide) (by rfl) (by rfl)) (@a00 _ _ _ _ _ (pv 4) (@a04 _) (by rfl)) (by rfl)) (by rfl))) (by rfl) (by walk_at "o"))
    (@a03 _ _ _ _ _ (@a45 _ _ 11 _ _ _ _ sc_law.nd rfl (by walk_at "o") (@a33 _ _ _ _ _ (@a00 _ _ _ _ _ (@a33 _ _ _ _ _ (@a00 _ _ _ _ _ (pv 2) (@a00 _ _ _ _ _ (ae4 (Nt:=["number"]) (Nf:=["nodes","where"]) (caps:=[3,6]) rfl (a83 (sc:=defScope aj0) rfl rfl (by decide +kernel) (by decide +kernel) (by decide +kernel) rfl (by decide +kernel)) (a59 K (pv 7)) (fun _ _ _ _ _=>(a38 (i:=0) (show (["number","nodes","where"]:List Str).Nodup by decide +kernel) rfl (by walk_at "o"))) (fun _ _ _ _ _=>(@a82 _)) (fun _ _ _ _ _=>(@a50 _ _ _ _ _ _ _ _ _ _ _ _ _ _ _ _ G__law_new (hr.mono (by omega)) rfl T.m__law_new T.F__law_new.kp T.b__law_new .nil a85 (@a00 _ _ _ _ _ (@a29 _ _ _ _ _ _ _ (a07 K) (pv 1) (pv 0) (fun _ _=>rfl)) (@a00 _ _ _ _ _ (pv 2) (@a04 _) (by rfl)) (by rfl)) (by decide) (by rfl) (by rfl)))) (@a00 _ _ _ _ _ (@a29 _ _ _ _ _ _ _ (a07 K) (pv 6) (pv 4) (fun _ _=>rfl)) (@a04 _) (by rfl)) (by rfl)) (by rfl))) (@a00 _ _ _ _ _ (pv 6) (@a04 _) (by rfl)) (by rfl))) (by rfl) (by walk_at "o"))
    (@a03 _ _ _ _ _ (@a45 _ _ 12 _ _ _ _ sc_law.nd rfl (by walk_at "o") (@a50 _ _ _ _ _ _ _ _ _ _ _ _ _ _ _ _ G_share (hr.mono (by omega)) rfl T.m_share T.F_share.kp T.b_share .nil a85 (@a00 _ _ _ _ _ (pv 10) (@a04 _) (by rfl)) (by decide) (by rfl) (by rfl)) (by rfl) (by walk_at "o"))
    (@a03 _ _ _ _ _ (@a68 _ _ _ _ _ _ _ _ (@PW.pt _ _ _ (@ak6 _ _ _ _ _ _ _ (@b58 _ _ _ _ (aj1 K (@a77 _ _ _ _ _ _ _ _ _ (bn3 K) (by rfl) T.z_isinstance ao2 (@a00 _ _ _ _ _ (pv 12) (@a00 _ _ _ _ _ (bl3 (v:=.ty "tuple") (by rfl) T.z_tuple ae1 rfl) (@a04 _) (by rfl)) (by rfl)) (by decide) (by decide) (by rfl) (by rfl)) (fun _=>rfl))) (@ak6 _ _ _ _ _ _ _ (@a36 _ _ _ _ _ _ _ _ (b88 (by exact hr.units)) (pv 12) (pv 11) (nomark _)) (@ah7 _ _ _ _ (@a36 _ _ _ _ _ _ _ _ (b88 (by exact hr.units)) (pv 10) (pv 1) (nomark _)))))) (@a05 _ _ _ (@a41 _ _ _ _ (@aq7 _ _ _ _))) (@a40 _))
    (@a03 _ _ _ _ _ (@a67 _ _ _ _ (@aa7 _ K _ _ _ _ _ _ _ _ _ _ _ PySem.F.plainAttrs_list PySem.F.slot_list_append PySem.F.type_list_append a70 (@a29 _ _ _ _ _ _ _ (a09 K) (@a29 _ _ _ _ _ _ _ (a09 K) (pv 12) (@a01 _ _ _ _) (fun _ _=>rfl)) (@a01 _ _ _ _) (fun _ _=>rfl)) (@a00 _ _ _ _ _ (@a33 _ _ _ _ _ (@a00 _ _ _ _ _ (@a28 _ _ _ _) (@a04 _) (by rfl))) (@a04 _) (by rfl)) (by rfl) (by rfl) (by rfl) (by rfl) (by rfl) (by rfl)) (by rfl))
    (@a03 _ _ _ _ _ (@a67 _ _ _ _ (ao1 K PySem.F.plainAttrs_list PySem.F.slot_list_clear PySem.F.type_list_clear ax7 (@a29 _ _ _ _ _ _ _ (a09 K) (@a29 _ _ _ _ _ _ _ (a09 K) (pv 12) (@a01 _ _ _ _) (fun _ _=>rfl)) (@a01 _ _ _ _) (fun _ _=>rfl))) (by rfl))
    (@a03 _ _ _ _ _ (@a67 _ _ _ _ (ao1 K PySem.F.plainAttrs_list PySem.F.slot_list_clear PySem.F.type_list_clear ax7 (@a29 _ _ _ _ _ _ _ (a09 K) (pv 12) (@a01 _ _ _ _) (fun _ _=>rfl))) (by rfl))
    (@a05 _ _ _ (@a41 _ _ _ _ (@bt1 _ _ _ _ _ _ _ (@at7 _ _ _ _ _ _ _ _ (b84 (by exact hr.units)) (@a50 _ _ _ _ _ _ _ _ _ _ _ _ _ _ _ _ G_share (hr.mono (by omega)) rfl T.m_share T.F_share.kp T.b_share .nil a85 (@a00 _ _ _ _ _ (pv 10) (@a04 _) (by rfl)) (by decide) (by rfl) (by rfl)) (pv 11) (nomark _)) (@bt0 _ _ _ _ _ (@at7 _ _ _ _ _ _ _ _ (b84 (by exact hr.units)) (pv 10) (pv 1) (nomark _))))))))))))))))))),?_⟩
   have sl:(1000000:Nat)≤sizeLine:=le_line (Nat.le_refl _)
   walk_at "go"
   refine ⟨a0,is,rfl,hS,fun v H1 bs ds f b n s1 hg gk hh hn hbl=>?_⟩
   obtain ⟨ga,ub,un,rfl,g1,g2,g3,g4,g5⟩:=hg.ex
   have hul:un.length=ds.length:=by rw [g5.len,List.length_map]
   walk_at "run"
   refine ⟨ga,_,rfl,SqT.of g1,rfl,_,_,rfl,_,_,rfl,_,_,rfl,rfl,?_⟩
   walk_at "run"
   refine ⟨n,un,ds,f,rfl,g4,g5,gk,hh,hn,fun l H2 ps M s2 mx hM=>?_⟩
   walk_at "run"
   intro pw H3 f3 s3 e3
   walk_at "run"
   intro pf H4 f4 s4 e4
   have s14:=s2.trans (s3.trans s4)
   have hwf:pw≠pf:=fun z=>by rw [z] at e3; rw [e3] at f4; cases f4
   walk_at "run"
   refine ae9 (SqL.of (s14 _ _ g4)) ?_
   walk_at "run"
   rw [hul]
   refine ab5 (lo:=0) (n:=ds.length) (fun i σ H'=>∃ (fv W:List Nat) (y1 y2:Option V),σ=[some (.ref a0),some (.ref ga),some (.ref b),some (.ref n),some (.int (f:Nat)),some (.ref l),some (.ref pw),some (.ref pf),y1,y2,none,none,none]∧Same H2 H'∧H' pw=some (.lst (natsV W))∧H' pf=some (.lst (natsV fv))∧WhR (ApartR (fun a=>(ds.map labS)[a]?) (wwN ds) 4) i fv W) ⟨[],[],_,_,rfl,s3.trans s4,s4 _ _ e3,e4,WhR.zero⟩ ?_ ?_
   · rintro i σ H5 hi ⟨fv,W,y1,y2,rfl,s5,ew,ef,hW⟩
     rw [Int.zero_add]
     have hfl:fv.length≤i:=by
      have h1:=congrArg List.length hW.firsts
      have h2:=ac7 W
      rw [List.length_map] at h1
      rw [hW.len] at h2
      omega
     have hWl:=hW.len
     walk_at "run"
     refine ae9 (SqL.of ef) ?_
     walk_at "run"
     rw [a08]
     have m5:=mx.same s5
     obtain ⟨pk,hpk,hrk,hk2⟩:=m5.get hi
     refine ⟨by omega,by omega,am9 (lo:=0) (n:=fv.length) (by omega) (fun j acc H'=>H5=H'∧acc=natsV ((List.range j).filter fun p=>!M i (fv.getD p 0))) ⟨rfl,rfl⟩ (fun j acc H' ⟨_,e⟩=>by rw [e,a08]; exact Nat.le_trans (List.length_filter_le _ _) (by simp)) ?_ ?_⟩
     · rintro j acc H' hj ⟨rfl,rfl⟩
       rw [Int.zero_add]
       have hy:fv[j]?=some (fv.getD j 0):=by rw [List.getD_eq_getElem?_getD,List.getElem?_eq_getElem hj]; rfl
       have hy1:=(hW.fr j _ hy).1
       walk_at "run"
       refine a49 (SqL.of m5.top) (a02 hrk) ?_
       walk_at "run"
       refine a49 (SqL.of ef) (a02 (j:=j) (by simp only [natsV,List.getElem?_map,hy]; rfl)) ?_
       walk_at "run"
       refine a49 (SqL.of hk2) (a02 (ak5 (by omega))) ?_
       walk_at "run"
       cases hm:M i (fv.getD j 0) with
       | true =>
         walk_at "run"
         exact ⟨rfl,by rw [at4,if_neg (by rw [hm]; simp),List.append_nil]⟩
       | false =>
         walk_at "run"
         exact ⟨rfl,by rw [at4,if_pos (by rw [hm]; rfl)]; exact a53 _ _⟩
     rintro acc H' ⟨rfl,rfl⟩ p6 H6 f6 s6 e6
     walk_at "run"
     intro p7 H7 f7 s7 e7
     refine bo5 (SqL.of (s7 _ _ e6)) (SqL.of e7) ?_
     walk_at "run"
     have s57:=s6.trans s7
     have s27:=s5.trans s57
     cases hf:(List.range fv.length).filter fun p=>!M i (fv.getD p 0) with
     | nil =>
       rw [if_pos (show (natsV []).isEmpty=true from rfl)]
       walk_at "run"
       refine ab3 (SqL.of (s57 _ _ ef)) ?_
       walk_at "run"
       refine a84 (s57 _ _ ef) (by rw [a08]; omega) ?_
       walk_at "run"
       have ew8:upd H7 pf (.lst (natsV fv++[.int (i:Nat)])) pw=some (.lst (natsV W)):=by rw [a06 hwf]; exact s57 _ _ ew
       refine ab3 (SqL.of ew8) ?_
       walk_at "run"
       refine ae9 (SqL.of a27) ?_
       walk_at "run"
       refine a84 ew8 (by rw [a08]; omega) ?_
       have e9:(((natsV fv++[V.int (i:Nat)]).length:Nat):Int) - 1=(fv.length:Nat):=by
        rw [List.length_append,a08]
        simp
       rw [e9]
       refine ⟨fv++[i],W++[fv.length],_,_,rfl,(s27.updNew (s3.free f4)).updNew f3,by rw [a27,a53],by rw [a06 hwf.symm,a27,a53],hW.new bs3 (fun a b=>b02) fun p y e=>?_⟩
       have hp:p<fv.length:=(List.getElem?_eq_some_iff.mp e).1
       have hy1:=(hW.fr p _ e).1
       have:=List.filter_eq_nil_iff.mp hf p (List.mem_range.mpr hp)
       rw [List.getD_eq_getElem?_getD,e] at this
       exact (hM i y hi (by omega)).mp (by simpa using this)
     | cons p r =>
       rw [if_neg (by simp [natsV])]
       walk_at "run"
       have hp:p∈(List.range fv.length).filter fun p=>!M i (fv.getD p 0):=by rw [hf]; simp
       obtain ⟨hp1,hp2⟩:=List.mem_filter.mp hp
       have hpl:=List.mem_range.mp hp1
       have hy:fv[p]?=some (fv.getD p 0):=by rw [List.getD_eq_getElem?_getD,List.getElem?_eq_getElem hpl]; rfl
       have hy1:=(hW.fr p _ hy).1
       have hne:¬ ApartR (fun a=>(ds.map labS)[a]?) (wwN ds) 4 i (fv.getD p 0):=fun z=>by
        rw [(hM i _ hi (by omega)).mpr z] at hp2
        simp at hp2
       rw [hf] at e6
       refine ab3 (SqL.of (s57 _ _ ew)) ?_
       walk_at "run"
       refine a49 (SqL.of (s7 _ _ e6)) (a02 (j:=0) rfl) ?_
       walk_at "run"
       refine a84 (s57 _ _ ew) (by rw [a08]; omega) ?_
       exact ⟨fv,W++[p],_,_,rfl,s27.updNew f3,by rw [a27]; exact congrArg (fun x=>some (HO.lst x)) (a53 _ _),by rw [a06 hwf.symm]; exact s57 _ _ ef,hW.old hy hne⟩
   rintro σ H5 ⟨fv,W,y1,y2,rfl,s5,ew,ef,hW⟩
   have eSh:=hW.shF
   have eF:=hW.firsts
   have hWl:=hW.len
   have hfl:fv.length≤ds.length:=by
    have h1:=congrArg List.length eF
    have h2:=ac7 W
    rw [List.length_map] at h1
    omega
   have s15:=s2.trans s5
   have g1:=s15 _ _ g1
   have g2:=s15 _ _ g2
   have g3:=g3.same s15
   have g4:=s15 _ _ g4
   have g5:=g5.same s15
   walk_at "run"
   refine au3 (SqL.of g2) ?_
   intro hb H6 f6 s6 e6
   walk_at "run"
   refine au3 (SqL.of (s6 _ _ g4)) ?_
   intro hn' H7 f7 s7 e7
   walk_at "run"
   intro ph H8 f8 s8 e8
   walk_at "run"
   have s58:=s6.trans (s7.trans s8)
   have ef8:=s58 _ _ ef
   have ew8:=s58 _ _ ew
   refine ⟨⟨_,SqL.of ef8⟩,aa2 (xs:=natsV fv) (by rw [a08]; omega) (fun i acc H'=>Same H8 H'∧acc.length=i∧i≤fv.length∧Tr.Ats H' ((leftN ds (fv.take i) W).map Nd.tr) acc []) ⟨Same.refl _,rfl,Nat.zero_le _,ats_nil0.mpr rfl⟩ (fun i acc H' ⟨s',e,_⟩=>⟨by omega,SqL.of (s' _ _ ef8)⟩) ?_ ?_⟩
   · rintro i x acc H9 hx ⟨s9,ea,hi,hat⟩
     obtain ⟨k,hk,rfl⟩:∃ k:Nat,fv[i]?=some k∧x=.int (k:Nat):=by
      simp only [natsV,List.getElem?_map] at hx
      obtain ⟨k,h1,h2⟩:=Option.map_eq_some_iff.mp hx
      exact ⟨k,h1,h2.symm⟩
     have hkl:k<ds.length:=(hW.fr i k hk).1
     obtain ⟨x,hx⟩:∃ x,un[k]?=some x:=⟨_,List.getElem?_eq_getElem (by omega)⟩
     have s59:=s58.trans s9
     have hxt:(ds.getD k .back).tr.At H9 x []:=by
      obtain ⟨t,ht,hxt⟩:=a97 (g5.same s59) hx
      rw [List.getElem?_map,aa3 hkl] at ht
      rw [← Option.some.inj ht] at hxt
      exact hxt
     have n1:=(gk.at_ _ _ (aa3 hkl)).lt
     have n2:=bi4 (gk.at_ _ _ (aa3 hkl))
     walk_at "run"
     refine a49 (SqL.of (s59 _ _ g4)) (a02 hx) ?_
     walk_at "run"
     refine ⟨x,pw,ds.getD k .back,W,rfl,hxt,s9 _ _ ew8,fun j hj=>by rw [hWl]; exact n1 j hj,by omega,fun v' H10 s10 hv=>?_⟩
     refine ⟨s9.trans s10,by simp [ea],(List.getElem?_eq_some_iff.mp hk).1,?_⟩
     rw [List.take_add_one,hk,Option.toList_some]
     unfold leftN at hat ⊢
     rw [List.map_append,List.map_append]
     exact aa8 (hat.same s10) hv
   rintro acc H9 ⟨s9,_,_,hac⟩ p10 H10 f10 s10 e10
   rw [a08,List.take_length] at hac
   have s810:=s9.trans s10
   have ff:=gk.first
   have efw:(natsV W)[f]?=some (.int (W.getD f 0:Nat)):=by
    simp only [natsV,List.getElem?_map,List.getD_eq_getElem?_getD,List.getElem?_eq_getElem (show f<W.length by omega)]
    rfl
   walk_at "run"
   refine a49 (SqL.of (s810 _ _ ew8)) (a02 efw) ?_
   walk_at "run"
   intro pg H11 f11 s11 e11
   walk_at "run"
   intro po H12 f12 s12 e12
   walk_at "run"
   have s812:=s810.trans (s11.trans s12)
   have s512:=s58.trans s812
   have hdue:OutAt H12 (.ref po) bs (leftN ds fv W) (W.getD f 0) W b p10 pw:=⟨po,pg,rfl,e12,⟨pg,ub,acc,rfl,s12 _ _ e11,s512 _ _ g2,g3.same s512,(s11.trans s12) _ _ e10,hac.same (s10.trans (s11.trans s12))⟩,s812 _ _ ew8⟩
   have hG:GAt H12 (.ref ph) bs ds f hb hn':=⟨ph,ub,un,rfl,s812 _ _ e8,(s7.trans (s8.trans s812)) _ _ e6,g3.same s512,(s8.trans s812) _ _ e7,g5.same s512⟩
   have hgr:GAt H12 (.ref ga) bs ds f b n:=⟨ga,ub,un,rfl,s512 _ _ g1,s512 _ _ g2,g3.same s512,s512 _ _ g4,g5.same s512⟩
   refine ⟨_,hb,hn',bs,ds,f,rfl,hG,gk,hh,hbl,hn,fun v13 H13 b5 n5 l5 s13 fb fn fl o5=>?_⟩
   rw [eSh,eF] at o5
   obtain ⟨a5,g5',rfl,x1,x2,x3⟩:=o5.ex
   obtain ⟨_,ub5,un5,hgr5,y1,y2,y3,y4,y5⟩:=x2.ex
   cases hgr5
   walk_at "run"
   walk_at "run"
   refine by1 x1 ?_
   walk_at "run"
   refine by3 o5.tree (hdue.mono s13).tree (Nat.le_trans (gk.left_hs _ _) (by decide)) ?_
   walk_at "run"
   refine by3 (hG.same s13).tree (hgr.same s13).tree (Nat.le_trans gk.ghs (by decide)) ?_
   walk_at "run"
   refine a32 (SqT.of x1) (a02 (j:=0) rfl) ?_
   walk_at "run"
   refine a32 (SqT.of y1) (a02 (j:=1) rfl) ?_
   walk_at "run"
   refine ab3 (SqL.of y4) ?_
   walk_at "run"
   intro p14 H14 f14 s14 e14
   walk_at "run"
   have hl5:un5.length≤100:=by
    have h1:=y5.len
    simp only [List.length_map,leftN] at h1
    omega
   have y47:=s14 _ _ y4
   refine a84 y47 (by omega) ?_
   walk_at "run"
   have t7:Tups H13 (upd H14 n5 (.lst (un5++[.ref p14]))):=s14.tups.trans (Tups.upd y47)
   refine a32 (SqT.of (t7 _ _ x1)) (a02 (j:=0) rfl) ?_
   walk_at "run"
   refine a32 (SqT.of (t7 _ _ y1)) (a02 (j:=0) rfl) ?_
   walk_at "run"
   obtain ⟨zs,hz⟩:=au9 (m:=n5) (zs:=un5++[.ref p14]) (s14 _ _ y2)
   refine ab3 (SqL.of hz) ?_
   walk_at "run"
   refine b87 hz ?_
   walk_at "run"
   have t8:Tups H13 (upd (upd H14 n5 (.lst (un5++[.ref p14]))) b5 (.lst [])):=t7.trans (Tups.upd hz)
   refine a32 (SqT.of (t8 _ _ x1)) (a02 (j:=1) rfl) ?_
   walk_at "run"
   obtain ⟨zs1,hz1⟩:=au9 (m:=n5) (zs:=un5++[.ref p14]) (s14 _ _ x3)
   obtain ⟨zs2,hz2⟩:=au9 (m:=b5) (zs:=[]) hz1
   refine ab3 (SqL.of hz2) ?_
   walk_at "run"
   refine b87 hz2 ?_
   walk_at "run"
   have sK:Same H12 (upd (upd (upd H14 n5 (.lst (un5++[.ref p14]))) b5 (.lst [])) l5 (.lst [])):=(((s13.trans s14).updNew fn).updNew fb).updNew fl
   generalize (upd (upd (upd H14 n5 (.lst (un5++[.ref p14]))) b5 (.lst [])) l5 (.lst []))=H15 at sK
   refine ⟨_,hb,hn',bs,ds,f,rfl,hG.same sK,gk,hh,hbl,hn,fun v16 H16 b16 n16 l16 s16 _ _ _ o16=>?_⟩
   rw [eSh,eF] at o16
   walk_at "run"
   refine bx6 o16.tree (hdue.mono (sK.trans s16)).tree (Nat.le_trans (gk.left_hs _ _) (by decide)) ?_
   walk_at "run"
   refine bx6 (hG.same (sK.trans s16)).tree (hgr.same (sK.trans s16)).tree (Nat.le_trans gk.ghs (by decide)) ?_
   exact q _
end
theorem af9 {us:List Value}{n:Nat}(h:us.length=n+1):∃ u r,us=u::r:=by
 cases us with
 | nil=>cases h
 | cons u r=>exact ⟨u,r,rfl⟩
theorem ag0 {us:List Value}(h:us.length=1):∃ u0,us=[u0]:=by
 obtain ⟨u0,us,rfl⟩:=af9 h; replace h:=Nat.succ.inj h
 obtain rfl:=List.length_eq_zero_iff.mp h
 exact ⟨u0,rfl⟩
theorem aq5 {us:List Value}(h:us.length=2):∃ u0 u1,us=[u0,u1]:=by
 obtain ⟨u0,us,rfl⟩:=af9 h; replace h:=Nat.succ.inj h
 obtain ⟨u1,us,rfl⟩:=af9 h; replace h:=Nat.succ.inj h
 obtain rfl:=List.length_eq_zero_iff.mp h
 exact ⟨u0,u1,rfl⟩
theorem c55 {us:List Value}(h:us.length=3):∃ u0 u1 u2,us=[u0,u1,u2]:=by
 obtain ⟨u0,us,rfl⟩:=af9 h; replace h:=Nat.succ.inj h
 obtain ⟨u1,us,rfl⟩:=af9 h; replace h:=Nat.succ.inj h
 obtain ⟨u2,us,rfl⟩:=af9 h; replace h:=Nat.succ.inj h
 obtain rfl:=List.length_eq_zero_iff.mp h
 exact ⟨u0,u1,u2,rfl⟩
theorem c56 {us:List Value}(h:us.length=4):∃ u0 u1 u2 u3,us=[u0,u1,u2,u3]:=by
 obtain ⟨u0,us,rfl⟩:=af9 h; replace h:=Nat.succ.inj h
 obtain ⟨u1,us,rfl⟩:=af9 h; replace h:=Nat.succ.inj h
 obtain ⟨u2,us,rfl⟩:=af9 h; replace h:=Nat.succ.inj h
 obtain ⟨u3,us,rfl⟩:=af9 h; replace h:=Nat.succ.inj h
 obtain rfl:=List.length_eq_zero_iff.mp h
 exact ⟨u0,u1,u2,u3,rfl⟩
theorem c57 {us:List Value}(h:us.length=5):∃ u0 u1 u2 u3 u4,us=[u0,u1,u2,u3,u4]:=by
 obtain ⟨u0,us,rfl⟩:=af9 h; replace h:=Nat.succ.inj h
 obtain ⟨u1,us,rfl⟩:=af9 h; replace h:=Nat.succ.inj h
 obtain ⟨u2,us,rfl⟩:=af9 h; replace h:=Nat.succ.inj h
 obtain ⟨u3,us,rfl⟩:=af9 h; replace h:=Nat.succ.inj h
 obtain ⟨u4,us,rfl⟩:=af9 h; replace h:=Nat.succ.inj h
 obtain rfl:=List.length_eq_zero_iff.mp h
 exact ⟨u0,u1,u2,u3,u4,rfl⟩
theorem all_mk {l:PySem.W.OpenLaw}{w:World}{K:PySem.W.Frag}{h:Heap}{mg:Str→Option Value}{fa:Addr}(X:K.In h) (G:h.Ns mainGlobals mg) (hfa:mg "law"=some (.ref fa))
 {C_Grouping:Addr}(aC_Grouping:PySem.W.nsIn K mainGlobals "Grouping"=some (some (.ref C_Grouping)))
 (pg_Grouping:PySem.W.plainGet K C_Grouping Str.empty=true) (hd_Grouping:PySem.W.hasDictIn K C_Grouping=true) (po_Grouping:PySem.W.plainOver K C_Grouping=true) (sa_Grouping:PySem.W.findIn K (.ref C_Grouping) "__setattr__"=some (some (.builtin "object.__setattr__"))) (mk_Grouping:PySem.W.makesIn K C_Grouping=true) (kc_Grouping:PySem.W.keepIn K (.ref C_Grouping)=true)
 (nF_Grouping_groups:PySem.W.findIn K (.ref C_Grouping) "groups"=some none)
 (nF_Grouping_members:PySem.W.findIn K (.ref C_Grouping) "members"=some none)
 (nF_Grouping_sources:PySem.W.findIn K (.ref C_Grouping) "sources"=some none)
 (nF_Grouping_touched:PySem.W.findIn K (.ref C_Grouping) "touched"=some none)
 (nF_Grouping_waiting:PySem.W.findIn K (.ref C_Grouping) "waiting"=some none)
 (nF_Grouping_ways:PySem.W.findIn K (.ref C_Grouping) "ways"=some none)
 {f0:Addr}{od0 an0:Option Addr}{sl0:Array (Option Value)}{oc0 kV0 dc0 pm0 cd0 ct0:Value}
 {f1:Addr}{od1 an1:Option Addr}{sl1:Array (Option Value)}{oc1 kV1 dc1 pm1 cd1 ct1:Value}
 {f2:Addr}{od2 an2:Option Addr}{sl2:Array (Option Value)}{oc2 kV2 dc2 pm2 cd2 ct2:Value}
 {f3:Addr}{od3 an3:Option Addr}{sl3:Array (Option Value)}{oc3 kV3 dc3 pm3 cd3 ct3:Value}
 {f4:Addr}{od4 an4:Option Addr}{sl4:Array (Option Value)}{oc4 kV4 dc4 pm4 cd4 ct4:Value}
 {f5:Addr}{od5 an5:Option Addr}{sl5:Array (Option Value)}{oc5 kV5 dc5 pm5 cd5 ct5:Value}
 {f6:Addr}{od6 an6:Option Addr}{sl6:Array (Option Value)}{oc6 kV6 dc6 pm6 cd6 ct6:Value}
 {f7:Addr}{od7 an7:Option Addr}{sl7:Array (Option Value)}{oc7 kV7 dc7 pm7 cd7 ct7:Value}
 {f8:Addr}{od8 an8:Option Addr}{sl8:Array (Option Value)}{oc8 kV8 dc8 pm8 cd8 ct8:Value}
 {f9:Addr}{od9 an9:Option Addr}{sl9:Array (Option Value)}{oc9 kV9 dc9 pm9 cd9 ct9:Value}
 {f10:Addr}{od10 an10:Option Addr}{sl10:Array (Option Value)}{oc10 kV10 dc10 pm10 cd10 ct10:Value}
 {f11:Addr}{od11 an11:Option Addr}{sl11:Array (Option Value)}{oc11 kV11 dc11 pm11 cd11 ct11:Value}
 {f12:Addr}{od12 an12:Option Addr}{sl12:Array (Option Value)}{oc12 kV12 dc12 pm12 cd12 ct12:Value}
 {f13:Addr}{od13 an13:Option Addr}{sl13:Array (Option Value)}{oc13 kV13 dc13 pm13 cd13 ct13:Value}
 {f14:Addr}{od14 an14:Option Addr}{sl14:Array (Option Value)}{oc14 kV14 dc14 pm14 cd14 ct14:Value}
 {f15:Addr}{od15 an15:Option Addr}{sl15:Array (Option Value)}{oc15 kV15 dc15 pm15 cd15 ct15:Value}
 {f16:Addr}{od16 an16:Option Addr}{sl16:Array (Option Value)}{oc16 kV16 dc16 pm16 cd16 ct16:Value}
 {f17:Addr}{od17 an17:Option Addr}{sl17:Array (Option Value)}{oc17 kV17 dc17 pm17 cd17 ct17:Value}
 {f18:Addr}{od18 an18:Option Addr}{sl18:Array (Option Value)}{oc18 kV18 dc18 pm18 cd18 ct18:Value}
 {f19:Addr}{od19 an19:Option Addr}{sl19:Array (Option Value)}{oc19 kV19 dc19 pm19 cd19 ct19:Value}
 {f20:Addr}{od20 an20:Option Addr}{sl20:Array (Option Value)}{oc20 kV20 dc20 pm20 cd20 ct20:Value}
 {f21:Addr}{od21 an21:Option Addr}{sl21:Array (Option Value)}{oc21 kV21 dc21 pm21 cd21 ct21:Value}
 {f22:Addr}{od22 an22:Option Addr}{sl22:Array (Option Value)}{oc22 kV22 dc22 pm22 cd22 ct22:Value}
 {f23:Addr}{od23 an23:Option Addr}{sl23:Array (Option Value)}{oc23 kV23 dc23 pm23 cd23 ct23:Value}
 {f24:Addr}{od24 an24:Option Addr}{sl24:Array (Option Value)}{oc24 kV24 dc24 pm24 cd24 ct24:Value}
 {f25:Addr}{od25 an25:Option Addr}{sl25:Array (Option Value)}{oc25 kV25 dc25 pm25 cd25 ct25:Value}
 {f26:Addr}{od26 an26:Option Addr}{sl26:Array (Option Value)}{oc26 kV26 dc26 pm26 cd26 ct26:Value}
 (a0:PySem.W.nsIn K mainGlobals "next_ones"=some (some (.ref f0))) (l0:K.lookup f0=some ⟨oc0,od0,.func (PySem.W.fnOf "next_ones" "next_ones" (defArgs a74) (defBody a74) (defScope a74) .none kV0 dc0 pm0 an0 cd0 ct0),sl0⟩) (c0:PySem.W.codeIn K cd0 "next_ones"=true) (k0:PySem.W.keepIn K (.ref f0)=true)
 (a1:PySem.W.nsIn K mainGlobals "renumbered"=some (some (.ref f1))) (l1:K.lookup f1=some ⟨oc1,od1,.func (PySem.W.fnOf "renumbered" "renumbered" (defArgs a62) (defBody a62) (defScope a62) .none kV1 dc1 pm1 an1 cd1 ct1),sl1⟩) (c1:PySem.W.codeIn K cd1 "renumbered"=true) (k1:PySem.W.keepIn K (.ref f1)=true)
 (a2:PySem.W.nsIn K mainGlobals "share"=some (some (.ref f2))) (l2:K.lookup f2=some ⟨oc2,od2,.func (PySem.W.fnOf "share" "share" (defArgs a98) (defBody a98) (defScope a98) .none kV2 dc2 pm2 an2 cd2 ct2),sl2⟩) (c2:PySem.W.codeIn K cd2 "share"=true) (k2:PySem.W.keepIn K (.ref f2)=true)
 (a3:PySem.W.nsIn K mainGlobals "put_together"=some (some (.ref f3))) (l3:K.lookup f3=some ⟨oc3,od3,.func (PySem.W.fnOf "put_together" "put_together" (defArgs a55) (defBody a55) (defScope a55) .none kV3 dc3 pm3 an3 cd3 ct3),sl3⟩) (c3:PySem.W.codeIn K cd3 "put_together"=true) (k3:PySem.W.keepIn K (.ref f3)=true)
 (a4:PySem.W.nsIn K mainGlobals "numbered"=some (some (.ref f4))) (l4:K.lookup f4=some ⟨oc4,od4,.func (PySem.W.fnOf "numbered" "numbered" (defArgs a86) (defBody a86) (defScope a86) .none kV4 dc4 pm4 an4 cd4 ct4),sl4⟩) (c4:PySem.W.codeIn K cd4 "numbered"=true) (k4:PySem.W.keepIn K (.ref f4)=true)
 (a5:PySem.W.nsIn K mainGlobals "counted"=some (some (.ref f5))) (l5:K.lookup f5=some ⟨oc5,od5,.func (PySem.W.fnOf "counted" "counted" (defArgs a95) (defBody a95) (defScope a95) .none kV5 dc5 pm5 an5 cd5 ct5),sl5⟩) (c5:PySem.W.codeIn K cd5 "counted"=true) (k5:PySem.W.keepIn K (.ref f5)=true)
 (a6:PySem.W.nsIn K mainGlobals "firsts"=some (some (.ref f6))) (l6:K.lookup f6=some ⟨oc6,od6,.func (PySem.W.fnOf "firsts" "firsts" (defArgs aa4) (defBody aa4) (defScope aa4) .none kV6 dc6 pm6 an6 cd6 ct6),sl6⟩) (c6:PySem.W.codeIn K cd6 "firsts"=true) (k6:PySem.W.keepIn K (.ref f6)=true)
 (a7:PySem.W.findIn K (.ref C_Grouping) "__init__"=some (some (.ref f7))) (i7:PySem.W.isFn K (.ref f7)=true) (l7:K.lookup f7=some ⟨oc7,od7,.func (PySem.W.fnOf "__init__" "Grouping.__init__" (defArgs a42) (defBody a42) (defScope a42) .none kV7 dc7 pm7 an7 cd7 ct7),sl7⟩) (c7:PySem.W.codeIn K cd7 "Grouping.__init__"=true) (k7:PySem.W.keepIn K (.ref f7)=true)
 (a8:PySem.W.findIn K (.ref C_Grouping) "part"=some (some (.ref f8))) (i8:PySem.W.isFn K (.ref f8)=true) (l8:K.lookup f8=some ⟨oc8,od8,.func (PySem.W.fnOf "part" "Grouping.part" (defArgs a51) (defBody a51) (defScope a51) .none kV8 dc8 pm8 an8 cd8 ct8),sl8⟩) (c8:PySem.W.codeIn K cd8 "Grouping.part"=true) (k8:PySem.W.keepIn K (.ref f8)=true)
 (a9:PySem.W.findIn K (.ref C_Grouping) "parts_of"=some (some (.ref f9))) (i9:PySem.W.isFn K (.ref f9)=true) (l9:K.lookup f9=some ⟨oc9,od9,.func (PySem.W.fnOf "parts_of" "Grouping.parts_of" (defArgs a43) (defBody a43) (defScope a43) .none kV9 dc9 pm9 an9 cd9 ct9),sl9⟩) (c9:PySem.W.codeIn K cd9 "Grouping.parts_of"=true) (k9:PySem.W.keepIn K (.ref f9)=true)
 (a10:PySem.W.findIn K (.ref C_Grouping) "led_groups"=some (some (.ref f10))) (i10:PySem.W.isFn K (.ref f10)=true) (l10:K.lookup f10=some ⟨oc10,od10,.func (PySem.W.fnOf "led_groups" "Grouping.led_groups" (defArgs a39) (defBody a39) (defScope a39) .none kV10 dc10 pm10 an10 cd10 ct10),sl10⟩) (c10:PySem.W.codeIn K cd10 "Grouping.led_groups"=true) (k10:PySem.W.keepIn K (.ref f10)=true)
 (a11:PySem.W.findIn K (.ref C_Grouping) "regroup"=some (some (.ref f11))) (i11:PySem.W.isFn K (.ref f11)=true) (l11:K.lookup f11=some ⟨oc11,od11,.func (PySem.W.fnOf "regroup" "Grouping.regroup" (defArgs a46) (defBody a46) (defScope a46) .none kV11 dc11 pm11 an11 cd11 ct11),sl11⟩) (c11:PySem.W.codeIn K cd11 "Grouping.regroup"=true) (k11:PySem.W.keepIn K (.ref f11)=true)
 (a12:PySem.W.findIn K (.ref C_Grouping) "touch_sources"=some (some (.ref f12))) (i12:PySem.W.isFn K (.ref f12)=true) (l12:K.lookup f12=some ⟨oc12,od12,.func (PySem.W.fnOf "touch_sources" "Grouping.touch_sources" (defArgs a37) (defBody a37) (defScope a37) .none kV12 dc12 pm12 an12 cd12 ct12),sl12⟩) (c12:PySem.W.codeIn K cd12 "Grouping.touch_sources"=true) (k12:PySem.W.keepIn K (.ref f12)=true)
 (a13:PySem.W.nsIn K mainGlobals "sources_of"=some (some (.ref f13))) (l13:K.lookup f13=some ⟨oc13,od13,.func (PySem.W.fnOf "sources_of" "sources_of" (defArgs a63) (defBody a63) (defScope a63) .none kV13 dc13 pm13 an13 cd13 ct13),sl13⟩) (c13:PySem.W.codeIn K cd13 "sources_of"=true) (k13:PySem.W.keepIn K (.ref f13)=true)
 (a14:PySem.W.nsIn K mainGlobals "members_of"=some (some (.ref f14))) (l14:K.lookup f14=some ⟨oc14,od14,.func (PySem.W.fnOf "members_of" "members_of" (defArgs a64) (defBody a64) (defScope a64) .none kV14 dc14 pm14 an14 cd14 ct14),sl14⟩) (c14:PySem.W.codeIn K cd14 "members_of"=true) (k14:PySem.W.keepIn K (.ref f14)=true)
 (a15:PySem.W.nsIn K mainGlobals "_law_cell_at"=some (some (.ref f15))) (l15:K.lookup f15=some ⟨oc15,od15,.func (PySem.W.fnOf "_law_cell_at" "_law_cell_at" (defArgs a61) (defBody a61) (defScope a61) .none kV15 dc15 pm15 an15 cd15 ct15),sl15⟩) (c15:PySem.W.codeIn K cd15 "_law_cell_at"=true) (k15:PySem.W.keepIn K (.ref f15)=true)
 (a16:PySem.W.nsIn K mainGlobals "_law_expr"=some (some (.ref f16))) (l16:K.lookup f16=some ⟨oc16,od16,.func (PySem.W.fnOf "_law_expr" "_law_expr" (defArgs a89) (defBody a89) (defScope a89) .none kV16 dc16 pm16 an16 cd16 ct16),sl16⟩) (c16:PySem.W.codeIn K cd16 "_law_expr"=true) (k16:PySem.W.keepIn K (.ref f16)=true)
 (a17:PySem.W.nsIn K mainGlobals "_law_cond"=some (some (.ref f17))) (l17:K.lookup f17=some ⟨oc17,od17,.func (PySem.W.fnOf "_law_cond" "_law_cond" (defArgs a90) (defBody a90) (defScope a90) .none kV17 dc17 pm17 an17 cd17 ct17),sl17⟩) (c17:PySem.W.codeIn K cd17 "_law_cond"=true) (k17:PySem.W.keepIn K (.ref f17)=true)
 (a18:PySem.W.nsIn K mainGlobals "_law_wait"=some (some (.ref f18))) (l18:K.lookup f18=some ⟨oc18,od18,.func (PySem.W.fnOf "_law_wait" "_law_wait" (defArgs a91) (defBody a91) (defScope a91) .none kV18 dc18 pm18 an18 cd18 ct18),sl18⟩) (c18:PySem.W.codeIn K cd18 "_law_wait"=true) (k18:PySem.W.keepIn K (.ref f18)=true)
 (a19:PySem.W.nsIn K mainGlobals "_law_node"=some (some (.ref f19))) (l19:K.lookup f19=some ⟨oc19,od19,.func (PySem.W.fnOf "_law_node" "_law_node" (defArgs a92) (defBody a92) (defScope a92) .none kV19 dc19 pm19 an19 cd19 ct19),sl19⟩) (c19:PySem.W.codeIn K cd19 "_law_node"=true) (k19:PySem.W.keepIn K (.ref f19)=true)
 (a20:PySem.W.nsIn K mainGlobals "_law_graph"=some (some (.ref f20))) (l20:K.lookup f20=some ⟨oc20,od20,.func (PySem.W.fnOf "_law_graph" "_law_graph" (defArgs a81) (defBody a81) (defScope a81) .none kV20 dc20 pm20 an20 cd20 ct20),sl20⟩) (c20:PySem.W.codeIn K cd20 "_law_graph"=true) (k20:PySem.W.keepIn K (.ref f20)=true)
 (a21:PySem.W.nsIn K mainGlobals "_law_look"=some (some (.ref f21))) (l21:K.lookup f21=some ⟨oc21,od21,.func (PySem.W.fnOf "_law_look" "_law_look" (defArgs a87) (defBody a87) (defScope a87) .none kV21 dc21 pm21 an21 cd21 ct21),sl21⟩) (c21:PySem.W.codeIn K cd21 "_law_look"=true) (k21:PySem.W.keepIn K (.ref f21)=true)
 (a22:PySem.W.nsIn K mainGlobals "_law_nexts"=some (some (.ref f22))) (l22:K.lookup f22=some ⟨oc22,od22,.func (PySem.W.fnOf "_law_nexts" "_law_nexts" (defArgs a75) (defBody a75) (defScope a75) .none kV22 dc22 pm22 an22 cd22 ct22),sl22⟩) (c22:PySem.W.codeIn K cd22 "_law_nexts"=true) (k22:PySem.W.keepIn K (.ref f22)=true)
 (a23:PySem.W.nsIn K mainGlobals "_law_part"=some (some (.ref f23))) (l23:K.lookup f23=some ⟨oc23,od23,.func (PySem.W.fnOf "_law_part" "_law_part" (defArgs a69) (defBody a69) (defScope a69) .none kV23 dc23 pm23 an23 cd23 ct23),sl23⟩) (c23:PySem.W.codeIn K cd23 "_law_part"=true) (k23:PySem.W.keepIn K (.ref f23)=true)
 (a24:PySem.W.nsIn K mainGlobals "_law_new"=some (some (.ref f24))) (l24:K.lookup f24=some ⟨oc24,od24,.func (PySem.W.fnOf "_law_new" "_law_new" (defArgs a93) (defBody a93) (defScope a93) .none kV24 dc24 pm24 an24 cd24 ct24),sl24⟩) (c24:PySem.W.codeIn K cd24 "_law_new"=true) (k24:PySem.W.keepIn K (.ref f24)=true)
 (a25:PySem.W.nsIn K mainGlobals "_law_copied"=some (some (.ref f25))) (l25:K.lookup f25=some ⟨oc25,od25,.func (PySem.W.fnOf "_law_copied" "_law_copied" (defArgs a71) (defBody a71) (defScope a71) .none kV25 dc25 pm25 an25 cd25 ct25),sl25⟩) (c25:PySem.W.codeIn K cd25 "_law_copied"=true) (k25:PySem.W.keepIn K (.ref f25)=true)
 (a26:PySem.W.nsIn K mainGlobals "law"=some (some (.ref f26))) (l26:K.lookup f26=some ⟨oc26,od26,.func (PySem.W.fnOf "law" "law" (defArgs aj0) (defBody aj0) (defScope aj0) .none kV26 dc26 pm26 an26 cd26 ct26),sl26⟩) (c26:PySem.W.codeIn K cd26 "law"=true) (k26:PySem.W.keepIn K (.ref f26)=true)
 (z_any:PySem.W.nsIn K mainGlobals "any"=some none)
 (z_dict:PySem.W.nsIn K mainGlobals "dict"=some none)
 (z_enumerate:PySem.W.nsIn K mainGlobals "enumerate"=some none)
 (z_isinstance:PySem.W.nsIn K mainGlobals "isinstance"=some none)
 (z_len:PySem.W.nsIn K mainGlobals "len"=some none)
 (z_list:PySem.W.nsIn K mainGlobals "list"=some none)
 (z_min:PySem.W.nsIn K mainGlobals "min"=some none)
 (z_range:PySem.W.nsIn K mainGlobals "range"=some none)
 (z_sorted:PySem.W.nsIn K mainGlobals "sorted"=some none)
 (z_tuple:PySem.W.nsIn K mainGlobals "tuple"=some none)
 (z_zip:PySem.W.nsIn K mainGlobals "zip"=some none)
 : ∃ fd:FuncData,(∀ (s:Shared) (v:Value),BindsTo s fd ⟨[v],[]⟩ [("script",v)])∧∀ base:Heap,K.In base→base.Ns mainGlobals mg→FnOk l.prog w K mg base CX0 8 fa fd ["script"] (al0 K):=by
 have e:=hfa.symm.trans (PySem.W.mg_of X G a26)
 cases e
 have F0:=a79 (st:=a74) l0 c0 k0
 have b0:=F0.binds (ps:=["node"]) fun _ _ _ _ _ _ us hl=>by obtain ⟨_,rfl⟩:=ag0 hl; rfl
 have F1:=a79 (st:=a62) l1 c1 k1
 have b1:=F1.binds (ps:=["node","numbers"]) fun _ _ _ _ _ _ us hl=>by obtain ⟨_,_,rfl⟩:=aq5 hl; rfl
 have F2:=a79 (st:=a98) l2 c2 k2
 have b2:=F2.binds (ps:=["graph"]) fun _ _ _ _ _ _ us hl=>by obtain ⟨_,rfl⟩:=ag0 hl; rfl
 have F3:=a79 (st:=a55) l3 c3 k3
 have b3:=F3.binds (ps:=["labels","ways"]) fun _ _ _ _ _ _ us hl=>by obtain ⟨_,_,rfl⟩:=aq5 hl; rfl
 have F4:=a79 (st:=a86) l4 c4 k4
 have b4:=F4.binds (ps:=["labels"]) fun _ _ _ _ _ _ us hl=>by obtain ⟨_,rfl⟩:=ag0 hl; rfl
 have F5:=a79 (st:=a95) l5 c5 k5
 have b5:=F5.binds (ps:=["things"]) fun _ _ _ _ _ _ us hl=>by obtain ⟨_,rfl⟩:=ag0 hl; rfl
 have F6:=a79 (st:=aa4) l6 c6 k6
 have b6:=F6.binds (ps:=["numbers"]) fun _ _ _ _ _ _ us hl=>by obtain ⟨_,rfl⟩:=ag0 hl; rfl
 have F7:=a79 (st:=a42) l7 c7 k7
 have b7:=F7.binds (ps:=["self","labels","ways"]) fun _ _ _ _ _ _ us hl=>by obtain ⟨_,_,_,rfl⟩:=c55 hl; rfl
 have F8:=a79 (st:=a51) l8 c8 k8
 have b8:=F8.binds (ps:=["self","group"]) fun _ _ _ _ _ _ us hl=>by obtain ⟨_,_,rfl⟩:=aq5 hl; rfl
 have F9:=a79 (st:=a43) l9 c9 k9
 have b9:=F9.binds (ps:=["self","group"]) fun _ _ _ _ _ _ us hl=>by obtain ⟨_,_,rfl⟩:=aq5 hl; rfl
 have F10:=a79 (st:=a39) l10 c10 k10
 have b10:=F10.binds (ps:=["self","thing"]) fun _ _ _ _ _ _ us hl=>by obtain ⟨_,_,rfl⟩:=aq5 hl; rfl
 have F11:=a79 (st:=a46) l11 c11 k11
 have b11:=F11.binds (ps:=["self","things"]) fun _ _ _ _ _ _ us hl=>by obtain ⟨_,_,rfl⟩:=aq5 hl; rfl
 have F12:=a79 (st:=a37) l12 c12 k12
 have b12:=F12.binds (ps:=["self","thing"]) fun _ _ _ _ _ _ us hl=>by obtain ⟨_,_,rfl⟩:=aq5 hl; rfl
 have F13:=a79 (st:=a63) l13 c13 k13
 have b13:=F13.binds (ps:=["ways"]) fun _ _ _ _ _ _ us hl=>by obtain ⟨_,rfl⟩:=ag0 hl; rfl
 have F14:=a79 (st:=a64) l14 c14 k14
 have b14:=F14.binds (ps:=["groups"]) fun _ _ _ _ _ _ us hl=>by obtain ⟨_,rfl⟩:=ag0 hl; rfl
 have F15:=a79 (st:=a61) l15 c15 k15
 have b15:=F15.binds (ps:=["script","k"]) fun _ _ _ _ _ _ us hl=>by obtain ⟨_,_,rfl⟩:=aq5 hl; rfl
 have F16:=a79 (st:=a89) l16 c16 k16
 have b16:=F16.binds (ps:=["d"]) fun _ _ _ _ _ _ us hl=>by obtain ⟨_,rfl⟩:=ag0 hl; rfl
 have F17:=a79 (st:=a90) l17 c17 k17
 have b17:=F17.binds (ps:=["d"]) fun _ _ _ _ _ _ us hl=>by obtain ⟨_,rfl⟩:=ag0 hl; rfl
 have F18:=a79 (st:=a91) l18 c18 k18
 have b18:=F18.binds (ps:=["d","number","low","high"]) fun _ _ _ _ _ _ us hl=>by obtain ⟨_,_,_,_,rfl⟩:=c56 hl; rfl
 have F19:=a79 (st:=a92) l19 c19 k19
 have b19:=F19.binds (ps:=["cell","number","low","high","deep"]) fun _ _ _ _ _ _ us hl=>by obtain ⟨_,_,_,_,_,rfl⟩:=c57 hl; rfl
 have F20:=a79 (st:=a81) l20 c20 k20
 have b20:=F20.binds (ps:=["script"]) fun _ _ _ _ _ _ us hl=>by obtain ⟨_,rfl⟩:=ag0 hl; rfl
 have F21:=a79 (st:=a87) l21 c21 k21
 have b21:=F21.binds (ps:=["node"]) fun _ _ _ _ _ _ us hl=>by obtain ⟨_,rfl⟩:=ag0 hl; rfl
 have F22:=a79 (st:=a75) l22 c22 k22
 have b22:=F22.binds (ps:=["node"]) fun _ _ _ _ _ _ us hl=>by obtain ⟨_,rfl⟩:=ag0 hl; rfl
 have F23:=a79 (st:=a69) l23 c23 k23
 have b23:=F23.binds (ps:=["nodes"]) fun _ _ _ _ _ _ us hl=>by obtain ⟨_,rfl⟩:=ag0 hl; rfl
 have F24:=a79 (st:=a93) l24 c24 k24
 have b24:=F24.binds (ps:=["node","where"]) fun _ _ _ _ _ _ us hl=>by obtain ⟨_,_,rfl⟩:=aq5 hl; rfl
 have F25:=a79 (st:=a71) l25 c25 k25
 have b25:=F25.binds (ps:=["script"]) fun _ _ _ _ _ _ us hl=>by obtain ⟨_,rfl⟩:=ag0 hl; rfl
 have F26:=a79 (st:=aj0) l26 c26 k26
 have b26:=F26.binds (ps:=["script"]) fun _ _ _ _ _ _ us hl=>by obtain ⟨_,rfl⟩:=ag0 hl; rfl
 have TT:Txt K mg ⟨_,_,_,_,_,_,_,_,_,_,_,_,_,_,_,_,_,_,_,_,_,_,_,_,_,_,_,_,_,_,_,_,_,_,_,_,_,_,_,_,_,_,_,_,_,_,_,_,_,_,_,_,_,_,C_Grouping⟩:=⟨F0,PySem.W.mg_of X G a0,b0,F1,PySem.W.mg_of X G a1,b1,F2,PySem.W.mg_of X G a2,b2,F3,PySem.W.mg_of X G a3,b3,F4,PySem.W.mg_of X G a4,b4,F5,PySem.W.mg_of X G a5,b5,F6,PySem.W.mg_of X G a6,b6,F7,b7,F8,⟨a8,i8,k8⟩,b8,F9,⟨a9,i9,k9⟩,b9,F10,⟨a10,i10,k10⟩,b10,F11,⟨a11,i11,k11⟩,b11,F12,⟨a12,i12,k12⟩,b12,F13,PySem.W.mg_of X G a13,b13,F14,PySem.W.mg_of X G a14,b14,F15,PySem.W.mg_of X G a15,b15,F16,PySem.W.mg_of X G a16,b16,F17,PySem.W.mg_of X G a17,b17,F18,PySem.W.mg_of X G a18,b18,F19,PySem.W.mg_of X G a19,b19,F20,PySem.W.mg_of X G a20,b20,F21,PySem.W.mg_of X G a21,b21,F22,PySem.W.mg_of X G a22,b22,F23,PySem.W.mg_of X G a23,b23,F24,PySem.W.mg_of X G a24,b24,F25,PySem.W.mg_of X G a25,b25,F26,PySem.W.mg_of X G a26,b26,PySem.W.mg_of X G aC_Grouping,⟨pg_Grouping,hd_Grouping,po_Grouping,sa_Grouping⟩,⟨mk_Grouping,a7,i7,kc_Grouping⟩,nF_Grouping_groups,nF_Grouping_members,nF_Grouping_sources,nF_Grouping_touched,nF_Grouping_waiting,nF_Grouping_ways,PySem.W.mg_none_of X G z_any,PySem.W.mg_none_of X G z_dict,PySem.W.mg_none_of X G z_enumerate,PySem.W.mg_none_of X G z_isinstance,PySem.W.mg_none_of X G z_len,PySem.W.mg_none_of X G z_list,PySem.W.mg_none_of X G z_min,PySem.W.mg_none_of X G z_range,PySem.W.mg_none_of X G z_sorted,PySem.W.mg_none_of X G z_tuple,PySem.W.mg_none_of X G z_zip⟩
 exact ⟨_,fun s v=>.of_eq rfl,fun base _ _=>c08 TT⟩
end K42
theorem PySem.Challenge.cw_callmill_k42_alike_nodes_holds : PySem.Challenge.rw_callmill_k42_alike_nodes.Holds := by
  exact K42.head fun K hF w mg fa h KX G hmg => hF w.params _ (@K42.all_mk _ w _ h mg fa KX G hmg)
