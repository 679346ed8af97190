import PyProof.Rows.All
import Wide.All
import OpenK.KLine
import KE.KItem
import KE.KIsAll
import Wide.FinOn
import Lean
import PyProof.EqAt
import PyProof.EqKinds
import PyProof.TupleCall
import PyProof.NeKinds
import PyProof.DictUpdate
import PyProof.AttrMissHeap
import KE.KDictOf
import PyProof.TupleIter
import PyProof.WalksEnum
import PyProof.EnumMake
import PyProof.Rows.EnumRows
import PyProof.Rows.MaxTwoN
import PyProof.ZipIter
import PyProof.IsRules
import PyProof.DictRoadsH
import Wide.Seal
import PyProof.MeetsDict
import PyProof.DictIter
import PyProof.DictWalks
import KE.KDictList
import PyProof.Rows.SumAny
import PyProof.ListRange
import PyProof.AutoSeq1
import PyProof.WalkInts
import PyProof.SeqI3
import KE.KTextTable
import PyProof.MeetsStr
import PyProof.StrCalls5
import PyProof.Rows.TupDisplay
import PyProof.Rows.TupAdd
import PyProof.Rows.StrNews2
import PyProof.StrBlockI
import PyProof.DictTruth
import PyProof.Rows.SortShell
import PyProof.DictValues
import PyProof.ConsumeS
import PyProof.Draws
import PyProof.Rows.SetFrom
import PyProof.FactsAll.set_1
import KE.KDictSum
import PyProof.Rows.SortStr
import PyProof.Rows.SortWalk
import PyProof.Rows.TmSorted
import PyProof.Rows.CallKwBuiltin
import KE.KTryDeep
import PyProof.Rows.CatchBare
import PyProof.Rows.TopTwo
import OpenK.KOwn
import KE.KRevIter
import PyProof.Rows.FactsT2
import PyProof.NeData
import PyProof.ListNew
import PyProof.ListStr
import PyProof.FactsAll.range_2
import PySem.Challenge.RW_callmill_k19_events_of_scripts
set_option Elab.async false
set_option linter.all false
set_option maxRecDepth 100000
set_option maxHeartbeats 4000000
namespace L2
open PySem PySem.Spec PyProof.Rows
abbrev Key:=Sum Int Str
def b09:Key→Value→Bool
 | .inl k,v=>Value.isInt k v
 | .inr x,v=>Value.isStrOf x v
def keyH (w:World):Key→Int
 | .inl k=>hashInt k
 | .inr x=>hashStr w x
theorem a63:∀ {k:Key}{v:Value},b09 k v=true→(∃ i t,k=Sum.inl i∧v=Value.int i t)∨(∃ x t,k=Sum.inr x∧v=Value.str x t)
 | .inl i,v,h=>by
   obtain ⟨t,e⟩:=Value.isInt_shape (k:=i) (v:=v) h
   exact .inl ⟨i,t,rfl,e⟩
 | .inr x,v,h=>by
   obtain ⟨t,e⟩:=Value.isStrOf_shape (x:=x) (v:=v) h
   exact .inr ⟨x,t,rfl,e⟩
theorem b29 (i:Int) (t:Tok):b09 (.inl i) (.int i t)=true:=by simp [b09,Value.isInt]
theorem b30 (x:Str) (t:Tok):b09 (.inr x) (.str x t)=true:=by simp [b09,Value.isStrOf]
theorem bq2 (a b:Int):decide ((Sum.inl a:Key)=Sum.inl b)=(a == b):=by
 by_cases e:a=b
 · subst e; simp
 · have h:¬ (Sum.inl a:Key)=Sum.inl b:=fun q=>e (Sum.inl.inj q)
   rw [decide_eq_false h]
   exact (beq_eq_false_iff_ne.mpr e).symm
theorem bq3 (a b:Str):decide ((Sum.inr a:Key)=Sum.inr b)=decide (a=b):=by
 by_cases e:a=b
 · subst e; simp
 · have h:¬ (Sum.inr a:Key)=Sum.inr b:=fun q=>e (Sum.inr.inj q)
   rw [decide_eq_false h,decide_eq_false e]
theorem bq4 (a:Int) (b:Str):decide ((Sum.inl a:Key)=Sum.inr b)=false:=decide_eq_false (fun q=>nomatch q)
theorem bq5 (a:Str) (b:Int):decide ((Sum.inr a:Key)=Sum.inl b)=false:=decide_eq_false (fun q=>nomatch q)
def a76 (prog:Program) (w:World):PySem.KeyKind prog w Key where
 is:=b09
 hash:=keyH w
 inj:=fun v a b ha hb=>by
  rcases a63 ha with ⟨i,t,rfl,rfl⟩ | ⟨x,t,rfl,rfl⟩
  · rcases a63 hb with ⟨j,u,rfl,e⟩ | ⟨y,u,rfl,e⟩
    · injection e with e1 _; rw [e1]
    · exact nomatch e
  · rcases a63 hb with ⟨j,u,rfl,e⟩ | ⟨y,u,rfl,e⟩
    · exact nomatch e
    · injection e with e1 _; rw [e1]
 byValue:=fun k v h=>by
  rcases a63 h with ⟨i,t,rfl,rfl⟩ | ⟨x,t,rfl,rfl⟩ <;> rfl
 pyHash:=fun hv h=>by
  rcases a63 hv with ⟨i,t,rfl,rfl⟩ | ⟨x,t,rfl,rfl⟩
  · exact wpAny_pyHash_int h
  · exact wpAny_pyHash_str h
 eqBool:=fun hu hv h=>by
  rcases a63 hu with ⟨i,t,rfl,rfl⟩ | ⟨x,t,rfl,rfl⟩
  · rcases a63 hv with ⟨j,u,rfl,rfl⟩ | ⟨y,u,rfl,rfl⟩
    · rw [bq2] at h; exact wpAny_eqBool_int h
    · rw [bq4] at h; exact SeqAt.EqAt.int_str i t y u _ _ _ _ h
  · rcases a63 hv with ⟨j,u,rfl,rfl⟩ | ⟨y,u,rfl,rfl⟩
    · rw [bq5] at h; exact SeqAt.EqAt.str_int x t j u _ _ _ _ h
    · rw [bq3] at h; exact wpAny_eqBool_str h
 «strs»:=fun k x t v h=>by
  rcases a63 h with ⟨i,u,rfl,e⟩ | ⟨y,u,rfl,e⟩
  · exact nomatch e
  · injection e with e1 _
    subst e1
    cases v <;> rfl
theorem au7 (prog:Program) (w:World) (i:Int) (t:Tok):(a76 prog w).is (.inl i) (.int i t)=true:=b29 i t
theorem au8 (prog:Program) (w:World) (x:Str) (t:Tok):(a76 prog w).is (.inr x) (.str x t)=true:=b30 x t
inductive V where
 | non | bl (b:Bool) | int (i:Int) | str (x:Str) | byt (b:Array UInt8) | flt (b:UInt64) | ref (a:Addr) | ty (n:String)
 deriving DecidableEq
def RelV:V→Value→Prop
 | .non,u=>u=Value.none
 | .bl b,u=>u=Value.bool b
 | .int i,u=>∃ t,u=Value.int i t
 | .str x,u=>∃ t,u=Value.str x t
 | .byt b,u=>∃ t,u=Value.bytes b t
 | .flt b,u=>∃ t,u=Value.float b t
 | .ref a,u=>u=Value.ref a
 | .ty n,u=>u=Value.type n
abbrev Vals:List V→List Value→Prop:=Paired RelV
theorem Vals.length {xs:List V}{us:List Value}(r:Vals xs us):xs.length=us.length:=Paired.length r
theorem Vals.get:∀ {xs:List V}{us:List Value}{i:Nat}{x:V},Vals xs us→xs[i]?=some x→∃ u,us[i]?=some u∧RelV x u
 | _,_,_,_,.nil,e=>by simp at e
 | _,_,0,_,.cons r _,e=>by simp at e; subst e; exact ⟨_,rfl,r⟩
 | _,_,i+1,x,.cons _ t,e=>by
   obtain ⟨u,h1,h2⟩:=Vals.get (i:=i) (x:=x) t (by simpa using e)
   exact ⟨u,by simpa using h1,h2⟩
theorem Vals.append:∀ {xs ys:List V}{us ws:List Value},Vals xs us→Vals ys ws→Vals (xs++ys) (us++ws)
 | _,_,_,_,.nil,s=>s
 | _,_,_,_,.cons r t,s=>.cons r (Vals.append t s)
theorem Vals.take:∀ {xs:List V}{us:List Value}(n:Nat),Vals xs us→Vals (xs.take n) (us.take n)
 | _,_,0,_=>.nil
 | _,_,_+1,.nil=>.nil
 | _,_,n+1,.cons r t=>.cons r (Vals.take n t)
theorem Vals.drop:∀ {xs:List V}{us:List Value}(n:Nat),Vals xs us→Vals (xs.drop n) (us.drop n)
 | _,_,0,r=>r
 | _,_,_+1,.nil=>.nil
 | _,_,n+1,.cons _ t=>Vals.drop n t
def RelO:Option V→Option Value→Prop
 | some v,some u=>RelV v u
 | none,none=>True
 | _,_=>False
def KV {κ:Type}:List (κ×V)→List (κ×Value)→Prop:=Paired fun (p:κ×V) (q:κ×Value)=>p.1=q.1∧RelV p.2 q.2
def kV:Key→V
 | .inl i=>.int i
 | .inr x=>.str x
inductive HO where
 | lst (xs:List V)
 | tup (xs:List V)
 | dK (kvs:List (Key×V)) | dT (kvs:List (List Key×V))
 | set (S:Int→Bool) (n:Nat)
 | ins (C dx:Addr) (fs:List (Str×V))
 | own (x:Addr)
 | xd (fs:List (Str×V))
 | met (f x:Addr)
 | rng (lo hi:Int)
 | frz (o:Obj) (u:HO)
 | tbl (ps:Array Value)
 | ext (φ:Heap→Prop)
abbrev Hp:=Addr→Option HO
def upd (H:Hp) (a:Addr) (o:HO):Hp:=fun b=>if b=a then some o else H b
theorem a46 {H:Hp}{a:Addr}{o:HO}:upd H a o a=some o:=by unfold upd; rw [if_pos rfl]
theorem a48 {H:Hp}{a b:Addr}{o:HO}(h:b≠a):upd H a o b=H b:=by unfold upd; rw [if_neg h]
theorem a50 {H:Hp}{a b:Addr}{o:HO}(h:H a=some o) (h':H b=none):a≠b:=by
 intro e; subst e; rw [h] at h'; cases h'
section
variable (P:Program) (w:World)
def ObjOk (H:Hp) (h:Heap) (a:Addr):HO→Prop
 | .lst xs=>xs.length≤sizeLine∧∃ (its:List Value) (n:Nat),Vals xs its∧h.get? a=some { cls:=.type "list",data:=.seq its.toArray n }
 | .tup xs=>xs.length≤sizeLine∧∃ its:List Value,Vals xs its∧IsTup h a its.toArray
 | .dK kvs=>kvs.length≤sizeLine∧(a == sysModules)=false∧∃ vs,KV kvs vs∧h.DictOf (a76 P w) a vs
 | .dT kvs=>kvs.length≤sizeLine∧(a == sysModules)=false∧∃ xs:List (List Key×Addr×Value),
  Paired (fun (p:List Key×V) (q:List Key×Addr×Value)=>p.1=q.1∧H q.2.1=some (.tup (p.1.map kV))∧RelV p.2 q.2.2) kvs xs ∧
  ∃ o es ep,h.get? a=some o∧o.ExactDict∧o.data=.dict es ep∧es.toList=xs.map (entryOfKey (tupleKind (a76 P w)))∧(xs.map (·.1)).Nodup
 | .set S n=>h.SetOf (intKind P w) a S n
 | .ins C dx fs=>H dx=some (.own a)∧fs.length≤1000∧dx≠a∧h.get? a=some (PySem.W.instObj C dx) ∧
  ∃ mA,h.Ns1 dx mA∧(∀ f,RelO (fs.lookup f) (mA f))∧PySem.Within mA (fs.map (·.1))
 | .own _=>∃ o,h.get? a=some o
 | .xd fs=>∃ mA,h.Ns1 a mA∧∀ f,RelO (fs.lookup f) (mA f)
 | .rng lo hi=>∃ t u v,h.get? a=some { cls:=.type "range",data:=.fields #[.int lo t,.int hi u,.int 1 v] }
 | .frz o u=>h.get? a=some o∧ObjOk H h a u
 | .tbl ps=>h.get? a=some { cls:=.none,data:=.fields ps }
 | .met f x=>h.get? a=some (PySem.W.methodObj (.ref f) (.ref x))
 | .ext φ=>φ h∧(∃ o,h.get? a=some o)∧∀ h1 h2:Heap,φ h1→(∀ o,h1.get? a=some o→h2.get? a=some o)→φ h2
def HOk (H:Hp) (h:Heap):Prop:=∀ a o,H a=some o→ObjOk P w H h a o
end
section
variable {P:Program}{w:World}{H H':Hp}{h h':Heap}{a:Addr}{o:HO}
theorem ObjOk.lt (x:ObjOk P w H h a o):a<h.objs.size:=by
 cases o with
 | lst xs=>obtain ⟨_,_,_,_,e⟩:=x; exact Heap.lt_size e
 | tup xs=>obtain ⟨_,_,_,p⟩:=x; exact p.lt
 | dK kvs=>obtain ⟨_,_,_,_,o,_,_,e,_⟩:=x; exact Heap.lt_size e
 | dT kvs=>obtain ⟨_,_,_,_,o,_,_,e,_⟩:=x; exact Heap.lt_size e
 | set S n=>obtain ⟨o,_,_,_,e,_⟩:=x; exact Heap.lt_size e
 | ins C dx fs=>obtain ⟨_,_,_,e,_⟩:=x; exact Heap.lt_size e
 | own y=>obtain ⟨_,e⟩:=x; exact Heap.lt_size e
 | xd fs=>obtain ⟨_,⟨_,_,_,e,_⟩,_⟩:=x; exact Heap.lt_size e
 | rng lo hi=>obtain ⟨_,_,_,e⟩:=x; exact Heap.lt_size e
 | frz ob u=>obtain ⟨e,_⟩:=x; exact Heap.lt_size e
 | tbl ps=>exact Heap.lt_size (show h.get? a=some _ from x)
 | met f y=>exact Heap.lt_size (show h.get? a=some _ from x)
 | ext φ=>obtain ⟨_,⟨_,e⟩,_⟩:=x; exact Heap.lt_size e
theorem Paired.mapP {α β:Type}{F G:α→β→Prop}:∀ {l₁:List α}{l₂:List β},Paired F l₁ l₂→(∀ a b,F a b→G a b)→Paired G l₁ l₂
 | _,_,.nil,_=>.nil
 | _,_,.cons r t,f=>.cons (f _ _ r) (Paired.mapP t f)
theorem ObjOk.stay (x:ObjOk P w H h a o) (k:∀ b u,(b=a∨H b=some (.own a))→h.get? b=some u→h'.get? b=some u)
 (ho:∀ b,H b=some (.own a)→H' b=some (.own a)) (ht:∀ b xs,H b=some (.tup xs)→H' b=some (.tup xs)):ObjOk P w H' h' a o:=by
 induction o with
 | lst xs=>obtain ⟨z,its,n,r,e⟩:=x; exact ⟨z,its,n,r,k _ _ (.inl rfl) e⟩
 | tup xs=>obtain ⟨z,its,r,ob,e,c⟩:=x; exact ⟨z,its,r,ob,k _ _ (.inl rfl) e,c⟩
 | dK kvs=>obtain ⟨z,y,vs,r,ob,es,ep,e,c⟩:=x; exact ⟨z,y,vs,r,ob,es,ep,k _ _ (.inl rfl) e,c⟩
 | dT kvs =>
   obtain ⟨z,y,xs,r,ob,es,ep,e,c⟩:=x
   exact ⟨z,y,xs,Paired.mapP r fun p q z=>⟨z.1,ht _ _ z.2.1,z.2.2⟩,ob,es,ep,k _ _ (.inl rfl) e,c⟩
 | set S n=>obtain ⟨ob,es,ep,t,e,c⟩:=x; exact ⟨ob,es,ep,t,k _ _ (.inl rfl) e,c⟩
 | ins C dx fs =>
   obtain ⟨d,z,ne,e,mA,⟨od,es,ep,e2,c⟩,r⟩:=x
   exact ⟨ho _ d,z,ne,k _ _ (.inl rfl) e,mA,⟨od,es,ep,k _ _ (.inr d) e2,c⟩,r⟩
 | own y=>obtain ⟨ob,e⟩:=x; exact ⟨ob,k _ _ (.inl rfl) e⟩
 | xd fs=>obtain ⟨mA,⟨od,es,ep,e,c⟩,r⟩:=x; exact ⟨mA,⟨od,es,ep,k _ _ (.inl rfl) e,c⟩,r⟩
 | rng lo hi=>obtain ⟨t,u,v,e⟩:=x; exact ⟨t,u,v,k _ _ (.inl rfl) e⟩
 | frz ob u ih=>obtain ⟨e,q⟩:=x; exact ⟨k _ _ (.inl rfl) e,ih q⟩
 | tbl ps =>
   have e:h.get? a=some { cls:=.none,data:=.fields ps }:=x
   show h'.get? a=some { cls:=.none,data:=.fields ps }
   exact k a _ (.inl rfl) e
 | met f y =>
   have e:h.get? a=some (PySem.W.methodObj (.ref f) (.ref y)):=x
   show h'.get? a=some (PySem.W.methodObj (.ref f) (.ref y))
   exact k a _ (.inl rfl) e
 | ext φ=>obtain ⟨p,⟨o,e⟩,st⟩:=x; exact ⟨st _ _ p fun o q=>k _ _ (.inl rfl) q,⟨o,k _ _ (.inl rfl) e⟩,st⟩
theorem HOk.lt (x:HOk P w H h) (e:H a=some o):a<h.objs.size:=(x a o e).lt
theorem HOk.fresh (x:HOk P w H h) (e:h.objs.size≤a):H a=none:=by
 cases q:H a with
 | none=>rfl
 | some u=>exact absurd (Nat.lt_of_lt_of_le (x.lt q) e) (Nat.lt_irrefl _)
theorem HOk.kept (x:HOk P w H h) (k:∀ b u,h.get? b=some u→h'.get? b=some u):HOk P w H h':=fun a o e =>
 (x a o e).stay (fun b u _ q=>k b u q) (fun _ q=>q) fun _ _ q=>q
theorem HOk.laid (x:HOk P w H h) (k:∀ b u,h.get? b=some u→h'.get? b=some u) (hp:h.objs.size≤a) (new:ObjOk P w (upd H a o) h' a o):HOk P w (upd H a o) h':=fun b u e=>by
 have hn:=x.fresh hp
 by_cases hb:b=a
 · subst hb; rw [a46] at e; cases e; exact new
 · rw [a48 hb] at e
   exact (x b u e).stay (fun c v _ q=>k c v q) (fun c q=>by rw [a48 (a50 q hn)]; exact q) fun c xs q=>by rw [a48 (a50 q hn)]; exact q
end
def Rd (H:Hp) (a:Addr) (u:HO):Prop:=H a=some u∨∃ o,H a=some (.frz o u)
theorem Rd.ok {P:Program}{w:World}{H:Hp}{h:Heap}{a:Addr}{u:HO}(r:Rd H a u) (x:HOk P w H h):ObjOk P w H h a u:=by
 rcases r with r | ⟨o,r⟩
 · exact x a u r
 · obtain ⟨_,q⟩:=x a _ r
   exact q
def Mut:Option HO→Prop
 | some (.lst _)=>True
 | some (.dK _)=>True
 | some (.dT _)=>True
 | some (.set _ _)=>True
 | some (.ins _ _ _)=>True
 | some (.ext _)=>True
 | _=>False
section
variable {P:Program}{w:World}{H:Hp}{h h':Heap}{x e:Addr}{o':HO}
theorem HOk.write (ok:HOk P w H h) (mu:Mut (H x)) (he:e=x∨H e=some (.own x)) (k:∀ b u,b≠e→h.get? b=some u→h'.get? b=some u) (heo:∃ u,h'.get? e=some u)
 (new:ObjOk P w (upd H x o') h' x o'):HOk P w (upd H x o') h':=fun b u q=>by
 have nown:∀ c y,H c=some (.own y)→c≠x:=fun c y r z=>by subst z; rw [r] at mu; exact mu
 have ntup:∀ c xs,H c=some (.tup xs)→c≠x:=fun c xs r z=>by subst z; rw [r] at mu; exact mu
 by_cases hb:b=x
 · subst hb; rw [a46] at q; cases q; exact new
 · rw [a48 hb] at q
   by_cases hbe:b=e
   · have q':H b=some (.own x):=by
      rcases he with z | z
      · exact absurd (hbe.trans z) hb
      · rw [hbe]; exact z
     rw [q] at q'; cases q'
     obtain ⟨v,hv⟩:=heo
     exact ⟨v,by rw [hbe]; exact hv⟩
   · refine (ok b u q).stay (fun c v hc r=>k c v ?_ r) (fun c r=>by rw [a48 (nown c b r)]; exact r) fun c xs r=>by rw [a48 (ntup c xs r)]; exact r
     rcases hc with rfl | hc
     · exact hbe
     · rintro rfl
       rcases he with z | z
       · exact nown c b hc z
       · rw [hc] at z; cases z; exact hb rfl
end
structure Un (fs ex:List Addr) (H H':Hp) (h h':Heap):Prop where
 keep:∀ b o,h.get? b=some o→H b=none→b∉fs→b∉ex→h'.get? b=some o
 slot:∀ b o,h.get? b=some o→H b=none→b∈fs→b∉ex→∃ sl,h'.get? b=some { o with slots:=sl }
 free:∀ b o,h.get? b=some o→H b=none→b∉ex→H' b=none
 there:∀ b o,h.get? b=some o→b∉ex→∃ o',h'.get? b=some o'
 tups:∀ b xs,H b=some (.tup xs)→H' b=some (.tup xs)
 frzs:∀ b o u,H b=some (.frz o u)→H' b=some (.frz o u)
 tbls:∀ b ps,H b=some (.tbl ps)→∃ more,H' b=some (.tbl (ps++more))
section
variable {fs fs' ex ex':List Addr}{H H1 H2:Hp}{h h1 h2 h':Heap}{a x e:Addr}{o:HO}
theorem Un.any (u:Un fs ex H H1 h h1) {b:Addr}{ob:Obj}(q:h.get? b=some ob) (n:H b=none) (hx:b∉ex):∃ sl,h1.get? b=some { ob with slots:=sl }:=by
 by_cases hb:b∈fs
 · exact u.slot b ob q n hb hx
 · exact ⟨ob.slots,u.keep b ob q n hb hx⟩
theorem Un.kept (k:∀ b u,h.get? b=some u→h'.get? b=some u):Un fs ex H H h h' :=
 ⟨fun b ob q _ _ _=>k b ob q,fun b ob q _ _ _=>⟨ob.slots,k b ob q⟩,fun _ _ _ n _=>n,fun b ob q _=>⟨ob,k b ob q⟩,fun _ _ q=>q,fun _ _ _ q=>q,fun _ ps q=>⟨#[],by rw [q]; simp⟩⟩
theorem Un.refl:Un fs ex H H h h:=Un.kept fun _ _ q=>q
theorem Un.laid (k:∀ b u,h.get? b=some u→h'.get? b=some u) (hp:h.objs.size≤a) (hn:H a=none):Un fs ex H (upd H a o) h h' where
 keep:=fun b u q _ _ _=>k b u q
 slot:=fun b u q _ _ _=>⟨u.slots,k b u q⟩
 free:=fun b u q n _=>by rw [a48 (Nat.ne_of_lt (Nat.lt_of_lt_of_le (Heap.lt_size q) hp))]; exact n
 there:=fun b u q _=>⟨u,k b u q⟩
 tups:=fun b xs q=>by rw [a48 (a50 q hn)]; exact q
 frzs:=fun b u xs q=>by rw [a48 (a50 q hn)]; exact q
 tbls:=fun b ps q=>⟨#[],by rw [a48 (a50 q hn),q]; simp⟩
theorem Un.write (mu:Mut (H x)) (he:e=x∨H e=some (.own x)) (k:∀ b u,b≠e→h.get? b=some u→h'.get? b=some u) (heo:∃ u,h'.get? e=some u):Un fs ex H (upd H x o) h h':=by
 have hx:∀ b,H b=none→b≠x:=fun b n z=>by subst z; rw [n] at mu; exact mu
 have hb:∀ b,H b=none→b≠e:=fun b n z=>by
  subst z
  rcases he with r | r
  · exact hx b n r
  · rw [n] at r; cases r
 have hm:∀ b u,H b=some u→¬ Mut (some u)→b≠x:=fun b u q nm z=>by subst z; rw [q] at mu; exact nm mu
 refine ⟨fun b u q n _ _=>k b u (hb b n) q,fun b u q n _ _=>⟨u.slots,k b u (hb b n) q⟩,fun b u q n _=>by rw [a48 (hx b n)]; exact n,fun b u q _=>?_,
  fun b xs q=>by rw [a48 (hm b _ q fun z=>z)]; exact q,fun b u xs q=>by rw [a48 (hm b _ q fun z=>z)]; exact q,fun b ps q=>⟨#[],by rw [a48 (hm b _ q fun z=>z),q]; simp⟩⟩
 by_cases hbe:b=e
 · subst hbe; exact heo
 · exact ⟨u,k b u hbe q⟩
end
def trk (h:Heap) (H:Hp):List Addr:=(List.range h.objs.size).filter fun a=>(H a).isSome
def hidT (h:Heap) (H:Hp):Heap:=PySem.W.hideAll h (trk h H)
theorem b31 (h:Heap) (H:Hp):(hidT h H).objs.size=h.objs.size:=PySem.W.hideAll_size _ _
theorem bb7 {h:Heap}{H:Hp}{b:Addr}{o:Obj}(e:h.get? b=some o) (n:H b=none):(hidT h H).get? b=some o :=
 PySem.W.hideAll_get _ e fun hm=>by
  have q:(H b).isSome=true:=(List.mem_filter.mp hm).2
  rw [n] at q; simp at q
theorem bj9 {h:Heap}{H:Hp}{b:Addr}{o:Obj}(e:(hidT h H).get? b=some o):h.get? b=some o∧H b=none:=by
 have e':h.get? b=some o:=PySem.W.of_hideAll (trk h H) e
 refine ⟨e',?_⟩
 cases q:H b with
 | none=>rfl
 | some x =>
   have hm:b∈trk h H:=List.mem_filter.mpr ⟨List.mem_range.mpr (Heap.lt_size e'),by simp [q]⟩
   have z:(hidT h H).get? b=none:=PySem.W.hideAll_none (trk h H) hm
   rw [z] at e; cases e
def bk0 (g h:Heap) (L:Addr):List (Addr×Obj):=(List.range h.objs.size).filterMap fun a=>if a=L∨(g.get? a).isSome=true then none else (h.get? a).map fun o=>(a,o)
def rest (g h:Heap) (L d:Addr):List (Addr×Obj):=(bk0 g h L).filter fun p=>decide (p.1≠d)
structure Mod (K:PySem.W.Frag) (mg:Str→Option Value) (base:Heap):Prop where
 kin:K.In base
 glob:base.Ns mainGlobals mg
 blt:∃ mb,base.Ns builtinsNs mb∧∀ x:Str,x≠"__name__"→mb x=bootBuiltins x
 nolimit:base.NoLimit
structure Cx where
 prog:Program
 w:World
 K:PySem.W.Frag
 mg:Str→Option Value
 base:Heap
 A:Around
 N:List Str
 s₀:Shared
 H₀:Hp
 env:Env
 outer:List Env
 stack:List Env
 ex:List Addr
 fn:Str→Bool
 calm:Bool
 pn:List (Addr×Obj)
 xe:Value→Shared→Prop
def frs (l:List Env):List Addr:=l.filterMap (·.frame)
abbrev Cx.fs (X:Cx):List Addr:=frs X.outer
def Vis (sc:Scope) (x:Str):Prop:=sc.names.lookup x=some .local∨sc.names.lookup x=some .cell∨sc.names.lookup x=some .free
def Loc (sc:Scope) (x:Str):Prop:=sc.names.lookup x=some .local∨sc.names.lookup x=some .cell
def Look (env:Env) (h:Heap) (m:Str→Option Value) (x:Str) (u:Value):Prop :=
 (env.kindOf x=some .local∧m x=some u)∨((env.kindOf x=some .cell∨env.kindOf x=some .free)∧∃ c,env.cells.lookup x=some c∧h.IsCell c (some u))
structure Cx.Ok (X:Cx):Prop where
 mod:Mod X.K X.mg X.base
 kind:X.env.scope.kind=.function
 glob:X.env.globals=mainGlobals
 blt:X.env.builtins=builtinsNs
 above:X.s₀.heap.objs.size≤X.env.locals
 inj:∀ x y c,X.env.cells.lookup x=some c→X.env.cells.lookup y=some c→x=y
 has:∀ x,(X.env.kindOf x=some .cell∨X.env.kindOf x=some .free)→∃ c,X.env.cells.lookup x=some c
 cab:∀ x c,X.fn x=true→X.env.cells.lookup x=some c→X.s₀.heap.objs.size≤c
 hd:X.calm=true→X.A.handled=none
 frames:X.A.frames=some X.stack
 stk:X.stack=X.outer∨(X.stack=X.env::X.outer∧X.env.frame=some X.env.locals)
 exf:∀ b∈X.ex,b≠X.env.locals∧∀ x c,X.env.cells.lookup x=some c→c≠b
 bs:∀ b o,X.base.get? b=some o→X.s₀.heap.get? b=some o∧X.H₀ b=none
 bsz:X.base.objs.size≤X.s₀.heap.objs.size
 noex:∀ b o,X.base.get? b=some o→b∉X.ex
 exfs:∀ b∈X.ex,b∉X.fs
 funs:X.s₀.heap.FunFrames X.base X.outer
 frf:∀ b∈X.fs,X.H₀ b=none
structure Inv (X:Cx) (pins:List (Addr×Obj)) (σ:List (Option V)) (H:Hp) (s:Shared):Prop where
 ok:X.Ok
 os:s.os=X.s₀.os
 bare:AllBare s.gens
 base:Un X.fs X.ex X.H₀ H X.s₀.heap s.heap
 loc:∃ m,s.heap.Ns X.env.locals m∧∀ (i:Nat) (x:Str) (v:V),X.N[i]?=some x→σ[i]?=some (some v)→Vis X.env.scope x→∃ u,RelV v u∧Look X.env s.heap m x u
 cell:∀ x c,X.env.cells.lookup x=some c→∃ v,s.heap.IsCell c v
 free:H X.env.locals=none
 freeC:∀ x c,X.env.cells.lookup x=some c→H c=none
 pin:∀ p∈X.pn++pins,s.heap.get? p.1=some p.2∧H p.1=none∧p.1≠X.env.locals∧p.1∉X.fs∧∀ v,p.2.data≠.cell v
 hok:HOk X.prog X.w H s.heap
 len:σ.length=X.N.length
section
variable {X:Cx}{pins:List (Addr×Obj)}{σ:List (Option V)} {H H':Hp}{s:Shared}{h':Heap}
theorem Cx.Ok.nofr (ok:X.Ok) {b:Addr}{o:Obj}(e:X.base.get? b=some o):b∉X.fs:=fun hb=>by
 have:=(ok.funs.mem hb).1
 rw [e] at this; cases this
theorem Inv.bs (I:Inv X pins σ H s):∀ b o,X.base.get? b=some o→s.heap.get? b=some o∧H b=none:=fun b o e =>
 ⟨I.base.keep b o (I.ok.bs b o e).1 (I.ok.bs b o e).2 (I.ok.nofr e) (I.ok.noex b o e),I.base.free b o (I.ok.bs b o e).1 (I.ok.bs b o e).2 (I.ok.noex b o e)⟩
theorem Inv.bk (I:Inv X pins σ H s):∀ b o,X.base.get? b=some o→s.heap.get? b=some o:=fun b o e=>(I.bs b o e).1
theorem Inv.mod (I:Inv X pins σ H s):Mod X.K X.mg X.base:=I.ok.mod
theorem Inv.kIn (I:Inv X pins σ H s):X.K.In s.heap:=I.ok.mod.kin.keeps I.bk
theorem Inv.lt (I:Inv X pins σ H s):X.env.locals<s.heap.objs.size:=let ⟨_,hn,_⟩:=I.loc; hn.lt
theorem Inv.sz (I:Inv X pins σ H s):X.s₀.heap.objs.size≤s.heap.objs.size:=Nat.le_trans I.ok.above (Nat.le_of_lt I.lt)
theorem Inv.nofs (I:Inv X pins σ H s) {a:Addr}(h:s.heap.objs.size≤a):a∉X.fs:=fun hb=>by
 obtain ⟨_,o,ho,_⟩:=I.ok.funs.mem hb
 exact absurd (Nat.lt_of_lt_of_le (Heap.lt_size ho) (Nat.le_trans I.sz h)) (Nat.lt_irrefl _)
theorem Inv.cne (I:Inv X pins σ H s):∀ x c,X.env.cells.lookup x=some c→c≠X.env.locals:=fun x c e z=>by
 obtain ⟨v,o,ho,hd⟩:=I.cell x c e
 obtain ⟨m,⟨o',es,ep,ho',hd',_⟩,_⟩:=I.loc
 rw [z,ho'] at ho; cases ho; rw [hd'] at hd; cases hd
theorem Inv.funs (I:Inv X pins σ H s):s.heap.FunFrames X.base X.outer:=by
 have all:∀ (l:List Env),(∀ b∈frs l,b∈X.fs)→X.s₀.heap.FunFrames X.base l→s.heap.FunFrames X.base l:=by
  intro l
  induction l with
  | nil=>intro _ _; trivial
  | cons env r ih =>
    intro hs hl
    obtain ⟨hk,⟨L,o,hf,hn,ho,hd⟩,hr⟩:=hl
    have hL:L∈X.fs:=hs L (by unfold frs; rw [List.filterMap_cons,hf]; exact List.mem_cons_self)
    obtain ⟨sl,e⟩:=I.base.slot L o ho (I.ok.frf L hL) hL fun z=>I.ok.exfs L z hL
    exact ⟨hk,⟨L,_,hf,hn,e,hd⟩,ih (fun b hb=>hs b (by unfold frs; rw [List.filterMap_cons,hf]; exact List.mem_cons_of_mem _ hb)) hr⟩
 exact all X.outer (fun _ hb=>hb) I.ok.funs
theorem Inv.stack (I:Inv X pins σ H s):s.heap.FunFrames X.base X.stack:=by
 rcases I.ok.stk with e | ⟨e,hf⟩
 · rw [e]; exact I.funs
 · rw [e]
   obtain ⟨m,hn,_⟩:=I.loc
   refine .cons (by rw [I.ok.kind]; decide) hf hn ?_ I.funs
   exact Heap.get?_none_of_le (Nat.le_trans I.ok.bsz I.ok.above)
theorem Inv.stkSub (I:Inv X pins σ H s):∀ b∈frs X.stack,b∈X.env.locals::X.fs:=fun b hb=>by
 rcases I.ok.stk with e | ⟨e,hf⟩
 · rw [e] at hb; exact List.mem_cons_of_mem _ hb
 · rw [e] at hb
   unfold frs at hb
   rw [List.filterMap_cons,hf] at hb
   exact hb
theorem Inv.stkFree (I:Inv X pins σ H s):∀ b∈frs X.stack,H b=none:=fun b hb=>by
 rcases List.mem_cons.mp (I.stkSub b hb) with e | hb
 · rw [e]; exact I.free
 · obtain ⟨_,o,ho,_⟩:=I.ok.funs.mem hb
   exact I.base.free b o ho (I.ok.frf b hb) fun z=>I.ok.exfs b z hb
theorem Inv.step {g':Array GenState}{t':Nat}{d':Drawn}{ch:List Addr}(I:Inv X pins σ H s)
 (hch:∀ b∈ch,(b∈X.ex∨X.s₀.heap.objs.size≤b)∧b≠X.env.locals∧(∀ x c,X.env.cells.lookup x=some c→c≠b)∧∀ p∈X.pn++pins,p.1≠b)
 (keep:∀ b o,b≠X.env.locals→b∉X.fs→b∉ch→s.heap.get? b=some o→H b=none→h'.get? b=some o)
 (slot:∀ b o,b≠X.env.locals→b∈X.fs→b∉ch→s.heap.get? b=some o→H b=none→∃ sl,h'.get? b=some { o with slots:=sl }) (free:∀ b o,b∉ch→s.heap.get? b=some o→H b=none→H' b=none)
 (there:∀ b o,b∉ch→s.heap.get? b=some o→∃ o',h'.get? b=some o')
 (tups:∀ b xs,H b=some (.tup xs)→H' b=some (.tup xs)) (frzs:∀ b o u,H b=some (.frz o u)→H' b=some (.frz o u)) (tbls:∀ b ps,H b=some (.tbl ps)→∃ more,H' b=some (.tbl (ps++more)))
 (ns:∀ m,s.heap.Ns X.env.locals m→h'.Ns X.env.locals m) (hok:HOk X.prog X.w H' h') (hg:AllBare g') :
 Inv X pins σ H' { s with heap:=h',gens:=g',drawn:=d',toks:=t' }:=by
 have neL:∀ b o,X.s₀.heap.get? b=some o→b≠X.env.locals:=fun b o e=>Nat.ne_of_lt (Nat.lt_of_lt_of_le (Heap.lt_size e) I.ok.above)
 have neC:∀ b o,X.s₀.heap.get? b=some o→b∉X.ex→b∉ch:=fun b o e hx hb=>by
  rcases (hch b hb).1 with z | z
  · exact hx z
  · exact absurd (Nat.lt_of_lt_of_le (Heap.lt_size e) z) (Nat.lt_irrefl _)
 have cellK:∀ x c,X.env.cells.lookup x=some c→∀ v,s.heap.IsCell c v→h'.IsCell c v:=fun x c e v ⟨o,ho,hd⟩=>by
  have nch:c∉ch:=fun z=>(hch c z).2.2.1 x c e rfl
  by_cases hc:c∈X.fs
  · obtain ⟨sl,q⟩:=slot c o (I.cne x c e) hc nch ho (I.freeC x c e)
    exact ⟨_,q,hd⟩
  · exact ⟨o,keep c o (I.cne x c e) hc nch ho (I.freeC x c e),hd⟩
 refine ⟨I.ok,I.os,hg,⟨fun b o e n hb hx=>?_,fun b o e n hb hx=>?_,fun b o e n hx=>?_,fun b o e hx=>?_,fun b xs e=>tups b xs (I.base.tups b xs e),fun b o xs e=>frzs b o xs (I.base.frzs b o xs e),fun b ps e=>?_⟩,?_,fun x c e=>?_,?_,fun x c e=>?_,fun p hp=>?_,hok,I.len⟩
 · exact keep b o (neL b o e) hb (neC b o e hx) (I.base.keep b o e n hb hx) (I.base.free b o e n hx)
 · obtain ⟨sl,e1⟩:=I.base.slot b o e n hb hx
   obtain ⟨sl',e2⟩:=slot b _ (neL b o e) hb (neC b o e hx) e1 (I.base.free b o e n hx)
   exact ⟨sl',e2⟩
 · obtain ⟨o',e1⟩:=I.base.there b o e hx
   exact free b o' (neC b o e hx) e1 (I.base.free b o e n hx)
 · obtain ⟨o',e1⟩:=I.base.there b o e hx
   exact there b o' (neC b o e hx) e1
 · obtain ⟨m1,e1⟩:=I.base.tbls b ps e
   obtain ⟨m2,e2⟩:=tbls b _ e1
   exact ⟨m1++m2,by rw [e2,Array.append_assoc]⟩
 · obtain ⟨m,hn,hl⟩:=I.loc
   refine ⟨m,ns m hn,fun i x v e1 e2 e3=>?_⟩
   obtain ⟨u,r,l⟩:=hl i x v e1 e2 e3
   refine ⟨u,r,?_⟩
   rcases l with l | ⟨k,c,e,z⟩
   · exact .inl l
   · exact .inr ⟨k,c,e,cellK x c e _ z⟩
 · obtain ⟨v,z⟩:=I.cell x c e
   exact ⟨v,cellK x c e v z⟩
 · obtain ⟨m,⟨o,_,_,ho,_⟩,_⟩:=I.loc
   exact free _ o (fun z=>(hch _ z).2.1 rfl) ho I.free
 · obtain ⟨v,o,ho,hd⟩:=I.cell x c e
   exact free c o (fun z=>(hch c z).2.2.1 x c e rfl) ho (I.freeC x c e)
 · obtain ⟨e,n,ne,nf,d⟩:=I.pin p hp
   have nch:p.1∉ch:=fun z=>(hch p.1 z).2.2.2 p hp rfl
   exact ⟨keep p.1 p.2 ne nf nch e n,free p.1 p.2 nch e n,ne,nf,d⟩
theorem Inv.un {t':Nat}(I:Inv X pins σ H s) (u:Un X.fs [] H H' s.heap h') (hok:HOk X.prog X.w H' h'):Inv X pins σ H' { s with heap:=h',toks:=t' }:=by
 obtain ⟨m,⟨o,es,ep,ho,r⟩,_⟩:=id I.loc
 obtain ⟨sl,hL⟩:=u.any ho I.free (by simp)
 exact I.step (g':=s.gens) (d':=s.drawn) (ch:=[]) (fun _ z=>nomatch z) (fun b o _ hb _ e n=>u.keep b o e n hb (by simp)) (fun b o _ hb _ e n=>u.slot b o e n hb (by simp)) (fun b o _ e n=>u.free b o e n (by simp)) (fun b o _ e=>u.there b o e (by simp)) u.tups u.frzs u.tbls (fun m' hm=>by
  obtain ⟨o',es',ep',ho',r'⟩:=hm
  rw [ho] at ho'; cases ho'
  exact ⟨_,es',ep',hL,r'⟩) hok I.bare
theorem Inv.call {g':Array GenState}{t':Nat}{d':Drawn}{ch:List Addr}(I:Inv X pins σ H s) (u:Un (frs X.stack) ch H H' s.heap h') (hok:HOk X.prog X.w H' h') (hg:AllBare g')
 (hch:∀ b∈ch,(b∈X.ex∨X.s₀.heap.objs.size≤b)∧b≠X.env.locals∧(∀ x c,X.env.cells.lookup x=some c→c≠b)∧∀ p∈X.pn++pins,p.1≠b) :
 Inv X pins σ H' { s with heap:=h',gens:=g',drawn:=d',toks:=t' }:=by
 obtain ⟨m,⟨o,es,ep,ho,r⟩,_⟩:=id I.loc
 obtain ⟨sl,hL⟩:=u.any ho I.free fun z=>(hch _ z).2.1 rfl
 exact I.step (ch:=ch) hch (fun b o hL hb hc e n=>u.keep b o e n (fun z=>(List.mem_cons.mp (I.stkSub b z)).elim hL hb) hc) (fun b o _ _ hc e n=>u.any e n hc) (fun b o hc e n=>u.free b o e n hc) (fun b o hc e=>u.there b o e hc) u.tups u.frzs u.tbls (fun m' hm=>by
  obtain ⟨o',es',ep',ho',r'⟩:=hm
  rw [ho] at ho'; cases ho'
  exact ⟨_,es',ep',hL,r'⟩) hok hg
theorem Inv.turned {t':Nat}{it:Addr}(I:Inv X pins σ H s) (k:∀ b o,b≠it→s.heap.get? b=some o→h'.get? b=some o) (hn:H it=none) (hL:it≠X.env.locals)
 (h1:it∈X.ex∨X.s₀.heap.objs.size≤it) (h2:∀ x c,X.env.cells.lookup x=some c→c≠it) (h3:∀ p∈X.pn++pins,p.1≠it):Inv X pins σ H { s with heap:=h',toks:=t' }:=by
 have nit:∀ b u,H b=some u→b≠it:=fun b u e z=>by rw [z,hn] at e; cases e
 refine I.step (g':=s.gens) (d':=s.drawn) (ch:=[it]) (fun b hb=>?_) (fun b o _ _ hc e _=>k b o (fun z=>hc (by simp [z])) e) (fun b o _ _ hc e _=>⟨o.slots,k b o (fun z=>hc (by simp [z])) e⟩) (fun _ _ _ _ n=>n)
  (fun b o hc e=>⟨o,k b o (fun z=>hc (by simp [z])) e⟩) (fun _ _ e=>e) (fun _ _ _ e=>e) (fun b ps e=>⟨#[],by rw [e]; simp⟩) (fun m hm=>?_) (fun b u e=>?_) I.bare
 · have e:b=it:=by simpa using hb
   subst e
   exact ⟨h1,hL,h2,h3⟩
 · obtain ⟨o,es,ep,ho,r⟩:=hm
   exact ⟨o,es,ep,k _ o (Ne.symm hL) ho,r⟩
 · refine (I.hok b u e).stay (fun c v hc q=>k c v ?_ q) (fun _ q=>q) fun _ _ q=>q
   rcases hc with z | z
   · rw [z]; exact nit b u e
   · exact nit c _ z
theorem Inv.tok (I:Inv X pins σ H s) (t:Nat):Inv X pins σ H { s with toks:=t }:=I.un (h':=s.heap) (t':=t) Un.refl I.hok
theorem Inv.kept {t':Nat}(I:Inv X pins σ H s) (k:∀ b u,s.heap.get? b=some u→h'.get? b=some u):Inv X pins σ H { s with heap:=h',toks:=t' }:=I.un (Un.kept k) (I.hok.kept k)
theorem Inv.laid {a:Addr}{o:HO}{t':Nat}(I:Inv X pins σ H s) (k:∀ b u,s.heap.get? b=some u→h'.get? b=some u) (hp:s.heap.objs.size≤a) (new:ObjOk X.prog X.w (upd H a o) h' a o) :
 Inv X pins σ (upd H a o) { s with heap:=h',toks:=t' }:=I.un (Un.laid k hp (I.hok.fresh hp)) (I.hok.laid k hp new)
theorem Inv.write {x e:Addr}{o:HO}{t':Nat}(I:Inv X pins σ H s) (mu:Mut (H x)) (he:e=x∨H e=some (.own x)) (k:∀ b u,b≠e→s.heap.get? b=some u→h'.get? b=some u) (heo:∃ u,h'.get? e=some u)
 (new:ObjOk X.prog X.w (upd H x o) h' x o):Inv X pins σ (upd H x o) { s with heap:=h',toks:=t' }:=I.un (Un.write mu he k heo) (I.hok.write mu he k heo new)
theorem Inv.pins_of {pins':List (Addr×Obj)}(I:Inv X pins σ H s) (h:∀ p∈pins',s.heap.get? p.1=some p.2∧H p.1=none∧p.1≠X.env.locals∧p.1∉X.fs∧∀ v,p.2.data≠.cell v):Inv X pins' σ H s :=
 ⟨I.ok,I.os,I.bare,I.base,I.loc,I.cell,I.free,I.freeC,fun p hp=>(List.mem_append.mp hp).elim (fun z=>I.pin p (List.mem_append_left _ z)) (h p),I.hok,I.len⟩
theorem ax8 {N:List Str}(hN:N.Nodup) {i j:Nat}{x:Str}(a:N[i]?=some x) (b:N[j]?=some x):i=j:=by
 obtain ⟨h1,e1⟩:=List.getElem?_eq_some_iff.mp a
 obtain ⟨h2,e2⟩:=List.getElem?_eq_some_iff.mp b
 exact (List.getElem_inj hN).mp (e1.trans e2.symm)
theorem aq2 {M:Model}{A:Around}{E:Value→Shared→Prop}{i:Nat}{x:Str}{v:V}{u:Value}{Q:Unit→Shared→Prop}(I:Inv X pins σ H s) (hN:X.N.Nodup) (hi:X.N[i]?=some x) (hx:Loc X.env.scope x) (r:RelV v u)
 (h:∀ s',Inv X pins (σ.set i (some v)) H s'→(∃ a,Heap.SameBut a s.heap s'.heap∧(a=X.env.locals∨X.env.cells.lookup x=some a))→Q () s') (hf:X.fn x=true∨X.env.scope.names.lookup x=some .local:=by first | exact .inl rfl | exact .inr rfl | assumption):wpAny M A (storeName X.env x u) Q E s:=by
 obtain ⟨m,hn,hl⟩:=id I.loc
 have hcls:(X.env.scope.kind == .class || (X.env.scope.kind == .module && X.env.locals != X.env.globals))=false:=by rw [I.ok.kind]; rfl
 have hiσ:i<σ.length:=by rw [I.len]; exact (List.getElem?_eq_some_iff.mp hi).1
 have cne:=I.cne
 have tracked:∀ {a:Addr}{h':Heap},(∃ o,s.heap.get? a=some o∧H a=none)→Heap.SameBut a s.heap h'→HOk X.prog X.w H h':=fun {a h'} ha hs b ob e=>by
  obtain ⟨_,_,hfree⟩:=ha
  refine (I.hok b ob e).stay (fun c w' hc q=>(hs.2 c ?_).trans q) (fun _ q=>q) fun _ _ q=>q
  rintro rfl
  rcases hc with rfl | hc
  · rw [hfree] at e; cases e
  · rw [hfree] at hc; cases hc
 rcases hx with hk | hk
 · refine wpAny_storeName_local hk hn (fun h' hn' hs=>?_) hcls
   obtain ⟨oL,_,_,hoL,_⟩:=id hn
   refine h _ ⟨I.ok,I.os,I.bare,⟨fun b o e n hb hx=>?_,fun b o e n hb hx=>?_,I.base.free,fun b o e hx=>?_,I.base.tups,I.base.frzs,I.base.tbls⟩,⟨_,hn',fun j y v' e1 e2 e3=>?_⟩,fun y c e=>?_,I.free,I.freeC,fun p hp=>?_,tracked ⟨oL,hoL,I.free⟩ hs,by simpa using I.len⟩ ⟨_,hs,.inl rfl⟩
   · exact (hs.2 b (Nat.ne_of_lt (Nat.lt_of_lt_of_le (Heap.lt_size e) I.ok.above))).trans (I.base.keep b o e n hb hx)
   · obtain ⟨sl,e1⟩:=I.base.slot b o e n hb hx
     exact ⟨sl,(hs.2 b (Nat.ne_of_lt (Nat.lt_of_lt_of_le (Heap.lt_size e) I.ok.above))).trans e1⟩
   · obtain ⟨o',e1⟩:=I.base.there b o e hx
     exact ⟨o',(hs.2 b (Nat.ne_of_lt (Nat.lt_of_lt_of_le (Heap.lt_size e) I.ok.above))).trans e1⟩
   · by_cases hj:j=i
     · subst hj
       rw [hi] at e1; cases e1
       rw [List.getElem?_set_self hiσ] at e2
       cases e2
       exact ⟨u,r,.inl ⟨hk,by simp⟩⟩
     · rw [List.getElem?_set_ne (Ne.symm hj)] at e2
       obtain ⟨u',r',q⟩:=hl j y v' e1 e2 e3
       refine ⟨u',r',?_⟩
       rcases q with ⟨k,e⟩ | ⟨k,c,e,z⟩
       · refine .inl ⟨k,?_⟩
         have:y≠x:=fun e=>hj (ax8 hN e1 (e ▸ hi))
         simp [this,e]
       · exact .inr ⟨k,c,e,z.sameBut hs (cne y c e)⟩
   · obtain ⟨w',z⟩:=I.cell y c e
     exact ⟨w',z.sameBut hs (cne y c e)⟩
   · obtain ⟨e,n,ne,nf,d⟩:=I.pin p hp
     exact ⟨(hs.2 p.1 ne).trans e,n,ne,nf,d⟩
 · have hfn:X.fn x=true:=by
    rcases hf with z | z
    · exact z
    · rw [z] at hk; cases hk
   obtain ⟨c,hc⟩:=I.ok.has x (.inl hk)
   obtain ⟨w',z⟩:=I.cell x c hc
   refine wpAny_storeName_cell I.ok.kind hk hc z (fun h' hc' hs=>?_)
   obtain ⟨oc,hoc,hocd⟩:=id z
   refine h { s with heap:=h' } ⟨I.ok,I.os,I.bare,⟨fun b o e n hb hx=>?_,fun b o e n hb hx=>?_,I.base.free,fun b o e hx=>?_,I.base.tups,I.base.frzs,I.base.tbls⟩,⟨m,hn.sameBut hs (Ne.symm (cne x c hc)),fun j y v' e1 e2 e3=>?_⟩,fun y c' e=>?_,I.free,I.freeC,fun p hp=>?_,tracked ⟨oc,hoc,I.freeC x c hc⟩ hs,by simpa using I.len⟩ ⟨c,hs,.inr hc⟩
   · exact (hs.2 b (Nat.ne_of_lt (Nat.lt_of_lt_of_le (Heap.lt_size e) (I.ok.cab x c hfn hc)))).trans (I.base.keep b o e n hb hx)
   · obtain ⟨sl,e1⟩:=I.base.slot b o e n hb hx
     exact ⟨sl,(hs.2 b (Nat.ne_of_lt (Nat.lt_of_lt_of_le (Heap.lt_size e) (I.ok.cab x c hfn hc)))).trans e1⟩
   · obtain ⟨o',e1⟩:=I.base.there b o e hx
     exact ⟨o',(hs.2 b (Nat.ne_of_lt (Nat.lt_of_lt_of_le (Heap.lt_size e) (I.ok.cab x c hfn hc)))).trans e1⟩
   · by_cases hj:j=i
     · subst hj
       rw [hi] at e1; cases e1
       rw [List.getElem?_set_self hiσ] at e2
       cases e2
       exact ⟨u,r,.inr ⟨.inl hk,c,hc,hc'⟩⟩
     · rw [List.getElem?_set_ne (Ne.symm hj)] at e2
       obtain ⟨u',r',q⟩:=hl j y v' e1 e2 e3
       refine ⟨u',r',?_⟩
       rcases q with q | ⟨k,c',e,z'⟩
       · exact .inl q
       · refine .inr ⟨k,c',e,z'.sameBut hs ?_⟩
         rintro rfl
         exact hj (ax8 hN e1 (I.ok.inj _ _ _ e hc ▸ hi))
   · by_cases hcc:c'=c
     · subst hcc; exact ⟨_,hc'⟩
     · obtain ⟨w2,z2⟩:=I.cell y c' e
       exact ⟨w2,z2.sameBut hs hcc⟩
   · obtain ⟨e,n,ne,nf,d⟩:=I.pin p hp
     refine ⟨(hs.2 p.1 ?_).trans e,n,ne,nf,d⟩
     intro q
     rw [q,hoc] at e
     have q':oc=p.2:=Option.some.inj e
     exact d w' (by rw [← q']; exact hocd)
theorem ax9 {M:Model}{A:Around}{E:Value→Shared→Prop}{i:Nat}{x:Str}{v:V}{u:Value}{Q:Unit→Shared→Prop}(I:Inv X pins σ H s) (hN:X.N.Nodup) (hi:X.N[i]?=some x) (hx:Loc X.env.scope x) (r:RelV v u)
 (h:∀ s',Inv X pins (σ.set i (some v)) H s'→Q () s') (hf:X.fn x=true∨X.env.scope.names.lookup x=some .local:=by first | exact .inl rfl | exact .inr rfl | assumption):wpAny M A (storeName X.env x u) Q E s :=
 aq2 I hN hi hx r (fun s' I' _=>h s' I') hf
theorem Inv.call' {s':Shared}{ch:List Addr}(I:Inv X pins σ H s) (ho:s'.os=s.os) (u:Un (frs X.stack) ch H H' s.heap s'.heap) (hok:HOk X.prog X.w H' s'.heap) (hg:AllBare s'.gens)
 (hch:∀ b∈ch,(b∈X.ex∨X.s₀.heap.objs.size≤b)∧b≠X.env.locals∧(∀ x c,X.env.cells.lookup x=some c→c≠b)∧∀ p∈X.pn++pins,p.1≠b):Inv X pins σ H' s':=by
 obtain ⟨h',g',d',t',o'⟩:=s'
 have e:o'=s.os:=ho
 subst e
 exact I.call (g':=g') (t':=t') (d':=d') u hok hg hch
end
abbrev XK:=Value→Option Addr→Hp→Prop
abbrev St:=List (Option V)
abbrev VK:=V→Hp→Prop
abbrev TE:=St→Hp→VK→Prop
abbrev TT:=St→Hp→(Bool→Hp→Prop)→Prop
abbrev TA:=St→Hp→(List V→Hp→Prop)→Prop
structure Ends where
 nx:St→Hp→Prop
 rt:VK
 bk:St→Hp→Prop:=fun _ _=>False
 ct:St→Hp→Prop:=fun _ _=>False
abbrev TS:=Ends→St→Hp→Prop
def EP (X:Cx) (pins:List (Addr×Obj)) (σ:St) (Q:VK) (u:Value) (s':Shared):Prop:=∃ v H',Inv X pins σ H' s'∧RelV v u∧Q v H'
def TP (X:Cx) (pins:List (Addr×Obj)) (σ:St) (Q:Bool→Hp→Prop) (b:Bool) (s':Shared):Prop:=∃ H',Inv X pins σ H' s'∧Q b H'
def AP (X:Cx) (pins:List (Addr×Obj)) (σ:St) (Q:List V→Hp→Prop) (us:List Value) (s':Shared):Prop:=∃ vs H',Inv X pins σ H' s'∧Vals vs us∧Q vs H'
def SP (X:Cx) (pins:List (Addr×Obj)) (D:Ends) (f:Flow) (s':Shared):Prop :=
 match f with
 | .next=>∃ σ' H',Inv X pins σ' H' s'∧D.nx σ' H'
 | .brk=>∃ σ' H',Inv X pins σ' H' s'∧D.bk σ' H'
 | .cont=>∃ σ' H',Inv X pins σ' H' s'∧D.ct σ' H'
 | .ret u=>∃ v σ' H',Inv X pins σ' H' s'∧RelV v u∧D.rt v H'
def PE (X:Cx) (e:Expr) (t:TE):Prop :=
 ∀ (pins:List (Addr×Obj)) (s:Shared) (σ:St) (H:Hp) (Q:VK),Inv X pins σ H s→t σ H Q→wpAny (model X.prog X.w) X.A (eval e X.env) (EP X pins σ Q) X.xe s
def PT (X:Cx) (e:Expr) (t:TT):Prop :=
 ∀ (pins:List (Addr×Obj)) (s:Shared) (σ:St) (H:Hp) (Q:Bool→Hp→Prop),Inv X pins σ H s→t σ H Q→wpAny (model X.prog X.w) X.A (isTrue e X.env (eval e X.env)) (TP X pins σ Q) X.xe s
def PW (X:Cx) (e:Expr) (t:TT):Prop :=
 ∀ (whole:Sem Value) (pins:List (Addr×Obj)) (s:Shared) (σ:St) (H:Hp) (Q:Bool→Hp→Prop),Inv X pins σ H s→t σ H Q→wpAny (model X.prog X.w) X.A (isTrue e X.env whole) (TP X pins σ Q) X.xe s
theorem PW.pt {X:Cx}{e:Expr}{t:TT}(h:PW X e t):PT X e t:=h _
def PA (X:Cx) (es:List Expr) (t:TA):Prop :=
 ∀ (pos:Pos) (pins:List (Addr×Obj)) (s:Shared) (σ:St) (H:Hp) (Q:List V→Hp→Prop),Inv X pins σ H s→t σ H Q→wpAny (model X.prog X.w) X.A (spliced (backTo pos (starEach es X.env))) (AP X pins σ Q) X.xe s
def PS (X:Cx) (st:Stmt) (t:TS):Prop :=
 ∀ (pins:List (Addr×Obj)) (s:Shared) (σ:St) (H:Hp) (D:Ends),Inv X pins σ H s→t D σ H→wpAny (model X.prog X.w) X.A (exec st X.env) (SP X pins D) X.xe s
def PSs (X:Cx) (st:List Stmt) (t:TS):Prop :=
 ∀ (pins:List (Addr×Obj)) (s:Shared) (σ:St) (H:Hp) (D:Ends),Inv X pins σ H s→t D σ H→wpAny (model X.prog X.w) X.A (execs st X.env) (SP X pins D) X.xe s
theorem thn {α:Type}{t:Sem α}{Q Q':α→Shared→Prop}{M:Model}{A:Around}{E:Value→Shared→Prop}{s:Shared}(h:wpAny M A t Q E s) (hQ:∀ a s,Q a s→Q' a s):wpAny M A t Q' E s:=wpAny_mono h hQ fun _ _ x=>x
section
variable {X:Cx}
def tVar (i:Nat):TE:=fun σ H Q=>∃ v,σ[i]?=some (some v)∧Q v H
def tC (v:V):TE:=fun _ H Q=>Q v H
theorem bq6 {i:Nat}{x:Str}{pos:Pos}(hN:X.N[i]?=some x) (hv:Vis X.env.scope x) (hd:(x == ("__debug__":Str))=false:=by decide) (hcd:(x == ("__classdict__":Str))=false:=by decide):PE X (.Name x pos) (tVar i):=by
 intro pins s σ H Q I h
 obtain ⟨v,e,h⟩:=h
 obtain ⟨m,hn,hl⟩:=I.loc
 obtain ⟨u,r,l⟩:=hl i x v hN e hv
 have fin:EP X pins σ Q u s:=⟨v,H,I,r,h⟩
 rcases l with ⟨hk,hm⟩ | ⟨hk,c,hc,hcell⟩
 · exact wpAny_Name (wpAny_loadName_local I.ok.kind hk hn hm fin) hd
 · rcases hk with hk | hk
   · exact wpAny_Name (wpAny_loadName_cell I.ok.kind hk hc hcell fin) hd
   · exact wpAny_Name (wpAny_loadName_free I.ok.kind hk hc hcell fin hcd) hd
theorem a02 {i j pos}:PE X (.Constant (.int i) j pos) (tC (.int i)):=fun _ _ _ H _ I h=>wpAny_Constant_int ⟨.int i,H,I.tok _,⟨_,rfl⟩,h⟩
theorem aa1 {b j pos}:PE X (.Constant (.bool b) j pos) (tC (.bl b)):=fun _ _ _ H _ I h=>Constant_bool ⟨.bl b,H,I,rfl,h⟩
theorem a07 {x j pos}:PE X (.Constant (.str x) j pos) (tC (.str x)):=fun _ _ _ H _ I h=>Calls.Constant_str ⟨.str x,H,I.tok _,⟨_,rfl⟩,h⟩
def Gl (X:Cx) (x:Str):Prop:=X.env.kindOf x=some .globalImplicit
theorem b32 {E:Value→Shared→Prop}{pins:List (Addr×Obj)}{s:Shared}{σ:St} {H:Hp}{x:Str}{u:Value}{pos:Pos}{Q:Value→Shared→Prop}(I:Inv X pins σ H s) (hg:Gl X x) (hm:X.mg x=some u) (h:Q u s)
 (hd:(x == ("__debug__":Str))=false:=by decide):wpAny (model X.prog X.w) X.A (eval (.Name x pos) X.env) Q E s :=
 Calls.Name_function_global I.ok.kind hg (Calls.loadGlobal_global (by rw [I.ok.glob]; exact I.mod.glob.keeps I.bk) hm h) hd
theorem ah4 {E:Value→Shared→Prop}{pins:List (Addr×Obj)}{s:Shared}{σ:St} {H:Hp}{x:Str}{u:Value}{pos:Pos}{Q:Value→Shared→Prop}(I:Inv X pins σ H s) (hg:Gl X x) (hm:X.mg x=none) (hv:bootBuiltins x=some u) (h:Q u s)
 (hn:x≠"__name__":=by decide) (hd:(x == ("__debug__":Str))=false:=by decide):wpAny (model X.prog X.w) X.A (eval (.Name x pos) X.env) Q E s:=by
 obtain ⟨mb,h1,h2⟩:=I.mod.blt
 exact Calls.Name_function_global I.ok.kind hg (Calls.loadGlobal_builtin (by rw [I.ok.glob]; exact I.mod.glob.keeps I.bk) hm (by rw [I.ok.blt]; exact h1.keeps I.bk) ((h2 x hn).trans hv) h) hd
theorem ac9 {x:Str}{v:V}{u:Value}{pos:Pos}(hg:Gl X x) (hm:X.mg x=some u) (r:RelV v u) (hd:(x == ("__debug__":Str))=false:=by decide):PE X (.Name x pos) (tC v) :=
 fun _ _ _ H _ I h=>b32 I hg hm ⟨v,H,I,r,h⟩ hd
theorem au9 {x:Str}{v:V}{u:Value}{pos:Pos}(hg:Gl X x) (hm:X.mg x=none) (hv:bootBuiltins x=some u) (r:RelV v u) (hn:x≠"__name__":=by decide) (hd:(x == ("__debug__":Str))=false:=by decide):PE X (.Name x pos) (tC v) :=
 fun _ _ _ H _ I h=>ah4 I hg hm hv ⟨v,H,I,r,h⟩ hn hd
variable {a b:Expr}{ta tb:TE}{pos:Pos}
def PC (X:Cx) (op:CmpOp) (a b:Expr) (t:TE):Prop :=
 ∀ (pins:List (Addr×Obj)) (s:Shared) (σ:St) (H:Hp) (Q:VK),Inv X pins σ H s→t σ H Q →
  wpAny (model X.prog X.w) X.A (eval a X.env) (fun v s₁=>wpAny (model X.prog X.w) X.A (eval b X.env) (fun u s₂=>wpAny (model X.prog X.w) X.A (compareOp op v u) (EP X pins σ Q) X.xe s₂) X.xe s₁) X.xe s
theorem nobehind (b:Expr) {op:CmpOp}(h:op≠.In) (h2:op≠.NotIn):behindInMarks op b=false:=by
 have e1:(op == CmpOp.In)=false:=by cases op <;> first | rfl | exact absurd rfl h
 have e2:(op == CmpOp.NotIn)=false:=by cases op <;> first | rfl | exact absurd rfl h2
 cases b <;> simp [behindInMarks,e1,e2]
def tB (t:TE):TT:=fun σ H Q=>t σ H fun x H1=>∃ c,x=.bl c∧Q c H1
theorem bq7 {op:CmpOp}{t:TE}(h:PC X op a b t) (h1:behindInMarks op b=false:=by first | exact nobehind _ (by decide) (by decide) | rfl):PT X (.Compare a [op] [b] pos) (tB t):=by
 intro pins s σ H Q I hw
 refine wpAny_isTrue_Compare1 (thn (h pins s σ H _ I hw) fun v s1 h1=>thn h1 fun u s2 h2=>thn h2 ?_) h1
 rintro c s3 ⟨x,H1,I1,r1,q1⟩
 obtain ⟨d,rfl,q⟩:=q1
 cases r1
 exact wpAny_truthy_bool ⟨H1,I1,q⟩
variable {tA tB':TT}{rest:List Expr}
def tAnd (t u:TT):TT:=fun σ H Q=>t σ H fun c H1=>if c=true then u σ H1 Q else Q false H1
def tOr (t u:TT):TT:=fun σ H Q=>t σ H fun c H1=>if c=true then Q true H1 else u σ H1 Q
def tNot (t:TT):TT:=fun σ H Q=>t σ H fun c H1=>Q (!c) H1
theorem av0 (ha:PT X a tA):PW X (.BoolOp .And [a] pos) tA:=by
 intro wh pins s σ H Q I h
 refine isTrue_and (thn (ha pins s σ H Q I h) fun c s1 e=>?_)
 cases c with
 | true=>exact isTrue_and_nil e
 | false=>exact e
theorem aq3 (ha:PT X a tA):PW X (.BoolOp .Or [a] pos) tA:=by
 intro wh pins s σ H Q I h
 refine isTrue_or (thn (ha pins s σ H Q I h) fun c s1 e=>?_)
 cases c with
 | false=>exact isTrue_or_nil e
 | true=>exact e
theorem b33 (ha:PT X a tA) (hb:PW X (.BoolOp .And (b::rest) pos) tB'):PW X (.BoolOp .And (a::b::rest) pos) (tAnd tA tB'):=by
 intro wh pins s σ H Q I h
 refine isTrue_and (thn (ha pins s σ H _ I h) ?_)
 rintro c s1 ⟨H1,I1,q1⟩
 cases c with
 | true=>exact hb wh pins s1 σ H1 Q I1 q1
 | false=>exact ⟨H1,I1,q1⟩
theorem av1 (ha:PT X a tA) (hb:PW X (.BoolOp .Or (b::rest) pos) tB'):PW X (.BoolOp .Or (a::b::rest) pos) (tOr tA tB'):=by
 intro wh pins s σ H Q I h
 refine isTrue_or (thn (ha pins s σ H _ I h) ?_)
 rintro c s1 ⟨H1,I1,q1⟩
 cases c with
 | true=>exact ⟨H1,I1,q1⟩
 | false=>exact hb wh pins s1 σ H1 Q I1 q1
theorem bg8 (ha:PT X a tA):PT X (.UnaryOp .Not a pos) (tNot tA):=by
 intro pins s σ H Q I h
 exact isTrue_not (ha pins s σ H (fun c H1=>Q (!c) H1) I h)
end
def SqL (K:PySem.W.Frag) (H:Hp) (a:Addr) (xs:List V):Prop :=
 Rd H a (.lst xs) ∨
  ∃ (o:Obj) (its:Array Value) (n:Nat),K.lookup a=some o∧o.cls=.type "list"∧o.dict=none∧o.data=.seq its n∧its.size≤sizeLine∧Vals xs its.toList
def SqT (K:PySem.W.Frag) (H:Hp) (a:Addr) (xs:List V):Prop :=
 Rd H a (.tup xs) ∨
  ∃ (o:Obj) (its:Array Value) (n:Nat),K.lookup a=some o∧o.cls=.type "tuple"∧o.data=.seq its n∧its.size≤sizeLine∧Vals xs its.toList
def absV:Value→Option V
 | .none=>some .non
 | .bool b=>some (.bl b)
 | .int i _=>some (.int i)
 | .str x _=>some (.str x)
 | .bytes b _=>some (.byt b)
 | .float b _=>some (.flt b)
 | .ref a=>some (.ref a)
 | .type n=>some (.ty n)
 | _=>none
theorem RelV.abs {x:V}{u:Value}(r:RelV x u):absV u=some x:=by
 cases x with
 | non=>cases r; rfl
 | bl _=>cases r; rfl
 | int _=>obtain ⟨t,rfl⟩:=r; rfl
 | str _=>obtain ⟨t,rfl⟩:=r; rfl
 | byt _=>obtain ⟨t,rfl⟩:=r; rfl
 | flt _=>obtain ⟨t,rfl⟩:=r; rfl
 | ref _=>cases r; rfl
 | ty _=>cases r; rfl
theorem RelV.inj {x y:V}{u:Value}(r:RelV x u) (q:RelV y u):x=y:=Option.some.inj (r.abs.symm.trans q.abs)
theorem Vals.inj:∀ {xs ys:List V}{us:List Value},Vals xs us→Vals ys us→xs=ys
 | _,_,_,.nil,.nil=>rfl
 | _,_,_,.cons r t,.cons r' t'=>by rw [r.inj r',Vals.inj t t']
section
variable {X:Cx}{pins:List (Addr×Obj)}{σ:St} {H:Hp}{s:Shared}{a:Addr}{xs ys:List V}
theorem SqL.of {K:PySem.W.Frag}(h:H a=some (.lst xs)):SqL K H a xs:=.inl (.inl h)
theorem SqT.of {K:PySem.W.Frag}(h:H a=some (.tup xs)):SqT K H a xs:=.inl (.inl h)
theorem Inv.list (I:Inv X pins σ H s) (h:SqL X.K H a xs):∃ its:List Value,Vals xs its∧PlainL s.heap a its.toArray∧xs.length≤sizeLine:=by
 rcases h with h | ⟨o,its,n,hk,hc,hd,hs,hz,r⟩
 · obtain ⟨z,its,n,r,e⟩:=h.ok I.hok
   exact ⟨its,r,⟨_,n,e,rfl,rfl,rfl⟩,z⟩
 · refine ⟨its.toList,r,⟨o,n,I.kIn a o hk,hc,hd,by simpa using hs⟩,?_⟩
   have e:=r.length
   simp only [Array.length_toList] at e
   omega
theorem Inv.tuple (I:Inv X pins σ H s) (h:SqT X.K H a xs):∃ its:List Value,Vals xs its∧IsTup s.heap a its.toArray∧xs.length≤sizeLine:=by
 rcases h with h | ⟨o,its,n,hk,hc,hs,hz,r⟩
 · obtain ⟨z,its,r,p⟩:=h.ok I.hok
   exact ⟨its,r,p,z⟩
 · refine ⟨its.toList,r,⟨o,I.kIn a o hk,hc,n,by simpa using hs⟩,?_⟩
   have e:=r.length
   simp only [Array.length_toList] at e
   omega
theorem Inv.list_inj (I:Inv X pins σ H s) (h:SqL X.K H a xs) (h':SqL X.K H a ys):xs=ys:=by
 obtain ⟨its,r,⟨o,n,e,_,_,d⟩,_⟩:=I.list h
 obtain ⟨its',r',⟨o',n',e',_,_,d'⟩,_⟩:=I.list h'
 rw [e] at e'; cases e'
 rw [d] at d'
 injection d' with d1 _
 have:its=its':=by simpa using congrArg Array.toList d1
 subst this
 exact r.inj r'
end
abbrev Cx.wish (X:Cx) (E:Value→Shared→Prop):Cx:={ X with xe:=E }
abbrev Cx.nox (X:Cx):Cx:=X.wish fun _ _=>False
theorem Cx.Ok.wish {X:Cx}(ok:X.Ok) (E:Value→Shared→Prop):(X.wish E).Ok :=
 ⟨ok.mod,ok.kind,ok.glob,ok.blt,ok.above,ok.inj,ok.has,ok.cab,ok.hd,ok.frames,ok.stk,ok.exf,ok.bs,ok.bsz,ok.noex,ok.exfs,ok.funs,ok.frf⟩
theorem Cx.Ok.unwish {X:Cx}{E:Value→Shared→Prop}(ok:(X.wish E).Ok):X.Ok :=
 ⟨ok.mod,ok.kind,ok.glob,ok.blt,ok.above,ok.inj,ok.has,ok.cab,ok.hd,ok.frames,ok.stk,ok.exf,ok.bs,ok.bsz,ok.noex,ok.exfs,ok.funs,ok.frf⟩
section
variable {X:Cx}{pins:List (Addr×Obj)}{σ:St} {H:Hp}{s:Shared}{E:Value→Shared→Prop}
theorem Inv.wish (I:Inv X pins σ H s) (E:Value→Shared→Prop):Inv (X.wish E) pins σ H s:=⟨I.ok.wish E,I.os,I.bare,I.base,I.loc,I.cell,I.free,I.freeC,I.pin,I.hok,I.len⟩
theorem Inv.unwish (I:Inv (X.wish E) pins σ H s):Inv X pins σ H s:=⟨I.ok.unwish,I.os,I.bare,I.base,I.loc,I.cell,I.free,I.freeC,I.pin,I.hok,I.len⟩
theorem SP.unwish {D:Ends}{f:Flow}{s':Shared}(h:SP (X.wish E) pins D f s'):SP X pins D f s':=by
 cases f with
 | next=>obtain ⟨σ',H',I,q⟩:=h; exact ⟨σ',H',I.unwish,q⟩
 | brk=>obtain ⟨σ',H',I,q⟩:=h; exact ⟨σ',H',I.unwish,q⟩
 | cont=>obtain ⟨σ',H',I,q⟩:=h; exact ⟨σ',H',I.unwish,q⟩
 | ret u=>obtain ⟨v,σ',H',I,r,q⟩:=h; exact ⟨v,σ',H',I.unwish,r,q⟩
theorem PSs.nox {st:List Stmt}{t:TS}(h:PSs X.nox st t):PSs X st t:=fun pins s σ H D I hw =>
 wpAny_mono (h pins s σ H D (I.wish _) hw) (fun _ _ q=>q.unwish) fun _ _ z=>False.elim z
end
section
variable {X:Cx}{st:Stmt}{rest:List Stmt}{t u:TS}{e:Expr}{te:TE}{pos:Pos}
def bq8:TS:=fun D σ H=>D.nx σ H
def tSeq (t u:TS):TS:=fun D σ H=>t { D with nx:=u D } σ H
theorem a42:PSs X [] bq8:=fun _ _ σ H _ I h=>wpAny_execs_nil ⟨σ,H,I,h⟩
theorem a03 (h1:PS X st t) (h2:PSs X rest u):PSs X (st::rest) (tSeq t u):=by
 intro pins s σ H D I h
 refine wpAny_execs_cons (thn (h1 pins s σ H { D with nx:=u D } I h) fun f s1 q=>?_)
 cases f with
 | next =>
   obtain ⟨σ',H',I',q⟩:=q
   exact h2 pins s1 σ' H' D I' q
 | ret v=>exact q
 | brk=>exact q
 | cont=>exact q
theorem a08 (h1:PS X st t):PSs X [st] t:=by
 intro pins s σ H D I h
 refine wpAny_execs_cons (thn (h1 pins s σ H D I h) fun f s1 q=>?_)
 cases f with
 | next=>exact wpAny_execs_nil q
 | ret v=>exact q
 | brk=>exact q
 | cont=>exact q
theorem Inv.quiet {pins:List (Addr×Obj)}{σ:St} {H:Hp}{s:Shared}(I:Inv X pins σ H s):interactive X.env=false:=by simp [interactive,I.ok.kind]
def bq9 (te:TE):TS:=fun D σ H=>te σ H fun _ H1=>D.nx σ H1
theorem a75 (he:PE X e te) (hs:swapsWith e none pos.line X.env=pure false:=by rfl):PS X (.Expr e pos) (bq9 te):=by
 intro pins s σ H D I h
 exact wpAny_Expr_any (thn (he pins s σ H _ I h) (by rintro v s1 ⟨x,H1,I1,r1,q1⟩; exact ⟨σ,H1,I1,q1⟩)) I.quiet hs
def tRet (te:TE):TS:=fun D σ H=>te σ H D.rt
theorem a40 (he:PE X e te):PS X (.Return (some e) pos) (tRet te):=by
 intro pins s σ H D I h
 exact wpAny_Return_some (thn (he pins s σ H _ I h) (by rintro v s1 ⟨x,H1,I1,r1,q1⟩; exact ⟨x,σ,H1,I1,r1,q1⟩))
def tIfS (c:TT) (t u:TS):TS:=fun D σ H=>c σ H fun b H1=>if b=true then t D σ H1 else u D σ H1
theorem a67 {c:Expr}{a b:List Stmt}{tc:TT}(hc:PT X c tc) (ha:PSs X a t) (hb:PSs X b u):PS X (.If c a b pos) (tIfS tc t u):=by
 intro pins s σ H D I h
 refine wpAny_If (thn (hc pins s σ H _ I h) ?_)
 rintro d s1 ⟨H1,I1,q1⟩
 cases d with
 | true=>exact ha pins s1 σ H1 D I1 q1
 | false=>exact hb pins s1 σ H1 D I1 q1
end
abbrev TG:=V→St→Hp→(St→Hp→Prop)→Prop
abbrev TGs:=List V→St→Hp→(St→Hp→Prop)→Prop
def PG (X:Cx) (target:Expr) (t:TG):Prop :=
 ∀ (pins:List (Addr×Obj)) (s:Shared) (σ:St) (H:Hp) (v:V) (u:Value) (Q:St→Hp→Prop),Inv X pins σ H s→RelV v u→t v σ H Q →
  wpAny (model X.prog X.w) X.A (assign target X.env u) (fun _ s'=>∃ σ' H',Inv X pins σ' H' s'∧Q σ' H') X.xe s
def PGs (X:Cx) (ts:List Expr) (t:TGs):Prop :=
 ∀ (pins:List (Addr×Obj)) (s:Shared) (σ:St) (H:Hp) (vs:List V) (us:List Value) (Q:St→Hp→Prop),Inv X pins σ H s→Vals vs us→t vs σ H Q →
  wpAny (model X.prog X.w) X.A (assignInOrder ((assignEach ts X.env).map (·.2)) us) (fun _ s'=>∃ σ' H',Inv X pins σ' H' s'∧Q σ' H') X.xe s
section
variable {X:Cx}{pos:Pos}
def ae6 (i:Nat):TG:=fun v σ H Q=>Q (σ.set i (some v)) H
theorem a09 {i:Nat}{x:Str}(hN:X.N.Nodup) (hi:X.N[i]?=some x) (hx:Loc X.env.scope x) (hf:X.fn x=true∨X.env.scope.names.lookup x=some .local:=by first | exact .inl rfl | exact .inr rfl | assumption):PG X (.Name x pos) (ae6 i):=by
 intro pins s σ H v u Q I r h
 exact wpAny_assign_Name (ax9 I hN hi hx r (fun s' I'=>⟨_,H,I',h⟩) hf)
def gNil:TGs:=fun vs σ H Q=>vs=[]∧Q σ H
def bb8 (t:TG) (u:TGs):TGs:=fun vs σ H Q=>∃ v r,vs=v::r∧t v σ H fun σ' H'=>u r σ' H' Q
theorem a85:PGs X [] gNil:=by
 intro pins s σ H vs us Q I r h
 obtain ⟨e,h⟩:=h
 subst e
 cases r
 exact assignInOrder_nil ⟨σ,H,I,h⟩
theorem a20 {e:Expr}{es:List Expr}{t:TG}{u:TGs}(h1:PG X e t) (h2:PGs X es u)
 (hs:(assignEach (e::es) X.env).map (·.2)=assign e X.env::(assignEach es X.env).map (·.2):=by rfl):PGs X (e::es) (bb8 t u):=by
 intro pins s σ H vs us Q I r h
 obtain ⟨v,vr,e1,h⟩:=h
 subst e1
 cases r with
 | cons r rr =>
   rw [hs]
   refine assignInOrder_cons (thn (h1 pins s σ H _ _ _ I r h) ?_)
   rintro _ s1 ⟨σ1,H1,I1,q1⟩
   exact h2 pins s1 σ1 H1 _ _ Q I1 rr q1
def gTup (K:PySem.W.Frag) (n:Nat) (t:TGs):TG:=fun v σ H Q=>∃ a xs,v=.ref a∧SqT K H a xs∧xs.length=n∧t xs σ H Q
theorem br0 {es:List Expr}{k:Nat}{t:TGs}{n:Nat}(hc:X.calm=true) (h:PGs X es t)
 (hn:(assignEach es X.env).length=n:=by rfl) (hst:(assignEach es X.env).findIdx? (·.1)=none:=by rfl):PG X (.Tuple es k pos) (gTup X.K n t):=by
 intro pins s σ H v u Q I r hw
 obtain ⟨a,xs,e1,hq,hl,hw⟩:=hw
 subst e1
 cases r
 obtain ⟨its,rv,ht,hz⟩:=I.tuple hq
 refine assign_Tuple_tuple (I.ok.hd hc) ht (by simp [hn,←hl,rv.length]) hst fun h' hx=>?_
 have I1:Inv X pins σ H { s with heap:=h' }:=I.kept (t':=s.toks) fun b o e=>hx b o (Nat.ne_of_lt (Heap.lt_size e)) e
 exact h pins _ σ H xs _ Q I1 (by simpa using rv) hw
def tAsg (te:TE) (g:TG):TS:=fun D σ H=>te σ H fun x H1=>g x σ H1 D.nx
theorem aj0 {tg e:Expr}{te:TE}{g:TG}(he:PE X e te) (hg:PG X tg g) (hs:swapsWithSole [tg] e pos.line X.env=pure false:=by rfl) (hw:swappedStores [tg] e X.env=pure none:=by rfl)
 (h1:(assignEach [tg] X.env).map (·.2)=[assign tg X.env]:=by rfl):PS X (.Assign [tg] e pos) (tAsg te g):=by
 intro pins s σ H D I h
 refine wpAny_Assign_stores (thn (he pins s σ H _ I h) ?_) hs hw
 rintro v s1 ⟨x,H1,I1,r1,q1⟩
 rw [h1]
 exact thn (hg pins s1 σ H1 x v _ I1 r1 q1) fun _ s2 q=>q
theorem a27 {i:Nat}{x:Str}{e:Expr}{te:TE}{pos':Pos}(hN:X.N.Nodup) (hi:X.N[i]?=some x) (hx:Loc X.env.scope x) (he:PE X e te) (hs:swapsWith e (some (.Name x pos')) pos.line X.env=pure false:=by rfl) (hf:X.fn x=true∨X.env.scope.names.lookup x=some .local:=by first | exact .inl rfl | exact .inr rfl | assumption) :
 PS X (.Assign [.Name x pos'] e pos) (tAsg te (ae6 i)):=by
 intro pins s σ H D I h
 refine wpAny_Assign_Name (thn (he pins s σ H _ I h) ?_) hs
 rintro v s1 ⟨y,H1,I1,r1,q1⟩
 exact ax9 I1 hN hi hx r1 (fun s2 I2=>⟨_,H1,I2,q1⟩) hf
end
section
variable {X:Cx}{pos:Pos}
def bg9 (c:TT) (tb:TS):TS:=fun D σ H=>∃ W:Nat→St→Hp→Prop,(∃ m,W m σ H)∧∀ m σ H,W m σ H →
 c σ H fun b H1=>if b=true then ∃ N:St→Hp→Prop,(∀ σ' H',N σ' H'→∃ m',m'<m∧W m' σ' H')∧tb { D with nx:=N,ct:=N,bk:=D.nx } σ H1 else D.nx σ H1
theorem ay0 {c:Expr}{body:List Stmt}{tc:TT}{tb:TS}(hp:PassesOwn (model X.prog X.w) X.A X.env X.xe) (hc:PT X c tc) (hb:PSs X body tb):PS X (.While c body [] pos) (bg9 tc tb):=by
 intro pins s σ H D I h
 obtain ⟨W,⟨m0,w0⟩,turn⟩:=h
 refine wpAny_While (codeAny_whileLoop (fun n s'=>∃ σ' H',Inv X pins σ' H' s'∧W n σ' H') ?_ m0 ⟨σ,H,I,w0⟩)
 rintro n s1 ⟨σ1,H1,I1,w1⟩
 refine wpAny_passesOwn hp (thn (hc pins s1 σ1 H1 _ I1 (turn n σ1 H1 w1)) ?_)
 rintro b s2 ⟨H2,I2,q2⟩
 cases b with
 | true =>
   obtain ⟨N,hN,q2⟩:=q2
   rw [if_pos rfl]
   refine wpAny_passesOwn hp (thn (hb pins s2 σ1 H2 _ I2 q2) fun f s3 q3=>?_)
   cases f with
   | next =>
     obtain ⟨σ3,H3,I3,n3⟩:=q3
     obtain ⟨m',hm,w3⟩:=hN σ3 H3 n3
     exact ⟨m',hm,σ3,H3,I3,w3⟩
   | cont =>
     obtain ⟨σ3,H3,I3,n3⟩:=q3
     obtain ⟨m',hm,w3⟩:=hN σ3 H3 n3
     exact ⟨m',hm,σ3,H3,I3,w3⟩
   | brk=>exact q3
   | ret v=>exact q3
 | false =>
   rw [if_neg Bool.false_ne_true]
   exact wpAny_execs_nil ⟨σ1,H2,I2,q2⟩
end
structure It where
 go:Nat→Hp→Prop
 yld:Nat→Hp→V→Hp→Prop
 stop:Nat→Hp→Prop
def FpOk (X:Cx) (pins:List (Addr×Obj)) (H:Hp) (b:Addr):Prop :=
 H b=none∧b≠X.env.locals∧b∉X.fs∧(b∈X.ex∨X.s₀.heap.objs.size≤b)∧(∀ x c,X.env.cells.lookup x=some c→c≠b)∧∀ p∈X.pn++pins,p.1≠b
theorem Inv.fpOk {X:Cx}{pins:List (Addr×Obj)}{σ:St} {H H':Hp}{s:Shared}{b:Addr}(I:Inv X pins σ H s) (hb:s.heap.objs.size≤b) (hn:H' b=none):FpOk X pins H' b:=by
 refine ⟨hn,Nat.ne_of_gt (Nat.lt_of_lt_of_le I.lt hb),I.nofs hb,.inr (Nat.le_trans I.sz hb),fun x c e z=>?_,fun p hp z=>?_⟩
 · obtain ⟨v,q⟩:=I.cell x c e
   exact absurd (Nat.lt_of_lt_of_le q.lt (by rw [z]; exact hb)) (Nat.lt_irrefl _)
 · exact absurd (Nat.lt_of_lt_of_le (Heap.lt_size (I.pin p hp).1) (by rw [z]; exact hb)) (Nat.lt_irrefl _)
structure Turn (P:Program) (w:World) (K:PySem.W.Frag) (tg:Expr) (J:It) (fp:List Addr) (it:Addr) (tn:Nat→Heap→Prop):Prop where
 mem:it∈fp
 obj:∀ i h,tn i h→∀ b∈fp,∃ o,h.get? b=some o∧∀ v,o.data≠.cell v
 keep:∀ i h h',tn i h→(∀ b∈fp,∀ o,h.get? b=some o→h'.get? b=some o)→tn i h'
 item:∀ (X:Cx),X.prog=P→X.w=w→X.K=K→X.calm=true→∀ (i:Nat) (pins:List (Addr×Obj)) (s:Shared) (σ:St) (H:Hp) (E:Value→Shared→Prop),Inv X pins σ H s→(∀ b∈fp,FpOk X pins H b)→tn i s.heap→J.go i H →
  wpAny (model P w) X.A (pyNext (.ref it)) (fun r s1=>∃ u,r=some u ∧
   wpAny (model P w) X.A (letOwnedTupleGo tg (.ref it) u) (fun _ s2=>∃ x H',Inv X pins σ H' s2∧RelV x u∧J.yld i H x H'∧tn (i+1) s2.heap∧∀ b∈fp,H' b=none) E s1) E s
 done:∀ (X:Cx),X.prog=P→X.w=w→X.K=K→X.calm=true→∀ (i:Nat) (pins:List (Addr×Obj)) (s:Shared) (σ:St) (H:Hp) (E:Value→Shared→Prop),Inv X pins σ H s→(∀ b∈fp,FpOk X pins H b)→tn i s.heap→J.stop i H →
  wpAny (model P w) X.A (pyNext (.ref it)) (fun r s1=>r=none∧Inv X pins σ H s1) E s
 self:∀ (A:Around) (i:Nat) (s:Shared) (Q:Value→Shared→Prop) (E:Value→Shared→Prop),tn i s.heap→Q (.ref it) s→wpAny (model P w) A (pyIter (.ref it)) Q E s
abbrev TI:=St→Hp→(It→Hp→Prop)→Prop
def PIE (X:Cx) (pins:List (Addr×Obj)) (σ:St) (tg:Expr) (R:It→Hp→Prop) (itv:Value) (s2:Shared):Prop :=
 ∃ (it:Addr) (fp:List Addr) (tn:Nat→Heap→Prop) (J:It) (H':Hp),itv=.ref it∧Inv X pins σ H' s2∧Turn X.prog X.w X.K tg J fp it tn∧tn 0 s2.heap∧(∀ b∈fp,FpOk X pins H' b)∧R J H'
def PI (X:Cx) (tg iter:Expr) (wi:TI):Prop :=
 ∀ (pins:List (Addr×Obj)) (s:Shared) (σ:St) (H:Hp) (R:It→Hp→Prop),Inv X pins σ H s→wi σ H R →
  wpAny (model X.prog X.w) X.A (eval iter X.env) (fun v s1=>wpAny (model X.prog X.w) X.A (pyIter v) (PIE X pins σ tg R) X.xe s1) X.xe s
theorem bb9 {M:Model}{A:Around}{E:Value→Shared→Prop}{s:Shared}{tg:Expr}{it:Addr}{u:Value}{o:Obj}{n:String}{vs:Array Value}{Q:Unit→Shared→Prop}(ho:s.heap.get? it=some o) (hc:o.cls=.type n) (hd:o.data=.fields vs)
 (hn:["enumerate","zip","dict_itemiterator","dict_reverseitemiterator","odict_iterator","itertools.zip_longest","itertools.pairwise"].contains n=false) (hQ:Q () s):wpAny M A (letOwnedTupleGo tg (.ref it) u) Q E s:=by
 unfold letOwnedTupleGo
 cases tg <;> first
  | exact wpAny_pure hQ
  | (cases u <;> first
   | exact wpAny_pure hQ
   | (refine wpAny_bind (wpAny_load ho ?_)
      rw [hc,hd]
      show wpAny M A (if (["enumerate","zip","dict_itemiterator","dict_reverseitemiterator","odict_iterator","itertools.zip_longest","itertools.pairwise"].contains n && vs[0]? == some (rawInt _))=true then _ else _) Q E s
      rw [if_neg (by intro h; rw [hn,Bool.false_and] at h; cases h)]
      exact wpAny_pure hQ))
def Itl (K:PySem.W.Frag) (a:Addr):It :=
 ⟨fun i H=>∃ xs x,SqL K H a xs∧xs[i]?=some x,fun i H x H'=>H'=H∧∀ xs,SqL K H a xs→xs[i]?=some x,fun i H=>∃ xs,SqL K H a xs∧xs.length≤i⟩
def Itr (lo:Int) (n:Nat):It:=⟨fun i _=>i<n,fun i H x H'=>H'=H∧x=.int (lo+i),fun i _=>n≤i⟩
theorem b34 {P:Program}{w:World}{K:PySem.W.Frag}{tg:Expr}(a it:Addr):Turn P w K tg (Itl K a) [it] it (fun i h=>h.IsListIter it a i) where
 mem:=by simp
 obj:=fun i h st b hb=>by
  have e:b=it:=by simpa using hb
  subst e
  obtain ⟨o,e,c,d⟩:=st
  exact ⟨o,e,fun v z=>by rw [d] at z; cases z⟩
 keep:=fun i h h' st k=>st.at fun o e=>k it (by simp) o e
 item:=by
  intro X hP hw hK hc i pins s σ H E I hf st hg
  subst hP hw hK
  obtain ⟨xs,x,hq,hx⟩:=hg
  obtain ⟨its,rv,p,hz⟩:=I.list hq
  obtain ⟨u,hu,ru⟩:=rv.get hx
  obtain ⟨f0,f1,f2,f3,f4,f5⟩:=hf it (by simp)
  refine wpAny_pyNext_list_item st p.isList (x:=u) (by simpa using hu) fun h' st' sb=>?_
  have I1:Inv X pins σ H { s with heap:=h' }:=I.turned (t':=s.toks) (fun b o hb e=>(sb.2 b hb).trans e) f0 f1 f3 f4 f5
  obtain ⟨o,e,c,d⟩:=id st'
  exact ⟨u,rfl,bb9 (s:={ s with heap:=h' }) e c d (by decide) ⟨x,H,I1,ru,⟨rfl,fun ys hy=>by rw [I.list_inj hy hq]; exact hx⟩,st',fun b hb=>(hf b hb).1⟩⟩
 done:=by
  intro X hP hw hK hc i pins s σ H E I hf st hg
  subst hP hw hK
  obtain ⟨xs,hq,hx⟩:=hg
  obtain ⟨its,rv,p,hz⟩:=I.list hq
  obtain ⟨f0,f1,f2,f3,f4,f5⟩:=hf it (by simp)
  have hl:=rv.length
  exact wpAny_pyNext_list_end (I.ok.hd hc) st p.isList (by simp; omega) fun h' eb=>⟨rfl,I.turned (t':=s.toks) (fun b o hb e=>eb b o hb e) f0 f1 f3 f4 f5⟩
 self:=fun _ _ _ _ _ st h=>wpAny_pyIter_listiter st h
theorem b11 {P:Program}{w:World}{K:PySem.W.Frag}{tg:Expr}(it:Addr) (lo:Int) (n:Nat):Turn P w K tg (Itr lo n) [it] it (fun i h=>IsRangeIter h it (lo+(i:Nat)*1) ((n:Int) - (i:Nat)) 1) where
 mem:=by simp
 obj:=fun i h st b hb=>by
  have e:b=it:=by simpa using hb
  subst e
  exact ⟨_,st,fun v z=>by
   have z':Data.fields _=Data.cell v:=z
   cases z'⟩
 keep:=fun i h h' st k=>k it (by simp) _ st
 item:=by
  intro X hP hw hK hc i pins s σ H E I hf st hg
  subst hP hw hK
  obtain ⟨f0,f1,f2,f3,f4,f5⟩:=hf it (by simp)
  have W:=Walks.range (prog:=X.prog) (w:=X.w) (I.ok.hd hc) it lo 1 n
  refine W.item i s _ _ hg st fun v h' tk hv st' kk=>?_
  obtain ⟨t,rfl⟩:=hv
  have I1:Inv X pins σ H { s with heap:=h',toks:=tk }:=I.turned (fun b o hb e=>kk b o (by simpa using hb) e) f0 f1 f3 f4 f5
  refine ⟨_,rfl,bb9 (s:={ s with heap:=h',toks:=tk }) (n:="range_iterator") st' rfl rfl (by decide) ⟨.int (lo+i),H,I1,⟨t,?_⟩,⟨rfl,rfl⟩,st',fun b hb=>(hf b hb).1⟩⟩
  rw [Int.mul_one]
 done:=by
  intro X hP hw hK hc i pins s σ H E I hf st hg
  subst hP hw hK
  obtain ⟨f0,f1,f2,f3,f4,f5⟩:=hf it (by simp)
  exact wpAny_pyNext_range_end (I.ok.hd hc) st (by have:n≤i:=hg; omega) fun h' eb=>⟨rfl,I.turned (t':=s.toks) (fun b o hb e=>eb b o hb e) f0 f1 f3 f4 f5⟩
 self:=fun _ _ _ _ _ st h=>wpAny_pyIter_rangeiter st h
section
variable {X:Cx}{tg:Expr}
def bk1 (K:PySem.W.Frag) (tl:TE):TI:=fun σ H R=>tl σ H fun x H1=>∃ a,x=.ref a∧(∃ xs,SqL K H1 a xs)∧R (Itl K a) H1
theorem bk2 {l:Expr}{tl:TE}(hl:PE X l tl):PI X tg l (bk1 X.K tl):=by
 intro pins s σ H R I h
 refine thn (hl pins s σ H _ I h) ?_
 rintro v s1 ⟨x,H1,I1,r1,q1⟩
 obtain ⟨a,e,⟨xs,hq⟩,q⟩:=q1
 subst e
 cases r1
 obtain ⟨its,rv,p,hz⟩:=I1.list hq
 refine wpAny_pyIter_list p.isList ?_
 refine ⟨s1.heap.objs.size,[s1.heap.objs.size],_,_,H1,rfl,I1.kept (t':=s1.toks) fun b o e=>Heap.get?_push_of_some _ e,b34 a _,⟨_,Heap.get?_push_size _ rfl,rfl,rfl⟩,fun b hb=>?_,q⟩
 have e:b=s1.heap.objs.size:=by simpa using hb
 subst e
 exact I1.fpOk (Nat.le_refl _) (I1.hok.fresh (Nat.le_refl _))
theorem bc0 {pins:List (Addr×Obj)}{σ:St} {H:Hp}{s:Shared}{R:It→Hp→Prop}{E:Value→Shared→Prop}{lo hi:Int}{t u v:Tok}{tk:Nat}(I:Inv X pins σ H s) (h1:-(2 ^ 62)≤lo) (h2:lo<2 ^ 62) (h3:-(2 ^ 62)≤hi) (h4:hi<2 ^ 62)
 (q:R (Itr lo (hi - lo).toNat) H):wpAny (model X.prog X.w) X.A (pyIter (.ref s.heap.objs.size)) (PIE X pins σ tg R) E { s with heap:=s.heap.push { cls:=.type "range",data:=.fields #[.int lo t,.int hi u,.int 1 v] },toks:=tk }:=by
 refine wpAny_pyIter_range (IsRange.new ..) (small_one h1 h2 h3 h4) ?_
 have I1:Inv X pins σ H { s with heap:=s.heap.push { cls:=.type "range",data:=.fields #[.int lo t,.int hi u,.int 1 v] },toks:=tk }:=I.kept fun b o e=>Heap.get?_push_of_some _ e
 refine ⟨(s.heap.push { cls:=.type "range",data:=.fields #[.int lo t,.int hi u,.int 1 v] }).objs.size,[(s.heap.push { cls:=.type "range",data:=.fields #[.int lo t,.int hi u,.int 1 v] }).objs.size],_,_,H,rfl,
  I1.kept (t':=tk) fun b o e=>Heap.get?_push_of_some _ e,b11 _ lo (hi - lo).toNat,?_,fun b hb=>?_,q⟩
 · have e1:lo+((0:Nat):Int)*1=lo:=by simp
   have e2:(((hi - lo).toNat:Nat):Int) - ((0:Nat):Int)=Builtin.Range.rangeSize lo hi 1:=by rw [rangeSize_one]; split <;> omega
   show IsRangeIter _ _ (lo+((0:Nat):Int)*1) ((((hi - lo).toNat:Nat):Int) - ((0:Nat):Int)) 1
   rw [e1,e2]
   exact Heap.get?_push_size _ rfl
 · have e:b=(s.heap.push { cls:=.type "range",data:=.fields #[.int lo t,.int hi u,.int 1 v] }).objs.size:=by simpa using hb
   subst e
   exact I1.fpOk (Nat.le_refl _) (I1.hok.fresh (Nat.le_refl _))
def br1 (ta:TA):TI:=fun σ H R=>ta σ H fun vs H1=>∃ j:Int,vs=[.int j]∧-(2 ^ 62)≤j∧j<2 ^ 62∧R (Itr 0 j.toNat) H1
theorem a88 {a:Expr}{ta:TA}{p pos:Pos}(hg:Gl X "range") (hm:X.mg "range"=none) (ha:PA X [a] ta) (hs:starEach [a] X.env=[(false,eval a X.env)]:=by rfl):PI X tg (.Call (.Name "range" p) [a] [] pos) (br1 ta):=by
 intro pins s σ H R I h
 refine Call_ (ah4 I hg hm boot_range (PyProof.Rows.callWith_type1 (thn (ha pos pins s σ H _ I h) ?_) hs rfl))
 rintro us s1 ⟨vs,H1,I1,r1,q1⟩
 obtain ⟨j,e,q1,q2,q⟩:=q1
 subst e
 cases r1 with
 | cons r rr =>
   cases rr
   obtain ⟨t,rfl⟩:=r
   exact call_range_1 (bc0 I1 (by omega) (by omega) q1 q2 (by simpa using q))
def tFor (wi:TI) (g:TG) (tb:TS):TS:=fun D σ H=>wi σ H fun J H1=>∃ W:Nat→Nat→St→Hp→Prop,(∃ m,W 0 m σ H1)∧∀ i m σ H,W i m σ H →
 (J.stop i H∧D.nx σ H)∨(J.go i H∧∃ N:St→Hp→Prop,(∀ σ' H',N σ' H'→∃ m',m'<m∧W (i+1) m' σ' H')∧∀ x H',J.yld i H x H'→g x σ H' fun σ2 H2=>tb { D with nx:=N,ct:=N,bk:=D.nx } σ2 H2)
def aq4 (fp:List Addr) (h:Heap):List (Addr×Obj):=fp.filterMap fun b=>(h.get? b).map fun o=>(b,o)
theorem ad9 {fp:List Addr}{h:Heap}{b:Addr}{o:Obj}(hb:b∈fp) (e:h.get? b=some o):(b,o)∈aq4 fp h:=List.mem_filterMap.mpr ⟨b,hb,by rw [e]; rfl⟩
theorem b35 {fp:List Addr}{h:Heap}{p:Addr×Obj}(hp:p∈aq4 fp h):p.1∈fp∧h.get? p.1=some p.2:=by
 obtain ⟨b,hb,e⟩:=List.mem_filterMap.mp hp
 cases q:h.get? b with
 | none=>rw [q] at e; cases e
 | some o =>
   rw [q] at e
   have e':(b,o)=p:=Option.some.inj e
   subst e'
   exact ⟨hb,q⟩
theorem Inv.pinned {pins:List (Addr×Obj)}{σ:St} {H:Hp}{s:Shared}{fp:List Addr}(I:Inv X pins σ H s) (hf:∀ b∈fp,FpOk X pins H b) (ho:∀ b∈fp,∃ o,s.heap.get? b=some o∧∀ v,o.data≠.cell v):Inv X (pins++aq4 fp s.heap) σ H s :=
 I.pins_of fun p hp=>(List.mem_append.mp hp).elim (fun z=>I.pin p (List.mem_append_right _ z)) fun z=>by
  obtain ⟨hb,e⟩:=b35 z
  obtain ⟨f0,f1,f2,_⟩:=hf p.1 hb
  obtain ⟨o,e',d⟩:=ho p.1 hb
  rw [e] at e'; cases e'
  exact ⟨e,f0,f1,f2,d⟩
theorem Inv.unpinned {pins pl:List (Addr×Obj)}{σ:St} {H:Hp}{s:Shared}(I:Inv X (pins++pl) σ H s):Inv X pins σ H s:=I.pins_of fun p hp=>I.pin p (List.mem_append_right _ (List.mem_append_left _ hp))
theorem aa7 {iter:Expr}{body:List Stmt}{wi:TI}{g:TG}{tb:TS}{pos:Pos}(hp:PassesOwn (model X.prog X.w) X.A X.env X.xe) (hc:X.calm=true) (hi:PI X tg iter wi) (hg:PG X tg g) (hb:PSs X body tb)
 (hs:∀ x,foldedSetIterable iter X.env x=pure x:=by intro _; rfl):PS X (.For tg iter body [] pos) (tFor wi g tb):=by
 intro pins s σ H D I h
 refine wpAny_For (thn (hi pins s σ H _ I h) fun v s1 h1=>thn h1 fun itv s2 h2=>?_) hs
 obtain ⟨it,fp,tn,J,H2,e,I2,T,st2,f2,W,⟨m0,w0⟩,turn⟩:=h2
 subst e
 have stat:∀ {H':Hp},(∀ b∈fp,H' b=none)→∀ b∈fp,FpOk X pins H' b:=fun hn b hb=>⟨hn b hb,(f2 b hb).2⟩
 refine codeAny_forLoop_any (fun n s'=>∃ i σ' H',Inv X pins σ' H' s'∧tn i s'.heap∧(∀ b∈fp,H' b=none)∧W i n σ' H') ?_ m0 ⟨0,σ,H2,I2,st2,fun b hb=>(f2 b hb).1,w0⟩
 rintro n s3 ⟨i,σ3,H3,I3,st3,fr3,w3⟩
 rcases turn i n σ3 H3 w3 with ⟨stop,qn⟩ | ⟨go,N,hN,step⟩
 · refine wpAny_passesOwn hp (thn (T.done X rfl rfl rfl hc i pins s3 σ3 H3 X.xe I3 (stat fr3) st3 stop) ?_)
   rintro r s4 ⟨hr,I4⟩
   subst hr
   exact wpAny_execs_nil ⟨σ3,H3,I4,qn⟩
 · refine wpAny_passesOwn hp (thn (T.item X rfl rfl rfl hc i pins s3 σ3 H3 X.xe I3 (stat fr3) st3 go) ?_)
   rintro r s4 ⟨u,hr,h4⟩
   subst hr
   refine wpAny_passesOwn hp (thn h4 ?_)
   rintro _ s5 ⟨x,H5,I5,r5,y5,st5,fr5⟩
   have I5':=I5.pinned (stat fr5) (T.obj _ _ st5)
   refine wpAny_passesOwn hp (thn (hg _ s5 σ3 H5 x u _ I5' r5 (step x H5 y5)) ?_)
   rintro _ s6 ⟨σ6,H6,I6,q6⟩
   refine wpAny_passesOwn hp (thn (hb _ s6 σ6 H6 _ I6 q6) fun f s7 q7=>?_)
   have again:∀ {σ7:St} {H7:Hp},Inv X (pins++aq4 fp s5.heap) σ7 H7 s7→N σ7 H7→∃ m,m<n∧∃ i σ' H',Inv X pins σ' H' s7∧tn i s7.heap∧(∀ b∈fp,H' b=none)∧W i m σ' H':=fun {σ7 H7} I7 n7=>by
    obtain ⟨m',hm,w7⟩:=hN σ7 H7 n7
    refine ⟨m',hm,i+1,σ7,H7,I7.unpinned,T.keep _ _ _ st5 fun b hb o e=>(I7.pin (b,o) (List.mem_append_right _ (List.mem_append_right _ (ad9 hb e)))).1,fun b hb=>?_,w7⟩
    obtain ⟨o,e,d⟩:=T.obj _ _ st5 b hb
    exact (I7.pin (b,o) (List.mem_append_right _ (List.mem_append_right _ (ad9 hb e)))).2.1
   cases f with
   | next=>obtain ⟨σ7,H7,I7,n7⟩:=q7; exact again I7 n7
   | cont=>obtain ⟨σ7,H7,I7,n7⟩:=q7; exact again I7 n7
   | brk=>obtain ⟨σ7,H7,I7,q7⟩:=q7; exact ⟨σ7,H7,I7.unpinned,q7⟩
   | ret v=>obtain ⟨x7,σ7,H7,I7,r7,q7⟩:=q7; exact ⟨x7,σ7,H7,I7.unpinned,r7,q7⟩
end
theorem aa4 {K:PySem.W.Frag}{a:Addr}{xs:List V}{g:TG}{tb:TS}{D:Ends}{σ:St} {H:Hp}(Pv:Nat→St→Hp→Prop) (h0:Pv 0 σ H) (hl:∀ i σ H,i≤xs.length→Pv i σ H→SqL K H a xs)
 (hs:∀ i x σ H,xs[i]?=some x→Pv i σ H→g x σ H fun σ2 H2=>tb { D with nx:=Pv (i+1),ct:=Pv (i+1),bk:=D.nx } σ2 H2) (hd:∀ σ H,Pv xs.length σ H→D.nx σ H) :
 ∃ W:Nat→Nat→St→Hp→Prop,(∃ m,W 0 m σ H)∧∀ i m σ H,W i m σ H →
  ((Itl K a).stop i H∧D.nx σ H)∨((Itl K a).go i H∧∃ N:St→Hp→Prop,(∀ σ' H',N σ' H'→∃ m',m'<m∧W (i+1) m' σ' H')∧∀ x H',(Itl K a).yld i H x H'→g x σ H' fun σ2 H2=>tb { D with nx:=N,ct:=N,bk:=D.nx } σ2 H2):=by
 refine ⟨fun i m σ H=>m=xs.length - i∧i≤xs.length∧Pv i σ H,⟨xs.length,by simp,Nat.zero_le _,h0⟩,?_⟩
 rintro i m σ H ⟨rfl,hi,p⟩
 have q:=hl i σ H hi p
 by_cases hlt:i<xs.length
 · refine .inr ⟨⟨xs,xs[i],q,by simp [hlt]⟩,Pv (i+1),fun σ' H' p'=>⟨xs.length - (i+1),by omega,rfl,hlt,p'⟩,fun x H' y=>?_⟩
   obtain ⟨e,y⟩:=y
   subst e
   exact hs i x σ _ (y xs q) p
 · have e:i=xs.length:=by omega
   subst e
   exact .inl ⟨⟨xs,q,Nat.le_refl _⟩,hd σ H p⟩
theorem aj1 {lo:Int}{n:Nat}{g:TG}{tb:TS}{D:Ends}{σ:St} {H:Hp}(Pv:Nat→St→Hp→Prop) (h0:Pv 0 σ H)
 (hs:∀ i σ H,i<n→Pv i σ H→g (.int (lo+i)) σ H fun σ2 H2=>tb { D with nx:=Pv (i+1),ct:=Pv (i+1),bk:=D.nx } σ2 H2) (hd:∀ σ H,Pv n σ H→D.nx σ H) :
 ∃ W:Nat→Nat→St→Hp→Prop,(∃ m,W 0 m σ H)∧∀ i m σ H,W i m σ H →
  ((Itr lo n).stop i H∧D.nx σ H)∨((Itr lo n).go i H∧∃ N:St→Hp→Prop,(∀ σ' H',N σ' H'→∃ m',m'<m∧W (i+1) m' σ' H')∧∀ x H',(Itr lo n).yld i H x H'→g x σ H' fun σ2 H2=>tb { D with nx:=N,ct:=N,bk:=D.nx } σ2 H2):=by
 refine ⟨fun i m σ H=>m=n - i∧i≤n∧Pv i σ H,⟨n,by simp,Nat.zero_le _,h0⟩,?_⟩
 rintro i m σ H ⟨rfl,hi,p⟩
 by_cases hlt:i<n
 · refine .inr ⟨hlt,Pv (i+1),fun σ' H' p'=>⟨n - (i+1),by omega,rfl,hlt,p'⟩,fun x H' y=>?_⟩
   obtain ⟨e,y⟩:=y
   subst e y
   exact hs i σ _ hlt p
 · have e:i=n:=by omega
   subst e
   exact .inl ⟨Nat.le_refl _,hd σ H p⟩
abbrev R2:=V→V→Hp→VK→Prop
def OpR (X:Cx) (f:Value→Value→Sem Value) (r:R2):Prop :=
 ∀ (pins:List (Addr×Obj)) (s:Shared) (σ:St) (H:Hp) (x y:V) (v u:Value) (Q:VK),Inv X pins σ H s→RelV x v→RelV y u→r x y H Q →
  wpAny (model X.prog X.w) X.A (f v u) (EP X pins σ Q) X.xe s
def UnR (X:Cx) (f:Value→Sem Value) (r:V→Hp→VK→Prop):Prop :=
 ∀ (pins:List (Addr×Obj)) (s:Shared) (σ:St) (H:Hp) (x:V) (v:Value) (Q:VK),Inv X pins σ H s→RelV x v→r x H Q →
  wpAny (model X.prog X.w) X.A (f v) (EP X pins σ Q) X.xe s
def CallR (X:Cx) (f:Value) (r:List V→Hp→VK→Prop):Prop :=
 ∀ (pins:List (Addr×Obj)) (s:Shared) (σ:St) (H:Hp) (xs:List V) (us:List Value) (Q:VK),Inv X pins σ H s→Vals xs us→r xs H Q →
  wpAny (model X.prog X.w) X.A (call f us) (EP X pins σ Q) X.xe s
def TruR (X:Cx) (r:V→Hp→(Bool→Hp→Prop)→Prop):Prop :=
 ∀ (pins:List (Addr×Obj)) (s:Shared) (σ:St) (H:Hp) (x:V) (v:Value) (Q:Bool→Hp→Prop),Inv X pins σ H s→RelV x v→r x H Q →
  wpAny (model X.prog X.w) X.A (truthy v) (TP X pins σ Q) X.xe s
def tOp (r:R2) (ta tb:TE):TE:=fun σ H Q=>ta σ H fun x H1=>tb σ H1 fun y H2=>r x y H2 Q
def tUn (r:V→Hp→VK→Prop) (ta:TE):TE:=fun σ H Q=>ta σ H fun x H1=>r x H1 Q
def rI (C:Int→Int→Prop) (g:Int→Int→V):R2:=fun x y H Q=>∃ i j,x=.int i∧y=.int j∧C i j∧Q (g i j) H
def rI0 (g:Int→Int→V):R2:=fun x y H Q=>∃ i j,x=.int i∧y=.int j∧Q (g i j) H
def rU (g:Int→V):V→Hp→VK→Prop:=fun x H Q=>∃ i,x=.int i∧Q (g i) H
section
variable {X:Cx}{a b c:Expr}{ta tb tc:TE}{pos:Pos}
theorem binT (ha:PE X a ta) (hb:PE X b tb) {pins:List (Addr×Obj)}{s:Shared}{σ:St} {H:Hp}{R:V→V→Hp→Prop}(I:Inv X pins σ H s)
 (h:ta σ H fun x H1=>tb σ H1 fun y H2=>R x y H2) {Q:Value→Shared→Prop}{f:Value→Value→Sem Value}
 (hf:∀ v u s2 x y H2,Inv X pins σ H2 s2→RelV x v→RelV y u→R x y H2→wpAny (model X.prog X.w) X.A (f v u) Q X.xe s2) :
 wpAny (model X.prog X.w) X.A (eval a X.env) (fun v s₁=>wpAny (model X.prog X.w) X.A (eval b X.env) (fun u s₂=>wpAny (model X.prog X.w) X.A (f v u) Q X.xe s₂) X.xe s₁) X.xe s:=by
 refine thn (ha pins s σ H _ I h) ?_
 rintro v s1 ⟨x,H1,I1,r1,q1⟩
 refine thn (hb pins s1 σ H1 _ I1 q1) ?_
 rintro u s2 ⟨y,H2,I2,r2,q2⟩
 exact hf v u s2 x y H2 I2 r1 r2 q2
theorem a31 {op:Operator}{r:R2}(ho:OpR X (binaryOp op) r) (ha:PE X a ta) (hb:PE X b tb):PE X (.BinOp a op b pos) (tOp r ta tb):=by
 intro pins s σ H Q I h
 exact wpAny_BinOp (binT ha hb I h fun v u s2 x y H2 I2 rx ry q=>ho pins s2 σ H2 x y v u Q I2 rx ry q)
theorem b36 {op:UnaryOp}{r:V→Hp→VK→Prop}(ho:UnR X (unaryOp op) r) (ha:PE X a ta):PE X (.UnaryOp op a pos) (tUn r ta):=by
 intro pins s σ H Q I h
 exact UnaryOp_ (thn (ha pins s σ H _ I h) (by rintro v s1 ⟨x,H1,I1,r1,q1⟩; exact ho pins s1 σ H1 x v Q I1 r1 q1))
theorem opI {f:Value→Value→Sem Value}{C:Int→Int→Prop}{g:Int→Int→Int}
 (rule:∀ (i j:Int) (t u:Tok) (s:Shared) (Q:Value→Shared→Prop) (E:Value→Shared→Prop),C i j→Q (.int (g i j) s.toks) { s with toks:=s.toks+1 }→wpAny (model X.prog X.w) X.A (f (.int i t) (.int j u)) Q E s) :
 OpR X f (rI C fun i j=>.int (g i j)):=by
 intro pins s σ H x y v u Q I rx ry h
 obtain ⟨i,j,rfl,rfl,hc,q⟩:=h
 obtain ⟨t,rfl⟩:=rx
 obtain ⟨t',rfl⟩:=ry
 exact rule i j t t' s _ _ hc ⟨.int (g i j),H,I.tok _,⟨_,rfl⟩,q⟩
theorem opI0 {f:Value→Value→Sem Value}{g:Int→Int→Int}
 (rule:∀ (i j:Int) (t u:Tok) (s:Shared) (Q:Value→Shared→Prop) (E:Value→Shared→Prop),Q (.int (g i j) s.toks) { s with toks:=s.toks+1 }→wpAny (model X.prog X.w) X.A (f (.int i t) (.int j u)) Q E s) :
 OpR X f (rI0 fun i j=>.int (g i j)):=by
 intro pins s σ H x y v u Q I rx ry h
 obtain ⟨i,j,rfl,rfl,q⟩:=h
 obtain ⟨t,rfl⟩:=rx
 obtain ⟨t',rfl⟩:=ry
 exact rule i j t t' s _ _ ⟨.int (g i j),H,I.tok _,⟨_,rfl⟩,q⟩
theorem opB0 {f:Value→Value→Sem Value}{g:Int→Int→Bool}
 (rule:∀ (i j:Int) (t u:Tok) (s:Shared) (Q:Value→Shared→Prop) (E:Value→Shared→Prop),Q (.bool (g i j)) s→wpAny (model X.prog X.w) X.A (f (.int i t) (.int j u)) Q E s) :
 OpR X f (rI0 fun i j=>.bl (g i j)):=by
 intro pins s σ H x y v u Q I rx ry h
 obtain ⟨i,j,rfl,rfl,q⟩:=h
 obtain ⟨t,rfl⟩:=rx
 obtain ⟨t',rfl⟩:=ry
 exact rule i j t t' s _ _ ⟨.bl (g i j),H,I,rfl,q⟩
def CDiv (i j:Int):Prop:=0<j∧j<1073741824
def CPow (i j:Int):Prop:=0≤j∧j≤1000000∧i.natAbs<2 ^ 64
def CMul (i j:Int):Prop:=(-(2 ^ 64)<i∧i<2 ^ 64)∨(-(2 ^ 64)<j∧j<2 ^ 64)
theorem CMul.ok {i j:Int}(h:CMul i j):IntMulOk i j:=by
 rcases h with ⟨h1,h2⟩ | ⟨h1,h2⟩
 · exact .of_left (intBits_le_64 h1 h2)
 · exact .of_right (intBits_le_64 h1 h2)
theorem b12 (k:Nat):(0:Int)≤2 ^ k:=by
 rw [two_pow_cast]
 exact Int.natCast_nonneg _
theorem br2:OpR X (binaryOp .Add) (rI0 fun i j=>.int (i+j)):=opI0 fun _ _ _ _ _ _ _ q=>add_int q
theorem ay1:OpR X (binaryOp .Sub) (rI0 fun i j=>.int (i - j)):=opI0 fun _ _ _ _ _ _ _ q=>sub_int q
theorem ae7:OpR X (binaryOp .FloorDiv) (rI CDiv fun i j=>.int (i / j)):=opI fun i j _ _ _ _ _ hc q=>by
 have h1:(0:Int)<j:=hc.1
 have h2:j<1073741824:=hc.2
 exact floordiv_int (by omega) (by rw [Int.fdiv_eq_ediv_of_nonneg i (by omega)]; exact q) (.inl (PyProof.noPylong_small (by omega)))
theorem a62:OpR X (binaryOp .Mod) (rI (fun _ j=>0<j) fun i j=>.int (i % j)):=opI fun i j _ _ _ _ _ hc q=>by
 have h1:(0:Int)<j:=hc
 exact mod_int' (by omega) (by rw [Int.fmod_eq_emod_of_nonneg i (by omega)]; exact q)
theorem br3:OpR X (binaryOp .Pow) (rI CPow fun i j=>.int (i ^ j.toNat)):=opI fun _ _ _ _ _ _ _ hc q=>pow_int_small hc.1 hc.2.1 hc.2.2 q
theorem br4:OpR X (binaryOp .LShift) (rI CPow fun i j=>.int (i*2 ^ j.toNat)):=opI fun _ _ _ _ _ _ _ hc q=>lshift_int_small hc.1 hc.2.1 hc.2.2 q
theorem br5:OpR X (binaryOp .RShift) (rI (fun _ j=>0≤j) fun i j=>.int (i / 2 ^ j.toNat)):=opI fun i j _ _ _ _ _ hc q =>
 rshift_int hc (by rw [Int.fdiv_eq_ediv_of_nonneg i (b12 _)]; exact q)
theorem br6:OpR X (binaryOp .BitAnd) (rI0 fun i j=>.int (Builtin.bitAnd i j)):=opI0 fun _ _ _ _ _ _ _ q=>and_int q
theorem unI {f:Value→Sem Value}{g:Int→Int}
 (rule:∀ (i:Int) (t:Tok) (s:Shared) (Q:Value→Shared→Prop) (E:Value→Shared→Prop),Q (.int (g i) s.toks) { s with toks:=s.toks+1 }→wpAny (model X.prog X.w) X.A (f (.int i t)) Q E s) :
 UnR X f (rU fun i=>.int (g i)):=by
 intro pins s σ H x v Q I rx h
 obtain ⟨i,rfl,q⟩:=h
 obtain ⟨t,rfl⟩:=rx
 exact rule i t s _ _ ⟨.int (g i),H,I.tok _,⟨_,rfl⟩,q⟩
theorem aq5:UnR X (unaryOp .USub) (rU fun i=>.int (-i)):=unI fun _ _ _ _ _ q=>neg_int q
end
def scal:V→V→Bool
 | .non,.non=>true | .non,.int _=>true | .int _,.non=>true | .non,.bl _=>true | .bl _,.non=>true | .non,.str _=>true | .str _,.non=>true
 | .int _,.int _=>true | .bl _,.bl _=>true | .str _,.str _=>true | .byt _,.byt _=>true
 | .int _,.str _=>true | .str _,.int _=>true | .bl _,.str _=>true | .str _,.bl _=>true
 | _,_=>false
def rEq:R2:=fun x y H Q=>scal x y=true∧Q (.bl (decide (x=y))) H
def rNe:R2:=fun x y H Q=>scal x y=true∧Q (.bl (!decide (x=y))) H
theorem b37 {i j:Int}:decide (V.int i=V.int j)=(i == j):=by
 rw [Bool.eq_iff_iff]
 simp
theorem bh0 {i j:Bool}:decide (V.bl i=V.bl j)=(i == j):=by
 rw [Bool.eq_iff_iff]
 simp
theorem b38 {i j:Str}:decide (V.str i=V.str j)=(i == j):=by
 rw [Bool.eq_iff_iff]
 simp
theorem b39 {i j:Array UInt8}:decide (V.byt i=V.byt j)=(i.toList == j.toList):=by
 rw [Bool.eq_iff_iff]
 cases i
 cases j
 simp
section
variable {X:Cx}{a b c:Expr}{ta tb tc:TE}{pos:Pos}
theorem a57 {pins:List (Addr×Obj)}{σ:St} {H:Hp}{s:Shared}{Q:VK}{k k':Bool}(I:Inv X pins σ H s) (q:Q (.bl k) H) (e:k=k'):EP X pins σ Q (.bool k') s:=by
 subst e
 exact ⟨.bl k,H,I,rfl,q⟩
theorem a68:OpR X (compareOp .Eq) rEq:=by
 intro pins s σ H x y v u Q I rx ry h
 obtain ⟨hs,q⟩:=h
 cases x with
 | non =>
   cases rx
   cases y with
   | non=>cases ry; exact PySem.EqNone.eq_none_none (a57 I q (by simp))
   | bl j=>cases ry; exact PySem.EqNone.eq_none_bool (a57 I q (by simp))
   | int j=>obtain ⟨t',rfl⟩:=ry; exact PySem.EqNone.eq_none_int (a57 I q (by simp))
   | str j=>obtain ⟨t',rfl⟩:=ry; exact PySem.EqNone.eq_none_str (a57 I q (by simp))
   | _=>exact absurd (show false=true from hs) Bool.false_ne_true
 | bl i =>
   cases rx
   cases y with
   | non=>cases ry; exact PySem.EqNone.eq_bool_none (a57 I q (by simp))
   | bl j=>cases ry; exact eq_bool (a57 I q bh0)
   | str j=>obtain ⟨t',rfl⟩:=ry; exact PySem.EqMixed.eq_bool_str (a57 I q (by simp))
   | _=>exact absurd (show false=true from hs) Bool.false_ne_true
 | int i =>
   obtain ⟨t,rfl⟩:=rx
   cases y with
   | non=>cases ry; exact PySem.EqNone.eq_int_none (a57 I q (by simp))
   | int j=>obtain ⟨t',rfl⟩:=ry; exact eq_int (a57 I q b37)
   | str j=>obtain ⟨t',rfl⟩:=ry; exact PySem.EqMixed.eq_int_str (a57 I q (by simp))
   | _=>exact absurd (show false=true from hs) Bool.false_ne_true
 | str i =>
   obtain ⟨t,rfl⟩:=rx
   cases y with
   | non=>cases ry; exact PySem.EqNone.eq_str_none (a57 I q (by simp))
   | bl j=>cases ry; exact PySem.EqMixed.eq_str_bool (a57 I q (by simp))
   | int j=>obtain ⟨t',rfl⟩:=ry; exact PySem.EqMixed.eq_str_int (a57 I q (by simp))
   | str j=>obtain ⟨t',rfl⟩:=ry; exact eq_str (a57 I q b38)
   | _=>exact absurd (show false=true from hs) Bool.false_ne_true
 | byt i =>
   obtain ⟨t,rfl⟩:=rx
   cases y with
   | byt j=>obtain ⟨t',rfl⟩:=ry; exact PySem.W.eq_bytes (a57 I q b39)
   | _=>exact absurd (show false=true from hs) Bool.false_ne_true
 | _=>cases y <;> exact absurd (show false=true from hs) Bool.false_ne_true
theorem c00:OpR X (compareOp .NotEq) rNe:=by
 intro pins s σ H x y v u Q I rx ry h
 obtain ⟨hs,q⟩:=h
 cases x with
 | non =>
   cases rx
   cases y with
   | non=>cases ry; exact PySem.EqNone.ne_none_none (a57 I q (by simp))
   | bl j=>cases ry; exact PySem.EqNone.ne_none_bool (a57 I q (by simp))
   | int j=>obtain ⟨t',rfl⟩:=ry; exact PySem.EqNone.ne_none_int (a57 I q (by simp))
   | str j=>obtain ⟨t',rfl⟩:=ry; exact PySem.EqNone.ne_none_str (a57 I q (by simp))
   | _=>exact absurd (show false=true from hs) Bool.false_ne_true
 | bl i =>
   cases rx
   cases y with
   | non=>cases ry; exact PySem.EqNone.ne_bool_none (a57 I q (by simp))
   | bl j=>cases ry; exact ne_bool (a57 I q (congrArg not bh0))
   | str j=>obtain ⟨t',rfl⟩:=ry; exact PySem.EqMixed.ne_bool_str (a57 I q (by simp))
   | _=>exact absurd (show false=true from hs) Bool.false_ne_true
 | int i =>
   obtain ⟨t,rfl⟩:=rx
   cases y with
   | non=>cases ry; exact PySem.EqNone.ne_int_none (a57 I q (by simp))
   | int j=>obtain ⟨t',rfl⟩:=ry; exact ne_int (a57 I q (congrArg not b37))
   | str j=>obtain ⟨t',rfl⟩:=ry; exact PySem.EqMixed.ne_int_str (a57 I q (by simp))
   | _=>exact absurd (show false=true from hs) Bool.false_ne_true
 | str i =>
   obtain ⟨t,rfl⟩:=rx
   cases y with
   | non=>cases ry; exact PySem.EqNone.ne_str_none (a57 I q (by simp))
   | bl j=>cases ry; exact PySem.EqMixed.ne_str_bool (a57 I q (by simp))
   | int j=>obtain ⟨t',rfl⟩:=ry; exact PySem.EqMixed.ne_str_int (a57 I q (by simp))
   | str j=>obtain ⟨t',rfl⟩:=ry; exact ne_str (a57 I q (congrArg not b38))
   | _=>exact absurd (show false=true from hs) Bool.false_ne_true
 | byt i =>
   obtain ⟨t,rfl⟩:=rx
   cases y with
   | byt j=>obtain ⟨t',rfl⟩:=ry; exact PySem.W.ne_bytes (a57 I q (congrArg not b39))
   | _=>exact absurd (show false=true from hs) Bool.false_ne_true
 | _=>cases y <;> exact absurd (show false=true from hs) Bool.false_ne_true
theorem br7:OpR X (compareOp .Lt) (rI0 fun i j=>.bl (decide (i<j))):=opB0 fun _ _ _ _ _ _ _ q=>lt_int q
theorem c01:OpR X (compareOp .LtE) (rI0 fun i j=>.bl (decide (i≤j))):=opB0 fun _ _ _ _ _ _ _ q=>le_int q
theorem br8:OpR X (compareOp .Gt) (rI0 fun i j=>.bl (decide (j<i))):=opB0 fun _ _ _ _ _ _ _ q=>gt_int q
theorem nomark (b:Expr) {op:CmpOp}(h:op≠.In:=by decide) (h2:op≠.NotIn:=by decide):behindInMarks op b=false:=by
 have e1:(op == CmpOp.In)=false:=by cases op <;> first | rfl | exact absurd rfl h
 have e2:(op == CmpOp.NotIn)=false:=by cases op <;> first | rfl | exact absurd rfl h2
 cases b <;> simp [behindInMarks,e1,e2]
theorem bk3 {op:CmpOp}{r:R2}(ho:OpR X (compareOp op) r) (ha:PE X a ta) (hb:PE X b tb) (hm:behindInMarks op b=false):PE X (.Compare a [op] [b] pos) (tOp r ta tb):=by
 intro pins s σ H Q I h
 exact wpAny_Compare1 (binT ha hb I h fun v u s2 x y H2 I2 rx ry q=>ho pins s2 σ H2 x y v u Q I2 rx ry q) hm
def bc1 (t:TE):TT:=fun σ H Q=>t σ H fun x H'=>∃ k,x=.bl k∧Q k H'
theorem a29 {op:CmpOp}{r:R2}(ho:OpR X (compareOp op) r) (ha:PE X a ta) (hb:PE X b tb) (hm:behindInMarks op b=false):PT X (.Compare a [op] [b] pos) (bc1 (tOp r ta tb)):=by
 intro pins s σ H Q I h
 refine wpAny_isTrue_Compare1 (thn (ha pins s σ H _ I h) fun v s1 ⟨x,H1,I1,r1,q1⟩=>thn (hb pins s1 σ H1 _ I1 q1) fun u s2 ⟨y,H2,I2,r2,q2⟩ =>
  thn (ho pins s2 σ H2 x y v u _ I2 r1 r2 q2) fun c s3 ⟨z,H3,I3,r3,k,e,q3⟩=>?_) hm
 subst e
 cases r3
 exact wpAny_truthy_bool ⟨H3,I3,q3⟩
def bh1 (r r':R2) (ta tb tc:TE):TE:=fun σ H Q=>ta σ H fun x H1=>tb σ H1 fun y H2=>r x y H2 fun z H3=>∃ k,z=.bl k ∧
 (if k=true then tc σ H3 fun w' H4=>r' y w' H4 Q else Q (.bl false) H3)
theorem bc2 {op op':CmpOp}{r r':R2}(ho:OpR X (compareOp op) r) (ho':OpR X (compareOp op') r') (ha:PE X a ta) (hb:PE X b tb) (hc:PE X c tc)
 (hm:lastMarks [op,op'] [b,c]=false:=by with_unfolding_all rfl):PT X (.Compare a [op,op'] [b,c] pos) (bc1 (bh1 r r' ta tb tc)):=by
 intro pins s σ H Q I h
 refine isTrue_chain (thn (ha pins s σ H _ I h) fun v s1 ⟨x,H1,I1,r1,q1⟩=>test_link (thn (hb pins s1 σ H1 _ I1 q1) fun u s2 ⟨y,H2,I2,r2,q2⟩ =>
  thn (ho pins s2 σ H2 x y v u _ I2 r1 r2 q2) fun d s3 ⟨z,H3,I3,r3,k,e,q3⟩=>?_)) hm
 subst e
 cases r3
 refine wpAny_truthy_bool ?_
 cases k with
 | false =>
   obtain ⟨k',e',q'⟩:=q3
   cases e'
   exact ite_ff ⟨H3,I3,q'⟩
 | true =>
   refine ite_tt (test_last (thn (hc pins s3 σ H3 _ I3 q3) ?_))
   rintro w' s4 ⟨z',H4,I4,r4,q4⟩
   refine thn (ho' pins s4 σ H4 y z' u w' _ I4 r2 r4 q4) ?_
   rintro d' s5 ⟨z2,H5,I5,r5,k2,e2,q5⟩
   subst e2
   cases r5
   exact wpAny_truthy_bool ⟨H5,I5,q5⟩
def TruV (K:PySem.W.Frag) (x:V) (H:Hp) (k:Bool):Prop :=
 match x with
 | .non=>k=false
 | .bl b=>k=b
 | .int i=>k=(i != 0)
 | .str y=>y.length≤sizeLine∧k=((y.length:Int) != 0)
 | .byt y=>y.size≤sizeLine∧k=((y.size:Int) != 0)
 | .ref p=>(∃ xs,SqL K H p xs∧k=!xs.isEmpty)∨(∃ xs,SqT K H p xs∧k=!xs.isEmpty)∨∃ kvs,H p=some (.dK kvs)∧k=!kvs.isEmpty
 | _=>False
theorem b13 {κ:Type} {kvs:List (κ×V)}{vs:List (κ×Value)}(r:KV kvs vs):(!vs.isEmpty)=!kvs.isEmpty:=by
 cases r <;> rfl
theorem al5 {xs:List V}{its:List Value}(r:Vals xs its):(!its.toArray.isEmpty)=!xs.isEmpty:=by
 cases r <;> simp
theorem aq6:(sizeLine:Nat)<2 ^ 63:=by rw [sizeLine_eq]; decide
theorem br9:TruR X (fun x H Q=>∃ k,TruV X.K x H k∧Q k H):=by
 intro pins s σ H x v Q I rx h
 obtain ⟨k,e,q⟩:=h
 have hl:=aq6
 have hs:sizeLine=16777216:=sizeLine_eq
 cases x with
 | non =>
   cases rx
   have e':k=false:=e
   subst e'
   exact truthy_none ⟨H,I,q⟩
 | bl b =>
   cases rx
   have e':k=b:=e
   subst e'
   exact wpAny_truthy_bool ⟨H,I,q⟩
 | int i =>
   obtain ⟨t,rfl⟩:=rx
   have e':k=(i != 0):=e
   subst e'
   exact PySem.P.truthy_int ⟨H,I,q⟩
 | str y =>
   obtain ⟨t,rfl⟩:=rx
   obtain ⟨hy,e'⟩:y.length≤sizeLine∧k=((y.length:Int) != 0):=e
   subst e'
   exact PySem.P.truthy_str (by omega) ⟨H,I.tok _,q⟩
 | byt y =>
   obtain ⟨t,rfl⟩:=rx
   obtain ⟨hy,e'⟩:y.size≤sizeLine∧k=((y.size:Int) != 0):=e
   subst e'
   exact PySem.W.truthy_bytes (by omega) ⟨H,I.tok _,q⟩
 | ref p =>
   cases rx
   have e':(∃ xs,SqL X.K H p xs∧k=!xs.isEmpty)∨(∃ xs,SqT X.K H p xs∧k=!xs.isEmpty)∨∃ kvs,H p=some (.dK kvs)∧k=!kvs.isEmpty:=e
   rcases e' with ⟨xs,hx,e'⟩ | ⟨xs,hx,e'⟩ | ⟨kvs,hx,e'⟩
   · subst e'
     obtain ⟨its,r,pl,hz⟩:=I.list hx
     have hlen:=r.length
     exact wpAny_truthy_list pl.isList (by simp only [List.size_toArray]; omega) ⟨H,I.tok _,by rw [al5 r]; exact q⟩
   · subst e'
     obtain ⟨its,r,pl,hz⟩:=I.tuple hx
     have hlen:=r.length
     exact truthy_tuple pl (by simp only [List.size_toArray]; omega) ⟨H,I.tok _,by rw [al5 r]; exact q⟩
   · subst e'
     obtain ⟨hz,hS,vs,r,m⟩:kvs.length≤sizeLine∧(p == sysModules)=false∧∃ vs,KV kvs vs∧s.heap.DictOf (a76 X.prog X.w) p vs:=I.hok p _ hx
     have hlen:kvs.length=vs.length:=Paired.length r
     exact wpAny_truthy_dict hS m (by omega) ⟨H,I.tok _,by rw [b13 r]; exact q⟩
 | _=>exact (show False from e).elim
theorem bc3 (ha:PE X a ta) (he:∀ whole,isTrue a X.env whole=(do let v←whole; standAt a.pos; holding [v] (truthy v))) :
 PT X a (fun σ H Q=>ta σ H fun x H'=>∃ k,TruV X.K x H' k∧Q k H'):=by
 intro pins s σ H Q I h
 exact isTrue_plain (thn (ha pins s σ H _ I h) (by rintro v s1 ⟨x,H1,I1,r1,q1⟩; exact br9 pins s1 σ H1 x v Q I1 r1 q1)) (he _)
theorem b14:OpR X (binaryOp .Add) (fun x y H Q=>∃ i j,x=.str i∧y=.str j∧i.length+j.length≤sizeLine∧Q (.str (i++j)) H):=by
 intro pins s σ H x y v u Q I rx ry h
 obtain ⟨i,j,rfl,rfl,hz,q⟩:=h
 obtain ⟨t,rfl⟩:=rx
 obtain ⟨t',rfl⟩:=ry
 exact add_str (fun t' tk=>⟨.str (i++j),H,I.tok _,⟨_,rfl⟩,q⟩) hz
theorem aq7 {x:V}{us:List Value}(r:Vals [x] us):∃ u,us=[u]∧RelV x u:=by
 cases r with
 | cons r1 r2=>cases r2; exact ⟨_,rfl,r1⟩
theorem bc4 {x y:V}{us:List Value}(r:Vals [x,y] us):∃ u w',us=[u,w']∧RelV x u∧RelV y w':=by
 cases r with
 | cons r1 r2 =>
   cases r2 with
   | cons r3 r4=>cases r4; exact ⟨_,_,rfl,r1,r3⟩
def LenV (K:PySem.W.Frag) (x:V) (H:Hp) (n:Nat):Prop :=
 match x with
 | .str y=>y.length≤sizeLine∧n=y.length
 | .byt y=>y.size≤sizeLine∧n=y.size
 | .ref p=>(∃ xs,SqL K H p xs∧n=xs.length)∨∃ xs,SqT K H p xs∧n=xs.length
 | _=>False
theorem bc5:CallR X (.builtin "len") (fun xs H Q=>∃ x n,xs=[x]∧LenV X.K x H n∧Q (.int n) H):=by
 intro pins s σ H xs us Q I r h
 obtain ⟨x,n,rfl,e,q⟩:=h
 obtain ⟨u,rfl,rx⟩:=aq7 r
 have hl:=aq6
 have hs:sizeLine=16777216:=sizeLine_eq
 cases x with
 | str y =>
   obtain ⟨t,rfl⟩:=rx
   obtain ⟨hy,e'⟩:y.length≤sizeLine∧n=y.length:=e
   subst e'
   exact len_str (by omega) ⟨.int _,H,I.tok _,⟨_,rfl⟩,q⟩
 | byt y =>
   obtain ⟨t,rfl⟩:=rx
   obtain ⟨hy,e'⟩:y.size≤sizeLine∧n=y.size:=e
   subst e'
   exact PySem.W.len_bytes (by omega) ⟨.int _,H,I.tok _,⟨_,rfl⟩,q⟩
 | ref p =>
   cases rx
   have e':(∃ xs,SqL X.K H p xs∧n=xs.length)∨∃ xs,SqT X.K H p xs∧n=xs.length:=e
   rcases e' with ⟨xs,hx,e'⟩ | ⟨xs,hx,e'⟩
   · subst e'
     obtain ⟨its,r',pl,hz⟩:=I.list hx
     have hlen:=r'.length
     exact Calls.call_len_list pl.isList (by simp only [List.size_toArray]; omega) ⟨.int xs.length,H,I.tok _,⟨_,by simp only [List.size_toArray]; rw [hlen]⟩,q⟩
   · subst e'
     obtain ⟨its,r',pl,hz⟩:=I.tuple hx
     have hlen:=r'.length
     exact len_tuple pl (by simp only [List.size_toArray]; omega) ⟨.int xs.length,H,I.tok _,⟨_,by simp only [List.size_toArray]; rw [hlen]⟩,q⟩
 | _=>exact (show False from e).elim
end
structure ObjM (h:Heap) (x dx C:Addr) (mA:Str→Option Value):Prop where
 obj:h.get? x=some (PySem.W.instObj C dx)
 ns:h.Ns1 dx mA
 ne:dx≠x
theorem b40 {h:Heap}{dx:Addr}{mA:Str→Option Value}(n:h.Ns1 dx mA):∃ od,h.get? dx=some od∧∀ name,PySem.W.lookIn name od=some (mA name):=by
 obtain ⟨o,es,ep,ho,hd,hk,_,hm⟩:=n
 refine ⟨o,ho,fun name=>?_⟩
 have e:=hm name
 unfold nsFind findBy at e
 rw [← Array.find?_toList] at e
 unfold PySem.W.lookIn
 rw [hd]
 dsimp only
 split
 · rename_i y q
   rw [q] at e
   exact congrArg some e
 · rename_i q
   rw [q] at e
   have a:es.toList.any (·.refKey)=false:=by
    rw [List.any_eq_false]
    intro y hy
    obtain ⟨z,t,hkey⟩:=hk y (Array.mem_toList_iff.mp hy)
    simp [DictEntry.refKey,hkey]
   have a':¬ es.toList.any (·.refKey)=true:=by rw [a]; exact Bool.false_ne_true
   rw [if_neg a']
   exact congrArg some e
theorem ObjM.look {h:Heap}{x dx C:Addr}{mA:Str→Option Value}(I:ObjM h x dx C mA):∃ od,PySem.W.InstAt h x (PySem.W.instObj C dx) C (some od)∧∀ name,PySem.W.lookIn name od=some (mA name) :=
 let ⟨od,ho,hl⟩:=b40 I.ns
 ⟨od,⟨I.obj,rfl,rfl,ho⟩,hl⟩
section
variable {prog:Program}{w:World}{A:Around}{E:Value→Shared→Prop}{s:Shared}{K:PySem.W.Frag}{x dx C f:Addr}{mA:Str→Option Value}{name:Str}{v:Value}
end
def putF (f:Str) (v:V):List (Str×V)→List (Str×V)
 | []=>[(f,v)]
 | (g,x)::r=>if g=f then (g,v)::r else (g,x)::putF f v r
section
variable {P:Program}{w:World}{H H':Hp}{h h':Heap}{a C dx:Addr}{fs fs':List (Str×V)}
theorem bk4 (hok:HOk P w H h) (e:H a=some (.ins C dx fs)):∃ mA,ObjM h a dx C mA∧(∀ f,RelO (fs.lookup f) (mA f))∧PySem.Within mA (fs.map (·.1))∧fs.length≤1000∧H dx=some (.own a):=by
 obtain ⟨d,z,ne,ob,mA,n,r,q⟩:=(show ObjOk P w H h a (.ins C dx fs) from hok a _ e)
 exact ⟨mA,⟨ob,n,ne⟩,r,q,z,d⟩
end
structure Cls (K:PySem.W.Frag) (C:Addr):Prop where
 pg:PySem.W.plainGet K C Str.empty=true
 hd:PySem.W.hasDictIn K C=true
 po:PySem.W.plainOver K C=true
 sa:PySem.W.findIn K (.ref C) "__setattr__"=some (some (.builtin "object.__setattr__"))
theorem Cls.get {K:PySem.W.Frag}{C:Addr}(c:Cls K C) (f:Str):PySem.W.plainGet K C f=true:=c.pg
def bs1 (K:PySem.W.Frag) (C:Addr) (f:Str):Prop:=PySem.W.findIn K (.ref C) f=some none
structure Meth (K:PySem.W.Frag) (C:Addr) (m:Str) (f:Addr):Prop where
 at_:PySem.W.findIn K (.ref C) m=some (some (.ref f))
 fn:PySem.W.isFn K (.ref f)=true
 kp:PySem.W.keepIn K (.ref f)=true
section
variable {X:Cx}{pins:List (Addr×Obj)}{σ:St} {H:Hp}{s:Shared}{a C dx:Addr}{fs:List (Str×V)}{f:Str}{v:V}{A:Around}{E:Value→Shared→Prop}
end
section
variable {X:Cx}{o e value:Expr}{f:Str}{pos pos' tpos:Pos}{ta tv:TE}
end
section
variable {X:Cx}{pins:List (Addr×Obj)}{σ:St} {H:Hp}{s:Shared}{A:Around}{E:Value→Shared→Prop}{Q:Value→Shared→Prop}{c:Value}{b:Bool}
inductive TyOf (K:PySem.W.Frag) (H:Hp):V→Value→Prop where
 | non:TyOf K H .non (.type "NoneType")
 | bl (x:Bool):TyOf K H (.bl x) (.type "bool")
 | int (i:Int):TyOf K H (.int i) (.type "int")
 | str (x:Str):TyOf K H (.str x) (.type "str")
 | flt (x:UInt64):TyOf K H (.flt x) (.type "float")
 | lst {a:Addr}{xs:List V}(e:H a=some (.lst xs)):TyOf K H (.ref a) (.type "list")
 | frz {a:Addr}{o:Obj}{xs:List V}(e:H a=some (.frz o (.lst xs))):TyOf K H (.ref a) (.type "list")
 | tup {a:Addr}{xs:List V}(e:H a=some (.tup xs)):TyOf K H (.ref a) (.type "tuple")
 | dK {a:Addr}{kvs:List (Key×V)}(e:H a=some (.dK kvs)):TyOf K H (.ref a) (.type "dict")
 | dT {a:Addr}{kvs:List (List Key×V)}(e:H a=some (.dT kvs)):TyOf K H (.ref a) (.type "dict")
 | ins {a C dx:Addr}{fs:List (Str×V)}(e:H a=some (.ins C dx fs)) (cl:Cls K C) (ha:PySem.W.findIn K (.ref C) "__class__"=some (some (.builtin "object.__class__")))
  (hn:PySem.W.specialIn K (.builtin "object.__class__") "__get__"=some (some (.builtin "getset_descriptor.__get__"))) (htk:PySem.W.takesIn K (.builtin "object.__class__")=some true)
  (hm:PySem.W.mroIn K C (.type "object")=some true):TyOf K H (.ref a) (.ref C)
theorem b41 {x:V}{u t:Value}(I:Inv X pins σ H s) (rx:RelV x u) (ty:TyOf X.K H x t) (e:PySem.W.kitOne X.K t c=some b) (h:∀ tk,Q (.bool b) { s with toks:=tk }) :
 wpAny (model X.prog X.w) A (call (.builtin "isinstance") [u,c]) Q E s:=by
 cases ty with
 | non=>cases (show u=Value.none from rx); exact PySem.W.kia_one PySem.W.kitx_none I.kIn True.intro e (fun z=>nomatch z) h
 | bl y=>cases (show u=Value.bool y from rx); exact PySem.W.kia_one PySem.W.kitx_bool I.kIn True.intro e (fun z=>nomatch z) h
 | int i=>obtain ⟨t,q⟩:=(show ∃ t,u=Value.int i t from rx); cases q; exact PySem.W.kia_one PySem.W.kitx_int I.kIn True.intro e (fun z=>nomatch z) h
 | str y=>obtain ⟨t,q⟩:=(show ∃ t,u=Value.str y t from rx); cases q; exact PySem.W.kia_one PySem.W.kitx_str I.kIn True.intro e (fun z=>nomatch z) h
 | flt y=>obtain ⟨t,q⟩:=(show ∃ t,u=Value.float y t from rx); cases q; exact PySem.W.kia_one PySem.W.kitx_float I.kIn True.intro e (fun z=>nomatch z) h
 | @lst a xs ea =>
   cases (show u=Value.ref a from rx)
   obtain ⟨_,_,n,_,h1⟩:=(show ObjOk X.prog X.w H s.heap a (.lst xs) from I.hok a _ ea)
   exact PySem.W.kia_one PySem.W.kitx_list I.kIn ⟨_,h1,rfl⟩ e (fun z=>nomatch z) h
 | @frz a ob xs ea =>
   cases (show u=Value.ref a from rx)
   obtain ⟨_,_,_,n,_,h1⟩:=(show ObjOk X.prog X.w H s.heap a (.frz ob (.lst xs)) from I.hok a _ ea)
   exact PySem.W.kia_one PySem.W.kitx_list I.kIn ⟨_,h1,rfl⟩ e (fun z=>nomatch z) h
 | @tup a xs ea =>
   cases (show u=Value.ref a from rx)
   obtain ⟨_,_,_,p⟩:=(show ObjOk X.prog X.w H s.heap a (.tup xs) from I.hok a _ ea)
   obtain ⟨o,h1,h2,_⟩:=p
   exact PySem.W.kia_one PySem.W.kitx_tuple I.kIn ⟨o,h1,h2⟩ e (fun z=>nomatch z) h
 | @dK a kvs ea =>
   cases (show u=Value.ref a from rx)
   obtain ⟨_,_,vs,_,p⟩:=(show ObjOk X.prog X.w H s.heap a (.dK kvs) from I.hok a _ ea)
   obtain ⟨o,es,ep,h1,h2,_⟩:=p
   exact PySem.W.kia_one PySem.W.kitx_dict I.kIn ⟨o,h1,h2.1⟩ e (fun z=>nomatch z) h
 | @dT a kvs ea =>
   cases (show u=Value.ref a from rx)
   obtain ⟨_,_,xs,_,o,es,ep,h1,h2,_⟩:=(show ObjOk X.prog X.w H s.heap a (.dT kvs) from I.hok a _ ea)
   exact PySem.W.kia_one PySem.W.kitx_dict I.kIn ⟨o,h1,h2.1⟩ e (fun z=>nomatch z) h
 | @ins a C dx fs ea cl ha hn htk hm =>
   cases (show u=Value.ref a from rx)
   obtain ⟨mA,O,_⟩:=bk4 I.hok ea
   obtain ⟨od,J,_⟩:=O.look
   exact PySem.W.kia_one (PySem.W.kitx_own (cl.get _) cl.hd ha hn htk hm) I.kIn J e (fun z=>nomatch z) h
end
structure Room (k:Nat) (A:Around):Prop where
 hd:A.handled=none
 dp:A.depth+3*k+5<recursionLimit
 un:A.units+16*k+200<cLine
theorem Room.mono {j k:Nat}{A:Around}(r:Room k A) (h:j≤k):Room j A:=⟨r.hd,by have:=r.dp; omega,by have:=r.un; omega⟩
theorem Room.deeper {k:Nat}{A:Around}(r:Room (k+1) A) (env:Env):Room k (A.deeper env) :=
 ⟨r.hd,by have:=r.dp; show A.depth+1+3*k+5<_; omega,by have:=r.un; show A.units+3+16*k+200<_; omega⟩
theorem Room.depth {k:Nat}{A:Around}(r:Room k A):A.depth<recursionLimit:=by have:=r.dp; omega
theorem Room.units {k:Nat}{A:Around}(r:Room k A):A.units+64<cLine:=by have:=r.un; omega
def tNil:TA:=fun _ H Q=>Q [] H
def tCons (ta:TE) (tr:TA):TA:=fun σ H Q=>ta σ H fun x H1=>tr σ H1 fun xs H2=>Q (x::xs) H2
section
variable {X:Cx}{e:Expr}{es:List Expr}{te:TE}{t:TA}{pos:Pos}
theorem a01:PA X [] tNil:=fun _ _ _ _ H Q I h=>Calls.spliced_nil ⟨[],H,I,.nil,h⟩
theorem a00 (ha:PE X e te) (hr:PA X es t) (hs:starEach (e::es) X.env=(false,eval e X.env)::starEach es X.env:=by rfl):PA X (e::es) (tCons te t):=by
 intro pos pins s σ H Q I h
 rw [hs]
 show wpAny _ _ (spliced ((false,eval e X.env)::backTo pos (starEach es X.env))) _ _ s
 refine Calls.spliced_cons (thn (ha pins s σ H _ I h) ?_)
 rintro u s1 ⟨x,H1,I1,r1,q1⟩
 exact thn (hr pos pins s1 σ H1 _ I1 q1) (by rintro us s2 ⟨xs,H2,I2,r2,q2⟩; exact ⟨x::xs,H2,I2,.cons r1 r2,q2⟩)
end
abbrev Sp:=List V→Hp→VK→XK→Prop
abbrev CXT:=List Env→Hp→Shared→XK→Value→Shared→Prop
structure Env0 (P:Program) (w:World) (K:PySem.W.Frag) (mg:Str→Option Value) (base:Heap) (A:Around) (outer:List Env) (s:Shared) (H:Hp):Prop where
 frames:A.frames=some outer
 mod:Mod K mg base
 bs:∀ b o,base.get? b=some o→s.heap.get? b=some o∧H b=none
 bsz:base.objs.size≤s.heap.objs.size
 funs:s.heap.FunFrames base outer
 frf:∀ b∈frs outer,H b=none
 hok:HOk P w H s.heap
 bare:AllBare s.gens
def CE (outer:List Env) (P:Program) (w:World) (H:Hp) (s:Shared) (Q:VK) (u:Value) (s':Shared):Prop :=
 ∃ v H',s'.os=s.os∧AllBare s'.gens∧Un (frs outer) [] H H' s.heap s'.heap∧HOk P w H' s'.heap∧RelV v u∧Q v H'
def CR (CX:CXT) (outer:List Env) (P:Program) (w:World) (H:Hp) (s:Shared) (Q:VK) (E:XK) (r:Result) (s':Shared):Prop :=
 match r with
 | .ok (.ret u)=>CE outer P w H s Q u s'
 | .ok _=>False
 | .error e=>CX outer H s E e s'
structure FnOk (P:Program) (w:World) (K:PySem.W.Frag) (mg:Str→Option Value) (base:Heap) (CX:CXT) (k:Nat) (f:Addr) (fd:FuncData) (ps:List Str) (sp:Sp):Prop where
 len:∀ vs H Q E,sp vs H Q E→vs.length=ps.length
 run:∀ (A:Around) (outer:List Env) (s:Shared) (H:Hp) (args:Args) (us:List Value) (vs:List V) (Q:VK) (E:XK),Room k A→Env0 P w K mg base A outer s H→BindsTo s fd args (ps.zip us)→Vals vs us→sp vs H Q E →
  codeAny (model P w) A (.call (.ref f) args) (CR CX outer P w H s Q E) s
section
variable {X:Cx}{pins:List (Addr×Obj)}{σ:St} {H:Hp}{s s':Shared}
theorem Inv.env0 (I:Inv X pins σ H s):Env0 X.prog X.w X.K X.mg X.base X.A X.stack s H :=
 ⟨I.ok.frames,I.ok.mod,I.bs,Nat.le_trans I.ok.bsz I.sz,I.stack,I.stkFree,I.hok,I.bare⟩
theorem Inv.after {Q:VK}{u:Value}(I:Inv X pins σ H s) (h:CE X.stack X.prog X.w H s Q u s'):EP X pins σ Q u s':=by
 obtain ⟨v,H',os,bare,un,hok,r,q⟩:=h
 obtain ⟨hh,g,d,t,os'⟩:=s'
 obtain rfl:os'=s.os:=os
 exact ⟨v,H',I.call (h':=hh) (g':=g) (d':=d) (t':=t) (ch:=[]) un hok bare (fun b z=>absurd z (by simp)),r,q⟩
end
def bs3 (sp:Sp) (dvs:List V) (E:XK) (t:TA):TE:=fun σ H Q=>t σ H fun vs H1=>sp (vs++dvs) H1 Q E
def Binds (K:PySem.W.Frag) (fd:FuncData) (ps:List Str) (ds:List Value):Prop :=
 ∀ (s:Shared) (us:List Value),K.In s.heap→(us++ds).length=ps.length→BindsTo s fd ⟨us,[]⟩ (ps.zip (us++ds))
theorem Binds.all {K:PySem.W.Frag}{fd:FuncData}{ps:List Str}(h:∀ us:List Value,us.length=ps.length→bindArgs fd ⟨us,[]⟩=pure (ps.zip us)):Binds K fd ps []:=fun s us _ hl=>by
 rw [List.append_nil] at hl ⊢
 exact .of_eq (h us hl)
def b42 (CX:CXT) (X:Cx) (E:XK):Prop:=∀ (pins:List (Addr×Obj)) (σ:St) (H:Hp) (s:Shared) (e:Value) (s':Shared),Inv X pins σ H s→CX X.stack H s E e s'→X.xe e s'
section
variable {X:Cx}{CX:CXT}{k:Nat}{f C:Addr}{fd:FuncData}{ps:List Str}{sp:Sp}{dvs:List V}{ds:List Value}{E:XK}{x m:Str}{p pos apos:Pos}{e o:Expr}{es:List Expr}{ta:TE}{t:TA}
theorem bs4 {pins:List (Addr×Obj)}{σ:St} {H:Hp}{s:Shared}{Q:VK}{us:List Value}{vs:List V}(F:FnOk X.prog X.w X.K X.mg X.base CX k f fd ps sp) (hr:Room k X.A) (hb:Binds X.K fd ps ds) (hd:Vals dvs ds) (hx:b42 CX X E)
 (I:Inv X pins σ H s) (r:Vals vs us) (h:sp (vs++dvs) H Q E):wpAny (model X.prog X.w) X.A (call (.ref f) us) (EP X pins σ Q) X.xe s:=by
 have r2:Vals (vs++dvs) (us++ds):=r.append hd
 have hl:(us++ds).length=ps.length:=by rw [← r2.length]; exact F.len _ _ _ _ h
 refine wpAny_call (codeAny_mono (F.run X.A X.stack s H ⟨us,[]⟩ (us++ds) (vs++dvs) Q E hr I.env0 (hb s us I.kIn hl) r2 h) fun r s' hq=>?_)
 cases r with
 | error e=>exact hx pins σ H s e s' I hq
 | ok fl =>
   cases fl with
   | ret u=>exact I.after hq
   | next=>exact False.elim hq
   | brk=>exact False.elim hq
   | cont=>exact False.elim hq
theorem a32 (F:FnOk X.prog X.w X.K X.mg X.base CX k f fd ps sp) (hr:Room k X.A) (hg:Gl X x) (hm:X.mg x=some (.ref f)) (hk:PySem.W.keepIn X.K (.ref f)=true) (hb:Binds X.K fd ps ds) (hd:Vals dvs ds) (hx:b42 CX X E)
 (ha:PA X (e::es) t) (hdb:(x == ("__debug__":Str))=false:=by decide) (he:starEach (e::es) X.env=(false,eval e X.env)::starEach es X.env:=by rfl) (hpl:(backTo pos (starEach es X.env)).any (·.1)=false:=by rfl) :
 PE X (.Call (.Name x p) (e::es) [] pos) (bs3 sp dvs E t):=by
 intro pins s σ H Q I h
 refine wpAny_Call_Name_kw (b32 I hg hm ?_ hdb)
 refine PySem.W.callWith_K (h₀:=X.base) I.ok.mod.kin hk (thn (ha pos pins s σ H _ I h) ?_) he hpl
 rintro us s1 ⟨vs,H1,I1,r,q⟩
 refine ⟨I1.kIn,?_⟩
 exact bs4 F hr hb hd hx I1 r q
structure Mk (K:PySem.W.Frag) (C f:Addr):Prop where
 makes:PySem.W.makesIn K C=true
 init:PySem.W.findIn K (.ref C) "__init__"=some (some (.ref f))
 fn:PySem.W.isFn K (.ref f)=true
 kp:PySem.W.keepIn K (.ref C)=true
end
def PK (X:Cx) (kws:List Keyword) (t:TA):Prop :=
 ∀ (pos:Pos) (pins:List (Addr×Obj)) (s:Shared) (σ:St) (H:Hp) (Q:List V→Hp→Prop),Inv X pins σ H s→t σ H Q→wpAny (model X.prog X.w) X.A (evalAll ((backToKw pos (keywordEach kws X.env)).map (·.2))) (AP X pins σ Q) X.xe s
section
variable {X:Cx}{CX:CXT}{k:Nat}{f C:Addr}{fd:FuncData}{ps ks:List Str}{sp:Sp}{E:XK}{x m:Str}{p pos apos kpos:Pos}{e o:Expr}{es:List Expr}{kws:List Keyword}{te ta:TE}{t tk:TA}{nm:Option Str}
theorem b43:PK X [] tNil:=fun _ _ _ _ H Q I h=>wpAny_evalAll_nil ⟨[],H,I,.nil,h⟩
theorem av2 (ha:PE X e te) (hr:PK X kws t):PK X (⟨nm,e,kpos⟩::kws) (tCons te t):=by
 intro pos pins s σ H Q I h
 show wpAny _ _ (evalAll ((do let v←eval e X.env; standAt pos; pure v)::(backToKw pos (keywordEach kws X.env)).map (·.2))) _ _ s
 refine wpAny_evalAll_cons (wpAny_bind (thn (ha pins s σ H _ I h) ?_))
 rintro u s1 ⟨x,H1,I1,r1,q1⟩
 refine wpAny_bind (wpAny_standAt (wpAny_pure ?_))
 exact thn (hr pos pins s1 σ H1 _ I1 q1) (by rintro us s2 ⟨xs,H2,I2,r2,q2⟩; exact ⟨x::xs,H2,I2,.cons r1 r2,q2⟩)
variable {g:List Value→List Value→List Value}{gV:List V→List V→List V}
end
structure FnScope (N P:List Str) (sc:Scope):Prop where
 kind:sc.kind=.function
 co:sc.isCoroutine=false
 gen:sc.isGenerator=false
 nd:N.Nodup
 pre:N.take P.length=P
 par:∀ x∈P,sc.names.lookup x=some .local∨sc.names.lookup x=some .cell
 nofree:∀ y∈sc.names,y.2≠.free
theorem aq8 {kindOf:Str→Option NameKind}{x:Str}:∀ {binds:List (Str×Value)}{m:Str→Option Value},(∀ v,(x,v)∉binds)→bindL kindOf binds m x=m x
 | [],_,_=>rfl
 | (n,v)::r,m,h=>by
   unfold bindL
   rw [aq8 fun w hw=>h w (List.mem_cons_of_mem _ hw)]
   split
   · have:x≠n:=by rintro rfl; exact h v List.mem_cons_self
     simp [this]
   · rfl
theorem aq9 {kindOf:Str→Option NameKind}{x:Str}:∀ {binds:List (Str×Value)}{m:Str→Option Value},(∀ v,(x,v)∉binds)→bindC kindOf binds m x=m x
 | [],_,_=>rfl
 | (n,v)::r,m,h=>by
   unfold bindC
   rw [aq9 fun w hw=>h w (List.mem_cons_of_mem _ hw)]
   split
   · rfl
   · have:x≠n:=by rintro rfl; exact h v List.mem_cons_self
     simp [this]
theorem ar0 {kindOf:Str→Option NameKind}{x:Str}{v:Value}:∀ {P:List Str}{vs:List Value}{i:Nat}{m:Str→Option Value},P.Nodup→P[i]?=some x→vs[i]?=some v→kindOf x=some .local →
 bindL kindOf (P.zip vs) m x=some v
 | [],_,_,_,_,h,_,_=>by simp at h
 | _::_,[],_,_,_,_,h,_=>by simp at h
 | p::P,w::vs,0,m,nd,h1,h2,hk=>by
   simp at h1 h2; subst h1; subst h2
   show bindL kindOf ((p,w)::P.zip vs) m p=_
   unfold bindL
   rw [aq8 fun v hv=>(List.nodup_cons.mp nd).1 (List.of_mem_zip hv).1,if_pos hk]
   simp
 | p::P,w::vs,i+1,m,nd,h1,h2,hk=>by
   show bindL kindOf ((p,w)::P.zip vs) m x=_
   unfold bindL
   exact ar0 (i:=i) (List.nodup_cons.mp nd).2 (by simpa using h1) (by simpa using h2) hk
theorem ar1 {kindOf:Str→Option NameKind}{x:Str}{v:Value}:∀ {P:List Str}{vs:List Value}{i:Nat}{m:Str→Option Value},P.Nodup→P[i]?=some x→vs[i]?=some v→kindOf x≠some .local →
 bindC kindOf (P.zip vs) m x=some v
 | [],_,_,_,_,h,_,_=>by simp at h
 | _::_,[],_,_,_,_,h,_=>by simp at h
 | p::P,w::vs,0,m,nd,h1,h2,hk=>by
   simp at h1 h2; subst h1; subst h2
   show bindC kindOf ((p,w)::P.zip vs) m p=_
   unfold bindC
   rw [aq9 fun v hv=>(List.nodup_cons.mp nd).1 (List.of_mem_zip hv).1,if_neg hk]
   simp
 | p::P,w::vs,i+1,m,nd,h1,h2,hk=>by
   show bindC kindOf ((p,w)::P.zip vs) m x=_
   unfold bindC
   exact ar1 (i:=i) (List.nodup_cons.mp nd).2 (by simpa using h1) (by simpa using h2) hk
def start (N:List Str) (vs:List V):St:=vs.map some++List.replicate (N.length - vs.length) none
def cxOf (CX:CXT) (P:Program) (w:World) (K:PySem.W.Frag) (mg:Str→Option Value) (base:Heap) (N:List Str) (qual:Str) (scope:Scope) (f:Addr) (cd:Value) (A:Around) (outer:List Env) (s:Shared) (H:Hp) (E:XK):Cx where
 prog:=P
 w:=w
 K:=K
 mg:=mg
 base:=base
 A:=A.deeper (envOfC qual scope s.heap.objs.size f cd)
 N:=N
 s₀:=s
 H₀:=H
 env:=envOfC qual scope s.heap.objs.size f cd
 outer:=outer
 stack:=envOfC qual scope s.heap.objs.size f cd::outer
 ex:=[]
 calm:=true
 fn:=fun _=>true
 pn:=[]
 xe:=fun e s'=>wpAny (model P w) (A.deeper (envOfC qual scope s.heap.objs.size f cd)) (leaving (envOfC qual scope s.heap.objs.size f cd) e) (fun _ s''=>CX outer H s E e s'') (fun e' s''=>CX outer H s E e' s'') s'
theorem ay2 {sc:Scope}{n:Nat}{x:Str}(h:sc.names.lookup x=some .cell):∃ c,(cellsFrom n sc.names []).lookup x=some c:=by
 have q:=PySem.W.cellsFrom_some sc.names n [] (.inl h)
 exact Option.isSome_iff_exists.mp q
theorem b44 {CX:CXT}{P:Program}{w:World}{K:PySem.W.Frag}{mg:Str→Option Value}{base:Heap}{N ps:List Str}{qual:Str}{scope:Scope}{f:Addr}{cd:Value}{A:Around}{outer:List Env}{s s1:Shared}{H:Hp}{E:XK}{us:List Value}{vs:List V}
 (S:FnScope N ps scope) (hd:A.handled=none) (e0:Env0 P w K mg base A outer s H) (hl:vs.length=ps.length) (r:Vals vs us)
 (x:InCallC s s.heap.objs.size (bindL (envOfC qual scope s.heap.objs.size f cd).kindOf (ps.zip us) fun _=>none) (cellsFrom (s.heap.objs.size+1) scope.names []) (bindC (envOfC qual scope s.heap.objs.size f cd).kindOf (ps.zip us) fun _=>none) s1) :
 Inv (cxOf CX P w K mg base N qual scope f cd A outer s H E) [] (start N vs) H s1:=by
 have hpl:ps.length≤N.length:=by have:=congrArg List.length S.pre; rw [List.length_take] at this; omega
 obtain ⟨h1,tk,rfl,hk⟩:=x.done
 have noA:∀ b:Addr,b∉(cxOf CX P w K mg base N qual scope f cd A outer s H E).ex:=fun b z=>absurd (show b∈([]:List Addr) from z) (by simp)
 refine ⟨⟨e0.mod,S.kind,rfl,rfl,Nat.le_refl _,fun y z c h1 h2=>?_,fun y hy=>?_,fun y c _ h=>?_,fun _=>hd,Around.frames_deeper e0.frames,.inr ⟨rfl,rfl⟩,fun b z=>absurd z (noA b),e0.bs,e0.bsz,fun b _ _=>noA b,fun b z=>absurd z (noA b),e0.funs,e0.frf⟩,
  rfl,e0.bare,Un.kept hk,⟨_,x.toInCall.ns,fun i y v h1 h2 h3=>?_⟩,fun y c h=>⟨_,x.cell y c h⟩,e0.hok.fresh (Nat.le_refl _),fun y c h=>?_,fun p hp=>absurd (show p∈([]:List (Addr×Obj)) from hp) (by simp),e0.hok.kept hk,?_⟩
 · exact name_of_addr x.apart (PySem.mem_of_lookup h1) (PySem.mem_of_lookup h2)
 · have hy:scope.names.lookup y=some .cell∨scope.names.lookup y=some .free:=hy
   rcases hy with hy | hy
   · exact ay2 hy
   · exact absurd rfl (S.nofree _ (PySem.mem_of_lookup hy))
 · exact Nat.le_of_lt (x.above y c (PySem.mem_of_lookup h))
 · have hi:i<vs.length:=by
    unfold start at h2
    by_cases hi:i<vs.length
    · exact hi
    · rw [List.getElem?_append_right (by simpa using hi)] at h2
      rw [List.getElem?_replicate] at h2
      split at h2 <;> cases h2
   have ha:vs[i]?=some v:=by
    unfold start at h2
    rw [List.getElem?_append_left (by simpa using hi),List.getElem?_map] at h2
    cases e:vs[i]? with
    | none=>rw [e] at h2; cases h2
    | some a=>rw [e] at h2; cases h2; rfl
   obtain ⟨u,hu,rv⟩:=r.get ha
   have hp:ps[i]?=some y:=by
    rw [← S.pre,List.getElem?_take_of_lt (by omega)]; exact h1
   have ndP:ps.Nodup:=by rw [← S.pre]; exact S.nd.sublist (List.take_sublist _ _)
   refine ⟨u,rv,?_⟩
   rcases S.par y (List.mem_of_getElem? hp) with k | k
   · exact .inl ⟨k,ar0 ndP hp hu k⟩
   · obtain ⟨c,e⟩:=ay2 (n:=s.heap.objs.size+1) k
     refine .inr ⟨.inl k,c,e,?_⟩
     have q:=x.cell y c e
     rw [ar1 ndP hp hu (by show scope.names.lookup y≠_; rw [k]; decide)] at q
     exact q
 · exact e0.hok.fresh (Nat.le_of_lt (x.above y c (PySem.mem_of_lookup h)))
 · unfold start
   show _=N.length
   rw [List.length_append,List.length_map,List.length_replicate]
   omega
theorem c02 {CX:CXT}{P:Program}{w:World}{K:PySem.W.Frag}{mg:Str→Option Value}{base:Heap}{k:Nat}{f:Addr}{name qual:Str}{params:Arguments}{body:List Stmt}{scope:Scope}{dV kV doc pm cdv ct oc:Value}{an od:Option Addr}
 {osl:Array (Option Value)}{N ps:List Str}{sp:Sp}(lk:K.lookup f=some ⟨oc,od,.func (PySem.W.fnOf name qual params body scope dV kV doc pm an cdv ct),osl⟩) (hcd:PySem.W.codeIn K cdv qual=true) (S:FnScope N ps scope)
 (len:∀ vs H Q E,sp vs H Q E→vs.length=ps.length)
 (hbody:∀ (A:Around) (outer:List Env) (s:Shared) (H:Hp) (vs:List V) (Q:VK) (E:XK),Room k (A.deeper (envOfC qual scope s.heap.objs.size f cdv))→sp vs H Q E →
  ∃ t,PSs (cxOf CX P w K mg base N qual scope f cdv A outer s H E) body t∧t { nx:=fun _ H'=>Q .non H',rt:=Q } (start N vs) H) :
 FnOk P w K mg base CX (k+1) f (PySem.W.fnOf name qual params body scope dV kV doc pm an cdv ct) ps sp:=by
 refine ⟨len,fun A outer s H args us vs Q E hr e0 hb r hsp=>?_⟩
 have hl:=len _ _ _ _ hsp
 have KX:K.In s.heap:=e0.mod.kin.keeps fun b o e=>(e0.bs b o e).1
 have lim:s.heap.NoLimit:=e0.mod.nolimit.keeps fun b o e=>(e0.bs b o e).1
 have hkind:∀ y∈ps.zip us,scope.names.lookup y.1=some .local∨(scope.names.lookup y.1=some .cell∧((cellsFrom (s.heap.objs.size+1) scope.names []).lookup y.1).isSome=true):=fun ⟨n,v⟩ hy=>by
  rcases S.par n (List.of_mem_zip hy).1 with q | q
  · exact .inl q
  · exact .inr ⟨q,PySem.W.cellsFrom_some _ _ _ (.inl q)⟩
 refine codeAny_call_function hr.depth (KX _ _ lk) rfl S.co S.gen rfl (PySem.W.codeRec_of KX hcd) (hb _ _ _ _ ?_)
 refine wpAny_newFunctionEnv_cells S.kind hkind fun env he s1 x=>?_
 subst he
 refine ⟨lim.keeps x.toInCall.keep,codeAny_func ?_⟩
 obtain ⟨t,ht,hq⟩:=hbody A outer s H vs Q E (hr.deeper _) hsp
 have I:Inv (cxOf CX P w K mg base N qual scope f cdv A outer s H E) [] (start N vs) H s1:=b44 S hr.hd e0 hl r x
 refine wpAny_mono (ht [] s1 (start N vs) H _ I hq) (fun fl s' hs=>?_) fun e s' hs=>hs
 have fin:∀ {σ':St} {H':Hp}{v:V}{u:Value},Inv (cxOf CX P w K mg base N qual scope f cdv A outer s H E) [] σ' H' s'→RelV v u→Q v H'→CE outer P w H s Q u s' :=
  fun {σ' H' v u} J rv q=>⟨v,H',J.os,J.bare,J.base,J.hok,rv,q⟩
 cases fl with
 | ret u =>
   obtain ⟨v,σ',H',J,rv,q⟩:=hs
   exact fin J rv q
 | next =>
   obtain ⟨σ',H',J,q⟩:=hs
   exact fin (v:=V.non) (u:=Value.none) J rfl q
 | brk =>
   obtain ⟨_,_,_,q⟩:=hs
   exact False.elim q
 | cont =>
   obtain ⟨_,_,_,q⟩:=hs
   exact False.elim q
section
variable {X:Cx}{x:Str}{p pos:Pos}{e:Expr}{es:List Expr}{t:TA}{id T:String}{r:List V→Hp→VK→Prop}
def tCB (r:List V→Hp→VK→Prop) (t:TA):TE:=fun σ H Q=>t σ H fun vs H1=>r vs H1 Q
theorem a39 (hc:CallR X (.builtin id) r) (hg:Gl X x) (hm:X.mg x=none) (hv:bootBuiltins x=some (.builtin id)) (ha:PA X (e::es) t) (hn:x≠"__name__":=by decide) (hdb:(x == ("__debug__":Str))=false:=by decide)
 (he:starEach (e::es) X.env=(false,eval e X.env)::starEach es X.env:=by rfl) (hpl:(backTo pos (starEach es X.env)).any (·.1)=false:=by rfl):PE X (.Call (.Name x p) (e::es) [] pos) (tCB r t):=by
 intro pins s σ H Q I h
 refine wpAny_Call_Name_kw (ah4 I hg hm hv ?_ hn hdb)
 exact PyProof.Rows.callWith_builtin1 (thn (ha pos pins s σ H _ I h) (by rintro us s1 ⟨vs,H1,I1,r1,q1⟩; exact hc pins s1 σ H1 vs us Q I1 r1 q1)) he hpl
theorem a77 (hc:CallR X (.type T) r) (hg:Gl X x) (hm:X.mg x=none) (hv:bootBuiltins x=some (.type T)) (ha:PA X (e::es) t) (hn:x≠"__name__":=by decide) (hdb:(x == ("__debug__":Str))=false:=by decide)
 (he:starEach (e::es) X.env=(false,eval e X.env)::starEach es X.env:=by rfl) (hpl:(backTo pos (starEach es X.env)).any (·.1)=false:=by rfl):PE X (.Call (.Name x p) (e::es) [] pos) (tCB r t):=by
 intro pins s σ H Q I h
 refine wpAny_Call_Name_kw (ah4 I hg hm hv ?_ hn hdb)
 exact PyProof.Rows.callWith_type1 (thn (ha pos pins s σ H _ I h) (by rintro us s1 ⟨vs,H1,I1,r1,q1⟩; exact hc pins s1 σ H1 vs us Q I1 r1 q1)) he hpl
end
end L2
namespace HT
open PySem PyProof.Rows
section
open PySem.SeqAt
open PySem.AutoSeq1 (wpAny_loadPart')
open PySem.MeetsSeq PySem.MeetsSeq2 PySem.MeetsSeq3
end
section
variable {prog:Program}{w:World}{A:Around}{E:Value→Shared→Prop}{s:Shared}
def sIx (n d:Nat):Option Int→Nat
 | none=>d
 | some v=>if v<0 then (v+(n:Int)).toNat else min v.toNat n
theorem sIx_none (n d:Nat):sIx n d none=d:=rfl
theorem sIx_nat (n d k:Nat):sIx n d (some (k:Int))=min k n:=by
 show (if (k:Int)<0 then ((k:Int)+(n:Int)).toNat else min (k:Int).toNat n)=min k n
 rw [if_neg (by omega),Int.toNat_natCast]
end
end HT
namespace L2
open PySem PySem.Spec PyProof.Rows
abbrev TO:=St→Hp→(Option Int→Hp→Prop)→Prop
def PO (X:Cx) (e:Option Expr) (t:TO):Prop :=
 ∀ (pins:List (Addr×Obj)) (s:Shared) (σ:St) (H:Hp) (Q:Option Int→Hp→Prop),Inv X pins σ H s→t σ H Q →
  wpAny (model X.prog X.w) X.A (evalPart e X.env) (fun u s'=>∃ o H',Inv X pins σ H' s'∧IsPart u o∧Q o H') X.xe s
def b45:TO:=fun _ H Q=>Q none H
def bs5 (t:TE):TO:=fun σ H Q=>t σ H fun x H1=>∃ i,x=.int i∧Q (some i) H1
theorem al6 {ns:List Int}:∀ {us:List Value},Vals (ns.map V.int) us→IntsAre us ns:=by
 induction ns with
 | nil=>intro us r; rw [List.map_nil] at r; cases r; exact .nil
 | cons n ns ih =>
   intro us r
   rw [List.map_cons] at r
   cases r with
   | cons r1 r2 =>
     obtain ⟨t,e⟩:=r1
     subst e
     exact .cons n t (ih r2)
section
variable {X:Cx}{e:Expr}{te:TE}{lo hi:Option Expr}{tl th:TO}{pos p2:Pos}
theorem a59:PO X none b45:=by
 intro pins s σ H Q I h
 rw [evalPart_none]
 exact wpAny_pure ⟨none,H,I,.none,h⟩
theorem a51 (h:PE X e te):PO X (some e) (bs5 te):=by
 intro pins s σ H Q I hw
 rw [evalPart_some]
 refine thn (h pins s σ H _ I hw) ?_
 rintro u s1 ⟨x,H1,I1,r1,q1⟩
 obtain ⟨i,rfl,q⟩:=q1
 obtain ⟨t,rfl⟩:=r1
 exact ⟨some i,H1,I1,.int i t,q⟩
def SlR (X:Cx) (r:V→Option Int→Option Int→Hp→VK→Prop):Prop :=
 ∀ (pins:List (Addr×Obj)) (s:Shared) (σ:St) (H:Hp) (x:V) (v vl vu:Value) (lo hi:Option Int) (sl:Addr) (Q:VK),Inv X pins σ H s→RelV x v→s.heap.IsSliceOf sl vl vu .none→IsPart vl lo→IsPart vu hi→r x lo hi H Q →
  ∃ T id,typeLookup (.type T) "__getitem__"=pure (some (.builtin id))∧s.TypeIs v T∧wpAny (model X.prog X.w) X.A (getItem v (.ref sl)) (EP X pins σ Q) X.xe s
def tSl (r:V→Option Int→Option Int→Hp→VK→Prop) (te:TE) (tl th:TO):TE:=fun σ H Q=>te σ H fun x H1=>tl σ H1 fun l H2=>th σ H2 fun u H3=>r x l u H3 Q
theorem a44 {r:V→Option Int→Option Int→Hp→VK→Prop}(hr:SlR X r) (he:PE X e te) (hl:PO X lo tl) (hu:PO X hi th):PE X (.Subscript e (.Slice lo hi none p2) pos) (tSl r te tl th):=by
 intro pins s σ H Q I h
 refine Subscript_ (thn (he pins s σ H _ I h) ?_)
 rintro v s1 ⟨x,H1,I1,r1,q1⟩
 refine wpAny_Slice (thn (hl pins s1 σ H1 _ I1 q1) ?_)
 rintro vl s2 ⟨l,H2,I2,pl,q2⟩
 refine thn (hu pins s2 σ H2 _ I2 q2) ?_
 rintro vu s3 ⟨u,H3,I3,pu,q3⟩
 rw [evalPart_none]
 refine wpAny_pure ?_
 have I4:Inv X pins σ H3 { s3 with heap:=s3.heap.push { cls:=.type "slice",data:=.fields #[vl,vu,.none] } }:=I3.kept (t':=s3.toks) fun b ob q=>Heap.get?_push_of_some _ q
 obtain ⟨T,id,hT,ht,hg⟩:=hr pins { s3 with heap:=s3.heap.push { cls:=.type "slice",data:=.fields #[vl,vu,.none] } } σ H3 x v vl vu l u s3.heap.objs.size Q I4 r1 (Heap.IsSliceOf.new ..) pl pu q3
 show wpAny (model X.prog X.w) X.A (subscriptTail e (.Slice lo hi none p2) v (.ref s3.heap.objs.size)) (EP X pins σ Q) X.xe { s3 with heap:=s3.heap.push { cls:=.type "slice",data:=.fields #[vl,vu,.none] } }
 exact tail_any (ops:=[.ref s3.heap.objs.size,v]) ht hT hg (by with_unfolding_all rfl)
def cutV (xs:List V) (lo hi:Option Int):List V:=(xs.drop (HT.sIx xs.length 0 lo)).take (HT.sIx xs.length xs.length hi - HT.sIx xs.length 0 lo)
theorem av3 (xs:List V) (lo hi:Option Int):(cutV xs lo hi).length≤xs.length:=by
 unfold cutV
 rw [List.length_take,List.length_drop]
 omega
end
def ixN (n:Nat) (i:Int):Option Nat:=if 0≤i then (if i<n then some i.toNat else none) else if -(n:Int)≤i then some (i+n).toNat else none
def atI {α:Type}(xs:List α) (i:Int):Option α:=(ixN xs.length i).bind fun j=>xs[j]?
theorem bk5 {n:Nat}{i:Int}{j:Nat}(h:ixN n i=some j):seqIndex? i n=some j∧j<n∧-(n:Int)≤i∧i<n:=by
 unfold ixN at h
 by_cases h0:0≤i
 · rw [if_pos h0] at h
   by_cases h1:i<n
   · rw [if_pos h1] at h
     have e:i.toNat=j:=Option.some.inj h
     exact ⟨by rw [seqIndex_of h0 h1,e],by omega,by omega,h1⟩
   · rw [if_neg h1] at h; cases h
 · rw [if_neg h0] at h
   by_cases h1:-(n:Int)≤i
   · rw [if_pos h1] at h
     have e:(i+n).toNat=j:=Option.some.inj h
     exact ⟨by rw [seqIndex_neg (by omega) h1,e],by omega,h1,by omega⟩
   · rw [if_neg h1] at h; cases h
theorem av4 {α:Type}{xs:List α}{i:Int}{v:α}(h:atI xs i=some v):∃ j,seqIndex? i xs.length=some j∧xs[j]?=some v∧j<xs.length∧-(xs.length:Int)≤i∧i<xs.length:=by
 unfold atI at h
 cases e:ixN xs.length i with
 | none=>rw [e] at h; cases h
 | some j =>
   rw [e] at h
   obtain ⟨h1,h2,h3,h4⟩:=bk5 e
   exact ⟨j,h1,h,h2,h3,h4⟩
theorem a04 {α:Type}{xs:List α}{j:Nat}{v:α}(h:xs[j]?=some v):atI xs (j:Int)=some v:=by
 have hj:j<xs.length:=(List.getElem?_eq_some_iff.mp h).1
 have e:ixN xs.length (j:Int)=some j:=by
  unfold ixN
  rw [if_pos (by omega),if_pos (by omega)]; simp
 unfold atI; rw [e]; exact h
theorem bc6 {α:Type}(xs:List α) (v:α):atI (xs++[v]) (-1)=some v:=by
 have hl:(xs++[v]).length=xs.length+1:=by simp
 have e:ixN (xs++[v]).length (-1)=some xs.length:=by
  unfold ixN
  rw [hl,if_neg (by decide),if_pos (by omega)]
  congr 1
  omega
 unfold atI
 rw [e]
 show (xs++[v])[xs.length]?=some v
 simp
def bk6 (b:Expr):Prop:=∀ o i,subscripted b false o i=operate [o,i] (getItem o i)
def IxR (X:Cx) (r:R2):Prop :=
 ∀ (value slice:Expr) (pins:List (Addr×Obj)) (s:Shared) (σ:St) (H:Hp) (x y:V) (v u:Value) (Q:VK),Inv X pins σ H s→RelV x v→RelV y u→r x y H Q →
  subscripted slice false v u=operate [v,u] (getItem v u)→wpAny (model X.prog X.w) X.A (subscriptTail value slice v u) (EP X pins σ Q) X.xe s
def MtR (X:Cx) (id:String) (r:V→List V→Hp→VK→Prop):Prop :=
 ∀ (pins:List (Addr×Obj)) (s:Shared) (σ:St) (H:Hp) (x:V) (xs:List V) (v:Value) (us:List Value) (Q:VK),Inv X pins σ H s→RelV x v→Vals xs us→r x xs H Q →
  wpAny (model X.prog X.w) X.A (call (.builtin id) (v::us)) (EP X pins σ Q) X.xe s
section
variable {X:Cx}{a b:Expr}{ta tb:TE}{pos:Pos}
theorem a37 {r:R2}(hr:IxR X r) (ha:PE X a ta) (hb:PE X b tb) (hs:bk6 b):PE X (.Subscript a b pos) (tOp r ta tb):=by
 intro pins s σ H Q I h
 exact Subscript_ (binT ha hb I h fun v u s2 x y H2 I2 rx ry q=>hr a b pins s2 σ H2 x y v u Q I2 rx ry q (hs _ _))
def rIxL (K:PySem.W.Frag):R2:=fun x y H Q=>∃ p xs i v,x=.ref p∧y=.int i∧SqL K H p xs∧atI xs i=some v∧Q v H
def rIxT (K:PySem.W.Frag):R2:=fun x y H Q=>∃ p xs i v,x=.ref p∧y=.int i∧SqT K H p xs∧atI xs i=some v∧Q v H
def rIxS:R2:=fun x y H Q=>∃ z i c,x=.str z∧y=.int i∧z.length≤sizeLine∧atI z.cps.toList i=some c∧Q (.str ⟨#[c]⟩) H
theorem bk7:IxR X (rIxL X.K):=by
 intro value slice pins s σ H x y v u Q I rx ry h hs
 obtain ⟨p,xs,i,z,rfl,rfl,hq,he,q⟩:=h
 cases rx
 obtain ⟨t,rfl⟩:=ry
 obtain ⟨its,r,pl,hz⟩:=I.list hq
 obtain ⟨j,h1,h2,h3,h4,h5⟩:=av4 he
 obtain ⟨w,ew,rw'⟩:=r.get h2
 have hl:=r.length
 have hn:=aq6
 have fin:EP X pins σ Q w s:=⟨z,H,I,rw',q⟩
 by_cases h0:0≤i
 · have hj:i.toNat=j:=by
    rw [seqIndex_of h0 h5] at h1
    exact Option.some.inj h1
   exact item_listR pl.isList h0 (by omega) (by rw [hj]; simpa using ew) fin hs
 · have hj:(i+(its.toArray.size:Int)).toNat=j:=by
    rw [seqIndex_neg (by omega) h4] at h1
    rw [List.size_toArray,←hl]
    exact Option.some.inj h1
   exact subscriptTail_builtinR (x:=w) pl.isList.typeIs slot_list_getitem.lookup
    (wpAny_getItem_list_neg (Q:=fun r s'=>r=w∧EP X pins σ Q r s') pl.isList (by omega) (by rw [List.size_toArray] <;> omega) (by omega) (by rw [hj]; simpa using ew) ⟨rfl,fin⟩) hs
theorem bs6:IxR X (rIxT X.K):=by
 intro value slice pins s σ H x y v u Q I rx ry h hs
 obtain ⟨p,xs,i,z,rfl,rfl,hq,he,q⟩:=h
 cases rx
 obtain ⟨t,rfl⟩:=ry
 obtain ⟨its,r,pl,hz⟩:=I.tuple hq
 obtain ⟨j,h1,h2,h3,h4,h5⟩:=av4 he
 obtain ⟨w,ew,rw'⟩:=r.get h2
 have hl:=r.length
 have hn:=aq6
 have fin:EP X pins σ Q w s:=⟨z,H,I,rw',q⟩
 exact subscriptTail_builtinR (x:=w) pl.typeIs slot_tuple_getitem.lookup
  (getItem_tuple (j:=j) (Q:=fun r s'=>r=w∧EP X pins σ Q r s') pl (by omega) (by omega) (by rw [List.size_toArray,←hl]; exact h1) (by simpa using ew) ⟨rfl,fin⟩) hs
theorem af4:IxR X rIxS:=by
 intro value slice pins s σ H x y v u Q I rx ry h hs
 obtain ⟨z,i,c,rfl,rfl,hz,he,q⟩:=h
 obtain ⟨t,rfl⟩:=rx
 obtain ⟨t',rfl⟩:=ry
 obtain ⟨j,h1,h2,h3,h4,h5⟩:=av4 he
 have hl:z.cps.toList.length=z.length:=by simp [Str.length]
 rw [hl] at h1 h4 h5
 have hn:=aq6
 exact tail_any (typeIs_str s z t) slot_str_getitem.lookup (getItem_str (c:=c) (by
  have e1:decide (i < -(2 ^ 63:Int))=false:=decide_eq_false (by omega)
  have e2:decide (i ≥ 2 ^ 63)=false:=decide_eq_false (by omega)
  rw [e1,e2,Bool.or_false]) (by rw [h1]; simpa using h2) ⟨.str ⟨#[c]⟩,H,I.tok _,⟨_,rfl⟩,q⟩) hs
theorem ar2 (lo hi:Option Int) (n:Nat):(sliceBounds lo hi none n).1=((HT.sIx n 0 lo:Nat):Int)∧(sliceBounds lo hi none n).2.1=((HT.sIx n n hi:Nat):Int)∧(sliceBounds lo hi none n).2.2=1:=by
 refine ⟨?_,?_,rfl⟩
 · cases lo with
   | none=>simp [sliceBounds,HT.sIx]
   | some i =>
     simp only [sliceBounds,HT.sIx,Option.getD_none,show (1:Int) > 0 by decide,if_true]
     by_cases h:i<0
     · simp only [h,if_true] <;> omega
     · simp only [h,if_false] <;> omega
 · cases hi with
   | none=>simp [sliceBounds,HT.sIx]
   | some i =>
     simp only [sliceBounds,HT.sIx,Option.getD_none,show (1:Int) > 0 by decide,if_true]
     by_cases h:i<0
     · simp only [h,if_true] <;> omega
     · simp only [h,if_false] <;> omega
theorem an7 (its:List Value) (lo hi:Option Int):slicePick its.toArray lo hi none=((its.drop (HT.sIx its.length 0 lo)).take (HT.sIx its.length its.length hi - HT.sIx its.length 0 lo)).toArray:=by
 obtain ⟨h1,h2,h3⟩:=ar2 lo hi its.toArray.size
 unfold slicePick
 rw [h1,h2,h3]
 simp only [sliceRange_one,pick_run,List.size_toArray] <;> rfl
def rSlL (K:PySem.W.Frag):V→Option Int→Option Int→Hp→VK→Prop:=fun x lo hi H Q=>∃ a xs,x=.ref a∧SqL K H a xs∧∀ p,H p=none→Q (.ref p) (upd H p (.lst (cutV xs lo hi)))
theorem bk8:SlR X (rSlL X.K):=by
 intro pins s σ H x v vl vu lo hi sl Q I rx hs pl pu h
 obtain ⟨a,xs,rfl,hx,q⟩:=h
 cases rx
 obtain ⟨its,r,ht,hz⟩:=I.list hx
 have hlen:=r.length
 refine ⟨"list",_,slot_list_getitem.lookup,ht.isList.typeIs,?_⟩
 refine wpAny_getItem_list_slice ht.isList hs pl pu .none (by simp) ?_ (by rw [List.size_toArray] <;> omega)
 rw [an7,←hlen]
 refine ⟨.ref s.heap.objs.size,_,I.laid (t':=s.toks) (o:=.lst (cutV xs lo hi)) (fun b ob q=>Heap.get?_push_of_some _ q) (Nat.le_refl _) ?_,rfl,q _ (I.hok.fresh (Nat.le_refl _))⟩
 exact ⟨Nat.le_trans (av3 xs lo hi) hz,_,0,(r.drop (HT.sIx xs.length 0 lo)).take (HT.sIx xs.length xs.length hi - HT.sIx xs.length 0 lo),Heap.get?_push_size _ rfl⟩
def ah8:V→Bool
 | .non=>true
 | .bl _=>true
 | .int _=>true
 | .str _=>true
 | _=>false
def eqV:V→V→Bool
 | .non,.non=>true
 | .bl a,.bl b=>a == b
 | .bl a,.int b=>(if a then 1 else 0) == b
 | .int a,.bl b=>a == (if b then 1 else 0)
 | .int a,.int b=>a == b
 | .str a,.str b=>a == b
 | _,_=>false
theorem bs7 {A:Around}{s:Shared}{y x:V}{u v:Value}(ry:RelV y u) (rx:RelV x v) (fy:ah8 y=true) (fx:ah8 x=true):SeqAt.EqAt A s u v (eqV y x):=by
 cases y with
 | non =>
   cases ry
   cases x with
   | non=>cases rx; exact SeqAt.EqAt.same _
   | bl b=>cases rx; exact SeqAt.EqAt.none_bool b
   | int b=>obtain ⟨t,rfl⟩:=rx; exact SeqAt.EqAt.none_int b t
   | str b=>obtain ⟨t,rfl⟩:=rx; exact SeqAt.EqAt.none_str b t
   | _=>exact absurd (show false=true from fx) Bool.false_ne_true
 | bl a =>
   cases ry
   cases x with
   | non=>cases rx; exact SeqAt.EqAt.bool_none a
   | bl b=>cases rx; exact SeqAt.EqAt.bool_bool a b
   | int b=>obtain ⟨t,rfl⟩:=rx; exact SeqAt.EqAt.bool_int a b t
   | str b=>obtain ⟨t,rfl⟩:=rx; exact SeqAt.EqAt.bool_str a b t
   | _=>exact absurd (show false=true from fx) Bool.false_ne_true
 | int a =>
   obtain ⟨t',rfl⟩:=ry
   cases x with
   | non=>cases rx; exact SeqAt.EqAt.int_none a t'
   | bl b=>cases rx; exact SeqAt.EqAt.int_bool a t' b
   | int b=>obtain ⟨t,rfl⟩:=rx; exact SeqAt.EqAt.int_int a t' b t
   | str b=>obtain ⟨t,rfl⟩:=rx; exact SeqAt.EqAt.int_str a t' b t
   | _=>exact absurd (show false=true from fx) Bool.false_ne_true
 | str a =>
   obtain ⟨t',rfl⟩:=ry
   cases x with
   | non=>cases rx; exact SeqAt.EqAt.str_none a t'
   | bl b=>cases rx; exact SeqAt.EqAt.str_bool a t' b
   | int b=>obtain ⟨t,rfl⟩:=rx; exact SeqAt.EqAt.str_int a t' b t
   | str b=>obtain ⟨t,rfl⟩:=rx; exact SeqAt.EqAt.str_str a t' b t
   | _=>exact absurd (show false=true from fx) Bool.false_ne_true
 | _=>exact absurd (show false=true from fy) Bool.false_ne_true
def eqU (x:V) (u:Value):Bool:=match u with
 | .none=>eqV .non x
 | .bool b=>eqV (.bl b) x
 | .int i _=>eqV (.int i) x
 | .str z _=>eqV (.str z) x
 | _=>false
theorem bh2 {x y:V}{u:Value}(r:RelV y u) (f:ah8 y=true):eqU x u=eqV y x:=by
 cases y with
 | non=>cases r; rfl
 | bl b=>cases r; rfl
 | int i=>obtain ⟨t,rfl⟩:=r; rfl
 | str z=>obtain ⟨t,rfl⟩:=r; rfl
 | _=>exact absurd (show false=true from f) Bool.false_ne_true
theorem av5 {x:V}:∀ {xs:List V}{us:List Value},Vals xs us→xs.all ah8=true→us.any (eqU x)=xs.any fun y=>eqV y x
 | _,_,.nil,_=>rfl
 | y::xs,u::us,.cons r t,f=>by
   rw [List.all_cons,Bool.and_eq_true] at f
   rw [List.any_cons,List.any_cons,bh2 r f.1,av5 t f.2]
theorem an8 {A:Around}{s:Shared}{x:V}{v:Value}(rx:RelV x v) (fx:ah8 x=true):∀ {xs:List V}{us:List Value},Vals xs us→xs.all ah8=true→∀ u∈us,SeqAt.EqAt A s u v (eqU x u)
 | _,_,.nil,_=>fun u hu=>by cases hu
 | y::xs,u::us,.cons r t,f=>fun u' hu=>by
   rw [List.all_cons,Bool.and_eq_true] at f
   rcases List.mem_cons.mp hu with rfl | hu
   · rw [bh2 r f.1]; exact bs7 r rx f.1 fx
   · exact an8 rx fx t f.2 u' hu
def inV (x:V) (xs:List V):Bool:=xs.any fun y=>eqV y x
def rIn (K:PySem.W.Frag) (neg:Bool):R2:=fun x y H Q=>∃ p xs,y=.ref p∧(SqL K H p xs∨SqT K H p xs)∧ah8 x=true∧xs.all ah8=true∧Q (.bl (if neg then !inV x xs else inV x xs)) H
theorem ar3:OpR X (compareOp .NotIn) (rIn X.K true):=by
 intro pins s σ H x y v u Q I rx ry h
 obtain ⟨p,xs,rfl,hq,fx,fs,q⟩:=h
 cases ry
 rcases hq with hq | hq
 · obtain ⟨its,r,pl,hz⟩:=I.list hq
   refine SeqAt.notIn_listAt (eqU x) pl.isList (fun w hw=>an8 rx fx r fs w (by simpa using hw)) ⟨.bl _,H,I,rfl,?_⟩
   rw [show its.toArray.any (eqU x)=its.any (eqU x) by simp,av5 r fs]
   exact q
 · obtain ⟨its,r,pl,hz⟩:=I.tuple hq
   refine SeqAt.notIn_tupleAt (eqU x) pl (fun w hw=>an8 rx fx r fs w (by simpa using hw)) ⟨.bl _,H,I,rfl,?_⟩
   rw [show its.toArray.any (eqU x)=its.any (eqU x) by simp,av5 r fs]
   exact q
theorem ar4:CallR X (.type "list") (fun xs H Q=>∃ p ys,xs=[.ref p]∧(SqL X.K H p ys∨SqT X.K H p ys)∧∀ l,H l=none→Q (.ref l) (upd H l (.lst ys))):=by
 intro pins s σ H xs us Q I r h
 obtain ⟨p,ys,rfl,hq,q⟩:=h
 obtain ⟨u,rfl,rx⟩:=aq7 r
 cases rx
 have fin:∀ (its:List Value),Vals ys its→ys.length≤sizeLine→∀ (h':Heap) (c':Nat),(∀ b o',s.heap.get? b=some o'→h'.get? b=some o') →
  h'.get? s.heap.objs.size=some { cls:=.type "list",dict:=none,data:=.seq its.toArray c',slots:=#[] }→EP X pins σ Q (.ref s.heap.objs.size) { s with heap:=h' }:=fun its r' hz h' c' kp e =>
  ⟨.ref s.heap.objs.size,_,I.laid (t':=s.toks) kp (Nat.le_refl _) (show ObjOk X.prog X.w _ h' _ (.lst ys) from ⟨hz,its,c',r',e⟩),rfl,q _ (I.hok.fresh (Nat.le_refl _))⟩
 rcases hq with hq | hq
 · obtain ⟨its,r',pl,hz⟩:=I.list hq
   have hlen:=r'.length
   obtain ⟨o,ho,hc,n,hd⟩:=pl.isList
   exact call_list_seq p (.inl rfl) ho hc hd (fun h' c' kp e=>fin its r' hz h' c' kp e) (by simp only [List.size_toArray] <;> omega)
 · obtain ⟨its,r',pl,hz⟩:=I.tuple hq
   have hlen:=r'.length
   obtain ⟨o,ho,hc,n,hd⟩:=pl
   exact call_list_seq p (.inr rfl) ho hc hd (fun h' c' kp e=>fin its r' hz h' c' kp e) (by simp only [List.size_toArray] <;> omega)
def tyV (K:PySem.W.Frag) (T:String) (x:V) (H:Hp):Prop:=match x with
 | .str _=>T="str"
 | .int _=>T="int"
 | .ref p=>(T="list"∧∃ xs,SqL K H p xs)∨(T="tuple"∧∃ o,K.lookup p=some o∧o.cls=.type "tuple"∧o.dict=none) ∨
  (T="dict"∧((∃ kvs,H p=some (.dK kvs))∨∃ kvs,H p=some (.dT kvs)))∨(T="set"∧∃ S n,H p=some (.set S n))
 | _=>False
theorem bh3 {pins:List (Addr×Obj)}{σ:St} {H:Hp}{s:Shared}{T:String}{x:V}{v:Value}(I:Inv X pins σ H s) (r:RelV x v) (ty:tyV X.K T x H) :
 s.TypeIs v T∧∀ a,v=.ref a→∃ ob,s.heap.get? a=some ob∧ob.dict=none:=by
 cases x with
 | str z =>
   obtain ⟨t,rfl⟩:=r
   cases (show T="str" from ty)
   exact ⟨typeIs_str s z t,fun _ e=>nomatch e⟩
 | int i =>
   obtain ⟨t,rfl⟩:=r
   cases (show T="int" from ty)
   exact ⟨typeIs_int s i t,fun _ e=>nomatch e⟩
 | ref p =>
   cases r
   rcases ty with ⟨rfl,xs,hq⟩ | ⟨rfl,o,hk,hc,hd⟩ | ⟨rfl,hk⟩ | ⟨rfl,S,n,hk⟩
   · obtain ⟨its,_,pl,_⟩:=I.list hq
     refine ⟨pl.isList.typeIs,fun a e=>?_⟩
     cases e
     obtain ⟨o,n,e,c,hd,_⟩:=pl
     exact ⟨o,e,hd⟩
   · refine ⟨⟨o,I.kIn p o hk,hc⟩,fun a e=>?_⟩
     cases e
     exact ⟨o,I.kIn _ o hk,hd⟩
   · have z:∃ o,s.heap.get? p=some o∧o.ExactDict:=by
      rcases hk with ⟨kvs,hk⟩ | ⟨kvs,hk⟩
      · obtain ⟨_,_,_,_,o,_,_,e,ex,_⟩:=I.hok p _ hk
        exact ⟨o,e,ex⟩
      · obtain ⟨_,_,_,_,o,_,_,e,ex,_⟩:=I.hok p _ hk
        exact ⟨o,e,ex⟩
     obtain ⟨o,e,ex⟩:=z
     refine ⟨⟨o,e,ex.1⟩,fun a e2=>?_⟩
     cases e2
     exact ⟨o,e,ex.2.1⟩
   · obtain ⟨o,_,_,_,e,ex,_⟩:=I.hok p _ hk
     refine ⟨⟨o,e,ex.1⟩,fun a e2=>?_⟩
     cases e2
     exact ⟨o,e,ex.2.1⟩
 | _=>exact False.elim ty
def tBM0 (K:PySem.W.Frag) (T:String) (r:V→List V→Hp→VK→Prop) (to:TE):TE:=fun σ H Q=>to σ H fun x H1=>tyV K T x H1∧r x [] H1 Q
def tBM (K:PySem.W.Frag) (T:String) (r:V→List V→Hp→VK→Prop) (to:TE) (t:TA):TE:=fun σ H Q=>to σ H fun x H1=>tyV K T x H1∧t σ H1 fun xs H2=>r x xs H2 Q
variable {o e:Expr}{es:List Expr}{to:TE}{t:TA}{name:Str}{apos cpos:Pos}{T id:String}{r:V→List V→Hp→VK→Prop}
theorem bs8 (pa:PlainAttrs T) (slot:Slot T name id) (hty:typeOf (.builtin id)=pure (.type "method_descriptor")) (hm:MtR X id r) (ho:PE X o to)
 (hbase:attributeBase o name X.env (eval o X.env)=eval o X.env:=by rfl) (hline:(apos.endLine == cpos.line)=true:=by rfl):PE X (.Call (.Attribute o name apos) [] [] cpos) (tBM0 X.K T r to):=by
 intro pins s σ H Q I h
 refine wpAny_Call_method0_late hbase hline (thn (ho pins s σ H _ I h) ?_)
 rintro v s1 ⟨x,H1,I1,r1,ty,q1⟩
 obtain ⟨h1,h2⟩:=bh3 I1 r1 ty
 exact ⟨T,id,pa,slot,hty,h1,h2,Calls.callWith_builtin rfl (PySem.evalArgs_none (hm pins s1 σ H1 x [] v [] Q I1 r1 .nil q1))⟩
theorem c03 (pa:PlainAttrs T) (slot:Slot T name id) (hty:typeOf (.builtin id)=pure (.type "method_descriptor")) (hm:MtR X id r) (ho:PE X o to) (ha:PA X (e::es) t)
 (hbase:attributeBase o name X.env (eval o X.env)=eval o X.env:=by rfl)
 (hfew:((backTo cpos (starEach (e::es) X.env)).all (fun x=>!x.1) && (backToKw cpos (keywordEach [] X.env)).all (fun x=>x.1.isSome)
  && decide ((e::es).length+([]:List Keyword).length+(if ([]:List Keyword).isEmpty then 0 else 1)<30))=true:=by rfl)
 (hline:(apos.endLine == cpos.line)=true:=by rfl) (hs:starEach (e::es) X.env=(false,eval e X.env)::starEach es X.env:=by rfl) (hplain:(backTo cpos (starEach es X.env)).any (·.1)=false:=by rfl) :
 PE X (.Call (.Attribute o name apos) (e::es) [] cpos) (tBM X.K T r to t):=by
 intro pins s σ H Q I h
 refine wpAny_Call_method_late hbase hfew hline rfl (thn (ho pins s σ H _ I h) ?_)
 rintro v s1 ⟨x,H1,I1,r1,ty,q1⟩
 obtain ⟨h1,h2⟩:=bh3 I1 r1 ty
 refine ⟨T,id,pa,slot,hty,h1,h2,?_⟩
 have hA:=ha cpos pins s1 σ H1 _ I1 q1
 rw [hs] at hA ⊢
 refine Calls.callWith_builtin (by show (false || (backTo cpos (starEach es X.env)).any (·.1))=false; rw [hplain] <;> rfl) (Calls.evalArgs_plain ?_)
 exact thn hA (by rintro us s2 ⟨vs,H2,I2,r2,q2⟩; exact hm pins s2 σ H2 x vs v us Q I2 r1 r2 q2)
/- xs.append(e),list.index on a module's tuple .. are MtR facts of 06m -/
end
def MtM (X:Cx) (id:String) (r:V→List V→Hp→VK→Prop):Prop :=
 ∀ (pins:List (Addr×Obj)) (s:Shared) (σ:St) (H:Hp) (x:V) (xs:List V) (v:Value) (us:List Value) (Q:VK),Inv X pins σ H s→RelV x v→Vals xs us→r x xs H Q →
  wpAny (model X.prog X.w) X.A (call (.builtin id) (v::us)) (EP X pins σ Q) X.xe s
theorem Vals.one:∀ {x:V}{us:List Value},Vals [x] us→∃ u,us=[u]∧RelV x u
 | _,_,.cons r .nil=>⟨_,rfl,r⟩
theorem Vals.zero:∀ {us:List Value},Vals [] us→us=[]
 | _,.nil=>rfl
theorem Vals.dropLast {xs:List V}{us:List Value}(h:Vals xs us):Vals xs.dropLast us.dropLast:=by
 induction h with
 | nil=>exact .nil
 | cons r t ih =>
   cases t with
   | nil=>exact .nil
   | cons q t'=>exact .cons r ih
theorem Vals.reverse {xs:List V}{us:List Value}(h:Vals xs us):Vals xs.reverse us.reverse:=by
 induction h with
 | nil=>exact .nil
 | cons r t ih=>rw [List.reverse_cons,List.reverse_cons]; exact Vals.append ih (.cons r .nil)
theorem b15 {α:Type}(l:List α):l.eraseIdx (l.length - 1)=l.dropLast:=by
 induction l with
 | nil=>rfl
 | cons a r ih =>
   cases r with
   | nil=>rfl
   | cons b r =>
     have e:(a::b::r).length - 1=((b::r).length - 1)+1:=by
      have h1:(a::b::r).length=r.length+2:=rfl
      have h2:(b::r).length=r.length+1:=rfl
      omega
     rw [e,List.eraseIdx_cons_succ,ih]
     all_goals rfl
section
variable {X:Cx}{pins:List (Addr×Obj)}{σ:St} {H:Hp}{s:Shared}{l b:Addr}{xs ys zs:List V}
theorem Inv.lset {its its':List Value}{n:Nat}{f:Array Value→Array Value}{t':Nat}(I:Inv X pins σ H s) (hH:H l=some (.lst xs))
 (e:s.heap.get? l=some { cls:=.type "list",data:=.seq its.toArray n }) (hf:f its.toArray=its'.toArray) (hv:Vals ys its') (hz:ys.length≤sizeLine) :
 Inv X pins σ (upd H l (.lst ys)) { s with heap:=s.heap.update l (Obj.mapSeq f),toks:=t' }:=by
 have q:=PySem.IsL.update e f
 rw [hf] at q
 refine I.write (x:=l) (e:=l) (by rw [hH]; exact trivial) (.inl rfl) (fun b' u hb hu=>(Heap.get?_update_other s.heap (Obj.mapSeq f) (Ne.symm hb)).trans hu) ⟨_,q⟩ ?_
 exact ⟨hz,its',_,hv,q⟩
theorem Inv.lnew {its:List Value}{t':Nat}(I:Inv X pins σ H s) (hv:Vals ys its) (hz:ys.length≤sizeLine) :
 Inv X pins σ (upd H s.heap.objs.size (.lst ys)) { s with heap:=s.heap.push { cls:=.type "list",data:=.seq its.toArray },toks:=t' } :=
 I.laid (fun _ _ q=>Heap.get?_push_of_some _ q) (Nat.le_refl _) ⟨hz,its,0,hv,Heap.get?_push_size _ rfl⟩
theorem Inv.fresh (I:Inv X pins σ H s):H s.heap.objs.size=none:=I.hok.fresh (Nat.le_refl _)
theorem Inv.lstM (I:Inv X pins σ H s) (hH:H l=some (.lst xs)):xs.length≤sizeLine∧∃ (its:List Value) (n:Nat),Vals xs its∧xs.length=its.length∧s.heap.get? l=some { cls:=.type "list",data:=.seq its.toArray n }:=by
 obtain ⟨z,its,n,r,e⟩:=I.hok l _ hH
 exact ⟨z,its,n,r,r.length,e⟩
theorem bc7 {n:Nat}(h:n≤sizeLine):Builtin.List.listTooLong n=false:=by
 unfold Builtin.List.listTooLong
 exact decide_eq_false (by omega)
end
section
variable {X:Cx}
def b46:V→List V→Hp→VK→Prop:=fun x vs H Q=>∃ l xs y,x=.ref l∧vs=[y]∧H l=some (.lst xs)∧xs.length<sizeLine∧Q .non (upd H l (.lst (xs++[y])))
theorem a66:MtM X "list.append" b46:=by
 intro pins s σ H x vs v us Q I rx rv h
 obtain ⟨l,xs,y,rfl,rfl,hH,hz,q⟩:=h
 cases rx
 obtain ⟨u,rfl,ru⟩:=rv.one
 obtain ⟨z,its,n,r,hl,e⟩:=I.lstM hH
 refine call_meets F.slot_list_append ⟨_,e,rfl⟩ F.entry_list_append (F.args_list_append_2 _ _) (PySem.list_append l its.toArray n u (by rw [List.size_toArray]; omega)) ⟨e,?_⟩
 refine ⟨.non,_,I.lset (its':=its++[u]) hH e (by simp) (r.append (.cons ru .nil)) ?_,rfl,q⟩
 rw [List.length_append,List.length_singleton]
 omega
def b47:V→List V→Hp→VK→Prop:=fun x vs H Q=>∃ l b xs zs,x=.ref l∧vs=[.ref b]∧H l=some (.lst xs)∧H b=some (.lst zs)∧xs.length+zs.length≤sizeLine∧Q .non (upd H l (.lst (xs++zs)))
theorem aj2:MtM X "list.extend" b47:=by
 intro pins s σ H x vs v us Q I rx rv h
 obtain ⟨l,b,xs,zs,rfl,rfl,hH,hB,hz,q⟩:=h
 cases rx
 obtain ⟨u,rfl,ru⟩:=rv.one
 cases ru
 obtain ⟨z,its,n,r,hl,e⟩:=I.lstM hH
 obtain ⟨z2,its2,n2,r2,hl2,e2⟩:=I.lstM hB
 have hsz:its.toArray.size+its2.toArray.size≤sizeLine:=by rw [List.size_toArray,List.size_toArray]; omega
 have hlong:¬ (!its.toArray.isEmpty && Builtin.List.listTooLong (its.toArray.size+its2.toArray.size))=true:=by
  rw [bc7 hsz,Bool.and_false]
  exact Bool.false_ne_true
 refine call_meets F.slot_list_extend ⟨_,e,rfl⟩ F.entry_list_extend (F.args_list_extend_2 _ _)
  (AutoSeq1.list_extend_list_list_0 l its.toArray n b its2.toArray n2 hlong (by rw [List.size_toArray]; omega) (by omega)) ⟨e,e2,?_⟩
 refine ⟨.non,_,I.lset (its':=its++its2) hH e (by simp) (r.append r2) ?_,rfl,q⟩
 rw [List.length_append]
 omega
def rPop:V→List V→Hp→VK→Prop:=fun x vs H Q=>∃ l xs y,x=.ref l∧vs=[]∧H l=some (.lst xs)∧xs[xs.length - 1]?=some y∧Q y (upd H l (.lst xs.dropLast))
theorem bs9:MtM X "list.pop" rPop:=by
 intro pins s σ H x vs v us Q I rx rv h
 obtain ⟨l,xs,y,rfl,rfl,hH,hy,q⟩:=h
 cases rx
 have hus:=rv.zero
 subst hus
 obtain ⟨z,its,n,r,hl,e⟩:=I.lstM hH
 obtain ⟨u,hu,ru⟩:=r.get hy
 have hy':its.toArray[its.toArray.size - 1]?=some u:=by
  show its.toArray[its.length - 1]?=some u
  rw [← Array.getElem?_toList,←hl]
  exact hu
 refine call_meets F.slot_list_pop ⟨_,e,rfl⟩ F.entry_list_pop (F.args_list_pop_1 _) (MeetsSeq.list_pop_last l its.toArray n u hy' (by rw [List.size_toArray]; omega)) ⟨e,?_⟩
 refine ⟨y,_,I.lset (its':=its.dropLast) hH e ?_ r.dropLast ?_,ru,q⟩
 · show its.toArray.eraseIdxIfInBounds (its.toArray.size - 1)=its.dropLast.toArray
   rw [List.size_toArray,List.eraseIdxIfInBounds_toArray,b15]
 · rw [List.length_dropLast]
   omega
def rCat:R2:=fun x y H Q=>∃ l b xs zs,x=.ref l∧y=.ref b∧H l=some (.lst xs)∧H b=some (.lst zs)∧xs.length+zs.length≤sizeLine∧∀ p,H p=none→Q (.ref p) (upd H p (.lst (xs++zs)))
theorem bt0:OpR X (binaryOp .Add) rCat:=by
 intro pins s σ H x y v u Q I rx ry h
 obtain ⟨l,b,xs,zs,rfl,rfl,hH,hB,hz,q⟩:=h
 cases rx
 cases ry
 obtain ⟨z,its,n,r,hl,e⟩:=I.lstM hH
 obtain ⟨z2,its2,n2,r2,hl2,e2⟩:=I.lstM hB
 refine PySem.P.add_list e e2 ?_ (by rw [List.size_toArray,List.size_toArray]; omega)
 have ea:its.toArray++its2.toArray=(its++its2).toArray:=by simp
 rw [ea]
 exact ⟨.ref _,_,I.lnew (t':=s.toks) (r.append r2) (by rw [List.length_append]; omega),rfl,q _ I.fresh⟩
end
section
variable {prog:Program}{w:World}{A:Around}{E:Value→Shared→Prop}{s:Shared}
set_option maxRecDepth 100000 in
end
section
variable {X:Cx}
end
end L2
namespace Att
open PySem PySem.W PySem.Calls PyProof.Rows
theorem aj3 {P:Params}{h:Heap}:∀ (ns:List Int) (vs:List Value),WellAll P h vs (ns.map WData.int)→IntsAre vs ns:=by
 intro ns
 induction ns with
 | nil =>
   intro vs w
   rw [List.map_nil] at w
   cases w
   exact .nil
 | cons n ns ih =>
   intro vs w
   rw [List.map_cons] at w
   cases w with
   | cons a b =>
     cases a
     exact .cons _ _ (ih _ b)
theorem b48 {l:OpenLaw}{n:Nat}(hn:l.most=some n) {P:Params}{h:Heap}{args:List WData}{vals:List Value}
 (hpre:l.row.toRowW.claim.pre args=true) (hwl:WellAll P h vals args) :
 ∃ a vs ns,vals=[Value.ref a]∧args=[WData.list (ns.map WData.int)]∧h.get? a=some { cls:=.type "list",data:=.seq vs.toArray }∧IntsAre vs ns∧ns.length≤n:=by
 have hsh:WShape.hasAll [] args [.list .int]=true:=(pre_splitW hpre).1
 have hc:l.pre.holds [] { args:=args }=true:=(pre_splitW hpre).2
 obtain ⟨d,r,rfl,h1,h2⟩:=hasAllW_cons hsh
 obtain rfl:=hasAllW_nil h2
 obtain ⟨xs,rfl,h3⟩:=hasW_list h1
 obtain ⟨ns,rfl⟩:=items_int h3
 have hlen:ns.length≤n:=by
  unfold OpenLaw.pre at hc
  have h4:(WTm.not (.lt (.lit (.int (n:Int))) (.len (.arg 0)))).holds [] { args:=[.list (ns.map .int)] }=true:=by
   have h4:=(holds_andW hc).1
   rw [hn] at h4
   exact h4
  have h5:=condW_of h4 (w_not (w_lt w_lit (w_len_list (w_arg rfl))))
  rw [List.length_map] at h5
  refine Nat.le_of_not_lt fun q=>?_
  have q':(n:Int)<((ns.length:Nat):Int):=by omega
  first
   | (rw [decide_eq_true q'] at h5; exact absurd h5 (by decide))
   | (simp at h5; omega)
 cases hwl with
 | cons w1 w2 =>
   cases w2
   cases w1 with
   | list ho hall=>exact ⟨_,_,ns,rfl,rfl,ho,aj3 ns _ hall,hlen⟩
theorem b49 (l:OpenLaw) (args:List WData):l.row.toRowW.claim.post args (.bool true) args=true :=
 postW_of (r:=l.row.toRowW) (X:=(true == true))
  (show WShape.has [] (.bool true) .bool=true by first | rfl | decide | simp [WShape.has,WShape.arms,WShape.armsAll])
  (show (WTm.eq .res (.lit (.bool true))).value [] { args:=args,res:=some (.bool true),after:=args }=some (.bool (true == true)) from w_eq_bool (w_res rfl) w_lit) rfl
theorem attach_call {l:OpenLaw}{n:Nat}{q:Program}{loose:List Str}{XP:(Str→Option Value)→Heap→Prop}{YP:World→Heap→Prop}{d:DefRec}
 (hn:l.most=some n) (hdf:d.params.defaults=[])
 (call:∀ (w:World) (s₀ s₁:Shared) (mg mb:Str→Option Value) (fa:Addr) (o:Obj) (pm cd doc:Value) (a:Addr) (vs:List Value) (ns:List Int),
  Ground q loose [] XP w s₀ mg mb s₁.heap→YP w s₁.heap →
  s₁.heap.get? fa=some o→o.data=.func (docDef d.name d.params d.body d.scope pm cd doc)→s₁.heap.CodeRec cd d.name→mg d.name=some (.ref fa) →
  s₁.heap.get? a=some { cls:=.type "list",data:=.seq vs.toArray }→IntsAre vs ns→ns.length≤n→s₁.gens=#[] →
  codeAny (model l.prog w) callerA (.call (.ref fa) ⟨[.ref a],[]⟩) (fun r s'=>r=.ok (.ret (.bool true))∧OldK s₁.heap s'.heap∧s'.os=s₁.os∧AllBare s'.gens) s₁) :
 WalkO q loose XP YP l.row.toRowW d [] (fun f vs=>PySem.call f vs):=by
 intro w s₀ s₁ mg mb G Y fa o pm cd doc dV kV ho hd hcd hD hmg hg args vals as hpre hlay hrd hwl hlo
 obtain rfl:dV=.none:=Dflts.none hD hdf
 obtain rfl:kV=.none:=Dflts.noKw hD
 obtain ⟨a,vs,ns,rfl,rfl,hobj,hints,hlen⟩:=b48 hn hpre hwl
 refine enter_call (codeAny_mono (call w s₀ s₁ mg mb fa o pm cd doc a vs ns G Y ho (fd_plain hd) hcd hmg hobj hints hlen hg) fun r s' hq=>?_)
 obtain ⟨rfl,h2,h3,h4⟩:=hq
 exact ⟨.inl ⟨.bool true,.bool true,[],rfl,fun _=>rfl,.bool true,b49 l _,fun _=>⟨List.Pairwise.nil,fun _ hm=>(nomatch hm)⟩⟩,h2,h3,h4⟩
section
variable {prog:Program}{w:World}{A:Around}{E:Value→Shared→Prop}{s:Shared}{K:Frag}
end
end Att
namespace L2
open PySem PySem.Spec PyProof.Rows
theorem ar5:∀ {vs:List Value}{ns:List Int},IntsAre vs ns→Vals (ns.map V.int) vs
 | _,_,.nil=>.nil
 | _,_,.cons n t h=>.cons ⟨t,rfl⟩ (ar5 h)
def Only (H:Hp):Prop:=∀ b,H b=none∨∃ o xs,H b=some (.frz o (.lst xs))
theorem bc8 {P:Program}{w:World}{K:PySem.W.Frag}{mg mb:Str→Option Value}{CX:CXT}{k:Nat}{fa a:Addr}{fd:FuncData}{x:Str}{sp:Sp}{s₁:Shared}{vs:List Value}{ns:List Int}
 (KX:K.In s₁.heap) (hns:s₁.heap.Ns mainGlobals mg) (hb:s₁.heap.Ns builtinsNs mb) (hbb:∀ x:Str,x≠"__name__"→mb x=bootBuiltins x) (hlim:s₁.heap.NoLimit) (hg:s₁.gens=#[])
 (ha:s₁.heap.get? a=some { cls:=.type "list",data:=.seq vs.toArray }) (hi:IntsAre vs ns) (hl:ns.length≤sizeLine) (hr:Room k callerA)
 (F:∀ base:Heap,K.In base→base.Ns mainGlobals mg→FnOk P w K mg base CX k fa fd [x] sp) (hbind:∀ (s:Shared) (u:Value),BindsTo s fd ⟨[u],[]⟩ [(x,u)])
 (hsp:∀ H:Hp,Only H→SqL K H a (ns.map V.int)→sp [.ref a] H (fun v _=>v=.bl true) fun _ _ _=>False)
 (hCX:∀ H e s',CX [] H s₁ (fun _ _ _=>False) e s'→False) :
 codeAny (model P w) callerA (.call (.ref fa) ⟨[.ref a],[]⟩) (fun r s'=>r=.ok (.ret (.bool true))∧OldK s₁.heap s'.heap∧s'.os=s₁.os∧AllBare s'.gens) s₁:=by
 have rv:=ar5 hi
 have lenV:=hi.length
 have core:∀ H:Hp,Only H→SqL K H a (ns.map V.int)→HOk P w H s₁.heap→(∀ b,H b≠none→b=a)→(H a≠none→K.lookup a=none) →
  codeAny (model P w) callerA (.call (.ref fa) ⟨[.ref a],[]⟩) (fun r s'=>r=.ok (.ret (.bool true))∧OldK s₁.heap s'.heap∧s'.os=s₁.os∧AllBare s'.gens) s₁:=by
  intro H hO hS hok hA hK
  have base_of:∀ {b:Addr}{o:Obj},s₁.heap.get? b=some o→H b=none→(hidT s₁.heap H).get? b=some o:=fun e n=>bb7 e n
  have noA:∀ {b:Addr}{o:Obj}{es:Array DictEntry}{ep:Nat},s₁.heap.get? b=some o→o.data=.dict es ep→H b=none:=fun {b o es ep} e d=>by
   cases q:H b with
   | none=>rfl
   | some u =>
     have e':b=a:=hA b (by rw [q]; simp)
     subst e'
     rw [ha] at e; cases e
     have d':Data.seq vs.toArray _=Data.dict es ep:=d
     cases d'
  have nsK:∀ {b:Addr}{m:Str→Option Value},s₁.heap.Ns b m→(hidT s₁.heap H).Ns b m:=fun {b m} ⟨o,es,ep,e,d,r⟩=>⟨o,es,ep,base_of e (noA e d),d,r⟩
  have hKb:K.In (hidT s₁.heap H):=fun b o e=>base_of (KX b o e) (by
   cases q:H b with
   | none=>rfl
   | some u =>
     have e':b=a:=hA b (by rw [q]; simp)
     subst e'
     rw [hK (by rw [q]; simp)] at e; cases e)
  have hM:Mod K mg (hidT s₁.heap H):=⟨hKb,nsK hns,⟨mb,nsK hb,hbb⟩,let ⟨mc,h1,h2⟩:=hlim; ⟨mc,nsK h1,h2⟩⟩
  have e0:Env0 P w K mg (hidT s₁.heap H) callerA [] s₁ H:=⟨rfl,hM,fun b o e=>bj9 e,Nat.le_of_eq (b31 _ _),trivial,fun b hb=>absurd (show b∈([]:List Addr) from hb) (by simp),hok,.of_eq hg⟩
  refine codeAny_mono ((F _ hKb (nsK hns)).run callerA [] s₁ H ⟨[.ref a],[]⟩ [.ref a] [.ref a] _ _ hr e0 (hbind s₁ (.ref a)) (.cons rfl .nil) (hsp H hO hS)) fun r s' h=>?_
  cases r with
  | error e=>exact (hCX H e s' h).elim
  | ok fl =>
    cases fl with
    | next=>exact False.elim h
    | brk=>exact False.elim h
    | cont=>exact False.elim h
    | ret u =>
      obtain ⟨v,H',os,bare,un,hok',r',q⟩:=h
      have q':v=.bl true:=q
      subst q'
      obtain rfl:u=Value.bool true:=r'
      refine ⟨rfl,OldK.of_keep fun b o e=>?_,os,bare⟩
      cases q:H b with
      | none=>exact un.keep b o e q (by intro z; exact absurd (show b∈([]:List Addr) from z) (by simp)) (by simp)
      | some u =>
        rcases hO b with z | ⟨ob,xs,z⟩
        · rw [q] at z; cases z
        · have z2:=un.frzs b ob _ z
          obtain ⟨e1,_⟩:=hok b _ z
          obtain ⟨e2,_⟩:=hok' b _ z2
          rw [e] at e1; cases e1
          exact e2
 cases hk:K.lookup a with
 | some o =>
   have e:=KX a o hk
   rw [ha] at e
   cases e
   refine core (fun _=>none) (fun _=>.inl rfl) (.inr ⟨_,vs.toArray,_,hk,rfl,rfl,rfl,by rw [List.size_toArray,lenV]; exact hl,by simpa using rv⟩) (fun b u z=>by have z':(none:Option HO)=some u:=z; cases z') (fun b z=>absurd rfl z) fun z=>absurd rfl z
 | none =>
   refine core (fun b=>if b=a then some (.frz { cls:=.type "list",data:=.seq vs.toArray } (.lst (ns.map V.int))) else none) (fun b=>?_) (.inl (.inr ⟨{ cls:=.type "list",data:=.seq vs.toArray },if_pos rfl⟩)) (fun b u z=>?_) (fun b z=>?_) fun _=>hk
   · by_cases hb:b=a
     · exact .inr ⟨_,_,if_pos hb⟩
     · exact .inl (if_neg hb)
   · by_cases hb:b=a
     · have z':=(if_pos hb).symm.trans z
       cases z'
       subst hb
       exact ⟨ha,by rw [List.length_map]; exact hl,vs,_,rv,ha⟩
     · have z':=(if_neg hb).symm.trans z
       cases z'
   · by_cases hb:b=a
     · exact hb
     · exact absurd (if_neg hb) z
theorem walk_of {l:PySem.W.OpenLaw}{n k:Nat}{q:Program}{loose:List Str}{XP:(Str→Option Value)→Heap→Prop}{YP:World→Heap→Prop}{d:DefRec}{K:Params→PySem.W.Frag}{CX:World→CXT}{sp:World→Sp}{x:Str}
 (hn:l.most=some n) (hn2:n≤sizeLine) (hdf:d.params.defaults=[]) (hr:Room k callerA)
 (hY:∀ (w:World) (h:Heap),YP w h→(K w.params).In h)
 (F:∀ (w:World) (mg:Str→Option Value) (fa:Addr) (h:Heap),(K w.params).In h→h.Ns mainGlobals mg→mg d.name=some (.ref fa) →
  ∃ fd:FuncData,(∀ (s:Shared) (u:Value),BindsTo s fd ⟨[u],[]⟩ [(x,u)]) ∧
   ∀ base:Heap,(K w.params).In base→base.Ns mainGlobals mg→FnOk l.prog w (K w.params) mg base (CX w) k fa fd [x] (sp w))
 (hsp:∀ (w:World) (H:Hp) (a:Addr) (ns:List Int),ns.length≤n→Only H→SqL (K w.params) H a (ns.map V.int)→sp w [.ref a] H (fun v _=>v=.bl true) fun _ _ _=>False)
 (hCX:∀ (w:World) (H:Hp) (s:Shared) (e:Value) (s':Shared),CX w [] H s (fun _ _ _=>False) e s'→False) :
 PySem.W.WalkO q loose XP YP l.row.toRowW d [] (fun f vs=>PySem.call f vs):=by
 refine Att.attach_call hn hdf fun w s₀ s₁ mg mb fa o pm cd doc a vs ns G Y ho hd hcd hmg hobj hints hlen hg=>?_
 have KX:=hY w _ Y
 obtain ⟨fd,hb,hF⟩:=F w mg fa _ KX G.T.g hmg
 exact bc8 KX G.T.g G.T.b G.T.builtins G.T.nolimit hg hobj hints (Nat.le_trans hlen hn2) hr hF hb (fun H hO hS=>hsp w H a ns hlen hO hS) fun H e s'=>hCX w H s₁ e s'
def ae8 (s:Stmt):Arguments:=match s with
 | .FunctionDef _ a _ _ _ _ _ _ _ _=>a
 | _=>{ posonlyargs:=[],args:=[],vararg:=none,kwonlyargs:=[],kw_defaults:=[],kwarg:=none,defaults:=[] }
def ad0 (s:Stmt):List Stmt:=match s with
 | .FunctionDef _ _ b _ _ _ _ _ _ _=>b
 | _=>[]
def a06 (s:Stmt):Scope:=match s with
 | .FunctionDef _ _ _ _ _ _ sc _ _ _=>sc
 | _=>{ kind:=.function,names:=[],isGenerator:=false,isCoroutine:=false }
abbrev CX0:CXT:=fun _ _ _ _ _ _=>False
abbrev E0:XK:=fun _ _ _=>False
theorem a60 {X:Cx}:b42 CX0 X E0:=fun _ _ _ _ _ _ _ h=>h.elim
structure Fun (K:PySem.W.Frag) (x qual:Str) (st:Stmt) (f:Addr) (fd:FuncData):Prop where
 ex:∃ (oc:Value) (od:Option Addr) (kV doc pm:Value) (an:Option Addr) (cdv ct:Value) (osl:Array (Option Value)),
  fd=PySem.W.fnOf x qual (ae8 st) (ad0 st) (a06 st) .none kV doc pm an cdv ct∧K.lookup f=some ⟨oc,od,.func fd,osl⟩∧PySem.W.codeIn K cdv qual=true
 kp:PySem.W.keepIn K (.ref f)=true
section
variable {P:Program}{w:World}{K:PySem.W.Frag}{mg:Str→Option Value}{base:Heap}
theorem Fun.ok {x qual:Str}{st:Stmt}{f:Addr}{fd:FuncData}{N ps:List Str}{k:Nat}{sp:Sp}(F:Fun K x qual st f fd) (S:FnScope N ps (a06 st)) (len:∀ vs H Q E,sp vs H Q E→vs.length=ps.length)
 (hbody:∀ (cdv:Value) (A:Around) (outer:List Env) (s:Shared) (H:Hp) (vs:List V) (Q:VK) (E:XK),Room k (A.deeper (envOfC qual (a06 st) s.heap.objs.size f cdv))→sp vs H Q E →
  ∃ t,PSs (cxOf CX0 P w K mg base N qual (a06 st) f cdv A outer s H E).nox (ad0 st) t∧t { nx:=fun _ H'=>Q .non H',rt:=Q } (start N vs) H):FnOk P w K mg base CX0 (k+1) f fd ps sp:=by
 obtain ⟨oc,od,kV,doc,pm,an,cdv,ct,osl,rfl,lk,hcd⟩:=F.ex
 refine c02 lk hcd S len fun A outer s H vs Q E hr hsp=>?_
 obtain ⟨t,h,q⟩:=hbody cdv A outer s H vs Q E hr hsp
 exact ⟨t,h.nox,q⟩
theorem Fun.binds {x qual:Str}{st:Stmt}{f:Addr}{fd:FuncData}{ps:List Str}(F:Fun K x qual st f fd)
 (h:∀ (kV doc pm:Value) (an:Option Addr) (cdv ct:Value) (us:List Value),us.length=ps.length→bindArgs (PySem.W.fnOf x qual (ae8 st) (ad0 st) (a06 st) .none kV doc pm an cdv ct) ⟨us,[]⟩=pure (ps.zip us)):Binds K fd ps []:=by
 obtain ⟨oc,od,kV,doc,pm,an,cdv,ct,osl,rfl,lk,hcd⟩:=F.ex
 exact .all (h kV doc pm an cdv ct)
theorem bh4 {x qual:Str}{st:Stmt}{f:Addr}{oc:Value}{od an:Option Addr}{osl:Array (Option Value)}{kV doc pm cdv ct:Value}(l:K.lookup f=some ⟨oc,od,.func (PySem.W.fnOf x qual (ae8 st) (ad0 st) (a06 st) .none kV doc pm an cdv ct),osl⟩)
 (c:PySem.W.codeIn K cdv qual=true) (k:PySem.W.keepIn K (.ref f)=true):Fun K x qual st f (PySem.W.fnOf x qual (ae8 st) (ad0 st) (a06 st) .none kV doc pm an cdv ct):=⟨⟨oc,od,kV,doc,pm,an,cdv,ct,osl,rfl,l,c⟩,k⟩
end
theorem c04 {A:Around}{k:Nat}(hr:Room k A):A.units+1<cLine:=Nat.lt_of_le_of_lt (Nat.add_le_add_left (by decide:1≤64) _) hr.units
theorem small1000 {n:Nat}(h:n≤1000):n<sizeLine:=Nat.lt_of_le_of_lt h (by decide)
section
variable {X:Cx}
theorem pv (i:Nat) {x:Str}{pos:Pos}(hN:X.N[i]?=some x:=by rfl) (hv:Vis X.env.scope x:=by first | exact Or.inl rfl | exact Or.inr (Or.inl rfl) | exact Or.inr (Or.inr rfl)) (hd:(x == ("__debug__":Str))=false:=by decide)
 (hcd:(x == ("__classdict__":Str))=false:=by decide):PE X (.Name x pos) (tVar i):=bq6 hN hv hd hcd
end
theorem iteF {A B:Prop}(h:B):if false=true then A else B:=by
 rw [if_neg Bool.false_ne_true]
 exact h
theorem iteT {A B:Prop}(h:A):if true=true then A else B:=by
 rw [if_pos rfl]
 exact h
def Same (H H':Hp):Prop:=∀ b o,H b=some o→H' b=some o
theorem Same.refl (H:Hp):Same H H:=fun _ _ h=>h
theorem Same.trans {H H1 H2:Hp}(a:Same H H1) (b:Same H1 H2):Same H H2:=fun c o h=>b c o (a c o h)
theorem Same.free {H H':Hp}(e:Same H H') {l:Addr}(h:H' l=Option.none):H l=Option.none:=by
 cases q:H l with
 | none=>rfl
 | some o =>
   rw [e l o q] at h
   cases h
theorem Same.seq {K:PySem.W.Frag}{H H':Hp}{a:Addr}{xs:List V}(e:Same H H') (h:SqL K H a xs):SqL K H' a xs:=by
 rcases h with (h | ⟨o,h⟩) | h
 · exact .inl (.inl (e _ _ h))
 · exact .inl (.inr ⟨o,e _ _ h⟩)
 · exact .inr h
end L2
namespace K19
open PySem L2
def top (i:Nat):Stmt:=PySem.Challenge.pw_callmill_k19_events_of_scripts.main.body.getD i (.Pass ⟨0,0,0,0⟩)
def view:Program:={ PySem.Challenge.pw_callmill_k19_events_of_scripts with main:={ PySem.Challenge.pw_callmill_k19_events_of_scripts.main with body:=[top 1,top 2,top 3,top 5,top 6,top 7,top 8,top 9,top 10,top 11,top 13,top 14,top 15,top 16,top 17,top 18,top 19,top 20,top 21,top 22,top 23,top 24,top 25,top 26,top 27,top 28,top 29,top 30] } }
abbrev ae9:Stmt:=top 1
abbrev ad1:Stmt:=top 2
abbrev aj4:Stmt:=top 7
abbrev a41:Stmt:=top 8
abbrev ab5:Stmt:=top 9
abbrev a86:Stmt:=top 10
abbrev af5:Stmt:=top 11
abbrev al7:Stmt:=top 13
abbrev al8:Stmt:=top 14
abbrev aj5:Stmt:=top 15
abbrev al9:Stmt:=top 16
abbrev ac6:Stmt:=top 17
abbrev ad2:Stmt:=top 18
abbrev ah5:Stmt:=top 19
abbrev ae0:Stmt:=top 20
abbrev ag5:Stmt:=top 21
abbrev ag6:Stmt:=top 22
abbrev a95:Stmt:=top 23
abbrev aa8:Stmt:=top 24
abbrev ad3:Stmt:=top 25
abbrev aa6:Stmt:=top 26
abbrev a94:Stmt:=top 27
abbrev am0:Stmt:=top 28
abbrev a96:Stmt:=top 29
abbrev bk9:Stmt:=top 30
def ar6 (K:PySem.W.Frag):Sp:=fun vs H Q _=>∃ (a:Addr) (ns:List Int),vs=[.ref a]∧SqL K H a (ns.map V.int)∧ns.length≤63∧∀ H',Q (.bl true) H'
set_option genInjectivity false in
structure Adr where
 {a_bodies_of:Addr}
 {fd_bodies_of:FuncData}
 {a_statements_in:Addr}
 {fd_statements_in:FuncData}
 {a_events_of:Addr}
 {fd_events_of:FuncData}
 {a_events_of_patterns:Addr}
 {fd_events_of_patterns:FuncData}
 {a_patterns_of:Addr}
 {fd_patterns_of:FuncData}
 {a_first_free_word:Addr}
 {fd_first_free_word:FuncData}
 {a_word_behind:Addr}
 {fd_word_behind:FuncData}
 {a__law_cell:Addr}
 {fd__law_cell:FuncData}
 {a__law_stir:Addr}
 {fd__law_stir:FuncData}
 {a__law_drawn:Addr}
 {fd__law_drawn:FuncData}
 {a__law_word:Addr}
 {fd__law_word:FuncData}
 {a__law_expression:Addr}
 {fd__law_expression:FuncData}
 {a__law_condition:Addr}
 {fd__law_condition:FuncData}
 {a__law_simple:Addr}
 {fd__law_simple:FuncData}
 {a__law_test:Addr}
 {fd__law_test:FuncData}
 {a__law_wait:Addr}
 {fd__law_wait:FuncData}
 {a__law_loop:Addr}
 {fd__law_loop:FuncData}
 {a__law_entry:Addr}
 {fd__law_entry:FuncData}
 {a__law_talk:Addr}
 {fd__law_talk:FuncData}
 {a__law_script:Addr}
 {fd__law_script:FuncData}
 {a__law_patterns:Addr}
 {fd__law_patterns:FuncData}
 {a__law_more:Addr}
 {fd__law_more:FuncData}
 {a__law_free:Addr}
 {fd__law_free:FuncData}
 {a__law_due:Addr}
 {fd__law_due:FuncData}
 {a_law:Addr}
 {fd_law:FuncData}
 {u_LETTERS:Value}
 {u_QUIET:Value}
 {u_KEYS:Value}
 {ad_QUIET:Addr}
structure CIi (K:PySem.W.Frag) (x q:Str) (st:Stmt) (ps:List Str) (a:Addr) (fd:FuncData):Prop where
 F:Fun K x q st a fd
 b:Binds K fd ps []
structure CFi (K:PySem.W.Frag) (mg:Str→Option Value) (x:Str) (st:Stmt) (ps:List Str) (a:Addr) (fd:FuncData):Prop extends CIi K x x st ps a fd where
 m:mg x=some (.ref a)
structure CMi (K:PySem.W.Frag) (c:Addr) (x q:Str) (st:Stmt) (ps:List Str) (a:Addr) (fd:FuncData):Prop extends CIi K x q st ps a fd where
 M:Meth K c x a
structure Txt (K:PySem.W.Frag) (mg:Str→Option Value) (t:Adr):Prop where
 f_bodies_of:CFi K mg "bodies_of" ae9 ["statement"] t.a_bodies_of t.fd_bodies_of
 f_statements_in:CFi K mg "statements_in" ad1 ["body"] t.a_statements_in t.fd_statements_in
 f_events_of:CFi K mg "events_of" aj4 ["script"] t.a_events_of t.fd_events_of
 f_events_of_patterns:CFi K mg "events_of_patterns" a41 ["patterns"] t.a_events_of_patterns t.fd_events_of_patterns
 f_patterns_of:CFi K mg "patterns_of" ab5 ["script"] t.a_patterns_of t.fd_patterns_of
 f_first_free_word:CFi K mg "first_free_word" a86 ["words"] t.a_first_free_word t.fd_first_free_word
 f_word_behind:CFi K mg "word_behind" af5 ["word"] t.a_word_behind t.fd_word_behind
 f__law_cell:CFi K mg "_law_cell" al7 ["script","k"] t.a__law_cell t.fd__law_cell
 f__law_stir:CFi K mg "_law_stir" al8 ["cell","k"] t.a__law_stir t.fd__law_stir
 f__law_drawn:CFi K mg "_law_drawn" aj5 ["cell","sizes"] t.a__law_drawn t.fd__law_drawn
 f__law_word:CFi K mg "_law_word" al9 ["number"] t.a__law_word t.fd__law_word
 f__law_expression:CFi K mg "_law_expression" ac6 ["d","boxes"] t.a__law_expression t.fd__law_expression
 f__law_condition:CFi K mg "_law_condition" ad2 ["d","boxes"] t.a__law_condition t.fd__law_condition
 f__law_simple:CFi K mg "_law_simple" ah5 ["cell","boxes","calls","most"] t.a__law_simple t.fd__law_simple
 f__law_test:CFi K mg "_law_test" ae0 ["some","cell","boxes"] t.a__law_test t.fd__law_test
 f__law_wait:CFi K mg "_law_wait" ag5 ["some","cell","most"] t.a__law_wait t.fd__law_wait
 f__law_loop:CFi K mg "_law_loop" ag6 ["some","cell","most"] t.a__law_loop t.fd__law_loop
 f__law_entry:CFi K mg "_law_entry" a95 ["cell","some","boxes","most","way"] t.a__law_entry t.fd__law_entry
 f__law_talk:CFi K mg "_law_talk" aa8 ["cells","boxes","calls","most"] t.a__law_talk t.fd__law_talk
 f__law_script:CFi K mg "_law_script" ad3 ["script"] t.a__law_script t.fd__law_script
 f__law_patterns:CFi K mg "_law_patterns" aa6 ["script"] t.a__law_patterns t.fd__law_patterns
 f__law_more:CFi K mg "_law_more" a94 ["cell"] t.a__law_more t.fd__law_more
 f__law_free:CFi K mg "_law_free" am0 ["words"] t.a__law_free t.fd__law_free
 f__law_due:CFi K mg "_law_due" a96 ["script"] t.a__law_due t.fd__law_due
 f_law:CFi K mg "law" bk9 ["script"] t.a_law t.fd_law
 z_bool:mg "bool"=none
 z_dict:mg "dict"=none
 z_enumerate:mg "enumerate"=none
 z_isinstance:mg "isinstance"=none
 z_len:mg "len"=none
 z_list:mg "list"=none
 z_max:mg "max"=none
 z_min:mg "min"=none
 z_range:mg "range"=none
 z_reversed:mg "reversed"=none
 z_set:mg "set"=none
 z_sorted:mg "sorted"=none
 z_sum:mg "sum"=none
 z_tuple:mg "tuple"=none
 m_LETTERS:mg "LETTERS"=some t.u_LETTERS
 r_LETTERS:RelV (.str "abcdefghijklmnopqrstuvwxyz") t.u_LETTERS
 m_QUIET:mg "QUIET"=some t.u_QUIET
 r_QUIET:RelV (.ref t.ad_QUIET) t.u_QUIET
 m_KEYS:mg "KEYS"=some t.u_KEYS
 r_KEYS:RelV (.int 10) t.u_KEYS
 dd_QUIET:∃ od its nn sl,K.lookup t.ad_QUIET=some ⟨.type "tuple",od,.seq its nn,sl⟩∧its.size≤sizeLine∧Vals [.str "quiet"] its.toList
theorem af0 {us:List Value}{n:Nat}(h:us.length=n+1):∃ u r,us=u::r:=by
 cases us with
 | nil=>cases h
 | cons u r=>exact ⟨u,r,rfl⟩
theorem c05 {us:List Value}(h:us.length=1):∃ u0,us=[u0]:=by
 obtain ⟨u0,us,rfl⟩:=af0 h; replace h:=Nat.succ.inj h
 obtain rfl:=List.length_eq_zero_iff.mp h
 exact ⟨u0,rfl⟩
theorem c06 {us:List Value}(h:us.length=2):∃ u0 u1,us=[u0,u1]:=by
 obtain ⟨u0,us,rfl⟩:=af0 h; replace h:=Nat.succ.inj h
 obtain ⟨u1,us,rfl⟩:=af0 h; replace h:=Nat.succ.inj h
 obtain rfl:=List.length_eq_zero_iff.mp h
 exact ⟨u0,u1,rfl⟩
theorem c07 {us:List Value}(h:us.length=3):∃ u0 u1 u2,us=[u0,u1,u2]:=by
 obtain ⟨u0,us,rfl⟩:=af0 h; replace h:=Nat.succ.inj h
 obtain ⟨u1,us,rfl⟩:=af0 h; replace h:=Nat.succ.inj h
 obtain ⟨u2,us,rfl⟩:=af0 h; replace h:=Nat.succ.inj h
 obtain rfl:=List.length_eq_zero_iff.mp h
 exact ⟨u0,u1,u2,rfl⟩
theorem c08 {us:List Value}(h:us.length=4):∃ u0 u1 u2 u3,us=[u0,u1,u2,u3]:=by
 obtain ⟨u0,us,rfl⟩:=af0 h; replace h:=Nat.succ.inj h
 obtain ⟨u1,us,rfl⟩:=af0 h; replace h:=Nat.succ.inj h
 obtain ⟨u2,us,rfl⟩:=af0 h; replace h:=Nat.succ.inj h
 obtain ⟨u3,us,rfl⟩:=af0 h; replace h:=Nat.succ.inj h
 obtain rfl:=List.length_eq_zero_iff.mp h
 exact ⟨u0,u1,u2,u3,rfl⟩
theorem c09 {us:List Value}(h:us.length=5):∃ u0 u1 u2 u3 u4,us=[u0,u1,u2,u3,u4]:=by
 obtain ⟨u0,us,rfl⟩:=af0 h; replace h:=Nat.succ.inj h
 obtain ⟨u1,us,rfl⟩:=af0 h; replace h:=Nat.succ.inj h
 obtain ⟨u2,us,rfl⟩:=af0 h; replace h:=Nat.succ.inj h
 obtain ⟨u3,us,rfl⟩:=af0 h; replace h:=Nat.succ.inj h
 obtain ⟨u4,us,rfl⟩:=af0 h; replace h:=Nat.succ.inj h
 obtain rfl:=List.length_eq_zero_iff.mp h
 exact ⟨u0,u1,u2,u3,u4,rfl⟩
theorem bl0 {K:PySem.W.Frag}{x q:Str}{st:Stmt}{f:Addr}{ps:List Str}{oc:Value}{od an:Option Addr}{osl:Array (Option Value)}{kV doc pm cdv ct:Value}(l:K.lookup f=some ⟨oc,od,.func (PySem.W.fnOf x q (ae8 st) (ad0 st) (a06 st) .none kV doc pm an cdv ct),osl⟩) (c:PySem.W.codeIn K cdv q=true) (k:PySem.W.keepIn K (.ref f)=true) (b:∀ (kV doc pm:Value) (an:Option Addr) (cdv ct:Value) (us:List Value),us.length=ps.length→bindArgs (PySem.W.fnOf x q (ae8 st) (ad0 st) (a06 st) .none kV doc pm an cdv ct) ⟨us,[]⟩=pure (ps.zip us)):CIi K x q st ps f (PySem.W.fnOf x q (ae8 st) (ad0 st) (a06 st) .none kV doc pm an cdv ct):=⟨bh4 l c k,(bh4 l c k).binds b⟩
theorem c10 {K:PySem.W.Frag}{mg:Str→Option Value}{h:Heap}{x:Str}{st:Stmt}{ps:List Str}{f:Addr}{fd:FuncData}(X:K.In h) (G:h.Ns mainGlobals mg) (a:PySem.W.nsIn K mainGlobals x=some (some (.ref f))) (i:CIi K x x st ps f fd):CFi K mg x st ps f fd:=⟨i,PySem.W.mg_of X G a⟩
def HF (P:Params) (K:PySem.W.Frag):Prop:=∃ t:Adr,∀ (mg:Str→Option Value) (h:Heap),K.In h→h.Ns mainGlobals mg→Txt K mg t
theorem walk2 {l:PySem.W.OpenLaw}{q:Program}{loose:List Str}{XP:(Str→Option Value)→Heap→Prop}{YP:World→Heap→Prop}{d:DefRec}{K:Params→PySem.W.Frag}(hn:l.most=some 63) (hdf:d.params.defaults=[]) (hd:d.name="law") (hl:l=PySem.Challenge.rw_callmill_k19_events_of_scripts) (hY:∀ (w:World) (h:Heap),YP w h→(K w.params).In h) (hF:∀ P,HF P (K P)) (G:∀ K:Params→PySem.W.Frag,(∀ P,HF P (K P))→(∀ (w:World) (mg:Str→Option Value) (fa:Addr) (h:Heap),(K w.params).In h→h.Ns mainGlobals mg→mg "law"=some (.ref fa)→∃ fd:FuncData,(∀ (s:Shared) (u:Value),BindsTo s fd ⟨[u],[]⟩ [("script",u)])∧∀ base:Heap,(K w.params).In base→base.Ns mainGlobals mg→FnOk PySem.Challenge.rw_callmill_k19_events_of_scripts.prog w (K w.params) mg base CX0 120 fa fd ["script"] (ar6 (K w.params)))):PySem.W.WalkO q loose XP YP l.row.toRowW d [] (fun f vs=>PySem.call f vs) :=
 L2.walk_of (n:=63) (k:=120) (x:="script") (CX:=fun _=>CX0) (sp:=fun w=>ar6 (K w.params)) hn (by decide) hdf ⟨rfl,by decide,by decide⟩ hY (by rw [hd,hl]; exact G K hF) (fun _ _ a ns hl _ hS=>⟨a,ns,rfl,hS,hl,fun _=>rfl⟩) fun _ _ _ _ _ z=>z
theorem c11 {K:PySem.W.Frag}{C:Addr}{x q:Str}{st:Stmt}{ps:List Str}{f:Addr}{fd:FuncData}(a:PySem.W.findIn K (.ref C) x=some (some (.ref f))) (i:PySem.W.isFn K (.ref f)=true) (h:CIi K x q st ps f fd):CMi K C x q st ps f fd:=⟨h,a,i,h.F.kp⟩
theorem c12 {K:PySem.W.Frag}{a:Addr}{vs:List V}{od:Option Addr}{its:Array Value}{nn:Nat}{sl:Array (Option Value)}(h1:K.lookup a=some ⟨.type "tuple",od,.seq its nn,sl⟩) (h2:its.size≤sizeLine) (h3:Vals vs its.toList):∃ od its nn sl,K.lookup a=some ⟨.type "tuple",od,.seq its nn,sl⟩∧its.size≤sizeLine∧Vals vs its.toList:=⟨_,_,_,_,h1,h2,h3⟩
theorem c13 {K:PySem.W.Frag}{a:Addr}{od:Option Addr}{cd:ClassData}{sl:Array (Option Value)}(h:K.lookup a=some ⟨.type "type",od,.cls cd,sl⟩):∃ od cd sl,K.lookup a=some ⟨.type "type",od,.cls cd,sl⟩:=⟨_,_,_,h⟩
section
open PySem PySem.W PyProof.Rows
local macro_rules | `(tactic| o_head $H) => `(tactic| refine holds_open (q := K19.view) (loose := []) (Xt := fun s => xlAt K19.view [] s && recOk (RowW.records _) s) (XP := XL K19.view []) (Yf := Hook.obs $H) (Ya := Hook.val $H) (YP := Hook.says $H) (N := 8000) ?hl (Hook.of $H) (Hook.keeps $H) (fun s e => xl_of s (Bool.and_eq_true_iff.mp e).1) XL.keeps (by rfl) (by rfl) (by rfl) (fun s e => recFacts_of (Bool.and_eq_true_iff.mp e).2) (by rfl) (by first | assumption | decide +kernel) (by decide +kernel) ⟨rfl, rfl, rfl, rfl, rfl, by decide +kernel⟩ ?hw ?hc)
local macro_rules | `(tactic| walk_at "bi") => `(tactic| (intro _ _ _ _ _ _ us hl; first | (obtain ⟨_, z⟩ := c05 hl; subst z; rfl) | (obtain ⟨_, _, z⟩ := c06 hl; subst z; rfl) | (obtain ⟨_, _, _, z⟩ := c07 hl; subst z; rfl) | (obtain ⟨_, _, _, _, z⟩ := c08 hl; subst z; rfl) | (obtain ⟨_, _, _, _, _, z⟩ := c09 hl; subst z; rfl)))
local macro_rules | `(tactic| walk_at "fi") => `(tactic| first | (refine' c10 $(Lean.mkIdent `X) $(Lean.mkIdent `G) ?a (bl0 ?l ?c ?k (by walk_at "bi")); (case a => k_is); (case l => k_is); (case c => k_is); (case k => k_is)) | (refine' c11 ?a ?i (bl0 ?l ?c ?k (by walk_at "bi")); (case a => k_is); (case i => k_is); (case l => k_is); (case c => k_is); (case k => k_is)) | (refine' bl0 ?l ?c ?k (by walk_at "bi"); (case l => k_is); (case c => k_is); (case k => k_is)) | (refine' PySem.W.mg_of $(Lean.mkIdent `X) $(Lean.mkIdent `G) ?a; (case a => k_is)) | (refine' PySem.W.mg_none_of $(Lean.mkIdent `X) $(Lean.mkIdent `G) ?a; (case a => k_is)) | (unfold bs1; k_is) | k_is | (refine' Cls.mk ?a ?b ?c ?d; (case a => k_is); (case b => k_is); (case c => k_is); (case d => k_is)) | (refine' Mk.mk ?a ?b ?c ?d; (case a => k_is); (case b => k_is); (case c => k_is); (case d => k_is)) | exact ⟨_, rfl⟩ | (with_reducible exact rfl) | (refine' c12 ?a ?b ?c; (case a => k_is); (case b => exact Nat.le_of_lt (L2.small1000 (by decide))); (case c => repeat first | exact .nil | refine .cons (by first | exact rfl | exact ⟨_, rfl⟩) ?_)) | (refine' c13 ?a; (case a => k_is)) | (change PySem.W.excIn _ _ _ _ = true; kernel_rfl) | exact rfl)
def bt:List Obj→Nat→BT→BT
 | [],_,t=>t
 | o::l,i,t=>bt l (i+1) (t.ins i o)
noncomputable def T0 (P:Params):BT:=bt (boot_heap P).objs.toList 0 .nil
def runT (tb:String→Option Builtin) (p:Program) (w:World) (n₀:Nat) (ann:Option Value):Nat→SharedT→Thread→Option SharedT
 | 0,_,_=>none
 | n+1,s,t=>match through t with
   | true=>some s
   | false=>match stepOk n₀ ann t with
     | false=>none
     | true=>match stepT (denote tb) p w s t with
       | some (s',t')=>runT tb p w n₀ ann n s' t'
       | none=>none
theorem b50 {tb:String→Option Builtin}{p:Program}{w:World}{n₀:Nat}{ann:Option Value}:∀ {n:Nat}{s s':SharedT}{t:Thread},runT tb p w n₀ ann n s t=some s'→topRun tb p w n₀ ann n s.abs t=some s'.abs
 | 0,_,_,_,h=>by cases h
 | n+1,s,s',t,h=>by
   unfold runT at h
   unfold topRun
   cases he:through t with
   | true=>rw [he] at h; cases h; rfl
   | false =>
     rw [he] at h
     cases hk:stepOk n₀ ann t with
     | false=>rw [hk] at h; cases h
     | true =>
       rw [hk] at h
       cases hs:stepT (denote tb) p w s t with
       | none=>rw [hs] at h; cases h
       | some r=>obtain ⟨s₂,t₂⟩:=r; rw [hs] at h; rw [stepT_spec hs]; exact b50 h
theorem b51 {p q:Program}{loose:List Str}{Xt:Shared→Bool}{α:Type}{Yf:Shared→α}{Ya:World→α}{N:Nat}{g0:Bool}{m₀:Nat}{ann:Option Value}(e:opening p=plainProg p.main.scope.names) (hN:Nat.ble 600 N=true) (f:∀ s,fenceModules? p s=some s)
 (b:∀ P,boot_heap P=absHeap (T0 P) m₀ (boot_heap P).life) (z:∀ w:World,(boot_heap w.params).isNs mainGlobals=true∧(boot_heap w.params).objs.size=m₀∧(boot_heap w.params).nsMap mainGlobals "__annotations__"=ann)
 (h1:∀ (w:World) (os:OsState),(runT treeTable p w m₀ ann N ⟨T0 w.params,m₀,(boot_heap w.params).life,Array.mk [],boot_drawn,boot_toks,os⟩ (topStub p)).map (fun s=>(staticsOk (importedModules p.main.body) (boot_heap w.params) s.abs.heap && namesBound p s.abs.heap && gensDone s.abs && laidKept (boot_heap w.params) s.abs.heap,Yf s.abs))=some (true,Ya w))
 (h2:∀ (w:World) (os:OsState),(runT treeTable p w m₀ ann N ⟨T0 w.params,m₀,(boot_heap w.params).life,Array.mk [],boot_drawn,boot_toks,os⟩ (topStub p)).map (fun s=>openSeen q loose (importedModules p.main.body) Xt g0 s.abs)=some (openGood q loose)):LeftO p q loose Xt Yf Ya N g0:=fun w=>by
 obtain ⟨⟨hp,g,d,k,os⟩,hs,hv⟩:=Option.map_eq_some_iff.mp (boot_open e hN f w)
 injection hv with v1 v2
 injection v2 with v2 v3
 injection v3 with v3 v4
 dsimp only at v1 v2 v3 v4
 subst v1 v2 v3 v4
 obtain ⟨z1,z2,z3⟩:=z w
 obtain ⟨s',h0,l1⟩:=Option.map_eq_some_iff.mp (h1 w os)
 obtain ⟨l1,l3⟩:=Prod.mk.inj l1
 have l2:=h2 w os
 rw [h0] at l2
 replace l2:=Option.some.inj l2
 have r:=b50 h0
 have r':topRun treeTable p w m₀ ann N ⟨boot_heap w.params,Array.mk [],boot_drawn,boot_toks,os⟩ (topStub p)=some s'.abs:=by
  rw [b w.params]
  exact r
 unfold openEnds
 rw [hs]
 show (topFrom treeTable p w N _).map _=_
 unfold topFrom
 dsimp only
 rw [z1,z2,z3,r']
 show (match staticsOk (importedModules p.main.body) (boot_heap w.params) s'.abs.heap && namesBound p s'.abs.heap && gensDone s'.abs && laidKept (boot_heap w.params) s'.abs.heap with | true=>some s'.abs | false=>none).map _=_
 rw [l1]
 exact congrArg some (Prod.ext l2 l3)
theorem bt1 (P:Params):boot_heap P=absHeap (T0 P) 11 (boot_heap P).life:=by kernel_rfl
theorem bt2 (w:World):(boot_heap w.params).isNs mainGlobals=true∧(boot_heap w.params).objs.size=11∧(boot_heap w.params).nsMap mainGlobals "__annotations__"=some (.ref 6):=⟨by kernel_rfl,by kernel_rfl,by kernel_rfl⟩
theorem bl1 (w:World) (os:OsState):(runT treeTable PySem.Challenge.rw_callmill_k19_events_of_scripts.row.prog w 11 (some (.ref 6)) 8000 ⟨T0 w.params,11,(boot_heap w.params).life,Array.mk [],boot_drawn,boot_toks,os⟩ (topStub PySem.Challenge.rw_callmill_k19_events_of_scripts.row.prog)).map (fun s=>openSeen K19.view [] (importedModules PySem.Challenge.rw_callmill_k19_events_of_scripts.row.prog.main.body) (fun s=>xlAt K19.view [] s && recOk PySem.Challenge.rw_callmill_k19_events_of_scripts.row.records s) true s.abs)=some (openGood K19.view []):=by kernel_rfl
set_option maxRecDepth 100000 in
set_option maxHeartbeats 0 in
theorem head (G:∀ K:Params→PySem.W.Frag,(∀ P,HF P (K P))→(∀ (w:World) (mg:Str→Option Value) (fa:Addr) (h:Heap),(K w.params).In h→h.Ns mainGlobals mg→mg "law"=some (.ref fa)→∃ fd:FuncData,(∀ (s:Shared) (u:Value),BindsTo s fd ⟨[u],[]⟩ [("script",u)])∧∀ base:Heap,(K w.params).In base→base.Ns mainGlobals mg→FnOk PySem.Challenge.rw_callmill_k19_events_of_scripts.prog w (K w.params) mg base CX0 120 fa fd ["script"] (ar6 (K w.params)))):PySem.Challenge.rw_callmill_k19_events_of_scripts.Holds:=by
 w_on; o_law; k_head; (case hw=>w_witness2); (case hl=>exact b51 rfl rfl (fun _=>rfl) bt1 bt2 (by intro w os; kernel_rfl) bl1)
 k_fill
 refine K19.walk2 (l:=PySem.Challenge.rw_callmill_k19_events_of_scripts) rfl rfl rfl rfl (fun w h Y=>PySem.W.kIn_of Y) ?facts G
 case facts =>
  intro P
  refine' ⟨Adr.mk,fun mg h X G=>?z⟩
  case z =>
   constructor
   all_goals (try dsimp only); walk_at "fi"
end
end K19
namespace L2
open PySem PySem.Spec PyProof.Rows
section
variable {κ:Type} [DecidableEq κ]
def valV (kvs:List (κ×V)) (k:κ):Option V:=(kvs.find? fun kv=>decide (kv.1=k)).map (·.2)
def putK (kvs:List (κ×V)) (k:κ) (v:V):List (κ×V) :=
 if (kvs.any fun kv=>decide (kv.1=k))=true then kvs.map (fun kv=>if kv.1=k then (kv.1,v) else kv) else kvs++[(k,v)]
theorem bc9 {k:κ}:valV ([]:List (κ×V)) k=none:=rfl
theorem a78 {p:κ×V}{r:List (κ×V)}{k:κ}(e:p.1=k):valV (p::r) k=some p.2:=by simp [valV,List.find?_cons,e]
theorem a79 {p:κ×V}{r:List (κ×V)}{k:κ}(e:¬ p.1=k):valV (p::r) k=valV r k:=by simp [valV,List.find?_cons,e]
theorem an9 (k:κ):∀ kvs:List (κ×V),(kvs.any fun kv=>decide (kv.1=k))=(valV kvs k).isSome
 | []=>rfl
 | p::r=>by
   rw [List.any_cons]
   by_cases e:p.1=k
   · simp only [a78 e,decide_eq_true e,Bool.true_or,Option.isSome_some]
   · rw [a79 e,decide_eq_false e,Bool.false_or]; exact an9 k r
theorem ay3 (k j:κ) (y:V):∀ kvs:List (κ×V),valV (kvs.map fun kv=>if kv.1=k then (kv.1,y) else kv) j=(valV kvs j).map fun x=>if j=k then y else x
 | []=>rfl
 | p::r=>by
   have ih:=ay3 k j y r
   rw [List.map_cons]
   by_cases h:p.1=k
   · rw [if_pos h]
     by_cases e:p.1=j
     · rw [a78 (p:=(p.1,y)) e,a78 e,Option.map_some,if_pos (e.symm.trans h)]
     · rw [a79 (p:=(p.1,y)) e,a79 e,ih]
   · rw [if_neg h]
     by_cases e:p.1=j
     · rw [a78 (p:=p) e,a78 e,Option.map_some,if_neg (fun z=>h (e.trans z))]
     · rw [a79 (p:=p) e,a79 e,ih]
theorem ar7 (k j:κ) (y:V):∀ kvs:List (κ×V),valV kvs k=none→valV (kvs++[(k,y)]) j=if j=k then some y else valV kvs j
 | [],_=>by
   by_cases e:k=j
   · rw [if_pos e.symm]; exact a78 (p:=(k,y)) e
   · rw [if_neg (fun z=>e z.symm)]; exact a79 (p:=(k,y)) e
 | p::r,hn=>by
   rw [List.cons_append]
   have hk:¬ p.1=k:=fun z=>by rw [a78 z] at hn; cases hn
   rw [a79 hk] at hn
   have ih:=ar7 k j y r hn
   by_cases e:p.1=j
   · rw [a78 e,a78 e,if_neg (fun z=>hk (e.trans z))]
   · rw [a79 e,a79 e,ih]
theorem bd0 (kvs:List (κ×V)) (k j:κ) (y:V):valV (putK kvs k y) j=if j=k then some y else valV kvs j:=by
 unfold putK
 by_cases a:(kvs.any fun kv=>decide (kv.1=k))=true
 · rw [if_pos a,ay3]
   rw [an9] at a
   by_cases e:j=k
   · obtain ⟨x,hx⟩:=Option.isSome_iff_exists.mp a
     rw [if_pos e,e,hx,Option.map_some,if_pos rfl]
   · rw [if_neg e]
     cases valV kvs j with
     | none=>rfl
     | some x=>rw [Option.map_some,if_neg e]
 · rw [if_neg a]
   refine ar7 k j y kvs ?_
   rw [an9] at a
   cases q:valV kvs k with
   | none=>rfl
   | some x=>rw [q] at a; exact (a rfl).elim
theorem av6 (kvs:List (κ×V)) (k:κ) (v:V):(putK kvs k v).length≤kvs.length+1:=by
 unfold putK
 split
 · rw [List.length_map]; omega
 · rw [List.length_append,List.length_cons,List.length_nil]; omega
theorem RelO.isSome_eq {o:Option V}{u:Option Value}(r:RelO o u):o.isSome=u.isSome:=by
 cases o with
 | none=>cases u with
   | none=>rfl
   | some _=>exact (show False from r).elim
 | some _=>cases u with
   | none=>exact (show False from r).elim
   | some _=>rfl
theorem KV.val {kvs:List (κ×V)}{vs:List (κ×Value)}(r:KV kvs vs) (k:κ):RelO (valV kvs k) (valueAt vs k):=by
 unfold KV at r
 induction r with
 | nil=>exact True.intro
 | @cons p q ps qs h t ih =>
   obtain ⟨h1,h2⟩:=h
   by_cases e:p.1=k
   · have e':q.1=k:=h1.symm.trans e
     have b:valueAt (q::qs) k=some q.2:=by simp [valueAt,List.find?_cons,e']
     rw [a78 e,b]; exact h2
   · have e':¬ q.1=k:=fun z=>e (h1.trans z)
     have b:valueAt (q::qs) k=valueAt qs k:=by simp [valueAt,List.find?_cons,e']
     rw [a79 e,b]; exact ih
theorem KV.any {kvs:List (κ×V)}{vs:List (κ×Value)}(r:KV kvs vs) (k:κ):(kvs.any fun kv=>decide (kv.1=k))=vs.any fun kv=>decide (kv.1=k):=by
 unfold KV at r
 induction r with
 | nil=>rfl
 | cons h t ih=>rw [List.any_cons,List.any_cons,ih,h.1]
theorem KV.repl {kvs:List (κ×V)}{vs:List (κ×Value)}(r:KV kvs vs) (k:κ) {y:V}{u:Value}(ry:RelV y u) :
 KV (kvs.map fun kv=>if kv.1=k then (kv.1,y) else kv) (vs.map fun kv=>if kv.1=k then (kv.1,u) else kv):=by
 unfold KV at r ⊢
 induction r with
 | nil=>exact .nil
 | @cons p q ps qs h t ih =>
   rw [List.map_cons,List.map_cons]
   refine .cons ?_ ih
   obtain ⟨h1,h2⟩:=h
   by_cases e:p.1=k
   · rw [if_pos e,if_pos (h1.symm.trans e)]; exact ⟨h1,ry⟩
   · rw [if_neg e,if_neg (fun z=>e (h1.trans z))]; exact ⟨h1,h2⟩
theorem KV.put {kvs:List (κ×V)}{vs:List (κ×Value)}(r:KV kvs vs) (k:κ) {y:V}{u:Value}(ry:RelV y u):KV (putK kvs k y) (stored vs k u):=by
 unfold putK stored
 rw [r.any k]
 by_cases e:(vs.any fun kv=>decide (kv.1=k))=true
 · rw [if_pos e,if_pos e]; exact r.repl k ry
 · rw [if_neg e,if_neg e]; exact Paired.snoc r ⟨rfl,ry⟩
theorem KV.length {kvs:List (κ×V)}{vs:List (κ×Value)}(r:KV kvs vs):kvs.length=vs.length:=Paired.length r
end
theorem bl4 {P:Program}{w:World}{k:Key}{u:Value}(r:RelV (kV k) u):(a76 P w).is k u=true:=by
 cases k with
 | inl i=>obtain ⟨t,e⟩:=(show ∃ t,u=Value.int i t from r); subst e; exact au7 P w i t
 | inr x=>obtain ⟨t,e⟩:=(show ∃ t,u=Value.str x t from r); subst e; exact au8 P w x t
theorem ar8 {P:Program}{w:World}:∀ {ks:List Key}{us:List Value},Vals (ks.map kV) us→ItemsAre (a76 P w) ks us
 | [],_,r=>by rw [List.map_nil] at r; cases r; exact .nil
 | k::ks,_,r=>by
   rw [List.map_cons] at r
   cases r with
   | cons h t=>exact .cons (bl4 h) (ar8 t)
abbrev KT (H:Hp):List (List Key×V)→List (List Key×Addr×Value)→Prop:=Paired fun p q=>p.1=q.1∧H q.2.1=some (.tup (p.1.map kV))∧RelV p.2 q.2.2
theorem KT.val {H:Hp}{kvs:List (List Key×V)}{xs:List (List Key×Addr×Value)}(r:KT H kvs xs) (k:List Key):RelO (valV kvs k) ((atKey xs k).map (·.2)):=by
 induction r with
 | nil=>exact True.intro
 | @cons p q ps qs h t ih =>
   obtain ⟨h1,_,h2⟩:=h
   by_cases e:p.1=k
   · have e':q.1=k:=h1.symm.trans e
     have b:atKey (q::qs) k=some q.2:=by simp [atKey,List.find?_cons,e']
     rw [a78 e,b]; exact h2
   · have e':¬ q.1=k:=fun z=>e (h1.trans z)
     have b:atKey (q::qs) k=atKey qs k:=by simp [atKey,List.find?_cons,e']
     rw [a79 e,b]; exact ih
section
variable {P:Program}{w:World}{H:Hp}{h:Heap}{a:Addr}
theorem bt3 {u:HO}(ok:HOk P w H h) (e:Rd H a u):ObjOk P w H h a u:=e.ok ok
theorem c14 {kvs:List (Key×V)}(ok:HOk P w H h) (e:Rd H a (.dK kvs)):kvs.length≤sizeLine∧(a == sysModules)=false∧∃ vs,KV kvs vs∧h.DictOf (a76 P w) a vs :=
 show ObjOk P w H h a (.dK kvs) from bt3 ok e
theorem bh5 {ks:List Key}(ok:HOk P w H h) (e:H a=some (.tup (ks.map kV))):(tupleKind (a76 P w)).is h ks a:=by
 obtain ⟨_,its,r,o,h1,h2,n,h3⟩:=(show ObjOk P w H h a (.tup (ks.map kV)) from ok a _ e)
 exact ⟨o,its.toArray,n,h1,h2,h3,by simpa using ar8 r⟩
theorem c15 {kvs:List (List Key×V)}(ok:HOk P w H h) (e:Rd H a (.dT kvs)):kvs.length≤sizeLine∧(a == sysModules)=false ∧
 ∃ xs,KT H kvs xs∧h.DictOfH (tupleKind (a76 P w)) a xs:=by
 obtain ⟨z,y,xs,r,o,es,ep,h1,h2,h3,h4,h5⟩:=(show ObjOk P w H h a (.dT kvs) from bt3 ok e)
 refine ⟨z,y,xs,r,o,es,ep,h1,h2,h3,h4,fun x hx=>?_,h5⟩
 have all:∀ {l:List (List Key×V)}{m:List (List Key×Addr×Value)},KT H l m→∀ x∈m,(tupleKind (a76 P w)).is h x.1 x.2.1:=by
  intro l m q
  induction q with
  | nil=>intro x hx; exact nomatch hx
  | @cons p q ps qs hq t ih =>
    intro x hx
    rcases List.mem_cons.mp hx with e | hx
    · subst e
      exact bh5 ok (by rw [← hq.1]; exact hq.2.1)
    · exact ih x hx
 exact all r x hx
end
def DGet (H:Hp) (a:Addr) (y:V) (r:Option V):Prop :=
 (∃ kvs k,Rd H a (.dK kvs)∧y=kV k∧r=valV kvs k)∨∃ kvs k b,Rd H a (.dT kvs)∧y=.ref b∧H b=some (.tup (k.map kV))∧r=valV kvs k
theorem DGet.k {H:Hp}{a:Addr}{kvs:List (Key×V)}{k:Key}(e:H a=some (.dK kvs)):DGet H a (kV k) (valV kvs k):=.inl ⟨kvs,k,.inl e,rfl,rfl⟩
section
variable {X:Cx}{pins:List (Addr×Obj)}{σ:St} {H:Hp}{s:Shared}{a:Addr}{y v:V}{u r:Value}{o:Option V}{A:Around}{E:Value→Shared→Prop}
theorem Inv.big (I:Inv X pins σ H s):sysModules<s.heap.objs.size:=by
 have h:mainGlobals<s.heap.objs.size:=(I.mod.glob.keeps I.bk).lt
 exact Nat.lt_trans (by decide) h
theorem d_in {Q:Value→Shared→Prop}(hu:A.units+1<cLine) (I:Inv X pins σ H s) (g:DGet H a y o) (ry:RelV y u) (h:∀ s',Inv X pins σ H s'→Q (.bool o.isSome) s') :
 wpAny (model X.prog X.w) A (compareOp .In u (.ref a)) Q E s:=by
 rcases g with ⟨kvs,k,e,ey,l⟩ | ⟨kvs,k,b,e,ey,eb,l⟩
 · subst ey
   obtain ⟨z,hd,vs,rel,dd⟩:=c14 I.hok e
   refine wpAny_in_of (bl4 ry) hd dd.mapOf ?_
   rw [← (rel.val k).isSome_eq,←l]
   exact h _ (I.tok _)
 · subst ey
   cases (show u=Value.ref b from ry)
   obtain ⟨z,hd,xs,rel,dd⟩:=c15 I.hok e
   refine wpAny_in_heap (tupleKind_room_in1 hu) (bh5 I.hok eb) hd dd ?_
   have q:=(rel.val k).isSome_eq
   rw [Option.isSome_map] at q
   rw [← q,←l]
   exact h _ (I.tok _)
theorem bt4 {P:Program}{w:World}{H':Hp}{h':Heap}{kvs:List (Key×V)}{vs:List (Key×Value)}(z:kvs.length≤sizeLine) (hd:(a == sysModules)=false) (rel:KV kvs vs) (dd:h'.DictOf (a76 P w) a vs) :
 ObjOk P w H' h' a (.dK kvs):=⟨z,hd,vs,rel,dd⟩
end
section
variable {X:Cx}{pins:List (Addr×Obj)}{σ:St} {H:Hp}{s:Shared}{a:Addr}{kvs:List (Key×V)}{k:Key}{u:Value}{A:Around}{E:Value→Shared→Prop}
end
def tDIn (ty td:TE):TE:=fun σ H Q=>ty σ H fun y H1=>td σ H1 fun x H2=>∃ a o,x=.ref a∧DGet H2 a y o∧Q (.bl o.isSome) H2
section
variable {X:Cx}{o i e value:Expr}{pos pos' tpos:Pos}{td ty tv:TE}
theorem bt5 (hu:X.A.units+1<cLine) (hi:PE X i ty) (ho:PE X o td):PC X .In i o (tDIn ty td):=by
 intro pins s σ H Q I h
 refine thn (hi pins s σ H _ I h) ?_
 rintro iv s1 ⟨y,H1,I1,ry,q1⟩
 refine thn (ho pins s1 σ H1 _ I1 q1) ?_
 rintro u s2 ⟨x,H2,I2,rx,a,ov,ex,g,q2⟩
 subst ex
 obtain rfl:u=Value.ref a:=rx
 exact d_in hu I2 g ry fun s3 I3=>⟨.bl ov.isSome,H2,I3,rfl,q2⟩
end
section
variable {X:Cx}{pos:Pos}
end
def ac7 (kvs more:List (Key×V)):List (Key×V):=more.foldl (fun acc kv=>putK acc kv.1 kv.2) kvs
theorem KV.merge:∀ {more:List (Key×V)}{rs:List (Key×Value)}{kvs:List (Key×V)}{vs:List (Key×Value)},KV more rs→KV kvs vs→KV (ac7 kvs more) (merged vs rs):=by
 intro more rs kvs vs r
 unfold KV at r
 induction r generalizing kvs vs with
 | nil=>intro q; exact q
 | @cons p q ps qs h t ih =>
   intro r0
   have e:KV (putK kvs p.1 p.2) (stored vs q.1 q.2):=by
    have:=r0.put p.1 h.2
    rw [← h.1]; exact this
   exact ih e
theorem af6:∀ (more kvs:List (Key×V)),(ac7 kvs more).length≤kvs.length+more.length
 | [],kvs=>by show kvs.length≤kvs.length+0; omega
 | p::r,kvs=>by
   have h1:=af6 r (putK kvs p.1 p.2)
   have h2:=av6 kvs p.1 p.2
   show (ac7 (putK kvs p.1 p.2) r).length≤_
   rw [List.length_cons]; omega
section
variable {X:Cx}{pins:List (Addr×Obj)}{σ:St} {H:Hp}{s:Shared}{a:Addr}{y d:V}{u r:Value}{o:Option V}{A:Around}{E:Value→Shared→Prop}
end
section
variable {X:Cx}{o e f:Expr}{apos cpos:Pos}{td ty tx:TE}
end
section
variable {X:Cx}{pins:List (Addr×Obj)}{σ:St} {H:Hp}{s:Shared}{a:Addr}{kvs:List (Key×V)}{A:Around}{E:Value→Shared→Prop}
end
section
variable {X:Cx}{pins:List (Addr×Obj)}{σ:St} {H:Hp}{s:Shared}{a:Addr}{y:V}{u:Value}{A:Around}{E:Value→Shared→Prop}
end
section
variable {κ:Type} [DecidableEq κ]
end
def cxC (X:Cx) (N:List Str) (scope:Scope) (cl:List (Str×Addr)) (C:Addr) (s0:Shared) (H0:Hp) (ex:List Addr):Cx :=
 { X with N:=N,s₀:=s0,H₀:=H0,env:=compEnvC scope cl C X.env,outer:=X.stack,stack:=X.stack,ex:=ex,fn:=fun x=>scope.names.lookup x == some .cell,pn:=[],xe:=fun _ _=>False }
theorem am1 {env : Env} (has : ∀ x, (env.kindOf x = some .cell ∨ env.kindOf x = some .free) → ∃ c, env.cells.lookup x = some c) {scope : Scope}
    (hf : ∀ y ∈ scope.names, y.2 = .free → env.kindOf y.1 = some .cell ∨ env.kindOf y.1 = some .free) :
    ∃ cl, closureFor scope env = pure cl ∧ (∀ x c, cl.lookup x = some c → env.cells.lookup x = some c) ∧ (∀ y ∈ scope.names, y.2 = .free → ∃ c, cl.lookup y.1 = some c) := by
  have gen : ∀ (names : List (Str × NameKind)) (cs : List (Str × Addr)), (∀ y ∈ names, y.2 = .free → env.kindOf y.1 = some .cell ∨ env.kindOf y.1 = some .free) →
      (∀ x c, cs.lookup x = some c → env.cells.lookup x = some c) →
      ∃ cl, (forIn (m := Sem) names cs fun p r => do
          match p with
          | (name, kind) => if kind == .free then do let c ← cellOf env name; pure (ForInStep.yield ((name, c) :: r)) else pure (ForInStep.yield r)) = pure cl ∧
        (∀ x c, cl.lookup x = some c → env.cells.lookup x = some c) ∧ (∀ x c, cs.lookup x = some c → ∃ c, cl.lookup x = some c) ∧ (∀ y ∈ names, y.2 = .free → ∃ c, cl.lookup y.1 = some c) := by
    intro names
    induction names with
    | nil => intro cs _ h; exact ⟨cs, rfl, h, fun x c e => ⟨c, e⟩, fun y hy => nomatch hy⟩
    | cons p r ih =>
      intro cs hp h
      obtain ⟨n, k⟩ := p
      by_cases hk : k = .free
      · subst hk
        obtain ⟨c, hc⟩ := has n (hp (n, .free) List.mem_cons_self rfl)
        have h' : ∀ x d, ((n, c) :: cs).lookup x = some d → env.cells.lookup x = some d := by
          intro x d e
          rw [List.lookup_cons] at e
          cases hx : x == n with
          | true =>
            rw [hx] at e
            have : x = n := by simpa using hx
            cases e; rw [this]; exact hc
          | false => rw [hx] at e; exact h x d e
        obtain ⟨cl, e1, e2, e3, e4⟩ := ih ((n, c) :: cs) (fun y hy => hp y (List.mem_cons_of_mem _ hy)) h'
        have hn : ∃ d, cl.lookup n = some d := e3 n c (by simp [List.lookup_cons])
        refine ⟨cl, ?_, e2, fun x d e => ?_, fun y hy hyk => ?_⟩
        · rw [List.forIn_cons]
          have : cellOf env n = pure c := by unfold cellOf; rw [hc]
          simp only [beq_self_eq_true, if_true, this]
          exact e1
        · by_cases hx : x = n
          · subst hx; exact hn
          · exact e3 x d (by rw [List.lookup_cons]; have : (x == n) = false := by simpa using hx
                             rw [this]; exact e)
        · rcases List.mem_cons.mp hy with rfl | hy
          · exact hn
          · exact e4 y hy hyk
      · obtain ⟨cl, e1, e2, e3, e4⟩ := ih cs (fun y hy => hp y (List.mem_cons_of_mem _ hy)) h
        refine ⟨cl, ?_, e2, e3, fun y hy hyk => ?_⟩
        · rw [List.forIn_cons]
          have : (k == NameKind.free) = false := by simpa using hk
          simp only [this]
          exact e1
        · rcases List.mem_cons.mp hy with rfl | hy
          · exact absurd hyk hk
          · exact e4 y hy hyk
  obtain ⟨cl, e1, e2, _, e4⟩ := gen scope.names [] hf (fun x c e => nomatch e)
  refine ⟨cl, ?_, e2, e4⟩
  unfold closureFor
  simp only []
  exact congrArg (· >>= fun cs => pure cs) e1 |>.trans rfl
theorem ar9 {scope:Scope}{env:Env}{x:Str}{k:NameKind}(h:(relabel scope env).names.lookup x=some k) (hk:k=.cell∨k=.free):∃ y∈scope.names,y.1=x∧(y.2=.free∨y.2=.cell):=by
 have gen:∀ names:List (Str×NameKind),(names.map fun (n,k)=>if (k == NameKind.free && env.scope.kind == .function && env.kindOf n == some .cell) then (n,NameKind.cell) else (n,k)).lookup x=some k →
  ∃ y∈names,y.1=x∧(y.2=.free∨y.2=.cell):=by
  intro names
  induction names with
  | nil=>intro h; cases h
  | cons p r ih =>
    obtain ⟨n,j⟩:=p
    intro h
    rw [List.map_cons,List.lookup_cons] at h
    have e1:(if (j == NameKind.free && env.scope.kind == .function && env.kindOf n == some .cell)=true then (n,NameKind.cell) else (n,j)).1=n:=by split <;> rfl
    dsimp only at h
    rw [e1] at h
    cases hx:x == n with
    | false =>
      rw [hx] at h
      obtain ⟨y,hy,q⟩:=ih h
      exact ⟨y,List.mem_cons_of_mem _ hy,q⟩
    | true =>
      rw [hx] at h
      have ex:x=n:=by simpa using hx
      refine ⟨(n,j),List.mem_cons_self,ex.symm,?_⟩
      by_cases hc:(j == NameKind.free && env.scope.kind == .function && env.kindOf n == some .cell)=true
      · have:=(Bool.and_eq_true _ _).mp ((Bool.and_eq_true _ _).mp hc).1
        exact .inl (by simpa using this.1)
      · rw [if_neg hc] at h
        cases h
        exact hk.symm
 exact gen scope.names h
theorem ab6:∀ (names:List (Str×NameKind)) (n:Nat) (a b:List (Str×Addr)),cellsFrom n names (a++b)=cellsFrom n names a++b
 | [],_,_,_=>rfl
 | (x,k)::r,n,a,b=>by
   unfold cellsFrom
   split
   · exact ab6 r (n+1) ((x,n)::a) b
   · exact ab6 r n a b
theorem ab7:∀ (names:List (Str×NameKind)) (n:Nat) (a:List (Str×Addr)) (x:Str) (c:Addr),(x,c)∈cellsFrom n names a→(x,c)∈a∨(x,NameKind.cell)∈names
 | [],_,_,_,_,h=>.inl h
 | (y,k)::r,n,a,x,c,h=>by
   unfold cellsFrom at h
   split at h
   · next hk =>
     rcases ab7 r (n+1) _ x c h with z | z
     · rcases List.mem_cons.mp z with e | z
       · cases e
         have:k=.cell:=by simpa using hk
         subst this
         exact .inr List.mem_cons_self
       · exact .inl z
     · exact .inr (List.mem_cons_of_mem _ z)
   · rcases ab7 r n a x c h with z | z
     · exact .inl z
     · exact .inr (List.mem_cons_of_mem _ z)
theorem af7 {α:Type}:∀ {l:List (Str×α)}{x:Str}{c:α},(x,c)∈l→∃ d,l.lookup x=some d
 | [],_,_,h=>nomatch h
 | (y,d)::l,x,c,h=>by
   rw [List.lookup_cons]
   cases hx:x == y with
   | true=>exact ⟨d,rfl⟩
   | false =>
     rcases List.mem_cons.mp h with e | h
     · cases e
       simp at hx
     · exact af7 h
theorem ag7 {α:Type}{x:Str}:∀ {a b:List (Str×α)},(a++b).lookup x=(a.lookup x).or (b.lookup x)
 | [],_=>rfl
 | (y,d)::a,b=>by
   rw [List.cons_append,List.lookup_cons,List.lookup_cons]
   cases hx:x == y with
   | true=>rfl
   | false=>exact ag7 (a:=a) (b:=b)
theorem ab8:∀ (names:List (Str×NameKind)) (n:Nat) (a:List (Str×Addr)) (p:Str×Addr),p∈a→p∈cellsFrom n names a
 | [],_,_,_,h=>h
 | (y,k)::r,n,a,p,h=>by
   unfold cellsFrom
   split
   · exact ab8 r (n+1) _ p (List.mem_cons_of_mem _ h)
   · exact ab8 r n a p h
theorem ab9:∀ (names:List (Str×NameKind)) (n:Nat) (a:List (Str×Addr)) (x:Str),(x,NameKind.cell)∈names→∃ c,(x,c)∈cellsFrom n names a
 | (y,k)::r,n,a,x,h=>by
   unfold cellsFrom
   rcases List.mem_cons.mp h with e | h
   · cases e
     exact ⟨n,ab8 r (n+1) _ _ List.mem_cons_self⟩
   · split
     · exact ab9 r (n+1) _ x h
     · exact ab9 r n a x h
structure CellsR (X:Cx) (scope:Scope) (Nf:List Str) (r:List (Str×Addr)) (C:Addr) (h1:Heap):Prop where
 sp:∀ x c,r.lookup x=some c→(C<c∧h1.IsCell c none)∨X.env.cells.lookup x=some c
 inj:∀ x y c,r.lookup x=some c→r.lookup y=some c→x=y
 has:∀ y∈scope.names,(y.2=.free∨y.2=.cell)→∃ c,r.lookup y.1=some c
 cab:∀ x c,scope.names.lookup x=some .cell→r.lookup x=some c→C<c
 cap:∀ x∈Nf,∀ c,r.lookup x=some c→X.env.cells.lookup x=some c
theorem bl5 {X:Cx}{scope:Scope}{Nf:List Str}{cl:List (Str×Addr)}{h:Heap}{C:Addr}(hC:h.objs.size=C+1) (hX:∀ x c,X.env.cells.lookup x=some c→c<C) (hinj:∀ x y c,X.env.cells.lookup x=some c→X.env.cells.lookup y=some c→x=y)
 (hcl:∀ x c,cl.lookup x=some c→X.env.cells.lookup x=some c) (hcf:∀ y∈scope.names,y.2=.free→∃ c,cl.lookup y.1=some c) (hnx:∀ x∈Nf,(x,NameKind.cell)∉scope.names) :
 CellsR X scope Nf (cellsFrom (C+1) scope.names cl) C (pushCells h scope.names):=by
 have e0:cellsFrom (C+1) scope.names cl=cellsFrom (C+1) scope.names []++cl:=ab6 scope.names (C+1) [] cl
 have ok:=cellsFrom_ok scope.names h (C+1) [] ⟨fun _ _ hm=>(nomatch hm),List.Pairwise.nil⟩ (by rw [hC]; exact Nat.le_refl _)
 rw [hC] at ok
 have hmem:∀ x c,(x,c)∈cellsFrom (C+1) scope.names []→(x,NameKind.cell)∈scope.names:=fun x c h=>by
  rcases ab7 _ _ _ x c h with z | z
  · exact nomatch z
  · exact z
 have ho:∀ x,(x,NameKind.cell)∈scope.names→∃ c,(cellsFrom (C+1) scope.names []).lookup x=some c:=fun x hx=>by
  obtain ⟨c,hc⟩:=ab9 scope.names (C+1) [] x hx
  exact af7 hc
 rw [e0]
 generalize cellsFrom (C+1) scope.names []=own at ok hmem e0 ho
 have spl:∀ x c,(own++cl).lookup x=some c→(own.lookup x=some c∧C<c)∨(own.lookup x=none∧cl.lookup x=some c):=fun x c e=>by
  rw [ag7] at e
  cases hx:own.lookup x with
  | none=>rw [hx] at e; exact .inr ⟨rfl,e⟩
  | some d =>
    rw [hx] at e
    cases e
    exact .inl ⟨rfl,(ok.empty x c (PySem.mem_of_lookup hx)).2⟩
 refine ⟨fun x c e=>?_,fun x y c e1 e2=>?_,fun y hy hk=>?_,fun x c hk e=>?_,fun x hx c e=>?_⟩
 · rcases spl x c e with ⟨e1,h1⟩ | ⟨_,e1⟩
   · exact .inl ⟨h1,(ok.empty x c (PySem.mem_of_lookup e1)).1⟩
   · exact .inr (hcl x c e1)
 · rcases spl x c e1 with ⟨a1,b1⟩ | ⟨_,a1⟩ <;> rcases spl y c e2 with ⟨a2,b2⟩ | ⟨_,a2⟩
   · exact name_of_addr ok.apart (PySem.mem_of_lookup a1) (PySem.mem_of_lookup a2)
   · exact absurd (hX y c (hcl y c a2)) (Nat.not_lt.mpr (Nat.le_of_lt b1))
   · exact absurd (hX x c (hcl x c a1)) (Nat.not_lt.mpr (Nat.le_of_lt b2))
   · exact hinj x y c (hcl x c a1) (hcl y c a2)
 · rw [ag7]
   cases hx:own.lookup y.1 with
   | some d=>exact ⟨d,rfl⟩
   | none =>
     rcases hk with hk | hk
     · exact hcf y hy hk
     · obtain ⟨c,hc⟩:=ho y.1 (by rw [← hk]; exact hy)
       rw [hx] at hc
       cases hc
 · obtain ⟨d,hd⟩:=ho x (PySem.mem_of_lookup hk)
   rcases spl x c e with ⟨_,h1⟩ | ⟨z,_⟩
   · exact h1
   · rw [hd] at z
     cases z
 · rcases spl x c e with ⟨h1,_⟩ | ⟨_,e1⟩
   · exact absurd (hmem x c (PySem.mem_of_lookup h1)) (hnx x hx)
   · exact hcl x c e1
section
variable {X:Cx}{pins:List (Addr×Obj)}{σ:St} {H:Hp}{s:Shared}{N:List Str}{scope:Scope}{cl:List (Str×Addr)}{C:Addr}{ex:List Addr}{Nf:List Str}{h1:Heap}
theorem bt6 (I:Inv X pins σ H s) (hC:s.heap.objs.size≤C) (hkind:scope.kind=.function) (R:CellsR X scope Nf cl C h1)
 (hex:∀ b∈ex,FpOk X pins H b) (hexl:∀ b∈ex,b<s.heap.objs.size):(cxC X N scope cl C s H ex).Ok where
 mod:=I.ok.mod
 kind:=hkind
 glob:=I.ok.glob
 blt:=I.ok.blt
 above:=hC
 inj:=R.inj
 has:=fun x hx=>by
  have hx':∃ k,(relabel scope X.env).names.lookup x=some k∧(k=.cell∨k=.free):=by
   rcases hx with h | h
   · exact ⟨_,h,.inl rfl⟩
   · exact ⟨_,h,.inr rfl⟩
  obtain ⟨k,h,hk⟩:=hx'
  obtain ⟨y,hy,e1,e2⟩:=ar9 h hk
  rw [← e1]
  exact R.has y hy e2
 cab:=fun x c h e=>Nat.le_trans hC (Nat.le_of_lt (R.cab x c (by have h':(scope.names.lookup x == some NameKind.cell)=true:=h; simpa using h') e))
 hd:=I.ok.hd
 frames:=I.ok.frames
 stk:=.inl rfl
 exf:=fun b hb=>⟨Nat.ne_of_lt (Nat.lt_of_lt_of_le (hexl b hb) hC),fun x c e=>by
  rcases R.sp x c e with ⟨z,_⟩ | z
  · exact Nat.ne_of_gt (Nat.lt_trans (Nat.lt_of_lt_of_le (hexl b hb) hC) z)
  · exact (hex b hb).2.2.2.2.1 x c z⟩
 bs:=I.bs
 bsz:=Nat.le_trans I.ok.bsz I.sz
 noex:=fun b o e hb=>by
  rcases (hex b hb).2.2.2.1 with z | z
  · exact I.ok.noex b o e z
  · have h1:=Heap.lt_size e
    have h2:=I.ok.bsz
    exact absurd (Nat.lt_of_lt_of_le h1 (Nat.le_trans h2 z)) (Nat.lt_irrefl _)
 exfs:=fun b hb z=>by
  have h1:=I.stkSub b z
  rcases List.mem_cons.mp h1 with z | z
  · exact (hex b hb).2.1 z
  · exact (hex b hb).2.2.1 z
 funs:=I.stack
 frf:=I.stkFree
def capV (caps:List Nat) (σ:St):St:=caps.map fun j=>(σ[j]?).join
def cSt (n:Nat) (caps:List Nat) (σ:St):St:=List.replicate n none++capV caps σ
theorem bl6 {caps:List Nat}{Nt:List Str}{s1:Shared}{m:Str→Option Value}(I:Inv X pins σ H s) (ok:(cxC X (Nt++Nf) scope cl C s H ex).Ok)
 (R:CellsR X scope Nf cl C s1.heap)
 (hcap:caps.map (fun j=>X.N[j]?)=Nf.map some)
 (hvis:∀ x∈Nf,scope.names.lookup x=some .free) (hXv:∀ x∈Nf,X.env.kindOf x=some .cell∨X.env.kindOf x=some .free) (hcf:∀ x∈Nf,∃ c,cl.lookup x=some c)
 (hos:s1.os=s.os) (hgens:s1.gens=s.gens) (hk:∀ b o,s.heap.get? b=some o→s1.heap.get? b=some o) (hns:s1.heap.Ns C m) (hC:s.heap.objs.size≤C) :
 Inv (cxC X (Nt++Nf) scope cl C s H ex) [] (cSt Nt.length caps σ) H s1:=by
 have hlen:caps.length=Nf.length:=by
  have:=congrArg List.length hcap
  simpa using this
 refine ⟨ok,hos,by rw [hgens]; exact I.bare,Un.kept hk,⟨m,hns,fun i x v h1 h2 h3=>?_⟩,fun x c e=>?_,I.hok.fresh hC,fun x c e=>by
  rcases R.sp x c e with ⟨z,_⟩ | z
  · exact I.hok.fresh (Nat.le_trans hC (Nat.le_of_lt z))
  · exact I.freeC x c z,fun p hp=>absurd (show p∈([]:List (Addr×Obj)) from hp) (by simp),I.hok.kept hk,?_⟩
 · -- a captured name
   have hi:Nt.length≤i:=by
    refine Nat.le_of_not_lt fun q=>?_
    unfold cSt at h2
    rw [List.getElem?_append_left (by simpa using q),List.getElem?_replicate] at h2
    split at h2 <;> cases h2
   have h1':Nf[i - Nt.length]?=some x:=by
    have:(Nt++Nf)[i]?=some x:=h1
    rwa [List.getElem?_append_right hi] at this
   unfold cSt at h2
   rw [List.getElem?_append_right (by simpa using hi)] at h2
   have e0:i - (List.replicate Nt.length (none:Option V)).length=i - Nt.length:=by simp
   rw [e0] at h2
   generalize hj:i - Nt.length=j at h1' h2
   unfold capV at h2
   rw [List.getElem?_map] at h2
   cases hc:caps[j]? with
   | none=>rw [hc] at h2; cases h2
   | some jj =>
     rw [hc] at h2
     have h2':(σ[jj]?).join=some v:=Option.some.inj h2
     have h2'':σ[jj]?=some (some v):=by
      cases q:σ[jj]? with
      | none=>rw [q] at h2'; cases h2'
      | some z=>rw [q] at h2'; cases z with
        | none=>cases h2'
        | some z'=>cases h2'; rfl
     have hN:X.N[jj]?=some x:=by
      have q:=congrArg (fun l=>l[j]?) hcap
      simp only [List.getElem?_map,hc,h1',Option.map_some] at q
      exact Option.some.inj q
     have hx:x∈Nf:=List.mem_of_getElem? h1'
     have hXk:=hXv x hx
     obtain ⟨mX,_,hl⟩:=I.loc
     obtain ⟨u,ru,lk⟩:=hl jj x v hN h2'' (by
      rcases hXk with z | z
      · exact .inr (.inl z)
      · exact .inr (.inr z))
     refine ⟨u,ru,.inr ?_⟩
     rcases lk with ⟨z,_⟩ | ⟨_,c,hc1,hcell⟩
     · rcases hXk with y | y <;> (rw [z] at y; cases y)
     · obtain ⟨c',hc'⟩:=hcf x hx
       have e:=R.cap x hx c' hc'
       rw [hc1] at e; cases e
       refine ⟨?_,c,hc',?_⟩
       · rcases h3 with z | z | z
         · -- not a local of the block
           exfalso
           have hfree:=hvis x hx
           have z':(relabel scope X.env).names.lookup x=some .local:=z
           have gen:∀ names:List (Str×NameKind),names.lookup x=some .free→(names.map fun (n,k)=>if (k == NameKind.free && X.env.scope.kind == .function && X.env.kindOf n == some .cell) then (n,NameKind.cell) else (n,k)).lookup x≠some .local:=by
            intro names
            induction names with
            | nil=>intro h; cases h
            | cons p r ih =>
              obtain ⟨n,k⟩:=p
              intro h
              rw [List.map_cons,List.lookup_cons]
              rw [List.lookup_cons] at h
              have e1:(if (k == NameKind.free && X.env.scope.kind == .function && X.env.kindOf n == some .cell)=true then (n,NameKind.cell) else (n,k)).1=n:=by split <;> rfl
              dsimp only
              rw [e1]
              cases hx:x == n with
              | false=>rw [hx] at h; exact ih h
              | true =>
                rw [hx] at h
                cases h
                show some (if _ then (n,NameKind.cell) else (n,NameKind.free)).2≠some .local
                split <;> (intro q; cases q)
           exact gen scope.names hfree z'
         · exact .inl z
         · exact .inr z
       · obtain ⟨o,eo,d⟩:=hcell
         exact ⟨o,hk _ _ eo,d⟩
 · rcases R.sp x c e with ⟨_,z⟩ | z
   · exact ⟨none,z⟩
   · obtain ⟨v,q⟩:=I.cell x c z
     obtain ⟨o,eo,d⟩:=q
     exact ⟨v,o,hk _ _ eo,d⟩
 · show (cSt Nt.length caps σ).length=(Nt++Nf).length
   unfold cSt capV
   simp [hlen]
end
abbrev bh6 (ifs:List Expr) (env:Env):Sem Bool:=forIn ifs true fun c r=>if r=true then do let ok←isTrue c env (eval c env); pure (ForInStep.yield ok) else pure (ForInStep.yield r)
abbrev NoX:Value→Shared→Prop:=fun _ _=>False
theorem as0 {P:Program}{w:World}{B:Around}{R:Result→Shared→Prop}{s:Shared}{y tg l:Expr}{cs:List Expr}{sc:Scope}{ps:Pos}{iv av:Value}{en:Env}(G:Nat→Shared→Prop)
 (one:∀ n s,G n s→wpAny (model P w) B (pyNext iv) (fun r s1=>match r with
  | none=>R (.ok .next) s1
  | some v=>wpAny (model P w) B (letOwnedTupleGo tg iv v) (fun _ s1=>wpAny (model P w) B (assign tg en v) (fun _ s2=>wpAny (model P w) B (bh6 cs en) (fun k s3 =>
   if k=true then wpAny (model P w) B (eval y en) (fun x s4=>wpAny (model P w) B (call (.builtin "list.append") [av,x]) (fun _ s5=>∃ m,m<n∧G m s5) NoX s4) NoX s3
   else ∃ m,m<n∧G m s3) NoX s2) NoX s1) NoX s1) NoX s) (n:Nat) (h:G n s) :
 codeAny (model P w) B (.compLoop (.ListComp y [⟨tg,l,cs,0⟩] sc ps) 0 iv av en) R s:=by
 refine codeAny_loop rfl G (fun n s hG=>?_) n h
 show wpAny _ B ((compTurn (.ListComp y [⟨tg,l,cs,0⟩] sc ps) 0 iv av en).onRaise (fun x=>do noteFrame x en; theTreesLotGoes x)) _ _ s
 refine wpAny_noted ?_
 rw [compTurn_list]
 refine wpAny_bind (wpAny_standAt (wpAny_bind (wpAny_mono (one n s hG) (fun r s1 h1=>?_) fun _ _ z=>z.elim)))
 cases r with
 | none=>exact wpAny_pure h1
 | some v =>
   refine wpAny_bind (wpAny_mono h1 (fun _ s1' h1'=>?_) fun _ _ z=>z.elim)
   refine wpAny_bind (wpAny_mono h1' (fun _ s2 h2=>wpAny_bind (wpAny_mono h2 (fun k s3 h3=>?_) fun _ _ z=>z.elim)) fun _ _ z=>z.elim)
   cases k with
   | false=>exact wpAny_pure ⟨rfl,h3⟩
   | true=>exact wpAny_bind (wpAny_bind (wpAny_mono h3 (fun x s4 h4=>wpAny_bind (wpAny_mono h4 (fun _ s5 h5=>wpAny_pure (wpAny_pure ⟨rfl,h5⟩)) fun _ _ z=>z.elim)) fun _ _ z=>z.elim))
def PTs (X:Cx) (ifs:List Expr) (t:TT):Prop :=
 ∀ (pins:List (Addr×Obj)) (s:Shared) (σ:St) (H:Hp) (Q:Bool→Hp→Prop),Inv X pins σ H s→t σ H Q →
  wpAny (model X.prog X.w) X.A (bh6 ifs X.env) (TP X pins σ Q) X.xe s
def tNoIf:TT:=fun _ H Q=>Q true H
theorem a64 {X:Cx}:PTs X [] tNoIf:=fun pins s σ H Q I h=>wpAny_tests_nil ⟨H,I,h⟩
theorem a97 {X:Cx}{c:Expr}{t:TT}(h:PT X c t):PTs X [c] t:=fun pins s σ H Q I q=>wpAny_tests_one (h pins s σ H Q I q)
section
variable {X:Cx}{pins:List (Addr×Obj)}{σ:St} {H:Hp}{s:Shared}
theorem Inv.adopt {D:Addr}{o:HO}(I:Inv X pins σ H s) (hD:H D=none) (h1:X.s₀.heap.objs.size≤D) (h2:D≠X.env.locals) (h3:∀ x c,X.env.cells.lookup x=some c→c≠D) (h4:∀ p∈X.pn++pins,p.1≠D)
 (new:ObjOk X.prog X.w (upd H D o) s.heap D o):Inv X pins σ (upd H D o) s:=by
 have old:∀ {b:Addr}{q:Obj},X.s₀.heap.get? b=some q→b≠D:=fun e=>Nat.ne_of_lt (Nat.lt_of_lt_of_le (Heap.lt_size e) h1)
 refine ⟨I.ok,I.os,I.bare,⟨I.base.keep,I.base.slot,fun b q e n hx=>by rw [a48 (old e)]; exact I.base.free b q e n hx,I.base.there,fun b xs e=>?_,fun b q u e=>?_,fun b ps e=>?_⟩,I.loc,I.cell,by rw [a48 (Ne.symm h2)]; exact I.free,fun x c e=>by rw [a48 (h3 x c e)]; exact I.freeC x c e,fun p hp=>?_,fun b u e=>?_,I.len⟩
 · have e':=I.base.tups b xs e
   rw [a48 (a50 e' hD)]; exact e'
 · have e':=I.base.frzs b q u e
   rw [a48 (a50 e' hD)]; exact e'
 · obtain ⟨more,e'⟩:=I.base.tbls b ps e
   exact ⟨more,by rw [a48 (a50 e' hD)]; exact e'⟩
 · obtain ⟨a1,a2,a3,a4,a5⟩:=I.pin p hp
   exact ⟨a1,by rw [a48 (h4 p hp)]; exact a2,a3,a4,a5⟩
 · by_cases hb:b=D
   · subst hb; rw [a46] at e; cases e; exact new
   · rw [a48 hb] at e
     exact (I.hok b u e).stay (fun c v _ q=>q) (fun c q=>by rw [a48 (a50 q hD)]; exact q) fun c xs q=>by rw [a48 (a50 q hD)]; exact q
def tLC (wi:TI) (g:TG) (tt:TT) (te:TE) (n:Nat) (caps:List Nat):TE:=fun σ H Q=>wi σ H fun J H1=>∃ W:Nat→Nat→List V→St→Hp→Prop,(∃ m,W 0 m [] (cSt n caps σ) H1)∧∀ i m acc σ' H',W i m acc σ' H' →
 (J.stop i H'∧∀ l,H' l=none→Q (.ref l) (upd H' l (.lst acc))) ∨
 (J.go i H'∧acc.length<sizeLine∧∃ N:List V→St→Hp→Prop,(∀ ac σ2 H2,N ac σ2 H2→∃ m',m'<m∧W (i+1) m' ac σ2 H2)∧∀ x H2,J.yld i H' x H2→g x σ' H2 fun σ3 H3=>tt σ3 H3 fun b H4=>if b=true then te σ3 H4 fun y H5=>N (acc++[y]) σ3 H5 else N acc σ3 H4)
structure CompOk (X:Cx) (scope:Scope) (Nt Nf:List Str) (caps:List Nat):Prop where
 kind:scope.kind=.function
 nx:∀ x∈Nf,(x,NameKind.cell)∉scope.names
 nm:∀ y∈scope.names,y.2=.local→scope.names.lookup y.1=some .local
 fr:∀ y∈scope.names,y.2=.free→X.env.kindOf y.1=some .cell∨X.env.kindOf y.1=some .free
 cap:caps.map (fun j=>X.N[j]?)=Nf.map some
 vis:∀ x∈Nf,scope.names.lookup x=some .free
theorem b16 {M:Model}{A:Around}{E:Value→Shared→Prop}{scope:Scope}{globals:Addr}{closure:List (Str×Addr)}{qual:Str}{func:Option Addr}{code:Value}{env:Env}{builtins:Addr}{Q:Env→Shared→Prop}
 (hQ:Q (newEnv scope s.heap.objs.size globals (cellsFrom (s.heap.objs.size+1) scope.names closure) qual func code (some env) builtins) { s with heap:=pushCells (s.heap.push { cls:=.type "dict",data:=.dict #[] }) scope.names }) :
 wpAny M A (newFunctionEnv scope globals closure [] qual func code (some env) builtins) Q E s:=by
 simp only [newFunctionEnv,Option.isSome_some,if_true]
 refine wpAny_bind (wpAny_alloc ?_)
 refine wpAny_bind (wpAny_layCells _ (fun name kind cells=>by cases hkc:kind == NameKind.cell <;> simp [hkc]) _ _ _ _ ?_)
 rw [show ({ s with heap:=s.heap.push { cls:=.type "dict",data:=.dict #[] } }:Shared).heap.objs.size=s.heap.objs.size+1 from Heap.size_push ..]
 rw [List.forIn_nil]
 exact wpAny_bind (wpAny_pure (wpAny_pure hQ))
theorem am2 {tg iter elt:Expr}{ifs:List Expr}{scope:Scope}{pos:Pos}{g:TG}{tt:TT}{te:TE}{Nt Nf:List Str}{caps:List Nat}{cl:List (Str×Addr)}{it:Addr}{fp:List Addr}{tn:Nat→Heap→Prop}{J:It}{Q:VK}{E:Value→Shared→Prop}
 {RR:Value→Addr→Result→Shared→Prop}
 (hc:X.calm=true) (S:CompOk X scope Nt Nf caps)
 (hg:∀ cl C s0 H0 ex,PG (cxC X (Nt++Nf) scope cl C s0 H0 ex) tg g)
 (ht:∀ cl C s0 H0 ex,PTs (cxC X (Nt++Nf) scope cl C s0 H0 ex) ifs tt)
 (he:∀ cl C s0 H0 ex,PE (cxC X (Nt++Nf) scope cl C s0 H0 ex) elt te)
 (hcl:∀ x c,cl.lookup x=some c→X.env.cells.lookup x=some c) (hcf:∀ y∈scope.names,y.2=.free→∃ c,cl.lookup y.1=some c)
 (I:Inv X pins σ H s) (T:Turn X.prog X.w X.K tg J fp it tn) (st:tn 0 s.heap) (hfp:∀ b∈fp,FpOk X pins H b)
 (hW:∃ W:Nat→Nat→List V→St→Hp→Prop,(∃ m,W 0 m [] (cSt Nt.length caps σ) H)∧∀ i m acc σ' H',W i m acc σ' H' →
  (J.stop i H'∧∀ l,H' l=none→Q (.ref l) (upd H' l (.lst acc))) ∨
  (J.go i H'∧acc.length<sizeLine∧∃ N:List V→St→Hp→Prop,(∀ ac σ2 H2,N ac σ2 H2→∃ m',m'<m∧W (i+1) m' ac σ2 H2)∧∀ x H2,J.yld i H' x H2→g x σ' H2 fun σ3 H3=>tt σ3 H3 fun b H4=>if b=true then te σ3 H4 fun y H5=>N (acc++[y]) σ3 H5 else N acc σ3 H4))
 (fin:∀ D C m s' H',Inv X pins σ H' s'→Q (.ref D) H'→s'.heap.Ns C m→H' C=none→C≠X.env.locals→X.s₀.heap.objs.size≤C→(∀ x c,X.env.cells.lookup x=some c→c≠C)→(∀ p∈X.pn++pins,p.1≠C)→RR (.ref D) C (.ok .next) s') :
 wpAny (model X.prog X.w) X.A (newList []) (fun acc s₃=>wpAny (model X.prog X.w) X.A (newFunctionEnv scope X.env.globals cl [] X.env.qual none .none (some X.env)) (fun cenv s₄ =>
  codeAny (model X.prog X.w) X.A (.compStart (.ListComp elt [⟨tg,iter,ifs,0⟩] scope pos) 0 (.ref it) acc { cenv with scope:=relabel scope X.env }) (RR acc cenv.locals) s₄) E s₃) E s:=by
 obtain ⟨W,⟨m0,w0⟩,turn⟩:=hW
 refine wpAny_newObj_type (b16 ?_)
 dsimp only
 generalize hH2:s.heap.push { cls:=.type "list",dict:=none,data:=.seq ([]:List Value).toArray }=P2
 have hCs:P2.objs.size=s.heap.objs.size+1:=by rw [← hH2,Heap.size_push]
 have hDC:s.heap.objs.size≠P2.objs.size:=by rw [hCs]; exact Nat.ne_of_lt (Nat.lt_succ_self _)
 have hCle:s.heap.objs.size≤P2.objs.size:=by rw [hCs]; exact Nat.le_succ _
 have below:∀ b,b<s.heap.objs.size→b≠P2.objs.size:=fun b hb=>by rw [hCs]; exact Nat.ne_of_lt (Nat.lt_succ_of_lt hb)
 have kp:=pushCells_keeps scope.names (P2.push { cls:=.type "dict",data:=.dict #[] })
 have hns₁:=(Heap.Ns.new P2 (.type "dict")).keeps kp
 have old:∀ b o,s.heap.get? b=some o→(pushCells (P2.push { cls:=.type "dict",data:=.dict #[] }) scope.names).get? b=some o:=fun b o e=>kp _ _ (Heap.get?_push_of_some _ (hH2 ▸ Heap.get?_push_of_some _ e))
 have hacc:(pushCells (P2.push { cls:=.type "dict",data:=.dict #[] }) scope.names).PlainList s.heap.objs.size #[]:=⟨_,kp _ _ (Heap.get?_push_of_some _ (hH2 ▸ Heap.get?_push_size _ rfl))⟩
 have R:=bl5 (X:=X) (scope:=scope) (Nf:=Nf) (cl:=cl) (h:=P2.push { cls:=.type "dict",data:=.dict #[] }) (C:=P2.objs.size) (Heap.size_push ..) (fun x c e=>by
  obtain ⟨v,q⟩:=I.cell x c e
  exact Nat.lt_of_lt_of_le q.lt hCle) I.ok.inj hcl hcf S.nx
 generalize cellsFrom (P2.objs.size+1) scope.names cl=r at R ⊢
 generalize pushCells (P2.push { cls:=.type "dict",data:=.dict #[] }) scope.names=h₁ at R hns₁ old hacc ⊢
 have fpl:∀ b∈fp,b<s.heap.objs.size:=fun b hb=>by
  obtain ⟨o,e,_⟩:=T.obj _ _ st b hb
  exact Heap.lt_size e
 have st₁:tn 0 h₁:=T.keep _ _ _ st fun b _ o e=>old b o e
 generalize hCe:P2.objs.size=C at hns₁ R hDC hCle below ⊢
 generalize hDe:s.heap.objs.size=D at hacc hDC hCle ⊢
 have hDl:X.env.locals<D:=by rw [← hDe]; exact I.lt
 have hDs:X.s₀.heap.objs.size≤D:=by rw [← hDe]; exact I.sz
 have hcD:∀ x c,X.env.cells.lookup x=some c→c<D:=fun x c e=>by
  obtain ⟨v,q⟩:=I.cell x c e
  rw [← hDe]; exact q.lt
 have hpD:∀ p∈X.pn++pins,p.1<D:=fun p hp=>by rw [← hDe]; exact Heap.lt_size (I.pin p hp).1
 let Y:Cx:=cxC X (Nt++Nf) scope r C s H fp
 have okY:Y.Ok:=bt6 I (by rw [hDe]; exact hCle) S.kind R hfp fpl
 have hfsY:∀ b,b∈Y.fs→b<D:=fun b hb=>by
  rcases List.mem_cons.mp (I.stkSub b hb) with z | z
  · rw [z]; exact hDl
  · refine Nat.lt_of_lt_of_le ?_ hDs
    have:=(I.ok.funs.mem z)
    refine Nat.lt_of_not_le fun q=>?_
    exact absurd z (fun z=>by
     have:=I.nofs (a:=b)
     by_cases hb2:s.heap.objs.size≤b
     · exact this hb2 z
     · obtain ⟨_,o,e,_⟩:=I.ok.funs.mem z
       exact absurd (Heap.lt_size e) (Nat.not_lt.mpr q))
 have loop:∀ s₃:Shared,s₃={ s with heap:=h₁ } →
  codeAny (model X.prog X.w) X.A (.compLoop (.ListComp elt [⟨tg,iter,ifs,0⟩] scope pos) 0 (.ref it) (.ref D) Y.env) (RR (.ref D) C) s₃:=by
  rintro s₃ rfl
  have I0:Inv Y [] (cSt Nt.length caps σ) H { s with heap:=h₁ } :=
   bl6 I okY R S.cap S.vis (fun x hx=>S.fr (x,.free) (PySem.mem_of_lookup (S.vis x hx)) rfl) (fun x hx=>R.has (x,.free) (PySem.mem_of_lookup (S.vis x hx)) (.inl rfl)) rfl rfl old hns₁ (by rw [hDe]; exact hCle)
  have fpY:∀ {H':Hp},(∀ b∈fp,H' b=none)→∀ b∈fp,FpOk Y [] H' b:=fun hn b hb =>
   ⟨hn b hb,Nat.ne_of_lt (Nat.lt_of_lt_of_le (fpl b hb) (by rw [hDe]; exact hCle)),okY.exfs b hb,.inl hb,fun x c e=>by
    rcases R.sp x c e with ⟨z,_⟩ | z
    · exact Nat.ne_of_gt (Nat.lt_trans (Nat.lt_of_lt_of_le (fpl b hb) (by rw [hDe]; exact hCle)) z)
    · exact (hfp b hb).2.2.2.2.1 x c z,fun p hp=>absurd (show p∈([]:List (Addr×Obj)) from hp) (by simp)⟩
  have fpD:∀ b∈fp,b≠D:=fun b hb=>Nat.ne_of_lt (by rw [← hDe]; exact fpl b hb)
  refine as0 (fun n s'=>∃ i acc its σ' H',Inv Y [] σ' H' s'∧tn i s'.heap∧(∀ b∈fp,H' b=none)∧s'.heap.PlainList D its∧H' D=none∧Vals acc its.toList∧acc.length≤sizeLine∧W i n acc σ' H') ?_ m0
   ⟨0,[],#[],cSt Nt.length caps σ,H,I0,st₁,fun b hb=>(hfp b hb).1,hacc,by rw [← hDe]; exact I.hok.fresh (Nat.le_refl _),.nil,Nat.zero_le _,w0⟩
  rintro n s3 ⟨i,acc,its,σ3,H3,I3,st3,fr3,⟨nd,e3⟩,hD3,rv3,hl3,w3⟩
  have cD:C≠D:=Ne.symm hDC
  have pinOk:∀ {H':Hp}{s':Shared}{o:Obj},s'.heap.get? D=some o→H' D=none→(∀ v,o.data≠.cell v)→s'.heap.get? D=some o∧H' D=none∧D≠Y.env.locals∧D∉Y.fs∧∀ v,o.data≠.cell v:=fun e n d =>
   ⟨e,n,hDC,fun z=>absurd (hfsY D z) (Nat.lt_irrefl _),d⟩
  have I3':Inv Y [(D,{ cls:=.type "list",data:=.seq its nd })] σ3 H3 s3:=I3.pins_of fun p hp=>by
   obtain rfl:p=(D,({ cls:=.type "list",data:=.seq its nd }:Obj)):=List.mem_singleton.mp hp
   exact pinOk e3 hD3 (fun v z=>by cases z)
  have fpY':∀ {H':Hp},(∀ b∈fp,H' b=none)→∀ b∈fp,FpOk Y [(D,{ cls:=.type "list",data:=.seq its nd })] H' b:=fun hn b hb=>by
   obtain ⟨a1,a2,a3,a4,a5,_⟩:=fpY hn b hb
   refine ⟨a1,a2,a3,a4,a5,fun p hp=>?_⟩
   obtain rfl:p=(D,({ cls:=.type "list",data:=.seq its nd }:Obj)):=List.mem_singleton.mp hp
   exact Ne.symm (fpD b hb)
  rcases turn i n acc σ3 H3 w3 with ⟨stop,qn⟩ | ⟨go,hlt,N,hN,step⟩
  · refine thn (T.done Y rfl rfl rfl hc i _ s3 σ3 H3 _ I3' (fpY' fr3) st3 stop) ?_
    rintro r s4 ⟨hr,I4⟩
    subst hr
    have e4:=(I4.pin (D,{ cls:=.type "list",data:=.seq its nd }) (List.mem_append_right _ List.mem_cons_self)).1
    have IX:Inv X pins σ H3 s4:=I.call' (ch:=fp) I4.os I4.base I4.hok I4.bare fun b hb=>by
     obtain ⟨_,a2,_,a4,a5,a6⟩:=hfp b hb
     exact ⟨a4,a2,a5,a6⟩
    have IA:=IX.adopt (o:=.lst acc) hD3 hDs (Nat.ne_of_gt hDl) (fun x c e=>Nat.ne_of_lt (hcD x c e)) (fun p hp=>Nat.ne_of_lt (hpD p hp)) ⟨hl3,its.toList,nd,rv3,e4⟩
    obtain ⟨m,nsC,_⟩:=I4.loc
    refine fin D C m s4 _ IA (qn D hD3) nsC (by rw [a48 cD]; exact I4.free) ?_ ?_ ?_ ?_
    · exact Nat.ne_of_gt (Nat.lt_of_lt_of_le hDl hCle)
    · exact Nat.le_trans hDs hCle
    · exact fun x c e=>Nat.ne_of_lt (Nat.lt_of_lt_of_le (hcD x c e) hCle)
    · exact fun p hp=>Nat.ne_of_lt (Nat.lt_of_lt_of_le (hpD p hp) hCle)
  · refine thn (T.item Y rfl rfl rfl hc i _ s3 σ3 H3 _ I3' (fpY' fr3) st3 go) ?_
    rintro r s4 ⟨u,hr,h4⟩
    subst hr
    refine thn h4 ?_
    rintro _ s5 ⟨x,H5,I5,r5,y5,st5,fr5⟩
    have I5':=I5.pinned (fpY' fr5) (T.obj _ _ st5)
    refine thn (hg r C s H fp _ s5 σ3 H5 x u _ I5' r5 (step x H5 y5)) ?_
    rintro _ s6 ⟨σ6,H6,I6,q6⟩
    refine thn (ht r C s H fp _ s6 σ6 H6 _ I6 q6) ?_
    rintro b s7 ⟨H7,I7,q7⟩
    have back:∀ {σ':St} {H':Hp}{s':Shared},Inv Y ([(D,{ cls:=.type "list",data:=.seq its nd })]++aq4 fp s5.heap) σ' H' s' →
     s'.heap.get? D=some { cls:=.type "list",data:=.seq its nd }∧H' D=none∧tn (i+1) s'.heap∧∀ b∈fp,H' b=none:=fun {σ' H' s'} J7=>by
     have hd:=J7.pin (D,{ cls:=.type "list",data:=.seq its nd }) (List.mem_append_right _ (List.mem_append_left _ List.mem_cons_self))
     refine ⟨hd.1,hd.2.1,T.keep _ _ _ st5 fun b hb o e=>(J7.pin (b,o) (List.mem_append_right _ (List.mem_append_right _ (ad9 hb e)))).1,fun b hb=>?_⟩
     obtain ⟨o,e,d⟩:=T.obj _ _ st5 b hb
     exact (J7.pin (b,o) (List.mem_append_right _ (List.mem_append_right _ (ad9 hb e)))).2.1
    cases b with
    | false =>
      rw [if_neg Bool.false_ne_true]
      rw [if_neg Bool.false_ne_true] at q7
      obtain ⟨m',hm,w7⟩:=hN _ _ _ q7
      obtain ⟨b1,b2,b3,b4⟩:=back I7
      exact ⟨m',hm,i+1,acc,its,σ6,H7,I7.pins_of (fun p hp=>nomatch hp),b3,b4,⟨nd,b1⟩,b2,rv3,hl3,w7⟩
    | true =>
      rw [if_pos rfl]
      rw [if_pos rfl] at q7
      refine thn (he r C s H fp _ s7 σ6 H7 _ I7 q7) ?_
      rintro u8 s8 ⟨y,H8,I8,r8,n8⟩
      obtain ⟨m',hm,w8⟩:=hN _ _ _ n8
      obtain ⟨b1,b2,b3,b4⟩:=back I8
      have hsz:its.size≤sizeLine:=by
       have h1:=rv3.length
       have h2:its.toList.length=its.size:=by simp
       omega
      refine wpAny_list_append_plain (hsz:=hsz) ⟨nd,b1⟩ fun h' pl' sb'=>?_
      have I8':Inv Y [] σ6 H8 s8:=I8.pins_of (fun p hp=>nomatch hp)
      refine ⟨m',hm,i+1,acc++[y],its.push u8,σ6,H8,I8'.turned (t':=s8.toks) (fun b o hb e=>(sb'.2 b hb).trans e) b2 hDC (.inr (by show s.heap.objs.size≤D; rw [hDe]; exact Nat.le_refl _)) (fun x c e=>by
       rcases R.sp x c e with ⟨z,_⟩ | z
       · exact Nat.ne_of_gt (Nat.lt_of_le_of_lt hCle z)
       · exact Nat.ne_of_lt (hcD x c z)) (fun p hp=>absurd (show p∈([]:List (Addr×Obj)) from hp) (by simp)),?_,b4,pl',b2,?_,?_,w8⟩
      · exact T.keep _ _ _ b3 fun b hb o e=>(sb'.2 b (fpD b hb)).trans e
      · rw [Array.toList_push]
        exact rv3.append (.cons r8 .nil)
      · rw [List.length_append,List.length_singleton]
        omega
 exact codeAny_compStart_list (loop _ rfl) (T.self _ _ _ _ _ st₁ (loop _ rfl))
theorem a98 {tg iter elt:Expr}{ifs:List Expr}{scope:Scope}{pos:Pos}{wi:TI}{g:TG}{tt:TT}{te:TE}{Nt Nf:List Str}{caps:List Nat}(hc:X.calm=true) (S:CompOk X scope Nt Nf caps) (hi:PI X tg iter wi)
 (hg:∀ cl C s0 H0 ex,PG (cxC X (Nt++Nf) scope cl C s0 H0 ex) tg g)
 (ht:∀ cl C s0 H0 ex,PTs (cxC X (Nt++Nf) scope cl C s0 H0 ex) ifs tt)
 (he:∀ cl C s0 H0 ex,PE (cxC X (Nt++Nf) scope cl C s0 H0 ex) elt te)
 (hs:∀ x,foldedSetIterable iter X.env x=pure x:=by intro _; rfl):PE X (.ListComp elt [⟨tg,iter,ifs,0⟩] scope pos) (tLC wi g tt te Nt.length caps):=by
 intro pins s σ H Q I h
 obtain ⟨cl,hclos,hcl,hcf⟩:=am1 I.ok.has S.fr
 rw [eval_ListComp]
 refine wpAny_comprehension_free (use:=none) rfl hs hclos S.kind S.nm (thn (hi pins s σ H _ I h) fun v s1 h1=>thn h1 fun itv s2 h2=>?_)
 obtain ⟨it,fp,tn,J,H2,e,I2,T,st2,f2,hW⟩:=h2
 subst e
 refine am2 (RR:=fun acc C=>compPost (model X.prog X.w) X.A X.xe none (EP X pins σ Q) acc C) (Q:=Q) hc S hg ht he hcl hcf I2 T st2 f2 hW ?_
 intro D C m s' H' I' q nsC hCn hCl hCs hCc hCp
 exact ⟨m,nsC,fun h' sb=>⟨.ref D,H',I'.turned (t':=s'.toks) (fun b o hb e=>(sb.2 b hb).trans e) hCn hCl (.inr hCs) hCc hCp,rfl,q⟩⟩
theorem av7 {tg iter elt:Expr}{ifs:List Expr}{scope:Scope}{pos spos py:Pos}{y:Str}{i:Nat}{wi:TI}{g:TG}{tt:TT}{te:TE}{Nt Nf:List Str}{caps:List Nat}(hc:X.calm=true) (S:CompOk X scope Nt Nf caps) (hi:PI X tg iter wi)
 (hg:∀ cl C s0 H0 ex,PG (cxC X (Nt++Nf) scope cl C s0 H0 ex) tg g)
 (ht:∀ cl C s0 H0 ex,PTs (cxC X (Nt++Nf) scope cl C s0 H0 ex) ifs tt)
 (he:∀ cl C s0 H0 ex,PE (cxC X (Nt++Nf) scope cl C s0 H0 ex) elt te)
 (hN:X.N.Nodup) (hy:X.N[i]?=some y) (hx:Loc X.env.scope y)
 (hsw:swapsWith (.ListComp elt [⟨tg,iter,ifs,0⟩] scope pos) (some (.Name y py)) spos.line X.env=pure true)
 (hf:X.fn y=true∨X.env.scope.names.lookup y=some .local:=by first | exact .inl rfl | exact .inr rfl | assumption)
 (hs:∀ x,foldedSetIterable iter X.env x=pure x:=by intro _; rfl):PS X (.Assign [.Name y py] (.ListComp elt [⟨tg,iter,ifs,0⟩] scope pos) spos) (tAsg (tLC wi g tt te Nt.length caps) (ae6 i)):=by
 intro pins s σ H D I h
 obtain ⟨cl,hclos,hcl,hcf⟩:=am1 I.ok.has S.fr
 rw [exec_Assign_Name_used _ _ _ _ hsw]
 refine wpAny_bind (wpAny_standAt (wpAny_bind ?_))
 show wpAny _ X.A (do let _←comprehension (.ListComp elt [⟨tg,iter,ifs,0⟩] scope pos) scope X.env _ (newList []) false (eval iter X.env) (some (assign (.Name y py) X.env))) _ _ s
 refine wpAny_bind (wpAny_mono (wpAny_comprehension_free (use:=some (assign (.Name y py) X.env)) (Q:=fun _ s'=>SP X pins D .next s') rfl hs hclos S.kind S.nm
  (thn (hi pins s σ H _ I h) fun v s1 h1=>thn h1 fun itv s2 h2=>?_)) (fun _ s' hq=>wpAny_pure (wpAny_pure hq)) fun _ _ e=>e)
 obtain ⟨it,fp,tn,J,H2,e,I2,T,st2,f2,hW⟩:=h2
 subst e
 refine am2 (RR:=fun acc C=>compPost (model X.prog X.w) X.A X.xe (some (assign (.Name y py) X.env)) (fun _ s'=>SP X pins D .next s') acc C) (Q:=fun x H1=>ae6 i x σ H1 D.nx) hc S hg ht he hcl hcf I2 T st2 f2 hW ?_
 intro l C m s' H' I' q nsC hCn hCl hCs hCc hCp
 show wpAny _ X.A (assign (.Name y py) X.env (.ref l)) _ _ _
 refine wpAny_assign_Name (aq2 (v:=.ref l) I' hN hy hx rfl (?_) hf)
 rintro s'' I'' ⟨a,sb,ha⟩
 have haC:C≠a:=by
  rcases ha with z | z
  · rw [z]; exact hCl
  · exact fun e=>hCc y a z e.symm
 refine ⟨m,nsC.sameBut sb haC,fun h' sb'=>⟨_,H',I''.turned (t':=s''.toks) (fun b o hb e=>(sb'.2 b hb).trans e) hCn hCl (.inr hCs) hCc hCp,q⟩⟩
end
def Its (z:Str):It:=⟨fun i _=>i<z.cps.size,fun i H x H'=>H'=H∧∃ c,z.cps[i]?=some c∧x=.str ⟨#[c]⟩,fun i _=>z.cps.size≤i⟩
theorem bd1 {P:Program}{w:World}{K:PySem.W.Frag}{tg:Expr}(it:Addr) (z:Str) (t:Tok) (ty:String) (hty:ty="str_ascii_iterator"∨ty="str_iterator") :
 Turn P w K tg (Its z) [it] it (fun i h=>i≤z.cps.size∧h.IsStrIter it ty z t i) where
 mem:=by simp
 obj:=fun i h st b hb=>by
  have e:b=it:=by simpa using hb
  subst e
  obtain ⟨_,o,e,c,d⟩:=st
  exact ⟨o,e,fun v q=>by rw [d] at q; cases q⟩
 keep:=fun i h h' st k=>⟨st.1,let ⟨o,e,r⟩:=st.2; ⟨o,k it (by simp) o e,r⟩⟩
 item:=by
  intro X hP hw hK hc i pins s σ H E I hf st hg
  subst hP hw hK
  obtain ⟨f0,f1,f2,f3,f4,f5⟩:=hf it (by simp)
  obtain ⟨_,st⟩:=st
  have go:∀ {n:Nat}{Q:Option Value→Shared→Prop},Walks X.prog X.w X.A it [it] [it] z.cps.size (SignAt z) (fun i h=>h.IsStrIter it ty z t i)→wpAny (model X.prog X.w) X.A (pyNext (.ref it)) (fun r s1=>∃ u,r=some u ∧
   wpAny (model X.prog X.w) X.A (letOwnedTupleGo tg (.ref it) u) (fun _ s2=>∃ x H',Inv X pins σ H' s2∧RelV x u∧(Its z).yld i H x H'∧(i+1≤z.cps.size∧s2.heap.IsStrIter it ty z t (i+1))∧∀ b∈[it],H' b=none) E s1) E s:=fun {n Q} W=>by
   refine W.item i s _ _ hg st fun v h' tk hv st' kk=>?_
   obtain ⟨c,t',e,rfl⟩:=hv
   have I1:Inv X pins σ H { s with heap:=h',toks:=tk }:=I.turned (fun b o hb e=>kk b o (by simpa using hb) e) f0 f1 f3 f4 f5
   obtain ⟨o,eo,co,d⟩:=id st'
   refine ⟨_,rfl,bb9 (s:={ s with heap:=h',toks:=tk }) (n:=ty) eo co d (by rcases hty with rfl | rfl <;> decide) ⟨.str ⟨#[c]⟩,H,I1,⟨_,rfl⟩,⟨rfl,c,e,rfl⟩,⟨hg,st'⟩,fun b hb=>(hf b hb).1⟩⟩
  rcases hty with rfl | rfl
  · exact go (n:=0) (Q:=fun _ _=>True) (Walks.strAscii (I.ok.hd hc) it z t)
  · exact go (n:=0) (Q:=fun _ _=>True) (Walks.strWide (I.ok.hd hc) it z t)
 done:=by
  intro X hP hw hK hc i pins s σ H E I hf st hg
  subst hP hw hK
  obtain ⟨f0,f1,f2,f3,f4,f5⟩:=hf it (by simp)
  obtain ⟨hi,st⟩:=st
  have e:i=z.cps.size:=Nat.le_antisymm hi hg
  subst e
  rcases hty with rfl | rfl
  · exact (Walks.strAscii (prog:=X.prog) (w:=X.w) (I.ok.hd hc) it z t).done s _ _ st fun h' tk kk=>⟨rfl,I.turned (fun b o hb e=>kk b o (by simpa using hb) e) f0 f1 f3 f4 f5⟩
  · exact (Walks.strWide (prog:=X.prog) (w:=X.w) (I.ok.hd hc) it z t).done s _ _ st fun h' tk kk=>⟨rfl,I.turned (fun b o hb e=>kk b o (by simpa using hb) e) f0 f1 f3 f4 f5⟩
 self:=fun A i s Q E st h=>by
  rcases hty with rfl | rfl
  · exact wpAny_pyIter_striter_ascii st.2 h
  · exact wpAny_pyIter_striter_wide st.2 h
section
variable {X:Cx}{tg:Expr}
def iStr (tl:TE):TI:=fun σ H R=>tl σ H fun x H1=>∃ z,x=.str z∧R (Its z) H1
theorem bh7 {l:Expr}{tl:TE}(hl:PE X l tl):PI X tg l (iStr tl):=by
 intro pins s σ H R I h
 refine thn (hl pins s σ H _ I h) ?_
 rintro v s1 ⟨x,H1,I1,r1,q1⟩
 obtain ⟨z,e,q⟩:=q1
 subst e
 obtain ⟨t,rfl⟩:=r1
 refine wpAny_pyIter_strU ?_
 refine ⟨s1.heap.objs.size,[s1.heap.objs.size],_,_,H1,rfl,I1.kept (t':=s1.toks) fun b o e=>Heap.get?_push_of_some _ e,bd1 (ty:=strIterType z) _ z t (by unfold strIterType; split <;> simp),⟨Nat.zero_le _,_,Heap.get?_push_size _ rfl,rfl,rfl⟩,fun b hb=>?_,q⟩
 have e:b=s1.heap.objs.size:=by simpa using hb
 subst e
 exact I1.fpOk (Nat.le_refl _) (I1.hok.fresh (Nat.le_refl _))
end
section
variable {X:Cx}
def a33 (ys:List Str):List V:=ys.map V.str
def CBig (i j:Int):Prop:=(i.natAbs<2 ^ 4096∧j.natAbs<2 ^ 4096)∨CMul i j
theorem b52 {i:Int}{n:Nat}(h:i.natAbs<2 ^ n):Builtin.Int.intBits i≤n:=by
 unfold Builtin.Int.intBits
 split
 · exact Nat.zero_le _
 · rename_i h0
   have h1:i.natAbs≠0:=by simpa using h0
   have:=(Nat.log2_lt h1).mpr h
   omega
theorem CBig.ok {i j:Int}(h:CBig i j):IntMulOk i j:=by
 rcases h with ⟨h1,h2⟩ | h
 · exact IntMulOk.of_bits (Nat.le_trans (b52 h1) (by decide)) (Nat.le_trans (b52 h2) (by decide))
 · exact h.ok
theorem bt7:OpR X (binaryOp .Mult) (rI CBig fun i j=>.int (i*j)):=opI fun _ _ _ _ _ _ _ hc q=>mul_int q hc.ok
theorem bd2:CallR X (.builtin "isinstance") (fun xs H Q=>∃ x n t b,xs=[x,.ty n]∧TyOf X.K H x t∧PySem.W.kitOne X.K t (.type n)=some b∧Q (.bl b) H):=by
 intro pins s σ H xs us Q I r h
 obtain ⟨x,n,t,b,rfl,ty,e,q⟩:=h
 obtain ⟨u,w',rfl,rx,ry⟩:=bc4 r
 cases (show w'=Value.type n from ry)
 exact b41 I rx ty e fun tk=>⟨.bl b,H,I.tok _,rfl,q⟩
end
section
variable {X:Cx}{e:Expr}{te:TE}{pos:Pos}
end
abbrev New (H:Hp) (o:HO) (Q:VK):Prop:=∀ p H',H p=none→Same H H'→H' p=some o→Q (.ref p) H'
theorem Same.new {H:Hp}{p:Addr}{o:HO}(h:H p=none):Same H (upd H p o):=fun b u e=>by rw [a48 (a50 e h)]; exact e
theorem New.to {H:Hp}{Q:VK}{o:HO}(h:New H o Q):∀ p,H p=none→Q (.ref p) (upd H p o):=fun p hp=>h p _ hp (Same.new hp) a46
section
variable {X:Cx}{es:List Expr}{t:TA}{pos:Pos}
def bt8 (t:TA):TE:=fun σ H Q=>t σ H fun xs H1=>xs.length≤sizeLine∧New H1 (.lst xs) Q
def bt9 (t:TA):TE:=fun σ H Q=>t σ H fun xs H1=>xs.length≤sizeLine∧New H1 (.tup xs) Q
theorem a05 {x1}(h:PA X es t):PE X (.Tuple es x1 pos) (bt9 t):=by
 intro pins s σ H Q I hq
 refine wpAny_Tuple_spliced (thn (h pos pins s σ H _ I hq) fun us s1 ⟨xs,H1,I1,r,z,q⟩=>⟨by rw [← r.length]; exact z,?_⟩)
 refine ⟨.ref s1.heap.objs.size,upd H1 s1.heap.objs.size (.tup xs),I1.laid (t':=s1.toks) (fun b u e=>Heap.get?_push_of_some _ e) (Nat.le_refl _) ?_,rfl,New.to q _ (I1.hok.fresh (Nat.le_refl _))⟩
 exact ⟨z,us,r,⟨_,Heap.get?_push_size _ rfl,rfl,_,rfl⟩⟩
theorem a19 (h:PA X es t):PE X (.List es pos) (bt8 t):=by
 intro pins s σ H Q I hq
 refine wpAny_List_spliced (thn (h pos pins s σ H _ I hq) fun us s1 ⟨xs,H1,I1,r,z,q⟩=>⟨by rw [← r.length]; exact z,?_⟩)
 refine ⟨.ref s1.heap.objs.size,upd H1 s1.heap.objs.size (.lst xs),I1.laid (t':=s1.toks) (fun b u e=>Heap.get?_push_of_some _ e) (Nat.le_refl _) ?_,rfl,New.to q _ (I1.hok.fresh (Nat.le_refl _))⟩
 exact ⟨z,us,0,r,Heap.get?_push_size _ rfl⟩
def rSlN (K:PySem.W.Frag):V→Option Int→Option Int→Hp→VK→Prop:=fun x lo hi H Q=>∃ a xs,x=.ref a∧SqL K H a xs∧New H (.lst (cutV xs lo hi)) Q
theorem bd3:SlR X (rSlN X.K):=by
 intro pins s σ H x v vl vu lo hi sl Q I rx hs pl pu h
 obtain ⟨a,xs,e,h1,h2⟩:=h
 exact bk8 pins s σ H x v vl vu lo hi sl Q I rx hs pl pu ⟨a,xs,e,h1,New.to h2⟩
theorem b17:CallR X (.type "list") (fun xs H Q=>∃ p ys,xs=[.ref p]∧(SqL X.K H p ys∨SqT X.K H p ys)∧New H (.lst ys) Q):=by
 intro pins s σ H xs us Q I r h
 obtain ⟨p,ys,e,h1,h2⟩:=h
 exact ar4 pins s σ H xs us Q I r ⟨p,ys,e,h1,New.to h2⟩
end
def rIsi (K:PySem.W.Frag):List V→Hp→VK→Prop:=fun xs H Q=>∃ x n t b,xs=[x,.ty n]∧TyOf K H x t∧PySem.W.kitOne K t (.type n)=some b∧Q (.bl b) H
def tTru (K:PySem.W.Frag) (ta:TE):TT:=fun σ H Q=>ta σ H fun x H'=>∃ k,TruV K x H' k∧Q k H'
def rLen (K:PySem.W.Frag):List V→Hp→VK→Prop:=fun xs H Q=>∃ x n,xs=[x]∧LenV K x H n∧Q (.int n) H
def b53 (K:PySem.W.Frag):List V→Hp→VK→Prop:=fun xs H Q=>∃ p ys,xs=[.ref p]∧(SqL K H p ys∨SqT K H p ys)∧New H (.lst ys) Q
section
variable {X:Cx}{a:Expr}{ta:TE}
theorem bu0:CallR X (.builtin "isinstance") (rIsi X.K):=bd2
theorem bu1 (ha:PE X a ta) (he:∀ whole,isTrue a X.env whole=(do let v←whole; standAt a.pos; holding [v] (truthy v))):PT X a (tTru X.K ta):=bc3 ha he
theorem bu2:CallR X (.builtin "len") (rLen X.K):=bc5
theorem bl7:CallR X (.type "list") (b53 X.K):=b17
end
def bl8:R2:=fun x y H Q=>match x,y with
 | .int i,.int j=>Q (.int (i+j)) H
 | .str i,.str j=>i.length+j.length≤sizeLine∧Q (.str (i++j)) H
 | .ref l,.ref b=>∃ xs zs,H l=some (.lst xs)∧H b=some (.lst zs)∧xs.length+zs.length≤sizeLine∧New H (.lst (xs++zs)) Q
 | _,_=>False
def bh8:R2:=fun x y H Q=>match x,y with
 | .int i,.int j=>CBig i j∧Q (.int (i*j)) H
 | .str z,.int n=>MulOk z n∧Q (.str (Txt.mul z n)) H
 | _,_=>False
def rStr:List V→Hp→VK→Prop:=fun xs H Q=>match xs with
 | [.int i]=>i.natAbs.log2<1920∧Q (.str (toString i)) H
 | [.str z]=>Q (.str z) H
 | _=>False
section
variable {X:Cx}
theorem a34:OpR X (binaryOp .Add) bl8:=by
 intro pins s σ H x y v u Q I rx ry h
 cases x with
 | int i=>cases y with
   | int j=>exact br2 pins s σ H _ _ v u Q I rx ry ⟨i,j,rfl,rfl,h⟩
   | _=>exact (show False from h).elim
 | str i=>cases y with
   | str j=>exact b14 pins s σ H _ _ v u Q I rx ry ⟨i,j,rfl,rfl,h⟩
   | _=>exact (show False from h).elim
 | ref l=>cases y with
   | ref b =>
     obtain ⟨xs,zs,h1,h2,h3,h4⟩:=h
     exact bt0 pins s σ H _ _ v u Q I rx ry ⟨l,b,xs,zs,rfl,rfl,h1,h2,h3,New.to h4⟩
   | _=>exact (show False from h).elim
 | _=>exact (show False from h).elim
theorem ac0:OpR X (binaryOp .Mult) bh8:=by
 intro pins s σ H x y v u Q I rx ry h
 cases x with
 | int i=>cases y with
   | int j=>exact bt7 pins s σ H _ _ v u Q I rx ry ⟨i,j,rfl,rfl,h⟩
   | _=>exact (show False from h).elim
 | str z=>cases y with
   | int n =>
     obtain ⟨t,rfl⟩:=rx
     obtain ⟨t',rfl⟩:=ry
     exact SB.mul h.1 fun t2 k=>⟨.str _,H,I.tok _,⟨_,rfl⟩,h.2⟩
   | _=>exact (show False from h).elim
 | _=>exact (show False from h).elim
theorem ay4 {scope sc:Scope}{Nt Nf:List Str}{caps:List Nat}(hsc:X.env.scope=sc) (kind:scope.kind=.function) (nx:∀ x∈Nf,(x,NameKind.cell)∉scope.names) (nm:∀ y∈scope.names,y.2=.local→scope.names.lookup y.1=some .local)
 (fr:∀ y∈scope.names,y.2=.free→sc.names.lookup y.1=some .cell∨sc.names.lookup y.1=some .free) (cap:caps.map (fun j=>X.N[j]?)=Nf.map some) (vis:∀ x∈Nf,scope.names.lookup x=some .free):CompOk X scope Nt Nf caps :=
 ⟨kind,nx,nm,fun y hy h=>by show X.env.scope.names.lookup y.1=_∨X.env.scope.names.lookup y.1=_; rw [hsc]; exact fr y hy h,cap,vis⟩
theorem a45 {scope sc:Scope}{Nt Nf:List Str}{caps:List Nat}(hsc:X.env.scope=sc) (kind:scope.kind=.function) (nc:∀ y∈scope.names,y.2≠.cell) (nm:∀ y∈scope.names,y.2=.local→scope.names.lookup y.1=some .local)
 (fr:∀ y∈scope.names,y.2=.free→sc.names.lookup y.1=some .cell∨sc.names.lookup y.1=some .free) (cap:caps.map (fun j=>X.N[j]?)=Nf.map some) (vis:∀ x∈Nf,scope.names.lookup x=some .free):CompOk X scope Nt Nf caps :=
 ay4 hsc kind (fun x _ h=>nc (x,.cell) h rfl) nm fr cap vis
abbrev bd4 (J:It) (te:TE) (tt:TT) (caps:List Nat) (σ:St) (H:Hp) (Q:VK):Prop:=∃ W:Nat→Nat→List V→St→Hp→Prop,(∃ m,W 0 m [] (cSt 1 caps σ) H)∧∀ i m acc σ' H',W i m acc σ' H' →
 (J.stop i H'∧∀ l,H' l=none→Q (.ref l) (upd H' l (.lst acc))) ∨
 (J.go i H'∧acc.length<sizeLine∧∃ N:List V→St→Hp→Prop,(∀ ac σ2 H2,N ac σ2 H2→∃ m',m'<m∧W (i+1) m' ac σ2 H2)∧∀ x H2,J.yld i H' x H2→ae6 0 x σ' H2 fun σ3 H3=>tt σ3 H3 fun b H4=>if b=true then te σ3 H4 fun y H5=>N (acc++[y]) σ3 H5 else N acc σ3 H4)
theorem ay5 {J:It}{te:TE}{tt:TT}{caps:List Nat}{σ:St} {H:Hp}{Q:VK}(n:Nat) (hz:n≤sizeLine) (Pv:Nat→List V→Hp→Prop) (h0:Pv 0 [] H) (hl:∀ i acc H,Pv i acc H→acc.length≤i)
 (hgo:∀ i acc H,i<n→Pv i acc H→J.go i H) (hst:∀ acc H,Pv n acc H→J.stop n H)
 (hs:∀ i x acc H H2,i<n→Pv i acc H→J.yld i H x H2→tt (some x::capV caps σ) H2 fun b H4=>if b=true then te (some x::capV caps σ) H4 fun y H5=>Pv (i+1) (acc++[y]) H5 else Pv (i+1) acc H4)
 (hd:∀ acc H,Pv n acc H→New H (.lst acc) Q):bd4 J te tt caps σ H Q:=by
 refine ⟨fun i m acc σ' H=>m=n - i∧i≤n∧(∃ v,σ'=v::capV caps σ)∧Pv i acc H,⟨n,by simp,Nat.zero_le _,⟨none,rfl⟩,h0⟩,?_⟩
 rintro i m acc σ' H' ⟨rfl,hi,⟨v,rfl⟩,p⟩
 by_cases hlt:i<n
 · refine .inr ⟨hgo i acc H' hlt p,?_,fun ac σ2 H2=>(∃ v,σ2=v::capV caps σ)∧Pv (i+1) ac H2,fun ac σ2 H2 ⟨e,p'⟩=>⟨n - (i+1),by omega,rfl,hlt,e,p'⟩,fun x H2 y=>?_⟩
   · have:=hl i acc H' p
     omega
   · have eN:∀ ac H5,((∃ u,some x::capV caps σ=u::capV caps σ)∧Pv (i+1) ac H5)=Pv (i+1) ac H5:=fun ac H5=>propext ⟨And.right,fun p=>⟨⟨_,rfl⟩,p⟩⟩
     show tt (some x::capV caps σ) H2 fun b H4=>if b=true then te (some x::capV caps σ) H4 fun y H5=>((∃ u,some x::capV caps σ=u::capV caps σ)∧Pv (i+1) (acc++[y]) H5) else ((∃ u,some x::capV caps σ=u::capV caps σ)∧Pv (i+1) acc H4)
     simp only [eN]
     exact hs i x acc H' H2 hlt p y
 · have e:i=n:=by omega
   subst e
   exact .inl ⟨hst acc H' p,New.to (hd acc H' p)⟩
theorem bl9 {K:PySem.W.Frag}{a:Addr}{xs:List V}{te:TE}{tt:TT}{caps:List Nat}{σ:St} {H:Hp}{Q:VK}(hz:xs.length≤sizeLine) (Pv:Nat→List V→Hp→Prop) (h0:Pv 0 [] H) (hl:∀ i acc H,Pv i acc H→acc.length≤i∧SqL K H a xs)
 (hs:∀ i x acc H,xs[i]?=some x→Pv i acc H→tt (some x::capV caps σ) H fun b H4=>if b=true then te (some x::capV caps σ) H4 fun y H5=>Pv (i+1) (acc++[y]) H5 else Pv (i+1) acc H4)
 (hd:∀ acc H,Pv xs.length acc H→New H (.lst acc) Q):bd4 (Itl K a) te tt caps σ H Q:=by
 refine ay5 xs.length hz Pv h0 (fun i acc H p=>(hl i acc H p).1) (fun i acc H hi p=>⟨xs,xs[i],(hl i acc H p).2,by simp [hi]⟩) (fun acc H p=>⟨xs,(hl _ acc H p).2,Nat.le_refl _⟩) ?_ hd
 rintro i x acc H1 H2 hi p ⟨rfl,y⟩
 exact hs i x acc _ (y xs (hl i acc _ p).2) p
theorem bu3 {z:Str}{te:TE}{tt:TT}{caps:List Nat}{σ:St} {H:Hp}{Q:VK}(hz:z.cps.size≤sizeLine) (Pv:Nat→List V→Hp→Prop) (h0:Pv 0 [] H) (hl:∀ i acc H,Pv i acc H→acc.length≤i)
 (hs:∀ i c acc H,z.cps.toList[i]?=some c→Pv i acc H→tt (some (.str ⟨#[c]⟩)::capV caps σ) H fun b H4=>if b=true then te (some (.str ⟨#[c]⟩)::capV caps σ) H4 fun y H5=>Pv (i+1) (acc++[y]) H5 else Pv (i+1) acc H4)
 (hd:∀ acc H,Pv z.cps.size acc H→New H (.lst acc) Q):bd4 (Its z) te tt caps σ H Q:=by
 refine ay5 z.cps.size hz Pv h0 hl (fun i acc H hi p=>hi) (fun acc H p=>Nat.le_refl _) ?_ hd
 rintro i x acc H1 H2 hi p ⟨rfl,c,hc,rfl⟩
 exact hs i c acc _ (by simpa using hc) p
theorem bd5 {lo:Int}{n:Nat}{te:TE}{tt:TT}{caps:List Nat}{σ:St} {H:Hp}{Q:VK}(hz:n≤sizeLine) (Pv:Nat→List V→Hp→Prop) (h0:Pv 0 [] H) (hl:∀ i acc H,Pv i acc H→acc.length≤i)
 (hs:∀ i acc H,i<n→Pv i acc H→tt (some (.int (lo+i))::capV caps σ) H fun b H4=>if b=true then te (some (.int (lo+i))::capV caps σ) H4 fun y H5=>Pv (i+1) (acc++[y]) H5 else Pv (i+1) acc H4)
 (hd:∀ acc H,Pv n acc H→New H (.lst acc) Q):bd4 (Itr lo n) te tt caps σ H Q:=by
 refine ay5 n hz Pv h0 hl (fun i acc H hi p=>hi) (fun acc H p=>Nat.le_refl _) ?_ hd
 rintro i x acc H1 H2 hi p ⟨rfl,rfl⟩
 exact hs i acc _ hi p
end
end L2
namespace L2
open PySem
theorem ex_some_and {α:Type}{a:α}{p:α→Prop}:(∃ v,some (some a)=some (some v)∧p v)↔p a:=⟨fun ⟨_,e,h⟩=>by cases e; exact h,fun h=>⟨a,rfl,h⟩⟩
def b54 (J:It) (g:TG) (tb:TS) (D:Ends) (σ:St) (H1:Hp):Prop:=∃ W:Nat→Nat→St→Hp→Prop,(∃ m,W 0 m σ H1)∧∀ i m σ H,W i m σ H →
 (J.stop i H∧D.nx σ H)∨(J.go i H∧∃ N:St→Hp→Prop,(∀ σ' H',N σ' H'→∃ m',m'<m∧W (i+1) m' σ' H')∧∀ x H',J.yld i H x H'→g x σ H' fun σ2 H2=>tb { D with nx:=N,ct:=N,bk:=D.nx } σ2 H2)
def ac1 (J:It) (g:TG) (tt:TT) (te:TE) (n:Nat) (caps:List Nat) (σ:St) (H:Hp) (Q:VK):Prop:=∃ W:Nat→Nat→List V→St→Hp→Prop,(∃ m,W 0 m [] (cSt n caps σ) H)∧∀ i m acc σ' H',W i m acc σ' H' →
 (J.stop i H'∧∀ l,H' l=none→Q (.ref l) (upd H' l (.lst acc))) ∨
 (J.go i H'∧acc.length<sizeLine∧∃ N:List V→St→Hp→Prop,(∀ ac σ2 H2,N ac σ2 H2→∃ m',m'<m∧W (i+1) m' ac σ2 H2)∧∀ x H2,J.yld i H' x H2→g x σ' H2 fun σ3 H3=>tt σ3 H3 fun b H4=>if b=true then te σ3 H4 fun y H5=>N (acc++[y]) σ3 H5 else N acc σ3 H4)
section
variable {K:PySem.W.Frag}{a:Addr}{xs:List V}{te:TE}{tt:TT}{caps:List Nat}{σ:St} {H:Hp}{Q:VK}{z:Str}{lo:Int}{n:Nat}
theorem a73 (hz:xs.length≤sizeLine) (Pv:Nat→List V→Hp→Prop) (h0:Pv 0 [] H) (hl:∀ i acc H,Pv i acc H→acc.length≤i∧SqL K H a xs)
 (hs:∀ i x acc H,xs[i]?=some x→Pv i acc H→tt (some x::capV caps σ) H fun b H4=>if b=true then te (some x::capV caps σ) H4 fun y H5=>Pv (i+1) (acc++[y]) H5 else Pv (i+1) acc H4)
 (hd:∀ acc H,Pv xs.length acc H→New H (.lst acc) Q):ac1 (Itl K a) (ae6 0) tt te 1 caps σ H Q:=bl9 hz Pv h0 hl hs hd
theorem bu4 (hz:z.cps.size≤sizeLine) (Pv:Nat→List V→Hp→Prop) (h0:Pv 0 [] H) (hl:∀ i acc H,Pv i acc H→acc.length≤i)
 (hs:∀ i c acc H,z.cps.toList[i]?=some c→Pv i acc H→tt (some (.str ⟨#[c]⟩)::capV caps σ) H fun b H4=>if b=true then te (some (.str ⟨#[c]⟩)::capV caps σ) H4 fun y H5=>Pv (i+1) (acc++[y]) H5 else Pv (i+1) acc H4)
 (hd:∀ acc H,Pv z.cps.size acc H→New H (.lst acc) Q):ac1 (Its z) (ae6 0) tt te 1 caps σ H Q:=bu3 hz Pv h0 hl hs hd
theorem af8 (hz:n≤sizeLine) (Pv:Nat→List V→Hp→Prop) (h0:Pv 0 [] H) (hl:∀ i acc H,Pv i acc H→acc.length≤i)
 (hs:∀ i acc H,i<n→Pv i acc H→tt (some (.int (lo+i))::capV caps σ) H fun b H4=>if b=true then te (some (.int (lo+i))::capV caps σ) H4 fun y H5=>Pv (i+1) (acc++[y]) H5 else Pv (i+1) acc H4)
 (hd:∀ acc H,Pv n acc H→New H (.lst acc) Q):ac1 (Itr lo n) (ae6 0) tt te 1 caps σ H Q:=bd5 hz Pv h0 hl hs hd
end
theorem cxOf_K {CX:CXT}{P:Program}{w:World}{K:PySem.W.Frag}{mg:Str→Option Value}{base:Heap}{N:List Str}{qual:Str}{scope:Scope}{f:Addr}{cd:Value}{A:Around}{outer:List Env}{s:Shared}{H:Hp}{E:XK} :
 (cxOf CX P w K mg base N qual scope f cd A outer s H E).K=K:=rfl
theorem cxC_K {X:Cx}{N:List Str}{scope:Scope}{cl:List (Str×Addr)}{C:Addr}{s0:Shared}{H0:Hp}{ex:List Addr}:(cxC X N scope cl C s0 H0 ex).K=X.K:=rfl
section
variable {X:Cx}
theorem a35 (K:PySem.W.Frag) (hK:X.K=K:=by rfl):IxR X (rIxL K):=hK ▸ bk7
theorem a38 (K:PySem.W.Frag) (hK:X.K=K:=by rfl):IxR X (rIxT K):=hK ▸ bs6
theorem a47 (K:PySem.W.Frag) (hK:X.K=K:=by rfl):SlR X (rSlN K):=hK ▸ bd3
theorem b55 (K:PySem.W.Frag) (hK:X.K=K:=by rfl):CallR X (.builtin "isinstance") (rIsi K):=hK ▸ bu0
theorem a65 (K:PySem.W.Frag) (hK:X.K=K:=by rfl):CallR X (.builtin "len") (rLen K):=hK ▸ bu2
theorem ay6 (K:PySem.W.Frag) (hK:X.K=K:=by rfl):CallR X (.type "list") (b53 K):=hK ▸ bl7
theorem aj6 (K:PySem.W.Frag) (hK:X.K=K:=by rfl):OpR X (compareOp .NotIn) (rIn K true):=hK ▸ ar3
theorem aj7 (K:PySem.W.Frag) {a:Expr}{ta:TE}(ha:PE X a ta) (he:∀ whole,isTrue a X.env whole=(do let v←whole; standAt a.pos; holding [v] (truthy v))) (hK:X.K=K:=by rfl):PT X a (tTru K ta):=hK ▸ bu1 ha he
theorem a36 (K:PySem.W.Frag) {tg l:Expr}{tl:TE}(hl:PE X l tl) (hK:X.K=K:=by rfl):PI X tg l (bk1 K tl):=hK ▸ bk2 hl
theorem af1 (K:PySem.W.Frag) {pos:Pos}{es:List Expr}{k:Nat}{t:TGs}{n:Nat}(hc:X.calm=true) (h:PGs X es t) (hn:(assignEach es X.env).length=n:=by rfl) (hst:(assignEach es X.env).findIdx? (·.1)=none:=by rfl) (hK:X.K=K:=by rfl) :
 PG X (.Tuple es k pos) (gTup K n t):=hK ▸ br0 hc h hn hst
theorem bm0 (K:PySem.W.Frag) {o:Expr}{to:TE}{name:Str}{apos cpos:Pos}{T id:String}{r:V→List V→Hp→VK→Prop}(pa:PlainAttrs T) (slot:Slot T name id) (hty:typeOf (.builtin id)=pure (.type "method_descriptor")) (hm:MtR X id r) (ho:PE X o to)
 (hbase:attributeBase o name X.env (eval o X.env)=eval o X.env:=by rfl) (hline:(apos.endLine == cpos.line)=true:=by rfl) (hK:X.K=K:=by rfl):PE X (.Call (.Attribute o name apos) [] [] cpos) (tBM0 K T r to):=hK ▸ bs8 pa slot hty hm ho hbase hline
theorem a89 (K:PySem.W.Frag) {o e:Expr}{es:List Expr}{to:TE}{t:TA}{name:Str}{apos cpos:Pos}{T id:String}{r:V→List V→Hp→VK→Prop}(pa:PlainAttrs T) (slot:Slot T name id) (hty:typeOf (.builtin id)=pure (.type "method_descriptor")) (hm:MtR X id r) (ho:PE X o to) (ha:PA X (e::es) t)
 (hbase:attributeBase o name X.env (eval o X.env)=eval o X.env:=by rfl)
 (hfew:((backTo cpos (starEach (e::es) X.env)).all (fun x=>!x.1) && (backToKw cpos (keywordEach [] X.env)).all (fun x=>x.1.isSome) && decide ((e::es).length+([]:List Keyword).length+(if ([]:List Keyword).isEmpty then 0 else 1)<30))=true:=by rfl)
 (hline:(apos.endLine == cpos.line)=true:=by rfl) (hs:starEach (e::es) X.env=(false,eval e X.env)::starEach es X.env:=by rfl) (hplain:(backTo cpos (starEach es X.env)).any (·.1)=false:=by rfl) (hK:X.K=K:=by rfl) :
 PE X (.Call (.Attribute o name apos) (e::es) [] cpos) (tBM K T r to t):=hK ▸ c03 pa slot hty hm ho ha hbase hfew hline hs hplain
end
theorem a80:bootBuiltins "len"=some (.builtin "len"):=by decide +kernel
theorem ac2:bootBuiltins "isinstance"=some (.builtin "isinstance"):=by decide +kernel
theorem af9:bootBuiltins "sorted"=some (.builtin "sorted"):=by decide +kernel
theorem bu5:bootBuiltins "sum"=some (.builtin "sum"):=by decide +kernel
theorem bh9:bootBuiltins "min"=some (.builtin "min"):=by decide +kernel
theorem b56:bootBuiltins "max"=some (.builtin "max"):=by decide +kernel
theorem bm1:bootBuiltins "bool"=some (.type "bool"):=by decide +kernel
theorem aj8:bootBuiltins "list"=some (.type "list"):=by decide +kernel
theorem bd6:bootBuiltins "tuple"=some (.type "tuple"):=by decide +kernel
theorem bm2:bootBuiltins "dict"=some (.type "dict"):=by decide +kernel
theorem ay7:bootBuiltins "set"=some (.type "set"):=by decide +kernel
def Bd (p:Nat) (x:Int):Prop:=x.natAbs<2 ^ p
theorem Bd.mono {p q:Nat}{x:Int}(h:Bd p x) (l:p≤q):Bd q x:=Nat.lt_of_lt_of_le h (Nat.pow_le_pow_right (by decide) l)
theorem Bd.big {p q:Nat}{x y:Int}(h:Bd p x) (h':Bd q y) (hp:p≤4096:=by decide) (hq:q≤4096:=by decide):CBig x y:=.inl ⟨h.mono hp,h'.mono hq⟩
theorem Bd.of {p:Nat}{x:Int}(h0:0≤x) (h1:x<2 ^ p):Bd p x:=by
 unfold Bd
 have e:((2 ^ p:Nat):Int)=(2:Int) ^ p:=by norm_cast
 omega
end L2
local macro_rules | `(tactic| walk_at "rd") => `(tactic| simp only [L2.tCB, L2.tCons, L2.tNil, L2.tVar, L2.rStr, L2.tNoIf, L2.capV, List.map_nil, List.getElem?_cons_zero, L2.ex_some_and, if_true])
namespace L2
open PySem
theorem le_line {n:Nat}(h:n≤1000000):n≤sizeLine:=Nat.le_trans h (by decide)
theorem bu6 {ns:List Int}{k:Nat}:cutV (ns.map V.int) none (some (k:Int))=(ns.take k).map V.int:=by
 unfold cutV
 rw [HT.sIx_none,HT.sIx_nat,List.drop_zero,Nat.sub_zero,List.length_map,List.map_take]
 by_cases h:k≤ns.length
 · rw [Nat.min_eq_left h]
 · rw [Nat.min_eq_right (by omega),List.take_of_length_le (by simp),List.take_of_length_le (by simp; omega)]
theorem nox_K {X:Cx}:X.nox.K=X.K:=rfl
theorem wish_K {X:Cx}{E:Value→Shared→Prop}:(X.wish E).K=X.K:=rfl
section
variable {σ:St} {H:Hp}{Q:VK}{D:Ends}{nn bb cc:St→Hp→Prop}{rr:VK}{t u:TS}{ta tb tc te:TE}{tA tB:TT}{g:TG}{QT:Bool→Hp→Prop}{QA:List V→Hp→Prop}{QS:St→Hp→Prop}
theorem c16 (h:te σ H fun x H1=>g x σ H1 nn):tAsg te g ⟨nn,rr,bb,cc⟩ σ H:=h
theorem i_name {i:Nat}{v:V}(h:QS (σ.set i (some v)) H):ae6 i v σ H QS:=h
theorem i_var {i:Nat}{v:V}(e:σ[i]?=some (some v)) (h:Q v H):tVar i σ H Q:=⟨v,e,h⟩
theorem i_c {v:V}(h:Q v H):tC v σ H Q:=h
theorem i_op {r:R2}(h:ta σ H fun x H1=>tb σ H1 fun y H2=>r x y H2 Q):tOp r ta tb σ H Q:=h
theorem i_un {r:V→Hp→VK→Prop}(h:ta σ H fun x H1=>r x H1 Q):tUn r ta σ H Q:=h
theorem i_rU {f:Int→V}{i:Int}(h:Q (f i) H):rU f (.int i) H Q:=⟨i,rfl,h⟩
theorem i_rI {C:Int→Int→Prop}{f:Int→Int→V}{i j:Int}(c:C i j) (h:Q (f i j) H):rI C f (.int i) (.int j) H Q:=⟨i,j,rfl,rfl,c,h⟩
theorem c17 {f:Int→Int→V}{i j:Int}(h:Q (f i j) H):rI0 f (.int i) (.int j) H Q:=⟨i,j,rfl,rfl,h⟩
theorem bm3 {i j:Int}(h:Q (.int (i+j)) H):bl8 (.int i) (.int j) H Q:=h
theorem a69 {l b:Addr}{xs zs:List V}(h1:H l=some (.lst xs)) (h2:H b=some (.lst zs)) (z:xs.length+zs.length≤sizeLine) (h:New H (.lst (xs++zs)) Q):bl8 (.ref l) (.ref b) H Q:=⟨xs,zs,h1,h2,z,h⟩
theorem ai4 {i j:Int}(c:CBig i j) (h:Q (.int (i*j)) H):bh8 (.int i) (.int j) H Q:=⟨c,h⟩
theorem decI (i j:Int):decide (V.int i=V.int j)=decide (i=j):=by rw [Bool.eq_iff_iff]; simp
theorem decS (i j:Str):decide (V.str i=V.str j)=decide (i=j):=by rw [Bool.eq_iff_iff]; simp
theorem c18 {i j:Int}(h:Q (.bl (decide (i=j))) H):rEq (.int i) (.int j) H Q:=⟨rfl,by rw [decI]; exact h⟩
theorem c19 {i j:Str}(h:Q (.bl (decide (i=j))) H):rEq (.str i) (.str j) H Q:=⟨rfl,by rw [decS]; exact h⟩
theorem c20 {i j:Int}(h:Q (.bl (!decide (i=j))) H):rNe (.int i) (.int j) H Q:=⟨rfl,by rw [decI]; exact h⟩
theorem bu7 (h:te σ H fun x H'=>∃ k,x=.bl k∧QT k H'):bc1 te σ H QT:=h
theorem i_bl {k:Bool}{p:Bool→Prop}(h:p k):∃ j,V.bl k=V.bl j∧p j:=⟨k,rfl,h⟩
theorem c21 (h:tA σ H fun b H1=>if b=true then t D σ H1 else u D σ H1):tIfS tA t u D σ H:=h
theorem c22 (h:te σ H rr):tRet te ⟨nn,rr,bb,cc⟩ σ H:=h
theorem bu8 (h:nn σ H):bq8 ⟨nn,rr,bb,cc⟩ σ H:=h
theorem bu9 (h:te σ H fun _ H1=>nn σ H1):bq9 te ⟨nn,rr,bb,cc⟩ σ H:=h
theorem bv0 {tr:TA}(h:te σ H fun x H1=>tr σ H1 fun xs H2=>QA (x::xs) H2):tCons te tr σ H QA:=h
theorem c23 (h:QA [] H):tNil σ H QA:=h
theorem i_cb {r:List V→Hp→VK→Prop}{ts:TA}(h:ts σ H fun vs H1=>r vs H1 Q):tCB r ts σ H Q:=h
theorem bv1 {sp:Sp}{dvs:List V}{E:XK}{ts:TA}(h:ts σ H fun vs H1=>sp (vs++dvs) H1 Q E):bs3 sp dvs E ts σ H Q:=h
theorem c24 {ts:TA}(h:ts σ H fun xs H1=>xs.length≤sizeLine∧New H1 (.lst xs) Q):bt8 ts σ H Q:=h
theorem c25 {ts:TA}(h:ts σ H fun xs H1=>xs.length≤sizeLine∧New H1 (.tup xs) Q):bt9 ts σ H Q:=h
theorem bv4 {n:Nat}{P:Prop}(h:n≤sizeLine) (p:P):n≤sizeLine∧P:=⟨h,p⟩
theorem i_rgA {j:Int}{P:Prop}(h:-(2 ^ 62)≤j) (h':j<2 ^ 62) (p:P):-(2 ^ 62)≤j∧j<2 ^ 62∧P:=⟨h,h',p⟩
theorem bv5 (h:QT true H):tNoIf σ H QT:=h
theorem c26 (h:tA σ H fun c H1=>QT (!c) H1):tNot tA σ H QT:=h
theorem c27 (h:tA σ H fun c H1=>if c=true then tB σ H1 QT else QT false H1):tAnd tA tB σ H QT:=h
theorem i_or (h:tA σ H fun c H1=>if c=true then QT true H1 else tB σ H1 QT):tOr tA tB σ H QT:=h
theorem c28 {wi:TI}(h:wi σ H fun J H1=>b54 J g t D σ H1):tFor wi g t D σ H:=h
theorem i_lc {wi:TI}{n:Nat}{caps:List Nat}(h:wi σ H fun J H1=>ac1 J g tA te n caps σ H1 Q):tLC wi g tA te n caps σ H Q:=h
theorem bv6 {R:It→Hp→Prop}{ts:TA}(h:ts σ H fun vs H1=>∃ j:Int,vs=[.int j]∧-(2 ^ 62)≤j∧j<2 ^ 62∧R (Itr 0 j.toNat) H1):br1 ts σ H R:=h
theorem bm4 {K:PySem.W.Frag}{R:It→Hp→Prop}(h:te σ H fun x H1=>∃ a,x=.ref a∧(∃ xs,SqL K H1 a xs)∧R (Itl K a) H1):bk1 K te σ H R:=h
theorem bv8 {R:It→Hp→Prop}(h:te σ H fun x H1=>∃ z,x=.str z∧R (Its z) H1):iStr te σ H R:=h
theorem c29 {j:Int}{p:Int→Prop}(h:p j):∃ i:Int,[V.int j]=[V.int i]∧p i:=⟨j,rfl,h⟩
theorem c30 {a:Addr}{p:Addr→Prop}(h:p a):∃ b,V.ref a=V.ref b∧p b:=⟨a,rfl,h⟩
theorem i_sx {z:Str}{p:Str→Prop}(h:p z):∃ b,V.str z=V.str b∧p b:=⟨z,rfl,h⟩
theorem i_bm {K:PySem.W.Frag}{T:String}{r:V→List V→Hp→VK→Prop}{to:TE}{ts:TA}(h:to σ H fun x H1=>tyV K T x H1∧ts σ H1 fun xs H2=>r x xs H2 Q):tBM K T r to ts σ H Q:=h
theorem c31 {K:PySem.W.Frag}{T:String}{r:V→List V→Hp→VK→Prop}{to:TE}(h:to σ H fun x H1=>tyV K T x H1∧r x [] H1 Q):tBM0 K T r to σ H Q:=h
theorem c32 {K:PySem.W.Frag}{z:Str}{P:Prop}(h:P):tyV K "str" (.str z) H∧P:=⟨rfl,h⟩
theorem a61 {K:PySem.W.Frag}{p:Addr}{xs:List V}{i:Int}{v:V}(h1:SqL K H p xs) (h2:atI xs i=some v) (h:Q v H):rIxL K (.ref p) (.int i) H Q:=⟨p,xs,i,v,rfl,rfl,h1,h2,h⟩
theorem a52 {K:PySem.W.Frag}{p:Addr}{xs:List V}{i:Int}{v:V}(h1:SqT K H p xs) (h2:atI xs i=some v) (h:Q v H):rIxT K (.ref p) (.int i) H Q:=⟨p,xs,i,v,rfl,rfl,h1,h2,h⟩
theorem i_sl {r:V→Option Int→Option Int→Hp→VK→Prop}{tl th:TO}(h:te σ H fun x H1=>tl σ H1 fun l H2=>th σ H2 fun u H3=>r x l u H3 Q):tSl r te tl th σ H Q:=h
theorem bd7 {QO:Option Int→Hp→Prop}(h:QO none H):b45 σ H QO:=h
theorem bv9 {QO:Option Int→Hp→Prop}(h:te σ H fun x H1=>∃ i,x=.int i∧QO (some i) H1):bs5 te σ H QO:=h
theorem c33 {i:Int}{p:Int→Prop}(h:p i):∃ j,V.int i=V.int j∧p j:=⟨i,rfl,h⟩
theorem aa2 {K:PySem.W.Frag}{a:Addr}{xs:List V}{lo hi:Option Int}(h1:SqL K H a xs) (h:New H (.lst (cutV xs lo hi)) Q):rSlN K (.ref a) lo hi H Q:=⟨a,xs,rfl,h1,h⟩
theorem bw0 {A B:Prop}(h:A):if true=true then A else B:=iteT h
theorem bw1 {A B:Prop}(h:B):if false=true then A else B:=iteF h
theorem bw2 {A B:Prop}(h:B):if (!true)=true then A else B:=iteF h
theorem a55 {c A B:Prop} [Decidable c] (hc:c) (h:A):if decide c=true then A else B:=by rw [decide_eq_true hc]; exact iteT h
theorem a43 {c A B:Prop} [Decidable c] (hc:¬ c) (h:B):if decide c=true then A else B:=by rw [decide_eq_false hc]; exact iteF h
theorem bi0 {c A B:Prop} [Decidable c] (hc:¬ c) (h:A):if (!decide c)=true then A else B:=by rw [decide_eq_false hc]; exact iteT h
theorem bi1 {c A B:Prop} [Decidable c] (hc:c) (h:B):if (!decide c)=true then A else B:=by rw [decide_eq_true hc]; exact iteF h
theorem bm5 {r r':R2}(h:ta σ H fun x H1=>tb σ H1 fun y H2=>r x y H2 fun z H3=>∃ k,z=.bl k∧(if k=true then tc σ H3 fun w' H4=>r' y w' H4 Q else Q (.bl false) H3)):bh1 r r' ta tb tc σ H Q:=h
theorem b57 {K:PySem.W.Frag}{n:Nat}{ts:TGs}{a:Addr}{xs:List V}(h1:SqT K H a xs) (h2:xs.length=n) (h:ts xs σ H QS):gTup K n ts (.ref a) σ H QS:=⟨a,xs,rfl,h1,h2,h⟩
theorem bw3 (h:QS σ H):gNil [] σ H QS:=⟨rfl,h⟩
theorem bm6 {gt:TG}{us:TGs}{v:V}{r:List V}(h:gt v σ H fun σ' H'=>us r σ' H' QS):bb8 gt us (v::r) σ H QS:=⟨v,r,rfl,h⟩
theorem bm7 {K:PySem.W.Frag}{z:Int}(h:Q (.bl false) H):rIsi K [V.int z,V.ty "bool"] H Q:=⟨_,_,_,false,rfl,.int z,by rfl,h⟩
theorem bw4 {K:PySem.W.Frag}{a:Addr}{xs:List V}(e:H a=some (.lst xs)) (h:Q (.bl true) H):rIsi K [V.ref a,V.ty "list"] H Q:=⟨_,_,_,true,rfl,.lst e,rfl,h⟩
theorem c34 {K:PySem.W.Frag}(h:te σ H fun x H'=>∃ k,TruV K x H' k∧QT k H'):tTru K te σ H QT:=h
theorem bw5 {K:PySem.W.Frag}{k:Bool}{p:Bool→Prop}(h:p k):∃ j,TruV K (.bl k) H j∧p j:=⟨k,rfl,h⟩
theorem b58 {K:PySem.W.Frag}{z:Str}(hz:z.length≤sizeLine) (h:Q (.int z.length) H):rLen K [V.str z] H Q:=⟨_,_,rfl,⟨hz,rfl⟩,h⟩
theorem a90 {K:PySem.W.Frag}{p:Addr}{xs:List V}(h1:SqL K H p xs) (h:Q (.int xs.length) H):rLen K [V.ref p] H Q:=⟨_,_,rfl,.inl ⟨xs,h1,rfl⟩,h⟩
theorem b59 {K:PySem.W.Frag}{p:Addr}{ys:List V}(h1:SqL K H p ys) (h:New H (.lst ys) Q):b53 K [.ref p] H Q:=⟨p,ys,rfl,.inl h1,h⟩
end
end L2
namespace L2
open PySem PySem.Spec PyProof.Rows
section
variable {X:Cx}
end
theorem ao0 {K:PySem.W.Frag}{a:Addr}{xs:List V}{te:TE}{tt:TT}{caps:List Nat}{σ:St} {H:Hp}{Q:VK}(hz:xs.length≤sizeLine) (Pv:Nat→List V→Hp→Prop) (h0:Pv 0 [] H) (hl:∀ i acc H,Pv i acc H→acc.length≤i∧SqL K H a xs)
 (hs:∀ i x acc H,xs[i]?=some x→Pv i acc H→∃ p u v,x=.ref p∧SqT K H p [u,v]∧tt (some u::some v::capV caps σ) H fun b H4=>if b=true then te (some u::some v::capV caps σ) H4 fun y H5=>Pv (i+1) (acc++[y]) H5 else Pv (i+1) acc H4)
 (hd:∀ acc H,Pv xs.length acc H→New H (.lst acc) Q):ac1 (Itl K a) (gTup K 2 (bb8 (ae6 0) (bb8 (ae6 1) gNil))) tt te 2 caps σ H Q:=by
 refine ⟨fun i m acc σ' H=>m=xs.length - i∧i≤xs.length∧(∃ u v,σ'=u::v::capV caps σ)∧Pv i acc H,⟨xs.length,by simp,Nat.zero_le _,⟨none,none,rfl⟩,h0⟩,?_⟩
 rintro i m acc σ' H' ⟨rfl,hi,⟨u0,v0,rfl⟩,p⟩
 obtain ⟨hl1,hq⟩:=hl i acc H' p
 by_cases hlt:i<xs.length
 · refine .inr ⟨⟨xs,xs[i],hq,by simp [hlt]⟩,by omega,fun ac σ2 H2=>(∃ u v,σ2=u::v::capV caps σ)∧Pv (i+1) ac H2,fun ac σ2 H2 ⟨e,p'⟩=>⟨xs.length - (i+1),by omega,rfl,hlt,e,p'⟩,fun x H2 y=>?_⟩
   obtain ⟨e,y⟩:=y
   subst e
   obtain ⟨q,u,v,rfl,hT,hst⟩:=hs i x acc _ (y xs hq) p
   have eN:∀ ac H5,((∃ u1 v1,some u::some v::capV caps σ=u1::v1::capV caps σ)∧Pv (i+1) ac H5)=Pv (i+1) ac H5:=fun ac H5=>propext ⟨And.right,fun p=>⟨⟨_,_,rfl⟩,p⟩⟩
   refine ⟨q,[u,v],rfl,hT,rfl,u,[v],rfl,v,[],rfl,rfl,?_⟩
   show tt (some u::some v::capV caps σ) _ fun b H4=>if b=true then te (some u::some v::capV caps σ) H4 fun y H5=>((∃ u1 v1,some u::some v::capV caps σ=u1::v1::capV caps σ)∧Pv (i+1) (acc++[y]) H5) else ((∃ u1 v1,some u::some v::capV caps σ=u1::v1::capV caps σ)∧Pv (i+1) acc H4)
   simp only [eN]
   exact hst
 · have e:i=xs.length:=by omega
   subst e
   exact .inl ⟨⟨xs,hq,Nat.le_refl _⟩,New.to (hd acc H' p)⟩
section
variable {σ:St} {H:Hp}{Q:VK}
theorem a74 {l:Addr}{xs:List V}{y:V}(h1:H l=some (.lst xs)) (hz:xs.length<sizeLine) (h:Q .non (upd H l (.lst (xs++[y])))):b46 (.ref l) [y] H Q:=⟨l,xs,y,rfl,rfl,h1,hz,h⟩
theorem c35 {l:Addr}{xs:List V}{y:V}(h1:H l=some (.lst (xs++[y]))) (h:Q y (upd H l (.lst xs))):rPop (.ref l) [] H Q:=⟨l,xs++[y],y,rfl,rfl,h1,by simp,by simpa using h⟩
theorem ae3 {K:PySem.W.Frag}{l:Addr}{xs:List V}{P:Prop}(h1:SqL K H l xs) (h:P):tyV K "list" (.ref l) H∧P:=⟨.inl ⟨rfl,xs,h1⟩,h⟩
end
def Tups (H H':Hp):Prop:=∀ b xs,H b=some (.tup xs)→H' b=some (.tup xs)
theorem Same.tups {H H':Hp}(s:Same H H'):Tups H H':=fun b xs h=>s b _ h
theorem vac {P:Program}{w:World}{K:PySem.W.Frag}{mg:Str→Option Value}{base:Heap}{CX:CXT}{k:Nat}{f:Addr}{fd:FuncData}{ps:List Str}{sp:Sp}(h:∀ vs H Q E,¬ sp vs H Q E):FnOk P w K mg base CX k f fd ps sp :=
 ⟨fun vs H Q E q=>(h _ _ _ _ q).elim,fun A outer s H args us vs Q E _ _ _ _ q=>(h _ _ _ _ q).elim⟩
end L2
namespace L2
open PySem
theorem Same.updNew {H H1:Hp}{l:Addr}{o:HO}(s:Same H H1) (h:H l=none):Same H (upd H1 l o):=fun b u e=>by rw [a48 (a50 e h)]; exact s b u e
inductive Ex where
 | num (i:Int)
 | box (n:Str)
 | two (k:Bool) (a b:Ex)
def bw6 (k:Bool):Str:=if k then "plus" else "less"
end L2
namespace L2
open PySem PySem.Spec PyProof.Rows
inductive Cd where
 | cmp (k:Bool) (a b:Ex)
 | nt (c:Cd)
 | both (c d:Cd)
def bw7 (k:Bool):Str:=if k then "same" else "under"
end L2
namespace L2
open PySem
def pick (ys ws:List Str):List Str:=ws.filter fun w=>decide (w∈ys)
theorem bd8 (w:Str) (ys:List Str):inV (.str w) (a33 ys)=decide (w∈ys):=by
 unfold inV a33
 rw [List.any_map,Bool.eq_iff_iff,List.any_eq_true,decide_eq_true_iff]
 constructor
 · rintro ⟨y,hy,e⟩
   have:(y == w)=true:=e
   have:y=w:=by simpa using this
   exact this ▸ hy
 · intro h
   exact ⟨w,h,by show (w == w)=true; simp⟩
theorem b60 (ys:List Str):(a33 ys).all ah8=true:=by simp [a33,ah8]
end L2
namespace L2
open PySem PySem.Spec PyProof.Rows
theorem pick_snoc {ys ws:List Str}{i:Nat}{w:Str}(e:ws[i]?=some w):pick ys (ws.take (i+1))=pick ys (ws.take i)++(if w∈ys then [w] else []):=by
 unfold pick
 rw [List.take_add_one,e,List.filter_append]
 by_cases h:w∈ys <;> simp [h]
end L2
namespace L2
open PySem
inductive Tr where
 | non
 | int (i:Int)
 | str (s:Str)
 | tup (xs:List Tr)
 | lst (xs:List Tr)
mutual
def Tr.At (H:Hp):Tr→V→List Addr→Prop
 | .non,v,fs=>v=.non∧fs=[]
 | .int i,v,fs=>v=.int i∧fs=[]
 | .str s,v,fs=>v=.str s∧fs=[]
 | .tup xs,v,fs=>∃ a vs,v=.ref a∧H a=some (.tup vs)∧Tr.Ats H xs vs fs
 | .lst xs,v,fs=>∃ a vs gs,v=.ref a∧H a=some (.lst vs)∧Tr.Ats H xs vs gs∧fs=a::gs
def Tr.Ats (H:Hp):List Tr→List V→List Addr→Prop
 | [],vs,fs=>vs=[]∧fs=[]
 | x::xs,vs,fs=>∃ v ws f g,vs=v::ws∧fs=f++g∧Tr.At H x v f∧Tr.Ats H xs ws g
end
def Keep (fs:List Addr) (H H':Hp):Prop:=Tups H H'∧∀ a∈fs,∀ xs,H a=some (.lst xs)→H' a=some (.lst xs)
theorem Same.keep {H H':Hp}(s:Same H H') (fs:List Addr):Keep fs H H':=⟨s.tups,fun a _ xs h=>s a _ h⟩
theorem Keep.sub {fs gs:List Addr}{H H':Hp}(k:Keep fs H H') (h:∀ a∈gs,a∈fs):Keep gs H H':=⟨k.1,fun a m=>k.2 a (h a m)⟩
mutual
theorem Tr.At.mono {H H':Hp}:∀ {x:Tr}{v:V}{fs:List Addr},x.At H v fs→Keep fs H H'→x.At H' v fs
 | .non,_,_,h,_=>by simpa only [Tr.At] using h
 | .int _,_,_,h,_=>by simpa only [Tr.At] using h
 | .str _,_,_,h,_=>by simpa only [Tr.At] using h
 | .tup xs,v,fs,h,k=>by
   simp only [Tr.At] at h ⊢
   obtain ⟨a,vs,e,g,r⟩:=h
   exact ⟨a,vs,e,k.1 _ _ g,Tr.Ats.mono r k⟩
 | .lst xs,v,fs,h,k=>by
   simp only [Tr.At] at h ⊢
   obtain ⟨a,vs,gs,e,g,r,rfl⟩:=h
   exact ⟨a,vs,gs,e,k.2 _ (by simp) _ g,Tr.Ats.mono r (k.sub fun b m=>by simp [m]),rfl⟩
theorem Tr.Ats.mono {H H':Hp}:∀ {xs:List Tr}{vs:List V}{fs:List Addr},Tr.Ats H xs vs fs→Keep fs H H'→Tr.Ats H' xs vs fs
 | [],_,_,h,_=>by simpa only [Tr.Ats] using h
 | x::xs,vs,fs,h,k=>by
   simp only [Tr.Ats] at h ⊢
   obtain ⟨v,ws,f,g,e,rfl,a,b⟩:=h
   exact ⟨v,ws,f,g,e,rfl,Tr.At.mono a (k.sub fun c m=>by simp [m]),Tr.Ats.mono b (k.sub fun c m=>by simp [m])⟩
end
end L2
namespace L2
open PySem PySem.Spec PyProof.Rows
mutual
def Tr.h:Tr→Nat
 | .non=>0
 | .int _=>0
 | .str _=>0
 | .tup xs=>Tr.hs xs+1
 | .lst xs=>Tr.hs xs+1
def Tr.hs:List Tr→Nat
 | []=>0
 | x::xs=>max x.h (Tr.hs xs)
end
theorem ad4 (A:Around):A.in1.units=A.units+1:=rfl
section
variable {X:Cx}{pins:List (Addr×Obj)}{σ:St} {H:Hp}{s:Shared}
end
theorem am3 {it l:Addr}{items:Array Value}{h h':Heap}(hl:h.IsList l items) (e:Heap.ExtBut it h h') (hne:l≠it):h'.IsList l items:=by
 obtain ⟨o,ho,r⟩:=hl
 exact ⟨o,e l o hne ho,r⟩
section
variable {prog:Program}{w:World}{A:Around}{E:Value→Shared→Prop}
theorem as1 {it l:Addr}{items:Array Value}(hne:l≠it):∀ (n i:Nat) (s:Shared) (Q:List Value→Shared→Prop),s.heap.IsListIter it l i→s.heap.IsList l items→i+n≤items.size →
 (∀ h',h'.IsListIter it l (i+n)→Heap.SameBut it s.heap h'→Q ((items.toList.drop i).take n) { s with heap:=h' })→wpAny (model prog w) A (draw (.ref it) n) Q E s
 | 0,i,s,Q,hit,_,_,hQ=>by
   show wpAny _ _ (pure []) Q E s
   exact wpAny_pure (by simpa using hQ s.heap hit (Heap.SameBut.refl ..))
 | n+1,i,s,Q,hit,ht,hle,hQ=>by
   have hlt:i<items.size:=by omega
   show wpAny _ _ (pyNext (.ref it) >>= _) Q E s
   refine wpAny_bind (wpAny_pyNext_list_item hit ht (x:=items[i]) (by simp [hlt]) fun h1 hit1 hs1=>?_)
   refine wpAny_bind (wpAny_holding (as1 hne n (i+1) _ _ hit1 (am3 ht hs1.extBut hne) (by omega) fun h2 hit2 hs2=>wpAny_pure ?_))
   have hd:items.toList.drop i=items[i]::items.toList.drop (i+1):=by simp [List.drop_eq_getElem_cons,hlt]
   have:=hQ h2 (by rw [show i+(n+1)=i+1+n by omega]; exact hit2) (hs1.trans hs2)
   rw [hd,List.take_succ_cons] at this
   exact this
theorem ah9 {s:Shared}{l:Addr}{items:Array Value}{Q:List Value→Shared→Prop}(hh:A.handled=none) (ht:s.heap.IsList l items)
 (hQ:∀ h',Heap.ExtBut s.heap.objs.size s.heap h'→Q items.toList { s with heap:=h' }):wpAny (model prog w) A (unpackItems (.ref l) items.size none) Q E s:=by
 have hlt:l≠s.heap.objs.size:=by obtain ⟨o,ho,_⟩:=ht; exact Nat.ne_of_lt (Heap.lt_size ho)
 unfold unpackItems
 refine wpAny_bind ?_
 unfold notIterableAtAll
 refine wpAny_bind (wpAny_specialOf ht.typeIs slot_list_iter.lookup ?_)
 refine wpAny_pure ?_
 simp only [Bool.false_eq_true,if_false]
 refine wpAny_bind (wpAny_holding (wpAny_pyIter_list ht ?_))
 have hp:(s.heap.push { cls:=.type "list_iterator",data:=.fields #[.ref l,.int 0 0] }).IsList l items:=by
  obtain ⟨o,ho,r⟩:=ht
  exact ⟨o,Heap.get?_push_of_some _ ho,r⟩
 refine wpAny_bind (wpAny_holding (as1 hlt items.size 0 _ _ ⟨_,Heap.get?_push_size _ rfl,rfl,rfl⟩ hp (by omega) fun h1 hit1 hs1=>?_))
 have hall:List.take items.size (List.drop 0 items.toList)=items.toList:=by
  rw [List.drop_zero]; exact List.take_of_length_le (by simp)
 rw [hall,if_neg (by simp)]
 refine wpAny_bind (wpAny_holding (wpAny_pyNext_list_end hh hit1 (am3 hp hs1.extBut hlt) (by simp) fun h2 he2=>?_))
 simp only [Option.isSome_none,Bool.false_eq_true,if_false]
 exact wpAny_pure (hQ h2 fun b o hb e=>he2 b o hb (hs1.extBut b o hb (Heap.get?_push_of_some _ e)))
end
section
variable {X:Cx}{pos:Pos}
def gLst (K:PySem.W.Frag) (n:Nat) (t:TGs):TG:=fun v σ H Q=>∃ a xs,v=.ref a∧SqL K H a xs∧xs.length=n∧t xs σ H Q
theorem ag8 (K:PySem.W.Frag) {es:List Expr}{k:Nat}{t:TGs}{n:Nat}(hc:X.calm=true) (h:PGs X es t) (hn:(assignEach es X.env).length=n:=by rfl) (hst:(assignEach es X.env).findIdx? (·.1)=none:=by rfl) (hK:X.K=K:=by rfl) :
 PG X (.Tuple es k pos) (gLst K n t):=by
 subst hK
 intro pins s σ H v u Q I r hw
 obtain ⟨a,xs,e1,hq,hl,hw⟩:=hw
 subst e1
 cases r
 obtain ⟨its,rv,ht,hz⟩:=I.list hq
 rw [PySem.arm_assign_Tuple]
 refine wpAny_bind (wpAny_standAt ?_)
 unfold unpack
 rw [hst,show (assignEach es X.env).length=its.toArray.size by simp [hn,←hl,rv.length]]
 refine wpAny_bind (wpAny_holding (ah9 (I.ok.hd hc) ht.isList fun h' hx=>?_))
 have I1:Inv X pins σ H { s with heap:=h' }:=I.kept (t':=s.toks) fun b o e=>hx b o (Nat.ne_of_lt (Heap.lt_size e)) e
 exact h pins _ σ H xs _ Q I1 (by simpa using rv) hw
theorem am4 {K:PySem.W.Frag}{σ:St} {H:Hp}{QS:St→Hp→Prop}{n:Nat}{ts:TGs}{a:Addr}{xs:List V}(h1:SqL K H a xs) (h2:xs.length=n) (h:ts xs σ H QS):gLst K n ts (.ref a) σ H QS:=⟨a,xs,rfl,h1,h2,h⟩
end
inductive Pt where
 | s (z:Str)
 | i (n:Int)
def Pt.v:Pt→V
 | .s z=>.str z
 | .i n=>.int n
theorem ao1 {H:Hp}{Q:VK}{l b:Addr}{xs zs:List V}(h1:H l=some (.lst xs)) (h2:H b=some (.lst zs)) (hz:xs.length+zs.length≤sizeLine) (h:Q .non (upd H l (.lst (xs++zs)))):b47 (.ref l) [.ref b] H Q:=⟨l,b,xs,zs,rfl,rfl,h1,h2,hz,h⟩
end L2
namespace L2
open PySem
def Pt.tr:Pt→Tr
 | .s z=>.str z
 | .i n=>.int n
def Ex.tr:Ex→Tr
 | .num i=>.tup [.str "number",.int i]
 | .box n=>.tup [.str "box",.str n]
 | .two k a b=>.tup [.str (bw6 k),a.tr,b.tr]
def Cd.tr:Cd→Tr
 | .cmp k a b=>.tup [.str (bw7 k),a.tr,b.tr]
 | .nt c=>.tup [.str "not",c.tr]
 | .both c d=>.tup [.str "both",c.tr,d.tr]
mutual
inductive Stm where
 | plain (ps:List Pt)
 | put (n:Str) (e:Ex)
 | loop (b:List Stm)
 | wait (n:Int) (bs:List Br)
 | test (c:Cd) (a b:List Stm)
inductive Br where
 | mk (p:List Pt) (b:List Stm)
end
mutual
def Stm.tr:Stm→Tr
 | .plain ps=>.tup (ps.map Pt.tr)
 | .put n e=>.tup [.str "put",.str n,e.tr]
 | .loop b=>.tup [.str "loop",.lst (Stm.trs b)]
 | .wait n bs=>.tup [.str "wait",.int n,.lst (Br.trs bs)]
 | .test c a b=>.tup [.str "test",c.tr,.lst (Stm.trs a),.lst (Stm.trs b)]
def Br.tr:Br→Tr
 | .mk p b=>.tup [.tup (p.map Pt.tr),.lst (Stm.trs b)]
def Stm.trs:List Stm→List Tr
 | []=>[]
 | s::r=>s.tr::Stm.trs r
def Br.trs:List Br→List Tr
 | []=>[]
 | s::r=>s.tr::Br.trs r
end
section
variable {H:Hp}{v:V}{fs:List Addr}
end
section
variable {H:Hp}{v:V}{fs:List Addr}
end
end L2
namespace L2
open PySem PySem.Spec PyProof.Rows
section
variable {X:Cx}
end
end L2
namespace L2
def c36 (ws:List (Option Nat)) (n:Nat):List Nat:=(List.range n).filter fun i=>decide (ws[i]?=some none)
def kept (ws:List (Option Nat)):List Nat:=c36 ws ws.length
end L2
namespace L2
open PySem
section
variable {prog:Program}{w:World}{K:Type} [DecidableEq K] {knd:KeyKind prog w K}{A:Around}{E:Value→Shared→Prop}{s:Shared}
theorem ag0:plainId "dict.update.loop"=true:=by decide +kernel
theorem as2:entryFor table "dict.update.loop"=some Builtin.«dict.update.loop»:=entryFor_of_fast (by kernel_rfl)
theorem b61:typeLookup (.type "list") "keys"=pure none:=am_miss_of_fast (by decide +kernel)
theorem getAttr?_miss_list {a:Addr}{o:Obj}{xs:Array Value}{k:Nat}{name:Str}{Q:Option Value→Shared→Prop}
 (hx:s.heap.get? a=some o) (hc:o.cls=.type "list") (hdat:o.data=.seq xs k) (hd:o.dict=none) (hmiss:typeLookup (.type "list") name=pure none) (hname:(["__module__","__name__","__qualname__","__doc__","__annotations__"]:List Str).contains name=false) (hA:A.handled=none)
 (h:∀ h' tk,(∀ b o,s.heap.get? b=some o→h'.get? b=some o)→Q none { s with heap:=h',toks:=tk }) (hsz:name.length+100≤sizeLine:=by size_fits) :
 wpAny (model prog w) A (getAttr? (.ref a) name) Q E s:=by
 obtain ⟨c,dct,dat,sl⟩:=o
 simp only at hc hdat hd
 subst hc hdat hd
 obtain ⟨hp,g,d,tk,os⟩:=s
 have hT:∀ tk',(⟨hp,g,d,tk',os⟩:Shared).TypeIs (.ref a) "list":=fun _=>⟨_,hx,rfl⟩
 have f1:=sub_AttributeError
 have f3:=F.slot_list_getattribute.lookup
 have f4:=F.slot_list_getattribute.bind (.ref a)
 have f5:=am_list_getattr_none
 unfold getAttr? getAttrBy? getAttrBy
 repeat (any_goals (first | assumption | exact hT _ | ((with_reducible show wpAny _ _ (call (Value.builtin "list.__getattribute__") _ _) _ _ _); refine call_meets F.slot_list_getattribute (hT _) am_entry_list_getattribute (F.args_list_getattribute_2 _ _) (meets_getattribute_miss_list a xs k sl name _ hmiss hname hsz) ⟨hx,hA,fun h' tk' e hx'=>?_⟩) | wp_step))
 obtain ⟨t',u',he⟩:=hx'.there
 show wpAny _ _ (getattributeRaised _ _ _ _ _ _ _) _ _ _
 unfold getattributeRaised
 repeat (any_goals (first | assumption | wp_step))
 exact h _ _ hx'.keeps
end
section
variable {prog:Program}{w:World}{K:Type} [DecidableEq K] {knd:KeyKind prog w K}{A:Around}{E:Value→Shared→Prop}{s:Shared}
def PairsAt (knd:KeyKind prog w K) (h:Heap) (items:Array Value) (ps:List (K×Value)) (no:List Addr):Prop :=
 ps.length=items.size∧∀ (j:Nat) (x:Value),items[j]?=some x→∃ T k key v,x=.ref T∧T∉no∧h.IsTuple T #[key,v]∧knd.is k key=true∧ps[j]?=some (k,v)
theorem PairsAt.mono {h h':Heap}{items:Array Value}{ps:List (K×Value)}{no:List Addr}(p:PairsAt knd h items ps no) (k:∀ b o,b∉no→h.get? b=some o→h'.get? b=some o):PairsAt knd h' items ps no :=
 ⟨p.1,fun j x e=>by
  obtain ⟨T,k1,key,v,h1,h2,⟨o,h3,h3'⟩,h4,h5⟩:=p.2 j x e
  exact ⟨T,k1,key,v,h1,h2,⟨o,k T o h2 h3,h3'⟩,h4,h5⟩⟩
theorem av8 {R:Result→Shared→Prop}{d it l:Addr}{items:Array Value}{ps:List (K×Value)}{res:Value}(hdi:d≠it) (hli:l≠it) (hld:l≠d) (hA:A.handled=none) :
 ∀ (n i:Nat) (s:Shared) (kvs:List (K×Value)),items.size - i=n→i≤items.size→s.heap.IsListIter it l i→s.heap.IsList l items→s.heap.DictOf knd d kvs→kvs.length+n≤sizeLine→PairsAt knd s.heap items ps [d,it] →
 (∀ h' tk,h'.DictOf knd d (merged kvs (ps.drop i))→(∀ b o,b≠d→b≠it→s.heap.get? b=some o→h'.get? b=some o)→R (.ok (.ret res)) { s with heap:=h',toks:=tk }) →
 codeAny (model prog w) A (.builtin "dict.update.loop" ⟨[.ref d,.ref it,rawInt i,res],[]⟩) R s:=by
 intro n
 induction n with
 | zero =>
   intro i s kvs hn hi hit hl hd hz hp hR
   have e:i=items.size:=by omega
   subst e
   refine codeAny_builtin as2 ?_
   rw [Around.under_plainId ag0 _]
   show wpAny _ A.in1 (pyNext (.ref it) >>= _) _ _ s
   refine wpAny_bind (wpAny_pyNext_list_end (by exact hA) hit hl (Array.getElem?_eq_none (Nat.le_refl _)) fun h' hx=>?_)
   show wpAny _ _ (Builtin.Dict.addKeywords d [] >>= _) _ _ _
   refine wpAny_bind (wpAny_pure (wpAny_pure ?_))
   refine hR h' s.toks ?_ fun b o _ h2 e=>hx b o h2 e
   rw [List.drop_of_length_le (Nat.le_of_eq hp.1)]
   exact hd.extBut hx hdi
 | succ n ih =>
   intro i s kvs hn hi hit hl hd hz hp hR
   have hlt:i<items.size:=by omega
   obtain ⟨T,k,key,v,e1,e2,hT,hk,hv⟩:=hp.2 i items[i] (by simp [hlt])
   refine codeAny_builtin as2 ?_
   rw [Around.under_plainId ag0 _]
   show wpAny _ A.in1 (pyNext (.ref it) >>= _) _ _ s
   refine wpAny_bind (wpAny_pyNext_list_item hit hl (x:=items[i]) (by simp [hlt]) fun h1 hit1 hs1=>?_)
   rw [e1]
   have hTd:T≠d:=fun z=>e2 (by simp [z])
   have hTi:T≠it:=fun z=>e2 (by simp [z])
   obtain ⟨oT,hoT,cT,nT,dT⟩:=hT
   have hoT1:h1.get? T=some oT:=(hs1.2 T hTi).trans hoT
   have tT:({ s with heap:=h1 }:Shared).TypeIs (.ref T) "tuple":=⟨oT,hoT1,cT⟩
   show wpAny _ _ (holding [Value.ref T] _ >>= _) _ _ _
   refine wpAny_bind (wpAny_holding ?_)
   refine wpAny_bind (wpAny_tryCatch ?_)
   unfold Builtin.Dict.pairItems
   refine wpAny_bind (wpAny_typeOf tT ?_)
   rw [if_pos (by decide)]
   refine wpAny_bind (wpAny_seqItems hoT1 dT (wpAny_pure ?_))
   show wpAny _ _ (holding [key,v] (dictSet d key v)) _ _ _
   refine wpAny_holding ?_
   have hd1:h1.DictOf knd d kvs:=hd.sameBut hs1 hdi
   refine wpAny_dictSet_pairs (hsz:=by omega) hk hd1 fun h2 hd2 hs2=>?_
   refine wpAny_pure ⟨plainId_quiet ag0 _,?_⟩
   have kp:∀ b o,b≠d→b≠it→s.heap.get? b=some o→h2.get? b=some o:=fun b o hb1 hb2 e=>(hs2.2 b hb1).trans ((hs1.2 b hb2).trans e)
   have hit2:h2.IsListIter it l (i+1):=let ⟨o,e,r⟩:=hit1; ⟨o,(hs2.2 it (Ne.symm hdi)).trans e,r⟩
   have hl2:h2.IsList l items:=let ⟨o,e,r⟩:=hl; ⟨o,kp l o hld hli e,r⟩
   have:=ih (i+1) { s with heap:=h2,toks:=s.toks+1 } (stored kvs k v) (by omega) (by omega) hit2 hl2 hd2 (by have:=stored_length_le kvs k v; omega) (hp.mono fun b o hb e=>kp b o (fun z=>hb (by simp [z])) (fun z=>hb (by simp [z])) e) (fun h' tk hd' kp'=>?_)
   · exact this
   · refine hR h' tk ?_ fun b o h3 h4 e=>kp' b o h3 h4 (kp b o h3 h4 e)
     have hdr:ps.drop i=(k,v)::ps.drop (i+1):=by
      obtain ⟨hj,ej⟩:=List.getElem?_eq_some_iff.mp hv
      rw [List.drop_eq_getElem_cons hj,ej]
     rw [hdr]
     exact hd'
theorem aj9 {l:Addr}{o:Obj}{items:Array Value}{n:Nat}{ps:List (K×Value)}{Q:Value→Shared→Prop}(ho:s.heap.get? l=some o) (hc:o.cls=.type "list") (hd:o.dict=none) (hdat:o.data=.seq items n)
 (hA:A.handled=none) (hp:PairsAt knd s.heap items ps []) (hz:items.size≤sizeLine)
 (h:∀ h' tk,h'.DictOf knd s.heap.objs.size (merged [] ps)→(∀ b o,s.heap.get? b=some o→h'.get? b=some o)→Q (.ref s.heap.objs.size) { s with heap:=h',toks:=tk }) :
 wpAny (model prog w) A (call (.type "dict") [.ref l]) Q E s:=by
 refine callType_codes (Q₁:=fun obj s₁=>obj=.ref s.heap.objs.size∧s₁={ s with heap:=s.heap.push { cls:=.type "dict",data:=.dict #[] } }) F.kt_called_dict (F.kt_typeCall_dict_1 _) F.entry_dict_init (kt_code_dict_new _ ⟨rfl,rfl⟩) ?_
 rintro obj s₁ ⟨rfl,rfl⟩
 have hnew:(s.heap.push { cls:=.type "dict",data:=.dict #[] }).DictOf knd s.heap.objs.size []:=Heap.DictOf.new s.heap
 have hlt:=Heap.lt_size ho
 have ho':(s.heap.push { cls:=.type "dict",data:=.dict #[] }).get? l=some o:=Heap.get?_push_of_some _ ho
 refine ⟨hnew.typeIs,F.args_dict_init_2 _ _,?_⟩
 unfold Builtin.«dict.__init__»
 refine wpAny_bind ?_
 unfold Builtin.Dict.selfAndRest
 refine wpAny_bind (wpAny_notOrdered_dict hnew.typeIs ?_)
 show wpAny _ _ (pure (s.heap.objs.size,[Value.ref l])) _ _ _
 refine wpAny_pure ?_
 show wpAny _ _ (Builtin.Dict.updateFrom "dict.__init__" s.heap.objs.size (.ref l) [] .none) _ _ _
 unfold Builtin.Dict.updateFrom
 refine wpAny_bind (wpAny_typeOf (T:="list") ⟨o,ho',hc⟩ ?_)
 rw [if_pos (by decide)]
 refine wpAny_bind (getAttr?_miss_list ho' hc hdat hd b61 (by decide) (by exact hA) fun h1 tk1 k1=>?_)
 show wpAny _ _ (rule _ >>= _) _ _ _
 refine wpAny_bind (wpAny_rule ?_)
 have k0:∀ b q,s.heap.get? b=some q→h1.get? b=some q:=fun b q e=>k1 b q (Heap.get?_push_of_some _ e)
 have hl1:h1.IsList l items:=⟨o,k0 l o ho,hc,n,hdat⟩
 refine wpAny_bind (wpAny_pyIter_list hl1 (wpAny_pure ⟨plainId_quiet ag0 _,?_⟩))
 have hd1:h1.DictOf knd s.heap.objs.size []:=by
  obtain ⟨q,es,ep,e1,e2,e3⟩:=hnew
  exact ⟨q,es,ep,k1 _ _ e1,e2,e3⟩
 have hds:s.heap.objs.size<h1.objs.size:=by
  obtain ⟨q,es,ep,e1,_⟩:=hd1
  exact Heap.lt_size e1
 have hl1s:l<h1.objs.size:=Heap.lt_size (k0 l o ho)
 refine av8 (knd:=knd) (items:=items) (ps:=ps) (d:=s.heap.objs.size) (it:=h1.objs.size) (l:=l) (Nat.ne_of_lt hds) (Nat.ne_of_lt hl1s) (Nat.ne_of_lt hlt) (by exact hA) items.size 0 _ [] (by omega) (Nat.zero_le _) ⟨_,Heap.get?_push_size _ rfl,rfl,rfl⟩ (hl1.push _) (hd1.push _) (by simpa using hz) ⟨hp.1,fun j x e=>?_⟩ fun h' tk hd' kp=>?_
 · obtain ⟨T,k,key,v,e1,_,⟨oT,e2,e3⟩,e4,e5⟩:=hp.2 j x e
   refine ⟨T,k,key,v,e1,?_,⟨oT,Heap.get?_push_of_some _ (k0 _ _ e2),e3⟩,e4,e5⟩
   have h1:=Heap.lt_size e2
   have h2:=Heap.lt_size (k0 _ _ e2)
   simp only [List.mem_cons,List.not_mem_nil,or_false,not_or]
   exact ⟨Nat.ne_of_lt h1,Nat.ne_of_lt h2⟩
 · exact ⟨rfl,h h' tk hd' fun b q e=>kp b q (Nat.ne_of_lt (Heap.lt_size e)) (Nat.ne_of_lt (Heap.lt_size (k0 _ _ e))) (Heap.get?_push_of_some _ (k0 b q e))⟩
end
end L2
namespace L2
open PySem PySem.Spec PyProof.Rows
section
variable {X:Cx}{pins:List (Addr×Obj)}{σ:St} {H:Hp}{s:Shared}
theorem Inv.turnedL {t':Nat}{h':Heap}{ch:List Addr}(I:Inv X pins σ H s) (k:∀ b o,b∉ch→s.heap.get? b=some o→h'.get? b=some o) (hf:∀ b∈ch,FpOk X pins H b):Inv X pins σ H { s with heap:=h',toks:=t' }:=by
 have nit:∀ b u,H b=some u→b∉ch:=fun b u e z=>by rw [(hf b z).1] at e; cases e
 refine I.step (g':=s.gens) (d':=s.drawn) (ch:=ch) (fun b hb=>⟨(hf b hb).2.2.2.1,(hf b hb).2.1,(hf b hb).2.2.2.2.1,(hf b hb).2.2.2.2.2⟩) (fun b o _ _ hc e _=>k b o hc e) (fun b o _ _ hc e _=>⟨o.slots,k b o hc e⟩) (fun _ _ _ _ n=>n)
  (fun b o hc e=>⟨o,k b o hc e⟩) (fun _ _ e=>e) (fun _ _ _ e=>e) (fun b ps e=>⟨#[],by rw [e]; simp⟩) (fun m hm=>?_) (fun b u e=>?_) I.bare
 · obtain ⟨o,es,ep,ho,r⟩:=hm
   exact ⟨o,es,ep,k _ o (fun z=>(hf _ z).2.1 rfl) ho,r⟩
 · refine (I.hok b u e).stay (fun c v hc q=>k c v ?_ q) (fun _ q=>q) fun _ _ q=>q
   rcases hc with z | z
   · rw [z]; exact nit b u e
   · exact nit c _ z
end
def Ite (K:PySem.W.Frag) (a:Addr):It :=
 ⟨fun i H=>∃ xs x,SqL K H a xs∧xs[i]?=some x,fun i H v H'=>∃ p y,v=.ref p∧H p=none∧Same H H'∧H' p=some (.tup [.int (i:Nat),y])∧∀ xs,SqL K H a xs→xs[i]?=some y,fun i H=>∃ xs,SqL K H a xs∧xs.length≤i⟩
theorem b62 {P:Program}{w:World}{K:PySem.W.Frag}{elts:List Expr}{x1:Nat}{pos:Pos}(a e it:Addr) (hne:e≠it) :
 Turn P w K (.Tuple elts x1 pos) (Ite K a) [e,it] e (fun i h=>(∃ old,IsEnum h e it (i:Nat) old)∧h.IsListIter it a i) where
 mem:=by simp
 obj:=fun i h st b hb=>by
  obtain ⟨⟨old,he⟩,o,e2,c,d⟩:=st
  rcases (by simpa using hb:b=e∨b=it) with rfl | rfl
  · exact ⟨_,he,fun v z=>by cases z⟩
  · exact ⟨o,e2,fun v z=>by rw [d] at z; cases z⟩
 keep:=fun i h h' st k=>⟨let ⟨old,he⟩:=st.1; ⟨old,k e (by simp) _ he⟩,st.2.at fun o x=>k it (by simp) o x⟩
 item:=by
  intro X hP hw hK hc i pins s σ H E I hf st hg
  subst hP hw hK
  obtain ⟨xs,x,hq,hx⟩:=hg
  obtain ⟨its,rv,p,hz⟩:=I.list hq
  obtain ⟨u,hu,ru⟩:=rv.get hx
  obtain ⟨⟨old,he⟩,hit⟩:=st
  have helt:e<s.heap.objs.size:=Heap.lt_size he
  have hilt:it<s.heap.objs.size:=by obtain ⟨_,q,_⟩:=hit; exact Heap.lt_size q
  refine wpAny_pyNext_enum_item he hit p.isList (x:=u) (by simpa using hu) hne fun h' ho hit' hT hsz hk=>?_
  have fr:H s.heap.objs.size=none:=I.hok.fresh (Nat.le_refl _)
  have I1:Inv X pins σ H { s with heap:=h',toks:=s.toks+1 }:=I.turnedL (ch:=[e,it]) (fun b o hb q=>hk b o (fun z=>hb (by simp [z])) (fun z=>hb (by simp [z])) q) hf
  have I2:Inv X pins σ (upd H s.heap.objs.size (.tup [.int (i:Nat),x])) { s with heap:=h',toks:=s.toks+1 }:=I1.adopt (o:=.tup [.int (i:Nat),x]) fr I.sz (Nat.ne_of_gt I.lt) (fun y c ec z=>by
   obtain ⟨v,q⟩:=I.cell y c ec
   exact absurd q.lt (by rw [z]; exact Nat.lt_irrefl _)) (fun q hq z=>absurd (Heap.lt_size (I.pin q hq).1) (by rw [z]; exact Nat.lt_irrefl _))
   ⟨le_line (by simp),[.int (i:Nat) s.toks,u],.cons ⟨_,rfl⟩ (.cons ru .nil),⟨_,hT,rfl,_,rfl⟩⟩
  have ne:∀ b∈[e,it],b≠s.heap.objs.size:=fun b hb=>by
   rcases (by simpa using hb:b=e∨b=it) with rfl | rfl
   · exact Nat.ne_of_lt helt
   · exact Nat.ne_of_lt hilt
  have hf2:∀ b∈[e,it],FpOk X pins (upd H s.heap.objs.size (.tup [.int (i:Nat),x])) b:=fun b hb=>⟨by rw [a48 (ne b hb)]; exact (hf b hb).1,(hf b hb).2⟩
  refine ⟨_,rfl,wpAny_letOwnedTupleGo_enum ho fun h2 he2 hs2=>⟨.ref s.heap.objs.size,_,I2.turnedL (t':=s.toks+1) (ch:=[e]) (fun b o hb q=>(hs2.2 b (fun z=>hb (by simp [z]))).trans q) (fun b hb=>hf2 b (by simp at hb; simp [hb])),rfl,⟨s.heap.objs.size,x,rfl,fr,Same.new fr,a46,fun ys hy=>by rw [I.list_inj hy hq]; exact hx⟩,⟨⟨_,by simpa using he2⟩,hit'.at fun o q=>(hs2.2 it (Ne.symm hne)).trans q⟩,fun b hb=>(hf2 b hb).1⟩⟩
 done:=by
  intro X hP hw hK hc i pins s σ H E I hf st hg
  subst hP hw hK
  obtain ⟨xs,hq,hx⟩:=hg
  obtain ⟨its,rv,p,hz⟩:=I.list hq
  obtain ⟨⟨old,he⟩,hit⟩:=st
  have hl:=rv.length
  exact wpAny_pyNext_enum_end (I.ok.hd hc) he hit p.isList (by simp; omega) fun h' eb=>⟨rfl,I.turnedL (t':=s.toks) (ch:=[it]) (fun b o hb q=>eb b o (fun z=>hb (by simp [z])) q) (fun b hb=>hf b (by simp at hb; simp [hb]))⟩
 self:=fun A i s Q E st h=>let ⟨old,he⟩:=st.1; wpAny_pyIter_enum he h
section
variable {X:Cx}{elts:List Expr}{x1:Nat}{tpos:Pos}
def bw8 (K:PySem.W.Frag) (ta:TA):TI:=fun σ H R=>ta σ H fun vs H1=>∃ a,vs=[.ref a]∧(∃ xs,SqL K H1 a xs)∧R (Ite K a) H1
theorem bm8 (K:PySem.W.Frag) {a:Expr}{ta:TA}{p pos:Pos}(hg:Gl X "enumerate") (hm:X.mg "enumerate"=none) (ha:PA X [a] ta) (hs:starEach [a] X.env=[(false,eval a X.env)]:=by rfl) (hK:X.K=K:=by rfl):PI X (.Tuple elts x1 tpos) (.Call (.Name "enumerate" p) [a] [] pos) (bw8 K ta):=by
 subst hK
 intro pins s σ H R I h
 refine Call_ (ah4 I hg hm boot_enumerate (PyProof.Rows.callWith_type1 (thn (ha pos pins s σ H _ I h) ?_) hs rfl))
 rintro us s1 ⟨vs,H1,I1,r1,q1⟩
 obtain ⟨l,e,⟨xs,hq⟩,q⟩:=q1
 subst e
 obtain ⟨u,rfl,ru⟩:=aq7 r1
 cases ru
 obtain ⟨its,rv,pl,hz⟩:=I1.list hq
 refine call_enumerate_list pl.isList fun h' he hit hsz hk=>?_
 refine wpAny_pyIter_enum he ?_
 refine ⟨s1.heap.objs.size+1,[s1.heap.objs.size+1,s1.heap.objs.size],_,_,H1,rfl,I1.kept (t':=s1.toks) hk,b62 l _ _ (Nat.succ_ne_self _),⟨⟨_,he⟩,hit⟩,fun b hb=>?_,q⟩
 have hb':s1.heap.objs.size≤b:=by
  rcases (by simpa using hb:b=s1.heap.objs.size+1∨b=s1.heap.objs.size) with rfl | rfl <;> omega
 exact I1.fpOk hb' (I1.hok.fresh hb')
theorem bw9 {K:PySem.W.Frag}{σ:St} {H:Hp}{R:It→Hp→Prop}{ts:TA}(h:ts σ H fun vs H1=>∃ a,vs=[.ref a]∧(∃ xs,SqL K H1 a xs)∧R (Ite K a) H1):bw8 K ts σ H R:=h
theorem bx0 {a:Addr}{p:Addr→Prop}(h:p a):∃ b,[V.ref a]=[V.ref b]∧p b:=⟨a,rfl,h⟩
end
inductive PrK (H:Hp):List V→List (Key×V)→Prop
 | nil:PrK H [] []
 | cons {p:Addr}{k:Key}{v:V}{vs:List V}{kvs:List (Key×V)}:H p=some (.tup [kV k,v])→PrK H vs kvs→PrK H (.ref p::vs) ((k,v)::kvs)
theorem PrK.mono {H H':Hp}(t:Tups H H') {vs:List V}{kvs:List (Key×V)}(h:PrK H vs kvs):PrK H' vs kvs:=by
 induction h with
 | nil=>exact .nil
 | cons e _ ih=>exact .cons (t _ _ e) ih
theorem PrK.snoc {H:Hp}{vs:List V}{kvs:List (Key×V)}{p:Addr}{k:Key}{v:V}(h:PrK H vs kvs) (e:H p=some (.tup [kV k,v])):PrK H (vs++[.ref p]) (kvs++[(k,v)]):=by
 induction h with
 | nil=>exact .cons e .nil
 | cons e' _ ih=>exact .cons e' ih
def bi2 (K:PySem.W.Frag):List V→Hp→VK→Prop:=fun xs H Q=>∃ l vs kvs,xs=[.ref l]∧SqL K H l vs∧PrK H vs kvs∧New H (.dK (ac7 [] kvs)) Q
section
variable {X:Cx}
theorem PrK.at_ {pins:List (Addr×Obj)}{σ:St} {H:Hp}{s:Shared}(I:Inv X pins σ H s):∀ {vs:List V}{kvs:List (Key×V)}{us:List Value},PrK H vs kvs→Vals vs us →
 ∃ ps:List (Key×Value),KV kvs ps∧ps.length=us.length∧∀ (j:Nat) (x:Value),us[j]?=some x→∃ T k key v,x=.ref T∧T∉([]:List Addr)∧s.heap.IsTuple T #[key,v]∧(a76 X.prog X.w).is k key=true∧ps[j]?=some (k,v)
 | _,_,_,.nil,r=>by
   cases r
   exact ⟨[],.nil,rfl,fun j x e=>by simp at e⟩
 | _,_,_,.cons (p:=p) (k:=k) (v:=v) e h,r=>by
   cases r with
   | cons r1 r2 =>
     cases r1
     obtain ⟨ps,h1,h2,h3⟩:=PrK.at_ I h r2
     obtain ⟨its,q1,q2,_⟩:=I.tuple (SqT.of e)
     obtain ⟨u1,u2,rfl,ra,rb⟩:=bc4 q1
     refine ⟨(k,u2)::ps,.cons ⟨rfl,rb⟩ h1,by simp [h2],fun j x ej=>?_⟩
     cases j with
     | zero =>
       simp at ej
       subst ej
       exact ⟨p,k,u1,u2,rfl,by simp,q2,bl4 ra,rfl⟩
     | succ j=>exact h3 j x (by simpa using ej)
theorem bd9 (K:PySem.W.Frag) (hh:X.calm=true:=by rfl) (hK:X.K=K:=by rfl):CallR X (.type "dict") (bi2 K):=by
 subst hK
 intro pins s σ H xs us Q I r h
 obtain ⟨l,vs,kvs,rfl,hq,hp,q⟩:=h
 obtain ⟨u,rfl,ru⟩:=aq7 r
 cases ru
 obtain ⟨its,rv,⟨o,n,e1,e2,e3,e4⟩,hz⟩:=I.list hq
 obtain ⟨ps,k1,k2,k3⟩:=PrK.at_ I hp rv
 have hl:=rv.length
 refine aj9 (knd:=a76 X.prog X.w) e1 e2 e3 e4 (I.ok.hd hh) ⟨by simpa using k2,fun j x e=>k3 j x (by simpa using e)⟩ (by simpa using hl ▸ hz) fun h' tk hd kk=>?_
 have hz2:(ac7 [] kvs).length≤sizeLine:=by
  have h1:=af6 kvs []
  have h2:kvs.length=ps.length:=k1.length
  simp only [List.length_nil] at h1
  omega
 refine ⟨.ref s.heap.objs.size,upd H s.heap.objs.size (.dK (ac7 [] kvs)),I.laid (t':=tk) kk (Nat.le_refl _) (bt4 hz2 (beq_eq_false_iff_ne.mpr (Ne.symm (Nat.ne_of_lt I.big))) (k1.merge .nil) hd),rfl,New.to q _ (I.hok.fresh (Nat.le_refl _))⟩
theorem bm9 {K:PySem.W.Frag}{H:Hp}{Q:VK}{l:Addr}{vs:List V}{kvs:List (Key×V)}(h1:SqL K H l vs) (h2:PrK H vs kvs) (h:New H (.dK (ac7 [] kvs)) Q):bi2 K [.ref l] H Q:=⟨l,vs,kvs,rfl,h1,h2,h⟩
def bx1:List V→Hp→VK→Prop:=fun xs H Q=>∃ a b:Int,xs=[.int a,.int b]∧Q (.int (min a b)) H
theorem am5 (hh:X.calm=true:=by rfl):CallR X (.builtin "min") bx1:=by
 intro pins s σ H xs us Q I r h
 obtain ⟨a,b,rfl,q⟩:=h
 obtain ⟨u,v,rfl,⟨t1,rfl⟩,⟨t2,rfl⟩⟩:=bc4 r
 refine min_two_ints (I.ok.hd hh) fun h' tk hk=>?_
 have I1:Inv X pins σ H { s with heap:=h',toks:=tk }:=I.kept hk
 by_cases c:b<a
 · rw [if_pos c]
   exact ⟨.int b,H,I1,⟨_,rfl⟩,by rw [show min a b=b by omega] at q; exact q⟩
 · rw [if_neg c]
   exact ⟨.int a,H,I1,⟨_,rfl⟩,by rw [show min a b=a by omega] at q; exact q⟩
theorem bx2 {H:Hp}{Q:VK}{a b:Int}(h:Q (.int (min a b)) H):bx1 [.int a,.int b] H Q:=⟨a,b,rfl,h⟩
theorem ay8 (x:Int):∀ ns:List Int,inV (.int x) (ns.map V.int)=decide (x∈ns)
 | []=>rfl
 | n::ns=>by
   have h:=ay8 x ns
   unfold inV at h ⊢
   rw [List.map_cons,List.any_cons,h]
   show ((n == x) || _)=_
   rw [Bool.eq_iff_iff]
   simp
   constructor
   · rintro (rfl | h)
     · exact .inl rfl
     · exact .inr h
   · rintro (rfl | h)
     · exact .inl rfl
     · exact .inr h
theorem b63 (ns:List Int):(ns.map V.int).all ah8=true:=by simp [ah8]
theorem ay9 {K:PySem.W.Frag}{H:Hp}{Q:VK}{p:Addr}{x:Int}{ns:List Int}(h1:SqL K H p (ns.map V.int)) (h:Q (.bl (!decide (x∈ns))) H):rIn K true (.int x) (.ref p) H Q:=⟨p,_,rfl,.inl h1,rfl,b63 ns,by rw [ay8]; exact h⟩
def bx3 (t u:TS):TS:=fun D σ H=>∃ R:St→Hp→Prop,t { D with nx:=R } σ H∧∀ σ' H',R σ' H'→u D σ' H'
theorem a91 {st:Stmt}{rest:List Stmt}{t u:TS}(h1:PS X st t) (h2:PSs X rest u):PSs X (st::rest) (bx3 t u):=by
 intro pins s σ H D I h
 obtain ⟨R,ha,hb⟩:=h
 refine wpAny_execs_cons (thn (h1 pins s σ H _ I ha) fun f s1 q=>?_)
 cases f with
 | next=>obtain ⟨σ1,H1,I1,q1⟩:=q; exact h2 pins s1 σ1 H1 D I1 (hb σ1 H1 q1)
 | brk=>exact q
 | cont=>exact q
 | ret v=>exact q
theorem ah6 {t u:TS}{nn bb cc:St→Hp→Prop}{rr:VK}{σ:St} {H:Hp}(R:St→Hp→Prop) (h1:t ⟨R,rr,bb,cc⟩ σ H) (h2:∀ σ' H',R σ' H'→u ⟨nn,rr,bb,cc⟩ σ' H'):bx3 t u ⟨nn,rr,bb,cc⟩ σ H:=⟨R,h1,h2⟩
theorem b64 {c:TT}{tb:TS}{nn bb cc:St→Hp→Prop}{rr:VK}{σ:St} {H:Hp}(W:Nat→St→Hp→Prop) (m:Nat) (h0:W m σ H)
 (hs:∀ m σ H,W m σ H→c σ H fun b H1=>if b=true then ∃ N:St→Hp→Prop,(∀ σ' H',N σ' H'→∃ m',m'<m∧W m' σ' H')∧tb ⟨N,rr,nn,N⟩ σ H1 else nn σ H1):bg9 c tb ⟨nn,rr,bb,cc⟩ σ H:=⟨W,⟨m,h0⟩,hs⟩
end
end L2
namespace L2
open PySem
section
variable {H:Hp}{x:Tr}{xs:List Tr}{v:V}{vs ws:List V}
theorem ats_nil0:Tr.Ats H [] vs []↔vs=[]:=by simp [Tr.Ats]
theorem ats_cons0:Tr.Ats H (x::xs) vs []↔∃ v ws,vs=v::ws∧x.At H v []∧Tr.Ats H xs ws []:=by
 simp only [Tr.Ats]
 constructor
 · rintro ⟨v,ws,f,g,h1,h2,h3,h4⟩
   obtain ⟨rfl,rfl⟩:=List.append_eq_nil_iff.mp h2.symm
   exact ⟨v,ws,h1,h3,h4⟩
 · rintro ⟨v,ws,h1,h3,h4⟩
   exact ⟨v,ws,[],[],h1,rfl,h3,h4⟩
theorem at_tup0:(Tr.tup xs).At H v []↔∃ a vs,v=.ref a∧H a=some (.tup vs)∧Tr.Ats H xs vs []:=by simp only [Tr.At]
theorem at_int0 {i:Int}:(Tr.int i).At H v []↔v=.int i:=by simp [Tr.At]
theorem at_str0 {i:Str}:(Tr.str i).At H v []↔v=.str i:=by simp [Tr.At]
end
section
variable {H:Hp}{v:V}{a:Addr}
theorem ao2 {x y:Tr}{u v:V}(e:H a=some (.tup [u,v])) (h:x.At H u []) (h2:y.At H v []):(Tr.tup [x,y]).At H (.ref a) []:=at_tup0.mpr ⟨a,_,rfl,e,ats_cons0.mpr ⟨_,_,rfl,h,ats_cons0.mpr ⟨_,_,rfl,h2,ats_nil0.mpr rfl⟩⟩⟩
theorem bi3 {i:Int}:(Tr.int i).At H (.int i) []:=at_int0.mpr rfl
theorem ag9 {i:Str}:(Tr.str i).At H (.str i) []:=at_str0.mpr rfl
end
def ae4 (l:List Nat):List V:=l.map fun k=>V.int (k:Nat)
end L2
namespace L2
open PySem PySem.Spec PyProof.Rows
section
variable {σ:St} {H:Hp}{Q:VK}{QT:Bool→Hp→Prop}{td ty tv te:TE}{nn bb cc:St→Hp→Prop}{rr:VK}
theorem i_tB (h:te σ H fun x H1=>∃ c,x=.bl c∧QT c H1):tB te σ H QT:=h
theorem c37 (h:ty σ H fun y H1=>td σ H1 fun x H2=>∃ a o,x=.ref a∧DGet H2 a y o∧Q (.bl o.isSome) H2):tDIn ty td σ H Q:=h
end
end L2
namespace L2
theorem pigeon:∀ (n:Nat) (l:List Nat),l.Nodup→(∀ k∈l,k<n)→l.length≤n
 | 0,l,_,h=>by
   cases l with
   | nil=>simp
   | cons a l=>exact absurd (h a (by simp)) (Nat.not_lt_zero _)
 | n+1,l,hn,h=>by
   by_cases hm:n∈l
   · have h1:=List.length_erase_of_mem hm
     have h2:=pigeon n (l.erase n) (hn.erase n) (fun k hk=>by
      have h3:=hn.mem_erase_iff.mp hk
      have:=h k h3.2
      have:=h3.1
      omega)
     have:0<l.length:=List.length_pos_of_mem hm
     omega
   · have:=pigeon n l hn (fun k hk=>by
      have h1:=h k hk
      have:k≠n:=fun z=>hm (z ▸ hk)
      omega)
     omega
end L2
namespace L2
open PySem PySem.Spec PyProof.Rows
section
variable {X:Cx}{σ:St} {H:Hp}{Q:VK}{QT:Bool→Hp→Prop}{td ty tv te:TE}{nn bb cc:St→Hp→Prop}{rr:VK}
end
section
variable {X:Cx}{elts:List Expr}{x1:Nat}{tpos:Pos}
end
def pl2 (k:Bool):Option Int→Option Int→Option Int
 | some x,some y=>some (if k then x+y else x - y)
 | _,_=>none
end L2
namespace L2
open PySem
end L2
namespace L2
open PySem PySem.Spec PyProof.Rows
noncomputable instance trDec:DecidableEq Tr:=fun _ _=>Classical.propDecidable _
def b65 (z:Int) (u:Value):Prop:=(∃ t,u=.int z t)∨∃ b:Bool,u=.bool b∧z=(if b=true then 1 else 0)
mutual
def Tr.In (h:Heap):Tr→Value→Prop
 | .non,u=>u=.none
 | .int z,u=>b65 z u
 | .str x,u=>∃ t,u=.str x t
 | .tup ts,u=>∃ a us,u=.ref a∧h.IsTuple a us∧Tr.Ins h ts us.toList
 | .lst _,_=>False
def Tr.Ins (h:Heap):List Tr→List Value→Prop
 | [],us=>us=[]
 | t::ts,us=>∃ u r,us=u::r∧Tr.In h t u∧Tr.Ins h ts r
end
theorem Tr.Ins.len {h:Heap}:∀ {ts:List Tr}{us:List Value},Tr.Ins h ts us→us.length=ts.length
 | [],us,e=>by simp only [Tr.Ins] at e; rw [e]; rfl
 | t::ts,us,e=>by
   simp only [Tr.Ins] at e
   obtain ⟨u,r,rfl,_,e⟩:=e
   simp [e.len]
theorem av9 {h:Heap}{a:Addr}{us vs:Array Value}(x:h.IsTuple a us) (y:h.IsTuple a vs):us=vs:=by
 obtain ⟨o,e,_,n,d⟩:=x
 obtain ⟨o',e',_,n',d'⟩:=y
 rw [e] at e'; cases e'
 rw [d] at d'
 injection d' with d1 _
mutual
theorem Tr.In.inj {h:Heap}:∀ {t r:Tr}{u:Value},Tr.In h t u→Tr.In h r u→t=r
 | .non,r,u,e,f=>by
   simp only [Tr.In] at e
   subst e
   cases r <;> simp [Tr.In,b65] at f ⊢
 | .int z,r,u,e,f=>by
   simp only [Tr.In] at e
   rcases e with ⟨t,rfl⟩ | ⟨b,rfl,rfl⟩
   · cases r <;> simp [Tr.In,b65] at f ⊢
     exact f
   · cases r <;> simp [Tr.In,b65] at f ⊢
     exact f.symm
 | .str x,r,u,e,f=>by
   simp only [Tr.In] at e
   obtain ⟨t,rfl⟩:=e
   cases r <;> simp [Tr.In,b65] at f ⊢
   exact f
 | .lst _,r,u,e,f=>e.elim
 | .tup ts,.tup rs,u,e,f=>by
   simp only [Tr.In] at e f
   obtain ⟨a,us,rfl,e2,e3⟩:=e
   obtain ⟨b,vs,hb,f2,f3⟩:=f
   cases hb
   cases av9 e2 f2
   rw [Tr.Ins.inj e3 f3]
 | .tup ts,.non,u,e,f=>by
   simp only [Tr.In] at e f
   obtain ⟨a,us,rfl,e2,e3⟩:=e
   cases f
 | .tup ts,.int _,u,e,f=>by
   simp only [Tr.In] at e f
   obtain ⟨a,us,rfl,e2,e3⟩:=e
   rcases f with ⟨_,f⟩ | ⟨_,f,_⟩ <;> cases f
 | .tup ts,.str _,u,e,f=>by
   simp only [Tr.In] at e f
   obtain ⟨a,us,rfl,e2,e3⟩:=e
   obtain ⟨_,f⟩:=f
   cases f
 | .tup ts,.lst _,u,e,f=>f.elim
theorem Tr.Ins.inj {h:Heap}:∀ {ts rs:List Tr}{us:List Value},Tr.Ins h ts us→Tr.Ins h rs us→ts=rs
 | [],rs,us,e,f=>by
   simp only [Tr.Ins] at e
   subst e
   cases rs with
   | nil=>rfl
   | cons r rs=>simp [Tr.Ins] at f
 | t::ts,rs,us,e,f=>by
   simp only [Tr.Ins] at e
   obtain ⟨u,r,rfl,e1,e2⟩:=e
   cases rs with
   | nil=>simp [Tr.Ins] at f
   | cons q qs =>
     simp only [Tr.Ins] at f
     obtain ⟨u',r',hh,f1,f2⟩:=f
     cases hh
     rw [e1.inj f1,Tr.Ins.inj e2 f2]
end
section
variable {X:Cx}{pins:List (Addr×Obj)}{σ:St} {H:Hp}{s:Shared}
end
theorem b66 {n:Nat}{e:Nat→Bool}:(List.range n).all e=true↔∀ j,j<n→e j=true:=by simp [List.all_eq_true]
theorem bx4 {ts rs:List Tr}:((List.range (min ts.length rs.length)).all (fun j=>decide (ts.getD j .non=rs.getD j .non)) && ts.length == rs.length)=decide (ts=rs):=by
 rw [Bool.eq_iff_iff,Bool.and_eq_true,b66,decide_eq_true_iff,beq_iff_eq]
 constructor
 · rintro ⟨h1,h2⟩
   refine List.ext_getElem h2 fun j h3 h4=>?_
   have:=of_decide_eq_true (h1 j (by omega))
   simpa [h3,h4] using this
 · rintro rfl
   exact ⟨fun j _=>decide_eq_true rfl,rfl⟩
section
variable {s:Shared}
mutual
theorem Tr.In.eqAt:∀ {t r:Tr}{A:Around}{u z:Value},Tr.In s.heap t u→Tr.In s.heap r z→A.units+t.h+r.h<cLine→SeqAt.EqAt A s u z (decide (t=r))
 | .non,r,A,u,z,h1,h2,hu=>by
   simp only [Tr.In] at h1
   subst h1
   cases r with
   | non =>
     simp only [Tr.In] at h2
     subst h2
     rw [decide_eq_true rfl]
     exact SeqAt.EqAt.same _
   | int i =>
     rw [decide_eq_false (by simp)]
     rcases h2 with ⟨t2,rfl⟩ | ⟨b2,rfl,rfl⟩
     · exact SeqAt.EqAt.none_int _ _
     · exact SeqAt.EqAt.none_bool _
   | str i =>
     obtain ⟨t2,rfl⟩:=h2
     rw [decide_eq_false (by simp)]
     exact SeqAt.EqAt.none_str _ _
   | tup rs =>
     simp only [Tr.In] at h2
     obtain ⟨a,us,rfl,p,_⟩:=h2
     rw [decide_eq_false (by simp)]
     exact SeqAt.EqAt.none_tuple p (by omega)
   | lst rs=>exact h2.elim
 | .int i,r,A,u,z,h1,h2,hu=>by
   cases r with
   | non =>
     simp only [Tr.In] at h2
     subst h2
     rw [decide_eq_false (by simp)]
     rcases h1 with ⟨t1,rfl⟩ | ⟨b1,rfl,rfl⟩
     · exact SeqAt.EqAt.int_none _ _
     · exact SeqAt.EqAt.bool_none _
   | int j =>
     rw [show decide (Tr.int i=Tr.int j)=(i == j) from Bool.eq_iff_iff.mpr (by simp)]
     rcases h1 with ⟨t1,rfl⟩ | ⟨b1,rfl,rfl⟩
     · rcases h2 with ⟨t2,rfl⟩ | ⟨b2,rfl,rfl⟩
       · exact SeqAt.EqAt.int_int _ _ _ _
       · exact SeqAt.EqAt.int_bool _ _ _
     · rcases h2 with ⟨t2,rfl⟩ | ⟨b2,rfl,rfl⟩
       · exact SeqAt.EqAt.bool_int _ _ _
       · have:=SeqAt.EqAt.bool_bool (A:=A) (s:=s) b1 b2
         cases b1 <;> cases b2 <;> exact this
   | str j =>
     obtain ⟨t2,rfl⟩:=h2
     rw [decide_eq_false (by simp)]
     rcases h1 with ⟨t1,rfl⟩ | ⟨b1,rfl,rfl⟩
     · exact SeqAt.EqAt.int_str _ _ _ _
     · exact SeqAt.EqAt.bool_str _ _ _
   | tup rs =>
     simp only [Tr.In] at h2
     obtain ⟨a,us,rfl,p,_⟩:=h2
     rw [decide_eq_false (by simp)]
     rcases h1 with ⟨t1,rfl⟩ | ⟨b1,rfl,rfl⟩
     · exact SeqAt.EqAt.int_tuple _ _ p (by omega)
     · exact SeqAt.EqAt.bool_tuple _ p (by omega)
   | lst rs=>exact h2.elim
 | .str i,r,A,u,z,h1,h2,hu=>by
   obtain ⟨t1,rfl⟩:=h1
   cases r with
   | non =>
     simp only [Tr.In] at h2
     subst h2
     rw [decide_eq_false (by simp)]
     exact SeqAt.EqAt.str_none _ _
   | int j =>
     rw [decide_eq_false (by simp)]
     rcases h2 with ⟨t2,rfl⟩ | ⟨b2,rfl,rfl⟩
     · exact SeqAt.EqAt.str_int _ _ _ _
     · exact SeqAt.EqAt.str_bool _ _ _
   | str j =>
     obtain ⟨t2,rfl⟩:=h2
     have:=SeqAt.EqAt.str_str (A:=A) (s:=s) i t1 j t2
     rw [show (i == j)=decide (Tr.str i=Tr.str j) from Bool.eq_iff_iff.mpr (by simp)] at this
     exact this
   | tup rs =>
     simp only [Tr.In] at h2
     obtain ⟨a,us,rfl,p,_⟩:=h2
     rw [decide_eq_false (by simp)]
     exact SeqAt.EqAt.str_tuple _ _ p (by omega)
   | lst rs=>exact h2.elim
 | .lst _,r,A,u,z,h1,h2,hu=>h1.elim
 | .tup ts,r,A,u,z,h1,h2,hu=>by
   have h1':=h1
   simp only [Tr.In] at h1
   obtain ⟨a,us,rfl,p1,c1⟩:=h1
   cases r with
   | non =>
     simp only [Tr.In] at h2
     subst h2
     rw [decide_eq_false (by simp)]
     exact SeqAt.EqAt.tuple_none p1 (by omega)
   | int j =>
     rw [decide_eq_false (by simp)]
     rcases h2 with ⟨t2,rfl⟩ | ⟨b2,rfl,rfl⟩
     · exact SeqAt.EqAt.tuple_int _ _ p1 (by omega)
     · exact SeqAt.EqAt.tuple_bool _ p1 (by omega)
   | str j =>
     obtain ⟨t2,rfl⟩:=h2
     rw [decide_eq_false (by simp)]
     exact SeqAt.EqAt.tuple_str _ _ p1 (by omega)
   | lst rs=>exact h2.elim
   | tup rs =>
     have h2':=h2
     simp only [Tr.In] at h2
     obtain ⟨b,vs,rfl,p2,c2⟩:=h2
     by_cases hab:a=b
     · subst hab
       rw [decide_eq_true (h1'.inj h2')]
       exact SeqAt.EqAt.same _
     refine SeqAt.EqAt.of_refs hab ?_
     simp only [Tr.h] at hu
     have l1:=c1.len
     have l2:=c2.len
     simp only [Array.length_toList] at l1 l2
     have:=SeqAt.RcAt.tuples (A:=A) (s:=s) (e:=fun j=>decide (ts.getD j .non=rs.getD j .non)) p1 p2 (by omega) (fun j h1 h2=>by
      have:=Tr.Ins.eqAts (A:=A.in1) c1 c2 (by rw [ad4]; omega) j (by simpa using h1) (by simpa using h2)
      simpa using this)
     rw [l1,l2,bx4] at this
     rw [show decide (Tr.tup ts=Tr.tup rs)=decide (ts=rs) from Bool.eq_iff_iff.mpr (by simp)]
     exact this
theorem Tr.Ins.eqAts:∀ {ts rs:List Tr}{A:Around}{us zs:List Value},Tr.Ins s.heap ts us→Tr.Ins s.heap rs zs→A.units+Tr.hs ts+Tr.hs rs<cLine →
 ∀ (j:Nat) (h1:j<us.length) (h2:j<zs.length),SeqAt.EqAt A s us[j] zs[j] (decide (ts.getD j .non=rs.getD j .non))
 | [],rs,A,us,zs,c1,c2,hu,j,h1,h2=>by
   simp only [Tr.Ins] at c1
   subst c1
   exact absurd h1 (by simp)
 | t::ts,[],A,us,zs,c1,c2,hu,j,h1,h2=>by
   simp only [Tr.Ins] at c2
   subst c2
   exact absurd h2 (by simp)
 | t::ts,r::rs,A,us,zs,c1,c2,hu,j,h1,h2=>by
   simp only [Tr.Ins] at c1 c2
   obtain ⟨u,us,rfl,a1,b1⟩:=c1
   obtain ⟨z,zs,rfl,a2,b2⟩:=c2
   simp only [Tr.hs] at hu
   cases j with
   | zero =>
     have:=a1.eqAt a2 (A:=A) (by omega)
     simpa using this
   | succ j =>
     have:=b1.eqAts b2 (A:=A) (by omega) j (by simpa using h1) (by simpa using h2)
     simpa using this
end
end
section
variable {prog:Program}{w:World}{E:Value→Shared→Prop}
end
section
variable {prog:Program}{w:World}{E:Value→Shared→Prop}
end
section
variable {prog:Program}{w:World}{E:Value→Shared→Prop}{A:Around}{s:Shared}{d:Addr}{o:Obj}{es:Array DictEntry}{ep:Nat}{ts:List Tr}{t:Tr}{u:Value}
end
section
variable {X:Cx}{pins:List (Addr×Obj)}{σ:St} {H:Hp}{s:Shared}{a:Addr}{t:Tr}{y v:V}{u r:Value}{A:Around}{E:Value→Shared→Prop}{kvs:List (Tr×V)}{m:List (Tr×V×V)}
end
section
variable {prog:Program}{w:World}{A:Around}{E:Value→Shared→Prop}{s:Shared}{d it:Addr}{es:Array DictEntry}{ep i:Nat}
end
theorem b67:∀ {xs:List V}{us:List Value},xs.length=us.length→(∀ (j:Nat) x u,xs[j]?=some x→us[j]?=some u→RelV x u)→Vals xs us
 | [],[],_,_=>.nil
 | x::xs,u::us,hl,h=>.cons (h 0 x u rfl rfl) (b67 (by simpa using hl) fun j y z hy hz=>h (j+1) y z (by simpa using hy) (by simpa using hz))
 | [],_::_,hl,_=>by simp at hl
 | _::_,[],hl,_=>by simp at hl
section
variable {X:Cx}{pins:List (Addr×Obj)}{σ:St} {H:Hp}{s:Shared}{a:Addr}{t:Tr}{y v z:V}{u r:Value}{A:Around}{E:Value→Shared→Prop}{kvs:List (Tr×V)}{m:List (Tr×V×V)}
end
theorem bn0 {H H':Hp}{t:Tr}{v:V}(h:t.At H v []) (k:Tups H H'):t.At H' v []:=h.mono ⟨k,fun _ m=>absurd m (by simp)⟩
section
variable {X:Cx}{o i e f value:Expr}{pos pos' apos cpos:Pos}{td ty tv tx:TE}{P:Params}
end
def rSum (K:PySem.W.Frag):List V→Hp→VK→Prop:=fun xs H Q=>∃ (a:Addr) (ns:List Int),xs=[.ref a]∧SqL K H a (ns.map V.int)∧Q (.int ns.sum) H
section
variable {X:Cx}
theorem bx5 (hc:X.calm=true):CallR X (.builtin "sum") (rSum X.K):=by
 intro pins s σ H xs us Q I r h
 obtain ⟨a,ns,rfl,hS,q⟩:=h
 cases r with
 | cons r1 r2 =>
 cases r2
 cases r1
 obtain ⟨its,v1,p1,_⟩:=I.list hS
 have hi:=al6 v1
 obtain ⟨ys,e⟩:=hi.allInts.items
 have hn:=nums_intItems (xs:=ys)
 rw [← e,show its.toArray.toList=its from rfl,hi.numsOf] at hn
 refine sum_intListG (xs:=ys) (I.ok.hd hc) (e ▸ p1.isList) fun h' tk t' hk=>⟨.int ns.sum,H,I.kept hk,⟨t',?_⟩,q⟩
 rw [preSum_eq,List.take_of_length_le (by simp),hn]
end
section
variable {P:Params}{σ:St} {H:Hp}{Q:VK}{td ty tx tv:TE}{nn bb cc:St→Hp→Prop}{rr:VK}
end
def bi4 (K:PySem.W.Frag):R2:=fun x y H Q=>∃ a b xs,x=.ref a∧y=.ref b∧SqL K H a xs∧SqL K H b []∧Q (.bl xs.isEmpty) H
def bi5 (K:PySem.W.Frag):R2:=fun x y H Q=>∃ a b xs,x=.ref a∧y=.ref b∧SqL K H a xs∧SqL K H b []∧Q (.bl (!xs.isEmpty)) H
section
variable {X:Cx}
theorem as3 (K:PySem.W.Frag) (hu:X.A.units+64<cLine) (hK:X.K=K:=by rfl):OpR X (compareOp .Eq) (bi4 K):=by
 subst hK
 intro pins s σ H x y v u Q I rx ry h
 obtain ⟨a,b,xs,rfl,rfl,h1,h2,q⟩:=h
 cases rx
 cases ry
 obtain ⟨is1,q1,p1,_⟩:=I.list h1
 obtain ⟨is2,q2,p2,_⟩:=I.list h2
 cases q2
 cases q1 with
 | nil =>
   have:=SeqAt.RcAt.lists (A:=X.A) (s:=s) (e:=fun _=>true) p1.isList p2.isList rfl (by omega) (fun j h1 _=>absurd h1 (by simp))
   exact this X.prog X.w X.xe (EP X pins σ Q) ⟨.bl true,H,I,rfl,q⟩
 | cons r1 r2 =>
   have:=SeqAt.RcAt.lists_lengths (A:=X.A) (s:=s) p1.isList p2.isList (by simp) (by omega)
   exact this X.prog X.w X.xe (EP X pins σ Q) ⟨.bl false,H,I,rfl,q⟩
theorem ad5 (K:PySem.W.Frag) (hu:X.A.units+64<cLine) (hK:X.K=K:=by rfl):OpR X (compareOp .NotEq) (bi5 K):=by
 subst hK
 intro pins s σ H x y v u Q I rx ry h
 obtain ⟨a,b,xs,rfl,rfl,h1,h2,q⟩:=h
 cases rx
 cases ry
 obtain ⟨is1,q1,p1,_⟩:=I.list h1
 obtain ⟨is2,q2,p2,_⟩:=I.list h2
 cases q2
 cases q1 with
 | nil =>
   have:=SeqAt.RcNeAt.lists (A:=X.A) (s:=s) (e:=fun _=>true) p1.isList p2.isList rfl (by omega) (fun j h1 _=>absurd h1 (by simp))
   exact this X.prog X.w X.xe (EP X pins σ Q) ⟨.bl false,H,I,rfl,q⟩
 | cons r1 r2 =>
   have:=SeqAt.RcNeAt.lists_lengths (A:=X.A) (s:=s) p1.isList p2.isList (by simp) (by omega)
   exact this X.prog X.w X.xe (EP X pins σ Q) ⟨.bl true,H,I,rfl,q⟩
theorem bn1 (K:PySem.W.Frag) (h:X.calm=true:=by rfl) (hK:X.K=K:=by rfl):CallR X (.builtin "sum") (rSum K):=hK ▸ bx5 h
end
section
variable {K:PySem.W.Frag}{H:Hp}{Q:VK}
theorem b68 {a b:Addr}{xs:List V}(h1:SqL K H a xs) (h2:SqL K H b []) (h:Q (.bl xs.isEmpty) H):bi4 K (.ref a) (.ref b) H Q:=⟨a,b,xs,rfl,rfl,h1,h2,h⟩
theorem ak0 {a b:Addr}{xs:List V}(h1:SqL K H a xs) (h2:SqL K H b []) (h:Q (.bl (!xs.isEmpty)) H):bi5 K (.ref a) (.ref b) H Q:=⟨a,b,xs,rfl,rfl,h1,h2,h⟩
theorem c38 {a:Addr}{ns:List Int}(h1:SqL K H a (ns.map V.int)) (h:Q (.int ns.sum) H):rSum K [.ref a] H Q:=⟨a,ns,rfl,h1,h⟩
end
section
variable {X:Cx}{o e value:Expr}{f:Str}{pos pos':Pos}{ta tv:TE}
end
section
variable {K:PySem.W.Frag}{σ:St} {H:Hp}{Q:VK}{ta tv:TE}{t:TA}{f m:Str}{C:Addr}{sp:Sp}{dvs:List V}{E:XK}{nn bb cc:St→Hp→Prop}{rr:VK}
end
section
variable {X:Cx}{pins:List (Addr×Obj)}{σ:St} {H:Hp}{s:Shared}
end
section
variable {X:Cx}
end
theorem be0 {K:PySem.W.Frag}{a:Addr}{xs:List V}{g:TG}{tb:TS}{D:Ends}{σ:St} {H:Hp}(Pv:Nat→St→Hp→Prop) (h0:Pv 0 σ H) (hl:∀ i σ H,i≤xs.length→Pv i σ H→SqL K H a xs)
 (hs:∀ i x σ H q H2,xs[i]?=some x→Pv i σ H→Same H H2→H2 q=some (.tup [.int (i:Nat),x])→g (.ref q) σ H2 fun σ1 H1=>tb { D with nx:=Pv (i+1),ct:=Pv (i+1),bk:=D.nx } σ1 H1)
 (hd:∀ σ H,Pv xs.length σ H→D.nx σ H):b54 (Ite K a) g tb D σ H:=by
 refine ⟨fun i m σ H=>m=xs.length - i∧i≤xs.length∧Pv i σ H,⟨xs.length,by simp,Nat.zero_le _,h0⟩,?_⟩
 rintro i m σ' H' ⟨rfl,hi,p⟩
 have hq:=hl i σ' H' hi p
 by_cases hlt:i<xs.length
 · refine .inr ⟨⟨xs,xs[i],hq,by simp [hlt]⟩,Pv (i+1),fun σ2 H2 p'=>⟨xs.length - (i+1),by omega,rfl,hlt,p'⟩,fun v H2 y=>?_⟩
   obtain ⟨q,x,rfl,hn,sm,hT,hx⟩:=y
   exact hs i x σ' H' q H2 (hx xs hq) p sm hT
 · have e:i=xs.length:=by omega
   subst e
   exact .inl ⟨⟨xs,hq,Nat.le_refl _⟩,hd σ' H' p⟩
section
variable {K:PySem.W.Frag}{H:Hp}{Q:VK}
end
section
variable {X:Cx}{tg:Expr}
end
section
variable {σ:St} {H:Hp}{R:It→Hp→Prop}{ts:TA}
end
def be1 (scope sc0:Scope):Scope:=relabel scope { scope:=sc0,locals:=0,globals:=0,cells:=[] }
theorem b69 {X:Cx}{N:List Str}{scope sc0:Scope}{cl:List (Str×Addr)}{C:Addr}{s0:Shared}{H0:Hp}{ex:List Addr}(h:X.env.scope=sc0):(cxC X N scope cl C s0 H0 ex).env.scope=be1 scope sc0:=by
 subst h
 rfl
section
variable {X:Cx}
end
section
variable {K:PySem.W.Frag}{H:Hp}{Q:VK}
end
section
variable {X:Cx}{e st:Expr}{te ts:TE}{p2 pos:Pos}
end
section
variable {prog:Program}{w:World}{z TI TO i1 i2 i3 l1 l2 l3:Addr}{xs ys us:Array Value}{st1 st2 st3:Nat→Heap→Prop}
end
section
variable {X:Cx}{elts:List Expr}{x1:Nat}{tpos:Pos}
end
section
variable {X:Cx}{k v:Expr}{pos:Pos}{tk tv:TE}{P:Params}
end
def Each {α β:Type}(R:α→β→Prop) (vs:List α) (xs:List β):Prop:=vs.length=xs.length∧∀ (j:Nat) (v:α) (x:β),vs[j]?=some v→xs[j]?=some x→R v x
section
variable {α β:Type}{R:α→β→Prop}{vs:List α}{xs:List β}
theorem Each.nil:Each R ([]:List α) ([]:List β):=⟨rfl,fun j v x h=>by simp at h⟩
theorem Each.mono {R':α→β→Prop}(h:Each R vs xs) (k:∀ v x,R v x→R' v x):Each R' vs xs:=⟨h.1,fun j v x h1 h2=>k v x (h.2 j v x h1 h2)⟩
theorem Each.append {ws:List α}{ys:List β}(h:Each R vs xs) (k:Each R ws ys):Each R (vs++ws) (xs++ys):=by
 refine ⟨by simp [h.1,k.1],fun j v x h1 h2=>?_⟩
 by_cases hj:j<vs.length
 · rw [List.getElem?_append_left hj] at h1
   rw [List.getElem?_append_left (by rw [← h.1]; exact hj)] at h2
   exact h.2 j v x h1 h2
 · rw [List.getElem?_append_right (by omega)] at h1
   rw [List.getElem?_append_right (by rw [← h.1]; omega),←h.1] at h2
   exact k.2 _ v x h1 h2
theorem Each.snoc {v:α}{x:β}(h:Each R vs xs) (k:R v x):Each R (vs++[v]) (xs++[x]):=h.append ⟨rfl,fun j w y h1 h2=>by
 cases j with
 | zero=>cases h1; cases h2; exact k
 | succ j=>simp at h1⟩
end
abbrev RRow:=List Str×Nat
abbrev c39:=Bool×List RRow
section
variable {f:Nat→Option Nat}{rep rk:Nat→Nat}
end
def hF (d:Addr):List (Str×V):=putF "heads" (.ref d) []
abbrev Pr:=Nat×Nat
section
variable {X:Cx}
end
section
variable {H:Hp}{Q:VK}
end
def TupK (K:PySem.W.Frag) (a:Addr) (xs:List V):Prop:=∃ (o:Obj) (its:Array Value) (n:Nat),K.lookup a=some o∧o.cls=.type "tuple"∧o.data=.seq its n∧its.size≤sizeLine∧Vals xs its.toList
theorem TupK.sq {K:PySem.W.Frag}{a:Addr}{xs:List V}(h:TupK K a xs) (H:Hp):SqT K H a xs:=.inr h
mutual
def Tr.AtK (K:PySem.W.Frag) (H:Hp):Tr→V→Prop
 | .non,v=>v=.non
 | .int i,v=>v=.int i
 | .str s,v=>v=.str s
 | .tup xs,v=>∃ a vs,v=.ref a∧(H a=some (.tup vs)∨TupK K a vs)∧Tr.AtsK K H xs vs
 | .lst _,_=>False
def Tr.AtsK (K:PySem.W.Frag) (H:Hp):List Tr→List V→Prop
 | [],vs=>vs=[]
 | x::xs,vs=>∃ v ws,vs=v::ws∧Tr.AtK K H x v∧Tr.AtsK K H xs ws
end
mutual
theorem Tr.AtK.mono {K:PySem.W.Frag}{H H':Hp}:∀ {x:Tr}{v:V},x.AtK K H v→Tups H H'→x.AtK K H' v
 | .non,_,h,_=>by simpa only [Tr.AtK] using h
 | .int _,_,h,_=>by simpa only [Tr.AtK] using h
 | .str _,_,h,_=>by simpa only [Tr.AtK] using h
 | .tup xs,v,h,k=>by
   simp only [Tr.AtK] at h ⊢
   obtain ⟨a,vs,e,g,r⟩:=h
   exact ⟨a,vs,e,g.imp (fun z=>k _ _ z) id,Tr.AtsK.mono r k⟩
 | .lst xs,v,h,k=>by simp only [Tr.AtK] at h
theorem Tr.AtsK.mono {K:PySem.W.Frag}{H H':Hp}:∀ {xs:List Tr}{vs:List V},Tr.AtsK K H xs vs→Tups H H'→Tr.AtsK K H' xs vs
 | [],_,h,_=>by simpa only [Tr.AtsK] using h
 | x::xs,vs,h,k=>by
   simp only [Tr.AtsK] at h ⊢
   obtain ⟨v,ws,e,a,b⟩:=h
   exact ⟨v,ws,e,Tr.AtK.mono a k,Tr.AtsK.mono b k⟩
end
section
variable {X:Cx}{pins:List (Addr×Obj)}{σ:St} {H:Hp}{s:Shared}
mutual
theorem Tr.AtK.isIn (I:Inv X pins σ H s):∀ {t:Tr}{v:V}{u:Value},t.AtK X.K H v→RelV v u→Tr.In s.heap t u
 | .non,v,u,h,r=>by
   simp only [Tr.AtK] at h
   subst h
   cases r
   exact rfl
 | .int z,v,u,h,r=>by
   simp only [Tr.AtK] at h
   subst h
   obtain ⟨t,rfl⟩:=r
   exact .inl ⟨t,rfl⟩
 | .str z,v,u,h,r=>by
   simp only [Tr.AtK] at h
   subst h
   obtain ⟨t,rfl⟩:=r
   exact ⟨t,rfl⟩
 | .lst _,v,u,h,r=>by simp only [Tr.AtK] at h
 | .tup ts,v,u,h,r=>by
   simp only [Tr.AtK] at h
   obtain ⟨a,vs,rfl,e1,c1⟩:=h
   cases r
   obtain ⟨is1,q1,p1,_⟩:=I.tuple (show SqT X.K H a vs from e1.elim SqT.of (fun z=>z.sq H))
   simp only [Tr.In]
   exact ⟨a,is1.toArray,rfl,p1,by simpa using Tr.AtsK.isIns I c1 q1⟩
theorem Tr.AtsK.isIns (I:Inv X pins σ H s):∀ {ts:List Tr}{vs:List V}{us:List Value},Tr.AtsK X.K H ts vs→Vals vs us→Tr.Ins s.heap ts us
 | [],vs,us,c,q=>by
   simp only [Tr.AtsK] at c
   subst c
   cases q
   exact rfl
 | t::ts,vs,us,c,q=>by
   simp only [Tr.AtsK] at c
   obtain ⟨v,vs,rfl,a1,b1⟩:=c
   cases q with
   | cons r1 r2 =>
     simp only [Tr.Ins]
     exact ⟨_,_,rfl,Tr.AtK.isIn I a1 r1,Tr.AtsK.isIns I b1 r2⟩
end
end
section
variable {X:Cx}{pins:List (Addr×Obj)}{σ:St} {H:Hp}{s:Shared}{a:Addr}{t:Tr}{y v z:V}{u r:Value}{A:Around}{E:Value→Shared→Prop}{kvs:List (Tr×V)}{m:List (Tr×V×V)}
end
section
variable {X:Cx}{o i e f value:Expr}{pos pos' apos cpos:Pos}{td ty tv tx:TE}{P:Params}
end
section
variable {K:PySem.W.Frag}{P:Params}{σ:St} {H:Hp}{Q:VK}{td ty tx tv:TE}
end
section
variable {prog:Program}{w:World}{A:Around}{E:Value→Shared→Prop}{s:Shared}
end
section
variable {X:Cx}{elts:List Expr}{x1:Nat}{tpos:Pos}
end
theorem Each.take {α β:Type}{R:α→β→Prop}{vs:List α}{xs:List β}(h:Each R vs xs) (n:Nat):Each R (vs.take n) (xs.take n):=by
 refine ⟨by simp [h.1],fun j v x h1 h2=>?_⟩
 by_cases hj:j<n
 · rw [List.getElem?_take,if_pos hj] at h1 h2
   exact h.2 j v x h1 h2
 · rw [List.getElem?_take,if_neg hj] at h1
   cases h1
def rSlS:V→Option Int→Option Int→Hp→VK→Prop:=fun x lo hi H Q=>∃ z,x=.str z∧z.length≤sizeLine∧Q (.str (Txt.slice z lo hi)) H
theorem bn2 {X:Cx}:SlR X rSlS:=by
 intro pins s σ H x v vl vu lo hi sl Q I rx hs pl pu h
 obtain ⟨z,rfl,hz,q⟩:=h
 obtain ⟨t,rfl⟩:=rx
 have fin:∀ (t':Tok) (k:Nat),EP X pins σ Q (.str (Txt.slice z lo hi) t') { s with toks:=k }:=fun t' k=>⟨.str _,H,I.tok _,⟨_,rfl⟩,q⟩
 have hle:=Nat.le_trans (Txt.slice_le z lo hi) hz
 refine ⟨"str",_,F.slot_str_getitem.lookup,typeIs_str _ _ _,?_⟩
 cases pl with
 | none=>cases pu with
   | none=>exact wpAny_getItem_str_slice (l:=none) (u:=none) (st:=none) hs rfl (post_val_or_str ⟨hle,fin⟩)
   | int j uj=>exact wpAny_getItem_str_slice (l:=none) (u:=some (j,uj)) (st:=none) hs rfl (post_val_or_str ⟨hle,fin⟩)
 | int i ui=>cases pu with
   | none=>exact wpAny_getItem_str_slice (l:=some (i,ui)) (u:=none) (st:=none) hs rfl (post_val_or_str ⟨hle,fin⟩)
   | int j uj=>exact wpAny_getItem_str_slice (l:=some (i,ui)) (u:=some (j,uj)) (st:=none) hs rfl (post_val_or_str ⟨hle,fin⟩)
theorem ad6:∀ {ms:List Addr}{us:List Value},Vals (ms.map V.ref) us→us=ms.map Value.ref
 | [],us,h=>by cases h; rfl
 | m::ms,us,h=>by
   cases h with
   | cons h1 h2 =>
     cases h1
     rw [ad6 h2]
     rfl
section
variable {prog:Program}{w:World}{A:Around}{E:Value→Shared→Prop}{s:Shared}{d:Addr}{es:Array DictEntry}{ep:Nat}
end
section
variable {prog:Program}{w:World}{A:Around}{E:Value→Shared→Prop}{s:Shared}{d it:Addr}{es:Array DictEntry}{ep i:Nat}
end
section
variable {X:Cx}{P:Params}{o:Expr}{td:TE}{apos cpos:Pos}
end
section
variable {prog:Program}{w:World}{A:Around}{E:Value→Shared→Prop}{s:Shared}{d v:Addr}{es:Array DictEntry}{ep:Nat}
end
section
variable {X:Cx}{P:Params}
end
open AutoSeq1 (wpAny_loadPart')
section
variable {X:Cx}{elts:List Expr}{x1:Nat}{tpos:Pos}
end
theorem aw0 (t:SetTable) (n:Nat):(t.orStandIn n).led=t.led∧(t.plain=false→(t.orStandIn n).plain=false):=by
 unfold SetTable.orStandIn
 split
 · exact ⟨rfl,id⟩
 · exact ⟨rfl,fun _=>rfl⟩
theorem b70 (t:SetTable) (es:Array (Int×Value)) (h:Int) (x:Value):(layNew t es h x).2.1.led=t.led∧(t.plain=false→(layNew t es h x).2.1.plain=false):=by
 unfold layNew
 split
 · exact aw0 _ _
 · exact ⟨rfl,fun _=>rfl⟩
theorem as4 (t:SetTable) (es:Array (Int×Value)) (n:Nat):(relayAll t es n).2.1.led=t.led∧(t.plain=false→(relayAll t es n).2.1.plain=false):=by
 unfold relayAll
 split
 · next t' order he =>
   dsimp only
   split
   · unfold SetTable.relaid SetTable.laid at he
     simp only [Option.bind_eq_bind,Option.pure_def,Option.bind_eq_some_iff,Option.some.injEq] at he
     obtain ⟨ow,_,he⟩:=he
     have:=congrArg Prod.fst he
     dsimp only at this
     rw [← this]
     exact ⟨rfl,id⟩
   · exact ⟨rfl,fun _=>rfl⟩
 · exact ⟨rfl,fun _=>rfl⟩
section
variable {prog:Program}{w:World}
structure SStr (prog:Program) (w:World) (h:Heap) (a:Addr) (es:Array (Int×Value)):Prop where
 ex:∃ o ep t,h.get? a=some o∧o.ExactSet∧o.data=.set es ep t∧t.fits es.size=true∧t.led=!w.params.followText "set-order"∧(0<es.size→t.plain=false)
 el:ElemsOf (strKind prog w) es.toList
 lt:es.size<scanBound
theorem SStr.store {h:Heap}{a:Addr}{o:Obj}{es es':Array (Int×Value)}{ep:Nat}{t t':SetTable}(ho:h.get? a=some o) (hx:o.ExactSet) (hd:o.data=.set es ep t) (hf:t'.fits es'.size=true) (hl:t'.led=!w.params.followText "set-order") (hp:0<es'.size→t'.plain=false) (el:ElemsOf (strKind prog w) es'.toList) (lt:es'.size<scanBound) :
 (h.update a (Obj.putSet es' t')).get? a=some { o with data:=.set es' (ep+1) t' }∧SStr prog w (h.update a (Obj.putSet es' t')) a es':=by
 have e:(h.update a (Obj.putSet es' t')).get? a=some { o with data:=.set es' (ep+1) t' }:=by
  rw [← putSet_of es' t' hd]
  exact Heap.get?_update_self (Obj.putSet es' t') ho (by rw [putSet_of es' t' hd]; rfl)
 exact ⟨e,⟨_,ep+1,t',e,hx,rfl,hf,hl,hp⟩,el,lt⟩
def Grew (w:World) (es es':Array (Int×Value)) (k:Str):Prop:=(es'=es∧∃ e∈es.toList,e.2.isStrOf k=true)∨((∀ e∈es.toList,e.2.isStrOf k=false)∧∃ u,es'.toList.Perm (es.toList++[(hashStr w k,.str k u)]))
variable {A:Around}{E:Value→Shared→Prop}{s:Shared}
theorem SStr.add {a:Addr}{es:Array (Int×Value)}{k:Str}{u:Tok}{Q:Bool→Shared→Prop}(hS:SStr prog w s.heap a es) (room:es.size+1<scanBound)
 (h:∀ b h' es',Heap.SameBut a s.heap h'→SStr prog w h' a es'→Grew w es es' k→Q b { s with heap:=h',toks:=s.toks+1 }):wpAny (model prog w) A (setAdd a (.str k u)) Q E s:=by
 obtain ⟨⟨o,ep,t,ho,hx,hd,hf,hl,hp⟩,hel,hlt⟩:=hS
 have hk:(strKind prog w).is k (.str k u)=true:=by simp [PySem.strKind,Value.isStrOf]
 have hsc:(Value.str k u).scannable=true:=rfl
 unfold setAdd setAddHashed setAddHashedIn
 refine wpAny_holding (wpAny_bind ((strKind prog w).pyHash hk ?_))
 refine wpAny_holding (wpAny_bind (wpAny_setState_of (s:={ s with toks:=s.toks+1 }) ho hd hf ?_))
 dsimp only
 rw [byScan_of hsc hlt hel]
 simp only [↓reduceIte]
 unfold setAddByScan
 refine wpAny_bind (wpAny_bind (wpAny_rule (wpAny_bind (wpAny_setScan_of (s:={ s with toks:=s.toks+1 }) hk ho hd hf hel ?_))))
 cases hr:List.findIdx? (fun e=>(strKind prog w).is k e.2) es.toList with
 | some j =>
   dsimp only
   obtain ⟨hj,hpj,_⟩:=List.findIdx?_eq_some_iff_getElem.mp hr
   exact wpAny_pure (wpAny_pure (h _ s.heap es (Heap.SameBut.refl a s.heap) ⟨⟨o,ep,t,ho,hx,hd,hf,hl,hp⟩,hel,hlt⟩ (.inl ⟨rfl,_,List.getElem_mem hj,hpj⟩)))
 | none =>
   dsimp only
   have hno:∀ e∈es.toList,e.2.isStrOf k=false:=fun e he=>by
    have:=List.findIdx?_eq_none_iff.mp hr e he
    exact this
   have hgw:∀ (b:Bool) {s₁:Shared}{Q':Unit→Shared→Prop},Q' () s₁→wpAny (model prog w) A (match b with | true=>rule "set.scan.the-table-gave-way" | false=>pure ()) Q' E s₁:=fun b s₁ Q' hq=>by
    cases b
    · exact wpAny_pure hq
    · exact wpAny_rule hq
   have p1:=layNew_perm t es ((strKind prog w).hash k) (.str k u)
   have q1:=layNew_fits t es ((strKind prog w).hash k) (.str k u)
   have r1:=b70 t es ((strKind prog w).hash k) (.str k u)
   generalize layNew t es ((strKind prog w).hash k) (.str k u)=L at p1 q1 r1 ⊢
   obtain ⟨es1,t1,wd,gv⟩:=L
   dsimp only at p1 q1 r1 ⊢
   rw [Array.toList_push] at p1
   have el1:ElemsOf (strKind prog w) es1.toList:=(hel.push hk hsc).perm p1
   have sz1:es1.size=es.size+1:=by rw [← Array.length_toList,p1.length_eq]; simp
   refine wpAny_bind (hgw _ ?_)
   have fin:∀ t2:SetTable,t2.fits es1.size=true→t2.led=t.led→t2.plain=false→wpAny (model prog w) A (do
    storeSet a es1 t2
    if (!wd && t2.tooFull)=true then do
     (match (relayAll t2 es1 (SetTable.grown es1.size)).2.2 with | true=>rule "set.scan.the-table-gave-way" | false=>pure ())
     storeSet a (relayAll t2 es1 (SetTable.grown es1.size)).1 (relayAll t2 es1 (SetTable.grown es1.size)).2.1
     pure (some true)
     else pure (some true)) (fun r s₁=>wpAny (model prog w) A (match r with | some added=>pure added | none=>setAddHashedIn a (.str k u) ((strKind prog w).hash k) 99999) Q E s₁) E { s with toks:=s.toks+1 }:=by
    intro t2 f2 l2 pl2
    obtain ⟨o1,S1⟩:=SStr.store (prog:=prog) (w:=w) (es':=es1) (t':=t2) ho hx hd f2 (l2.trans hl) (fun _=>pl2) el1 (by omega)
    have b1:=Heap.SameBut.update s.heap a (Obj.putSet es1 t2)
    refine wpAny_bind (wpAny_storeSet_of (s:={ s with toks:=s.toks+1 }) ho hd ?_ (fits_of_scanBound (by omega)))
    split
    · have p2:=relayAll_perm t2 es1 (SetTable.grown es1.size)
      have q2:=relayAll_fits t2 es1 (SetTable.grown es1.size)
      have r2:=as4 t2 es1 (SetTable.grown es1.size)
      generalize relayAll t2 es1 (SetTable.grown es1.size)=R at p2 q2 r2 ⊢
      obtain ⟨es2,t3,gv2⟩:=R
      dsimp only at p2 q2 r2 ⊢
      have sz2:es2.size=es1.size:=by rw [← Array.length_toList,p2.length_eq,Array.length_toList]
      refine wpAny_bind (hgw _ ?_)
      obtain ⟨_,S2⟩:=SStr.store (prog:=prog) (w:=w) (es':=es2) (t':=t3) o1 hx rfl q2 (r2.1.trans (l2.trans hl)) (fun _=>r2.2 pl2) (el1.perm p2) (by omega)
      refine wpAny_bind (wpAny_storeSet_of o1 rfl ?_ (fits_of_scanBound (by omega)))
      exact wpAny_pure (wpAny_pure (h _ _ es2 (b1.trans (Heap.SameBut.update _ a _)) S2 (.inr ⟨hno,u,p2.trans p1⟩)))
    · exact wpAny_pure (wpAny_pure (h _ _ es1 b1 S1 (.inr ⟨hno,u,p1⟩)))
   split
   · refine wpAny_bind ?_
     rw [hashByValue_scannable 8 hsc]
     refine wpAny_pure ?_
     exact fin { t1 with plain:=false } q1 r1.1 rfl
   · next hpl =>
     refine wpAny_bind (wpAny_pure ?_)
     simp only [↓reduceIte]
     exact fin t1 q1 r1.1 (by simpa using hpl)
end
noncomputable def metS (ks:List Str) (k:Str):List Str:=if k∈ks then ks else ks++[k]
noncomputable def a82 (val:Nat→Str) (i:Nat):List Str:=((List.range i).map val).foldl metS []
theorem ac3 (val:Nat→Str) (i:Nat):a82 val (i+1)=metS (a82 val i) (val i):=by
 unfold a82
 rw [List.range_succ,List.map_append,List.foldl_append]
 rfl
theorem be2 {ks:List Str}{k x:Str}:x∈metS ks k↔x∈ks∨x=k:=by
 unfold metS
 split
 · constructor
   · exact .inl
   · rintro (h | rfl)
     · exact h
     · assumption
 · simp
theorem am6 (val:Nat→Str) (x:Str):∀ i,x∈a82 val i↔∃ j,j<i∧val j=x
 | 0=>by simp [a82]
 | i+1=>by
   rw [ac3,be2,am6 val x i]
   constructor
   · rintro (⟨j,h,e⟩ | rfl)
     · exact ⟨j,by omega,e⟩
     · exact ⟨i,by omega,rfl⟩
   · rintro ⟨j,h,e⟩
     by_cases hj:j=i
     · subst hj; exact .inr e.symm
     · exact .inl ⟨j,by omega,e⟩
theorem be3 (ks:List Str) (k:Str):(metS ks k).length≤ks.length+1:=by
 unfold metS
 split <;> simp
theorem am7 (val:Nat→Str):∀ i,(a82 val i).length≤i
 | 0=>by simp [a82]
 | i+1=>by
   rw [ac3]
   have h1:=be3 (a82 val i) (val i)
   have h2:=am7 val i
   omega
def entS (w:World) (x:Str×Tok):Int×Value:=(hashStr w x.1,.str x.1 x.2)
def KsOf (w:World) (es:Array (Int×Value)) (ks:List Str):Prop:=ks.Nodup∧∃ l:List (Str×Tok),l.map (·.1)=ks∧es.toList.Perm (l.map (entS w))
theorem KsOf.len {w:World}{es:Array (Int×Value)}{ks:List Str}(h:KsOf w es ks):es.size=ks.length:=by
 obtain ⟨_,l,rfl,p⟩:=h
 rw [← Array.length_toList,p.length_eq]
 simp
theorem KsOf.grew {w:World}{es es':Array (Int×Value)}{ks:List Str}{k:Str}(h:KsOf w es ks) (g:Grew w es es' k):KsOf w es' (metS ks k):=by
 obtain ⟨nd,l,rfl,p⟩:=h
 have hm:k∈l.map (·.1)↔∃ e∈es.toList,e.2.isStrOf k=true:=by
  constructor
  · intro hk
    obtain ⟨x,hx,rfl⟩:=List.mem_map.mp hk
    exact ⟨entS w x,p.mem_iff.mpr (List.mem_map_of_mem hx),by simp [entS,Value.isStrOf]⟩
  · rintro ⟨e,he,hi⟩
    obtain ⟨x,hx,rfl⟩:=List.mem_map.mp (p.mem_iff.mp he)
    have:x.1=k:=by
     have:=Value.isStrOf_shape hi
     obtain ⟨t,e⟩:=this
     simp only [entS,Value.str.injEq] at e
     exact e.1
    rw [← this]
    exact List.mem_map_of_mem hx
 rcases g with ⟨rfl,hx⟩ | ⟨hno,u,pp⟩
 · unfold metS
   rw [if_pos (hm.mpr hx)]
   exact ⟨nd,l,rfl,p⟩
 · have hk:k∉l.map (·.1):=fun z=>by
    obtain ⟨e,he,hi⟩:=hm.mp z
    rw [hno e he] at hi
    cases hi
   unfold metS
   rw [if_neg hk]
   refine ⟨?_,l++[(k,u)],by simp,?_⟩
   · refine List.nodup_append.mpr ⟨nd,by simp,fun a ha b hb z=>?_⟩
     rw [List.mem_singleton.mp hb] at z
     exact hk (z ▸ ha)
   · refine pp.trans ?_
     rw [List.map_append]
     exact List.Perm.append p (List.Perm.refl _)
section
variable {prog:Program}{w:World}{A:Around}{R:Result→Shared→Prop}{I:Addr}{fp wr:List Addr}{G:Array GenState→Array GenState→Prop}{n:Nat}{P:Nat→Value→Prop}{St:Nat→Shared→Prop}
theorem SStr.moved {h h':Heap}{a:Addr}{es:Array (Int×Value)}(x:SStr prog w h a es) (k:∀ o,h.get? a=some o→h'.get? a=some o):SStr prog w h' a es:=by
 obtain ⟨⟨o,ep,t,ho,r⟩,el,lt⟩:=x
 exact ⟨⟨o,ep,t,k _ ho,r⟩,el,lt⟩
theorem be4 (W:WalksS prog w A.in1 I fp wr G n P St) (S:Addr) (hSf:S∉fp) (val:Nat→Str) (hval:∀ i v,P i v→∃ t,v=.str (val i) t) (hb:n+1<scanBound) :
 ∀ (k i:Nat) (s:Shared) (es:Array (Int×Value)),n - i=k→i≤n→St i s→SStr prog w s.heap S es→KsOf w es (a82 val i) →
  (∀ s' es',Moved (S::wr) G s s'→SStr prog w s'.heap S es'→KsOf w es' (a82 val n)→R (.ok (.ret .none)) s') →
  codeAny (model prog w) A (.builtin "set.update.loop" ⟨[.ref S,.ref I],[]⟩) R s:=by
 have hw:S∉wr:=fun z=>hSf (W.sub _ z)
 have hs:∀ b∈wr,b∈S::wr:=fun b z=>List.mem_cons_of_mem _ z
 intro k
 induction k with
 | zero =>
   intro i s es hk hi st hS hK q
   have e:i=n:=by omega
   subst e
   refine codeAny_builtin F.entry_set_update_loop ?_
   rw [Around.under_plainId F.plain_set_update_loop _]
   show wpAny _ A.in1 (pyNext (.ref I) >>= _) _ _ s
   refine wpAny_bind (W.done s _ _ st fun s' hm=>?_)
   show wpAny _ A.in1 (ret Value.none) _ _ s'
   exact wpAny_pure (q s' es (hm.mono hs) (hS.moved fun o e=>hm.heap S _ hw e) hK)
 | succ k ih =>
   intro i s es hk hi st hS hK q
   have lt:i<n:=by omega
   refine codeAny_builtin F.entry_set_update_loop ?_
   rw [Around.under_plainId F.plain_set_update_loop _]
   show wpAny _ A.in1 (pyNext (.ref I) >>= _) _ _ s
   refine wpAny_bind (W.item i s _ _ lt st fun v s' hP st' hm=>?_)
   obtain ⟨u,rfl⟩:=hval i v hP
   have hS':SStr prog w s'.heap S es:=hS.moved fun o e=>hm.heap S _ hw e
   show wpAny _ A.in1 (holding [Value.str (val i) u] (setAdd S (.str (val i) u)) >>= _) _ _ s'
   have l1:=am7 val i
   have l2:=hK.len
   refine wpAny_bind (wpAny_holding (SStr.add hS' (by omega) fun b h' es' sb hS2 g=>?_))
   refine wpAny_pure ⟨plainId_quiet F.plain_set_update_loop _,ih (i+1) _ es' (by omega) lt (W.frame _ s' _ _ st' (Nat.le_succ _) fun b hb o e=>?_) hS2 (by rw [ac3]; exact hK.grew g) fun s2 es2 m2 S2 K2=>?_⟩
   · rw [sb.2 b (fun z:b=S=>hSf (z ▸ hb))]
     exact e
   · refine q s2 es2 (Moved.trans W.gtrans ((hm.mono hs).then_heap (Nat.le_succ _) fun b o hb e=>?_) m2) S2 K2
     rw [sb.2 b (fun z:b=S=>hb (by rw [z]; exact List.mem_cons_self))]
     exact e
end
section
variable {prog:Program}{w:World}{A:Around}{E:Value→Shared→Prop}{s:Shared}
def a70 (w:World):Obj:={ cls:=.type "set",dict:=none,data:=.set #[] 0 (.fresh 0 0 (!w.params.followText "set-order")) }
theorem az0 (v:Value) {Q1:Value→Shared→Prop}(h:Q1 (.ref s.heap.objs.size) { s with heap:=s.heap.push (a70 w) }) :
 codeAny (model prog w) A (.call (.builtin "set.__new__") ⟨[.type "set",v],[]⟩) (wants Q1 E) s:=by
 refine codeAny_of_tree ?_
 show wpAny _ A.in1 (do checkBuiltinCall "set.__new__" ⟨[.type "set",v],[]⟩; again (.builtin "set.__new__" ⟨[.type "set",v],[]⟩)) _ _ s
 refine wpAny_bind (wpAny_of_eq (F.newCall_set_1 v) (wpAny_pure ⟨plainId_quiet F.plain_set_new _,codeAny_builtin F.entry_set_new ?_⟩))
 rw [Around.under_plainId F.plain_set_new _]
 unfold Builtin.«set.__new__» Builtin.Frozenset.newClass
 have hsub:=sub_set_self
 obtain ⟨hp,g,d,tk,os⟩:=s
 dsimp only
 wp_walk
 refine wpAny_askSetting (wpAny_pure ?_)
 dsimp only
 simp only [newObj]
 exact wpAny_bind (wpAny_alloc (wpAny_pure (wpAny_pure h)))
theorem ao3 {l:Addr}{items:Array Value}{val:Nat→Str}{Q:Value→Shared→Prop}(hh:A.handled=none) (hl:s.heap.IsList l items) (hi:∀ (i:Nat) (v:Value),items[i]?=some v→∃ t,v=.str (val i) t) (hb:items.size+1<scanBound)
 (h:∀ (h':Heap) (tk:Nat) (es:Array (Int×Value)),SStr prog w h' s.heap.objs.size es→KsOf w es (a82 val items.size)→(∀ b o,b<s.heap.objs.size→s.heap.get? b=some o→h'.get? b=some o)→Q (.ref s.heap.objs.size) { s with heap:=h',toks:=tk }) :
 wpAny (model prog w) A (call (.type "set") [.ref l]) Q E s:=by
 obtain ⟨c,tl,hmro⟩:=F.called_set.mro
 have hmade:=F.called_set.made
 have hsub:=F.called_set.sub
 refine wpAny_call (codeAny_of_tree ?_)
 show wpAny _ _ (callAny (.type "set") _) _ _ _
 refine wpAny_pure ⟨Code.quiet_builtin _ (by decide +kernel),codeAny_builtin F.entry_type_call ?_⟩
 rw [Around.under_plain (weight_type_call_type "set" [.ref l] []) rfl]
 have h1:=F.called_set.notType
 have h2:=F.called_set.canCreate
 have hct:=F.typeCall_set_1 (.ref l)
 repeat (any_goals (first | assumption | wp_step))
 refine codeAny_mono (az0 (.ref l) (E:=E) (Q1:=fun obj s1=>obj=.ref s.heap.objs.size∧s1={ s with heap:=s.heap.push (a70 w) }) ⟨rfl,rfl⟩) fun r s1 hr=>?_
 cases r with
 | error e=>exact hr
 | ok fl =>
   cases fl with
   | ret obj =>
     obtain ⟨rfl,rfl⟩:=hr
     have hS:(s.heap.push (a70 w)).get? s.heap.objs.size=some (a70 w):=Heap.get?_push_size _ rfl
     have hT:Shared.TypeIs { s with heap:=s.heap.push (a70 w) } (.ref s.heap.objs.size) "set":=⟨_,hS,rfl⟩
     have hli:=F.called_set.init.lookup
     have hbi:=F.called_set.init.bind (.ref s.heap.objs.size)
     repeat (any_goals (first | assumption | wp_step))
     refine codeAny_mono (codeAny_call_builtin (R:=wants (fun r s2=>r=.none∧∃ h' tk es,s2={ s with heap:=h',toks:=tk }∧SStr prog w h' s.heap.objs.size es∧KsOf w es (a82 val items.size) ∧
      (∀ b o,b<s.heap.objs.size→s.heap.get? b=some o→h'.get? b=some o)) E) F.called_set.init.plain F.entry_set_init (check_set_init_1 hT ?_)) fun r2 s2 hr2=>?_
     · obtain ⟨ol,hol,hcl,nl,hdl⟩:=hl
       obtain ⟨ocls,odict,odata,oslots⟩:=ol
       simp only at hcl hdl
       subst hcl; subst hdl
       have hol':(s.heap.push (a70 w)).get? l=some { cls:=.type "list",dict:=odict,data:=.seq items nl,slots:=oslots }:=Heap.get?_push_of_some _ hol
       have hsls:=F.sub_list_set
       have hslf:=F.sub_list_frozenset
       have hne:(Value.type "list" == Value.type "dict")=false:=by decide
       have hl1:(s.heap.push (a70 w)).IsList l items:=⟨_,hol',rfl,nl,rfl⟩
       unfold Builtin.«set.__init__» noKeywords Builtin.Frozenset.updateFrom
       generalize hPI:pyIter=PI
       wp_walk
       subst hPI
       refine wpAny_pyIter_list hl1 (wpAny_bind (wpAny_runValue ?_))
       have hlS:l<s.heap.objs.size:=Heap.lt_size hol
       have hh3:A.in1.in1.in1.handled=none:=by simp [hh]
       have hneI:l≠(s.heap.push (a70 w)).objs.size:=by
        rw [Heap.size_push]; exact Nat.ne_of_lt (Nat.lt_succ_of_lt hlS)
       have hSf:s.heap.objs.size∉[(s.heap.push (a70 w)).objs.size,l]:=by
        rw [Heap.size_push]
        simp only [List.mem_cons,List.not_mem_nil,or_false,not_or]
        exact ⟨Nat.ne_of_lt (Nat.lt_succ_self _),Nat.ne_of_gt hlS⟩
       have hget:((s.heap.push (a70 w)).push { cls:=.type "list_iterator",data:=.fields #[.ref l,.int 0 0] }).get? s.heap.objs.size=some (a70 w):=Heap.get?_push_of_some _ hS
       refine be4 ((Walks.list hh3 _ l hneI items).toS) s.heap.objs.size hSf val hi hb (items.size - 0) 0 _ #[] (by omega) (Nat.zero_le _) ⟨⟨_,Heap.get?_push_size _ rfl,rfl,rfl⟩,(hl1.push _)⟩ ?hS0 ?hK0 ?hR
       case hS0=>exact ⟨⟨_,0,_,hget,⟨rfl,rfl,rfl⟩,rfl,rfl,rfl,fun z=>absurd z (by simp)⟩,fun e he=>by simp at he,by decide⟩
       case hK0=>exact ⟨by simp [a82],[],by simp [a82],by simp⟩
       case hR =>
        intro s' es' hm hS' hK'
        obtain ⟨h',g',d',tk',os'⟩:=s'
        have eg:g'=s.gens:=hm.gens
        have ed:d'=s.drawn:=hm.drawn
        have eo:os'=s.os:=hm.os
        subst eg; subst ed; subst eo
        show wpAny _ _ _ _ _ _
        refine wpAny_pure ?_
        show wpAny _ _ (ret Value.none) _ _ _
        refine wpAny_pure ⟨rfl,h',tk',es',rfl,hS',hK',fun b o hb e=>?_⟩
        have hb1:b≠s.heap.objs.size:=Nat.ne_of_lt hb
        have hb2:b≠(s.heap.push (a70 w)).objs.size:=by
         rw [Heap.size_push]; exact Nat.ne_of_lt (Nat.lt_succ_of_lt hb)
        exact hm.heap b o (by simp only [List.mem_cons,List.not_mem_nil,or_false,not_or]; exact ⟨hb1,hb2⟩) (Heap.get?_push_of_some _ (Heap.get?_push_of_some _ e))
     · cases r2 with
       | error e=>exact hr2
       | ok fl2 =>
         cases fl2 with
         | ret r =>
           obtain ⟨rfl,h',tk,es,rfl,hS',hK',hk'⟩:=hr2
           repeat (any_goals (first | assumption | wp_step))
           exact h _ _ _ hS' hK' hk'
         | _=>exact hr2.elim
   | _=>exact hr.elim
end
theorem ah0 {α:Type}:∀ (xs:List α) (i:Nat) (h:i<xs.length),(xs[i]::xs.eraseIdx i).Perm xs
 | x::xs,0,_=>List.Perm.refl _
 | x::xs,i+1,h=>by
   have h':i<xs.length:=by simpa using h
   exact (List.Perm.swap x xs[i] (xs.eraseIdx i)).trans (List.Perm.cons x (ah0 xs i h'))
section
variable {M:Model}{A:Around}{E:Value→Shared→Prop}{s:Shared}
theorem be5 {n:Nat}{Q:Nat→Shared→Prop}(hn:n≠0) (h:∀ i d,i<n→Q i { s with drawn:=d }):wpAny M A (choose .order n) Q E s:=fun Γ p _=>by
 show Sem.wp M Γ (.choose .order n .pure) _ _ p s
 rw [Sem.wp_choose]
 exact ⟨hn,h _ _ (Nat.mod_lt _ (Nat.pos_of_ne_zero hn))⟩
theorem as5 {α:Type}:∀ (n:Nat) (xs:List α) (s:Shared) {Q:List α→Shared→Prop},xs.length=n→(∀ l d,l.Perm xs→Q l { s with drawn:=d })→wpAny M A (drawOrder n xs) Q E s
 | 0,xs,s,Q,hl,h=>by
   cases List.length_eq_zero_iff.mp hl
   exact wpAny_pure (h [] s.drawn (List.Perm.refl _))
 | n+1,xs,s,Q,hl,h=>by
   obtain ⟨x,xs',rfl⟩:=List.exists_cons_of_length_eq_add_one hl
   show wpAny M A (choose .order (x::xs').length >>= _) Q E s
   refine wpAny_bind (be5 (by simp) fun i d hi=>?_)
   rw [List.getElem?_eq_getElem hi]
   dsimp only
   refine wpAny_bind (as5 n _ _ (by rw [List.length_eraseIdx]; simp only [hi,if_true]; omega) fun l d' p=>?_)
   refine wpAny_pure (h _ d' ?_)
   exact (List.Perm.cons _ p).trans (ah0 _ i hi)
end
theorem slot_set_iterator_next:Slot "set_iterator" "__next__" "set_iterator.__next__" :=
 .of (owner:="set_iterator") (n:="__next__") (by rw [typeLookup_type,builtinLookup_eq_fast]; kernel_rfl) (by decide +kernel) (by decide +kernel) (by decide +kernel) (by first | exact .inl (by decide +kernel) | exact .inr (by decide +kernel)) (by rw [isSubtype_type]; kernel_rfl)
theorem a54:entryFor table "set_iterator.__next__"=some Builtin.«set_iterator.__next__»:=entryFor_of_tree (by kernel_rfl)
theorem al2:entryFor table "set.__iter__"=some Builtin.«frozenset.__iter__»:=entryFor_alias (id':="frozenset.__iter__") (by kernel_rfl) rfl (by decide +kernel) (by kernel_rfl)
theorem a56 (a:Value):argsOk "set_iterator.__next__" ⟨[a],[]⟩:=by
 unfold argsOk
 kernel_rfl
section
variable {prog:Program}{w:World}{A:Around}{E:Value→Shared→Prop}{s:Shared}{S it:Addr}{o:Obj}{es:Array (Int×Value)}{ep:Nat}{t:SetTable}
def Drw (w:World) (es:Array (Int×Value)) (t:SetTable):Bool:=!w.params.followText "set-order" && (!t.plain && decide (es.size > 1))
theorem b71 {Q:Bool→Shared→Prop}(ho:s.heap.get? S=some o) (hd:o.data=.set es ep t) (hf:t.fits es.size=true) (h:Q (Drw w es t) s):wpAny (model prog w) A (setDrawn S) Q E s:=by
 unfold setDrawn
 refine wpAny_bind (wpAny_setState_of ho hd hf ?_)
 dsimp only
 unfold setsByText
 exact wpAny_bind (wpAny_bind (wpAny_askSetting (wpAny_pure (wpAny_pure h))))
def aa3 (first:Value) (S:Addr) (i n ep:Nat):Obj:={ cls:=.type "set_iterator",data:=.fields #[first,.int i 0,.ref S,.int n 0,.int ep 0] }
def ae5 (pl:List Nat):Obj:={ cls:=.type "tuple",data:=.seq (pl.map fun (i:Nat)=>rawInt i).toArray }
theorem az1 {Q:Value→Shared→Prop}(ho:s.heap.get? S=some o) (hx:o.ExactSet) (hd:o.data=.set es ep t) (hf:t.fits es.size=true) (lt:es.size<scanBound)
 (qN:Drw w es t=false→Q (.ref s.heap.objs.size) { s with heap:=s.heap.push (aa3 (rawInt 0) S 0 es.size ep) })
 (qD:Drw w es t=true→∀ (pl:List Nat) d,pl.Perm (List.range es.size)→Q (.ref (s.heap.push (ae5 pl)).objs.size) { s with heap:=(s.heap.push (ae5 pl)).push (aa3 (.ref s.heap.objs.size) S 0 es.size ep),drawn:=d }) :
 wpAny (model prog w) A (pyIter (.ref S)) Q E s:=by
 have T:s.TypeIs (.ref S) "set":=⟨o,ho,hx.1⟩
 refine wpAny_pyIter_slot T F.slot_set_iter (wpAny_call_entry F.slot_set_iter T al2 ?_ (F.args_set_iter_1 _))
 unfold Builtin.«frozenset.__iter__» Builtin.Frozenset.slot0 slotArgs
 simp only [List.isEmpty_nil,Bool.not_true,Bool.false_eq_true,↓reduceIte,bind_assoc,List.length_nil,bne_self_eq_false]
 unfold Builtin.Frozenset.addrOf Builtin.Frozenset.sizeOf
 refine wpAny_bind (wpAny_pure ?_)
 try dsimp only
 refine wpAny_bind (wpAny_pure ?_)
 refine wpAny_bind (wpAny_bind (wpAny_setEntries_of ho hd hf (wpAny_pure ?_)))
 refine wpAny_bind (b71 ho hd hf ?_)
 cases hD:Drw w es t with
 | false =>
   simp only [Bool.false_eq_true,if_false]
   refine wpAny_bind (wpAny_pure (wpAny_bind (wpAny_setEpoch_of ho hd hf ?_)))
   unfold newFields
   refine wpAny_bind (wpAny_newObj_type (wpAny_pure ⟨_,rfl,"set_iterator",_,⟨_,Heap.get?_push_size _ rfl,rfl⟩,slot_set_iterator_next.lookup,?_⟩) (by size_fits))
   exact qN hD
 | true =>
   simp only [if_true]
   refine wpAny_bind (as5 _ _ _ List.length_range fun pl d pp=>?_)
   unfold newTuple
   have ln:pl.length=es.size:=by rw [pp.length_eq,List.length_range]
   refine wpAny_bind (wpAny_newObj_type ?_ (by show (pl.map _).toArray.size≤_; rw [List.size_toArray,List.length_map,ln]; exact fits_of_scanBound lt))
   refine wpAny_bind (wpAny_setEpoch_of (Heap.get?_push_of_some _ ho) hd hf ?_)
   unfold newFields
   refine wpAny_bind (wpAny_newObj_type (wpAny_pure ⟨_,rfl,"set_iterator",_,⟨_,Heap.get?_push_size _ rfl,rfl⟩,slot_set_iterator_next.lookup,?_⟩) (by size_fits))
   exact qD hD pl d pp
end
section
variable {prog:Program}{w:World}{A:Around}{E:Value→Shared→Prop}{s:Shared}{S it tp:Addr}{o:Obj}{es:Array (Int×Value)}{ep i:Nat}{t:SetTable}{first:Value}
theorem b72 {h:Heap}(hi:h.get? it=some (aa3 first S i es.size ep)):(h.update it (Obj.mapFields (·.setIfInBounds 1 (rawInt ((i:Int)+1))))).get? it=some (aa3 first S (i+1) es.size ep):=by
 have:=Heap.get?_update_self (Obj.mapFields (·.setIfInBounds 1 (rawInt ((i:Int)+1)))) hi rfl
 rw [this]
 rfl
theorem bi6 {pl:List Nat}{Q:Option (Array Value)→Shared→Prop}(ht:s.heap.get? tp=some (ae5 pl)) (q:Q (some (pl.map fun (i:Nat)=>rawInt i).toArray) s):wpAny (model prog w) A (seqItems? (.ref tp)) Q E s:=wpAny_seqItems (n:=0) ht rfl q
theorem b18 {Q:Option Value→Shared→Prop}{pl:List Nat}{p:Nat}{e:Int×Value}(hi:s.heap.get? it=some (aa3 (.ref tp) S i es.size ep)) (ht:s.heap.get? tp=some (ae5 pl)) (ho:s.heap.get? S=some o) (hd:o.data=.set es ep t) (hf:t.fits es.size=true) (hp:pl[i]?=some p) (he:es[p]?=some e)
 (q:∀ h',h'.get? it=some (aa3 (.ref tp) S (i+1) es.size ep)→Heap.SameBut it s.heap h'→Q (some e.2) { s with heap:=h' }):wpAny (model prog w) A (pyNext (.ref it)) Q E s:=by
 have T:s.TypeIs (.ref it) "set_iterator":=⟨_,hi,rfl⟩
 unfold pyNext
 refine wpAny_bind (wpAny_attempt (wpAny_callSpecial?_slot (name:=Str.ofString "__next__") T slot_set_iterator_next (wpAny_call_entry slot_set_iterator_next T a54 ?_ (a56 _))))
 unfold Builtin.«set_iterator.__next__» slotArgs
 simp only [List.isEmpty_nil,Bool.not_true,Bool.false_eq_true,↓reduceIte,bind_assoc,List.length_nil,bne_self_eq_false]
 refine wpAny_bind (wpAny_pure ?_)
 refine wpAny_bind (wpAny_fieldsOf hi rfl ?_)
 show wpAny _ A.in1 (setEntries S >>= _) _ _ s
 refine wpAny_bind (wpAny_setEntries_of ho hd hf ?_)
 rw [if_neg (by simp)]
 show wpAny _ A.in1 (seqItems? (.ref tp) >>= _) _ _ s
 refine wpAny_bind (bi6 ht ?_)
 dsimp only
 rw [show ((pl.map fun (i:Nat)=>rawInt i).toArray)[((i:Nat):Int).toNat]?=some (rawInt p) by rw [Int.toNat_natCast,List.getElem?_toArray,List.getElem?_map,hp]; rfl]
 show wpAny _ A.in1 (setNextDrawn S ((p:Nat):Int).toNat ((ep:Nat):Int).toNat >>= _) _ _ s
 unfold setNextDrawn
 refine wpAny_bind (wpAny_bind (wpAny_setState_of ho hd hf ?_))
 dsimp only
 rw [if_neg (by simp),Int.toNat_natCast,he]
 refine wpAny_pure ?_
 show wpAny _ A.in1 (setField (.ref it) 1 (rawInt ((i:Int)+1)) >>= _) _ _ s
 refine wpAny_bind (wpAny_setField hi rfl (by simp) ?_)
 exact wpAny_pure ⟨_,rfl,wpAny_pure (q _ (b72 hi) (Heap.SameBut.update ..))⟩
theorem az2 {R:PySem.Fin→Shared→Prop}{E':Value→Shared→Prop}(hh:A.handled=none) (q:∀ h' e,(∀ b o,s.heap.get? b=some o→h'.get? b=some o)→Shared.TypeIs { s with heap:=h' } (.ref e) "StopIteration"→E' (.ref e) { s with heap:=h' }) :
 wpAny (model prog w) A (newExc (.type "StopIteration") [] >>= fun e=>(raiseNew e:Sem PySem.Fin)) R E' s:=by
 refine wpAny_bind ?_
 simp only [newExc,newTuple]
 refine wpAny_bind (wpAny_newObj_type ?_ (by size_fits))
 refine wpAny_bind (m:=firstArgMember _ _) (wpAny_of_eq (a:=Value.none) (by first | rfl | (simp only [firstArgMember]; rfl)) (wpAny_newObj_type ?_ (by size_fits)))
 simp only [raiseNew]
 refine wpAny_bind (wpAny_handled ?_)
 rw [hh]
 refine wpAny_bind ((wpAny_pure) ((wpAny_throw) ?_))
 exact q _ _ (fun b o e=>Heap.get?_push_of_some _ (Heap.get?_push_of_some _ e)) ⟨_,Heap.get?_push_size _ rfl,rfl⟩
theorem b73 {Q:Option Value→Shared→Prop}{pl:List Nat}(hh:A.handled=none) (hi:s.heap.get? it=some (aa3 (.ref tp) S i es.size ep)) (ht:s.heap.get? tp=some (ae5 pl)) (ho:s.heap.get? S=some o) (hd:o.data=.set es ep t) (hf:t.fits es.size=true) (hp:pl[i]?=none)
 (q:∀ h',Heap.ExtBut it s.heap h'→Q none { s with heap:=h' }):wpAny (model prog w) A (pyNext (.ref it)) Q E s:=by
 have T:s.TypeIs (.ref it) "set_iterator":=⟨_,hi,rfl⟩
 unfold pyNext
 refine wpAny_bind (wpAny_attempt (wpAny_callSpecial?_slot (name:=Str.ofString "__next__") T slot_set_iterator_next (wpAny_call_entry slot_set_iterator_next T a54 ?_ (a56 _))))
 unfold Builtin.«set_iterator.__next__» slotArgs
 simp only [List.isEmpty_nil,Bool.not_true,Bool.false_eq_true,↓reduceIte,bind_assoc,List.length_nil,bne_self_eq_false]
 refine wpAny_bind (wpAny_pure (wpAny_bind (wpAny_fieldsOf hi rfl ?_)))
 show wpAny _ A.in1 (setEntries S >>= _) _ _ s
 refine wpAny_bind (wpAny_setEntries_of ho hd hf ?_)
 rw [if_neg (by simp)]
 show wpAny _ A.in1 (seqItems? (.ref tp) >>= _) _ _ s
 refine wpAny_bind (bi6 ht ?_)
 dsimp only
 rw [show ((pl.map fun (i:Nat)=>rawInt i).toArray)[((i:Nat):Int).toNat]?=none by rw [Int.toNat_natCast,List.getElem?_toArray,List.getElem?_map,hp]; rfl]
 show wpAny _ A.in1 (setField (.ref it) 0 (rawInt 0) >>= fun _=>setField (.ref it) 2 .none >>= fun _=>newExc (.type "StopIteration") [] >>= fun e=>raiseNew e) _ _ s
 refine wpAny_bind (wpAny_setField hi rfl (by simp) ?_)
 refine wpAny_bind (wpAny_setField (Heap.get?_update_self _ hi rfl) rfl (by simp) ?_)
 refine az2 hh fun h' e hk hT=>?_
 refine wpAny_bind (wpAny_isInstance (b:=true) (T:="StopIteration") hT isSubtype_stop ?_)
 refine wpAny_pure (q _ fun b ob hb e=>hk _ _ ?_)
 exact ((Heap.SameBut.update ..).trans (Heap.SameBut.update ..)).extBut b ob hb e
end
theorem a83:Slot "set_iterator" "__iter__" "set_iterator.__iter__" :=
 .of (owner:="set_iterator") (n:="__iter__") (by rw [typeLookup_type,builtinLookup_eq_fast]; kernel_rfl) (by decide +kernel) (by decide +kernel) (by decide +kernel) (by first | exact .inl (by decide +kernel) | exact .inr (by decide +kernel)) (by rw [isSubtype_type]; kernel_rfl)
theorem ac4:entryFor table "set_iterator.__iter__"=some Builtin.«dict_keyiterator.__iter__»:=entryFor_alias (id':="dict_keyiterator.__iter__") (by kernel_rfl) rfl (by decide +kernel) (by kernel_rfl)
theorem ac8 (a:Value):argsOk "set_iterator.__iter__" ⟨[a],[]⟩:=by
 unfold argsOk
 kernel_rfl
theorem b74 {α:Type}(nx:Nat→Nat):∀ (f k:Nat) (left:List α) (out:Array α),left.length≤f→(pickOrder.go nx f k left out).toList.Perm (out.toList++left)
 | 0,k,left,out,h=>by
   cases List.length_eq_zero_iff.mp (Nat.le_zero.mp h)
   simp [pickOrder.go]
 | f+1,k,left,out,h=>by
   rw [pickOrder.go]
   by_cases h0:left=[]
   · subst h0
     simp
   · have hl:0<left.length:=List.length_pos_iff.mpr h0
     have hi:nx k % left.length<left.length:=Nat.mod_lt _ hl
     rw [List.getElem?_eq_getElem hi]
     dsimp only
     refine (b74 nx f (k+1) _ _ (by rw [List.length_eraseIdx]; simp only [hi,if_true]; omega)).trans ?_
     rw [Array.toList_push,List.append_assoc]
     exact List.Perm.append (List.Perm.refl _) (ah0 _ _ hi)
theorem aa9 {α:Type}(nx:Nat→Nat) (xs:Array α):(pickOrder nx xs).toList.Perm xs.toList:=by
 have:=b74 nx xs.size 0 xs.toList #[] (by simp)
 simpa [pickOrder] using this
section
variable {prog:Program}{w:World}{A:Around}{E:Value→Shared→Prop}{s:Shared}{S it tp:Addr}{o:Obj}{es:Array (Int×Value)}{ep i:Nat}{t:SetTable}{first:Value}
theorem ai5 {Q:Value→Shared→Prop}(hi:s.heap.get? it=some (aa3 first S i es.size ep)) (h:Q (.ref it) s):wpAny (model prog w) A (pyIter (.ref it)) Q E s:=by
 have T:s.TypeIs (.ref it) "set_iterator":=⟨_,hi,rfl⟩
 refine wpAny_pyIter_slot T a83 (wpAny_call_entry a83 T ac4 ?_ (ac8 _))
 show wpAny _ _ (ret (.ref it)) _ _ s
 exact wpAny_pure ⟨_,rfl,"set_iterator",_,T,slot_set_iterator_next.lookup,h⟩
theorem ah1 {Q:Option Value→Shared→Prop}{slot nxt:Nat}{x:Value}(hi:s.heap.get? it=some (aa3 (rawInt slot) S i es.size ep)) (ho:s.heap.get? S=some o) (hd:o.data=.set es ep t) (hf:t.fits es.size=true)
 (hn:∀ {E':Value→Shared→Prop}{Q':Option (Value×Nat)→Shared→Prop},Q' (some (x,nxt)) s→wpAny (model prog w) A.in1 (setNext S slot i ep) Q' E' s)
 (q:∀ h',h'.get? it=some (aa3 (rawInt nxt) S (i+1) es.size ep)→Heap.SameBut it s.heap h'→Q (some x) { s with heap:=h' }):wpAny (model prog w) A (pyNext (.ref it)) Q E s:=by
 have T:s.TypeIs (.ref it) "set_iterator":=⟨_,hi,rfl⟩
 unfold pyNext
 refine wpAny_bind (wpAny_attempt (wpAny_callSpecial?_slot (name:=Str.ofString "__next__") T slot_set_iterator_next (wpAny_call_entry slot_set_iterator_next T a54 ?_ (a56 _))))
 unfold Builtin.«set_iterator.__next__» slotArgs
 simp only [List.isEmpty_nil,Bool.not_true,Bool.false_eq_true,↓reduceIte,bind_assoc,List.length_nil,bne_self_eq_false]
 refine wpAny_bind (wpAny_pure (wpAny_bind (wpAny_fieldsOf hi rfl ?_)))
 show wpAny _ A.in1 (setEntries S >>= _) _ _ s
 refine wpAny_bind (wpAny_setEntries_of ho hd hf ?_)
 rw [if_neg (by simp)]
 show wpAny _ A.in1 (setNext S ((slot:Nat):Int).toNat ((i:Nat):Int).toNat ((ep:Nat):Int).toNat >>= _) _ _ s
 rw [Int.toNat_natCast,Int.toNat_natCast,Int.toNat_natCast]
 refine wpAny_bind (hn ?_)
 show wpAny _ A.in1 (setField (.ref it) 0 (rawInt ((nxt:Nat):Int)) >>= fun _=>setField (.ref it) 1 (rawInt ((i:Int)+1)) >>= fun _=>ret x) _ _ s
 refine wpAny_bind (wpAny_setField hi rfl (by simp) ?_)
 have h1:(s.heap.update it (Obj.mapFields (·.setIfInBounds 0 (rawInt ((nxt:Nat):Int))))).get? it=some (aa3 (rawInt nxt) S i es.size ep):=by
  rw [Heap.get?_update_self _ hi rfl]
  rfl
 refine wpAny_bind (wpAny_setField h1 rfl (by simp) ?_)
 exact wpAny_pure ⟨_,rfl,wpAny_pure (q _ (b72 h1) ((Heap.SameBut.update ..).trans (Heap.SameBut.update ..)))⟩
theorem ak1 {Q:Option Value→Shared→Prop}{slot:Nat}(hh:A.handled=none) (hi:s.heap.get? it=some (aa3 (rawInt slot) S i es.size ep)) (ho:s.heap.get? S=some o) (hd:o.data=.set es ep t) (hf:t.fits es.size=true)
 (hn:∀ {E':Value→Shared→Prop}{Q':Option (Value×Nat)→Shared→Prop},Q' none s→wpAny (model prog w) A.in1 (setNext S slot i ep) Q' E' s)
 (q:∀ h',Heap.ExtBut it s.heap h'→Q none { s with heap:=h' }):wpAny (model prog w) A (pyNext (.ref it)) Q E s:=by
 have T:s.TypeIs (.ref it) "set_iterator":=⟨_,hi,rfl⟩
 unfold pyNext
 refine wpAny_bind (wpAny_attempt (wpAny_callSpecial?_slot (name:=Str.ofString "__next__") T slot_set_iterator_next (wpAny_call_entry slot_set_iterator_next T a54 ?_ (a56 _))))
 unfold Builtin.«set_iterator.__next__» slotArgs
 simp only [List.isEmpty_nil,Bool.not_true,Bool.false_eq_true,↓reduceIte,bind_assoc,List.length_nil,bne_self_eq_false]
 refine wpAny_bind (wpAny_pure (wpAny_bind (wpAny_fieldsOf hi rfl ?_)))
 show wpAny _ A.in1 (setEntries S >>= _) _ _ s
 refine wpAny_bind (wpAny_setEntries_of ho hd hf ?_)
 rw [if_neg (by simp)]
 show wpAny _ A.in1 (setNext S ((slot:Nat):Int).toNat ((i:Nat):Int).toNat ((ep:Nat):Int).toNat >>= _) _ _ s
 rw [Int.toNat_natCast,Int.toNat_natCast,Int.toNat_natCast]
 refine wpAny_bind (hn ?_)
 show wpAny _ A.in1 (setField (.ref it) 2 .none >>= fun _=>newExc (.type "StopIteration") [] >>= fun e=>raiseNew e) _ _ s
 refine wpAny_bind (wpAny_setField hi rfl (by simp) ?_)
 refine az2 hh fun h' e hk hT=>?_
 refine wpAny_bind (wpAny_isInstance (b:=true) (T:="StopIteration") hT isSubtype_stop ?_)
 refine wpAny_pure (q _ fun b ob hb e=>hk _ _ ?_)
 exact (Heap.SameBut.update ..).extBut b ob hb e
theorem as6 {slot:Nat}{Q:Option (Value×Nat)→Shared→Prop}(ho:s.heap.get? S=some o) (hd:o.data=.set es ep t) (hf:t.fits es.size=true) (hb:w.params.followText "set-order"=true)
 (q:Q (((pickOrder (w.params.setOrder S ep) es)[i]?).map fun e=>(e.2,slot)) s):wpAny (model prog w) A (setNext S slot i ep) Q E s:=by
 unfold setNext
 refine wpAny_bind (wpAny_setState_of ho hd hf ?_)
 dsimp only
 unfold setsByText
 refine wpAny_bind (wpAny_bind (wpAny_askSetting (wpAny_pure ?_)))
 rw [show (model prog w).w.params.followText "set-order"=true from hb]
 simp only [if_true,bne_self_eq_false,Bool.false_eq_true,if_false]
 unfold setWalk
 refine wpAny_bind (wpAny_bind (wpAny_setState_of ho hd hf ?_))
 dsimp only
 unfold setsByText
 refine wpAny_bind (wpAny_bind (wpAny_askSetting (wpAny_pure ?_)))
 rw [show (model prog w).w.params.followText "set-order"=true from hb]
 simp only [if_true]
 refine wpAny_bind (wpAny_askSetting (wpAny_pure ?_))
 exact wpAny_pure q
end
theorem arr1 (a:Array Nat) (h:a.size=1):∃ j,a=#[j]:=by
 obtain ⟨l⟩:=a
 obtain ⟨j,r,rfl⟩:=List.exists_cons_of_length_eq_add_one (n:=0) h
 have e:r=[]:=by simpa using h
 exact ⟨j,by rw [e]⟩
theorem b75 (j:Nat):SetTable.below #[j] 0=0∧SetTable.below #[j] (j+1)=1:=by
 constructor
 · simp [SetTable.below,SetTable.below.go]
 · simp [SetTable.below,SetTable.below.go]
section
variable {prog:Program}{w:World}{A:Around}{E:Value→Shared→Prop}{s:Shared}{S it tp:Addr}{o:Obj}{es:Array (Int×Value)}{ep i:Nat}{t:SetTable}{first:Value}
theorem az3 {slot:Nat}{Q:Option (Value×Nat)→Shared→Prop}(ho:s.heap.get? S=some o) (hd:o.data=.set es ep t) (hf:t.fits es.size=true) (hb:w.params.followText "set-order"=false) (h1:es.size≤1) (hl:t.led=true)
 (q:Q (match es[SetTable.below t.place slot]?,t.place[SetTable.below t.place slot]? with | some (_,x),some j=>some (x,j+1) | _,_=>none) s):wpAny (model prog w) A (setNext S slot i ep) Q E s:=by
 unfold setNext
 refine wpAny_bind (wpAny_setState_of ho hd hf ?_)
 dsimp only
 unfold setsByText
 refine wpAny_bind (wpAny_bind (wpAny_askSetting (wpAny_pure ?_)))
 rw [show (model prog w).w.params.followText "set-order"=false from hb]
 simp only [Bool.false_eq_true,if_false]
 refine wpAny_ite_split (fun z=>?_) fun _=>?_
 · have z':(!t.plain && decide (es.size > 1))=true:=z
   rw [Bool.and_eq_true,decide_eq_true_eq] at z'
   omega
 show wpAny _ _ ((if (!t.led && !es.isEmpty)=true then unsupported "set:maker-not-led" else pure ()) >>= _) _ _ s
 rw [hl]
 simp only [Bool.not_true,Bool.false_and,Bool.false_eq_true,if_false]
 exact wpAny_bind (wpAny_pure (wpAny_pure q))
theorem bx6 (hh:A.handled=none) {pl:List Nat}(hn1:S≠it) (hn2:tp≠it) (hd:o.data=.set es ep t) (hf:t.fits es.size=true) (pp:pl.Perm (List.range es.size)) :
 Walks prog w A it [it,S,tp] [it] es.size (fun i v=>∃ e,(pl.map fun p=>es.getD p (0,.none))[i]?=some e∧v=e.2) (fun i h=>h.get? it=some (aa3 (.ref tp) S i es.size ep)∧h.get? tp=some (ae5 pl)∧h.get? S=some o) where
 sub:=fun b hb=>by simp at hb; simp [hb]
 frame:=fun _ _ _ st hk=>⟨hk it (by simp) _ st.1,hk tp (by simp) _ st.2.1,hk S (by simp) _ st.2.2⟩
 item:=fun i s Q E hi st hQ=>by
  have hl:pl.length=es.size:=by rw [pp.length_eq,List.length_range]
  have hp:pl[i]?=some (pl[i]'(by omega)):=List.getElem?_eq_getElem (by omega)
  have hm:pl[i]'(by omega)<es.size:=List.mem_range.mp (pp.mem_iff.mp (List.getElem_mem _))
  refine b18 st.1 st.2.1 st.2.2 hd hf hp (Array.getElem?_eq_getElem hm) fun h' h1 hs=>hQ _ h' s.toks ⟨_,by rw [List.getElem?_map,hp]; rfl,by simp [Array.getD,hm]⟩ ⟨h1,hs.extBut _ _ hn2 st.2.1,hs.extBut _ _ hn1 st.2.2⟩ fun b o hb e=>hs.extBut b o (fun z=>hb (by simp [z])) e
 done:=fun s Q E st hQ=>by
  have hl:pl.length=es.size:=by rw [pp.length_eq,List.length_range]
  exact b73 hh st.1 st.2.1 st.2.2 hd hf (List.getElem?_eq_none (by omega)) fun h' he=>hQ h' s.toks fun b o hb e=>he b o (fun z=>hb (by simp [z])) e
 self:=fun _ _ _ _ st hQ=>ai5 st.1 hQ
theorem bx7 (hh:A.handled=none) (hn1:S≠it) (hd:o.data=.set es ep t) (hf:t.fits es.size=true) (hb:w.params.followText "set-order"=true) :
 Walks prog w A it [it,S,S] [it] es.size (fun i v=>∃ e,((pickOrder (w.params.setOrder S ep) es).toList)[i]?=some e∧v=e.2) (fun i h=>h.get? it=some (aa3 (rawInt ((0:Nat):Int)) S i es.size ep)∧h.get? S=some o) where
 sub:=fun b hb=>by simp at hb; simp [hb]
 frame:=fun _ _ _ st hk=>⟨hk it (by simp) _ st.1,hk S (by simp) _ st.2⟩
 item:=fun i s Q E hi st hQ=>by
  have hl:(pickOrder (w.params.setOrder S ep) es).size=es.size:=by
   have:=(aa9 (w.params.setOrder S ep) es).length_eq
   simpa using this
  have hg:(pickOrder (w.params.setOrder S ep) es)[i]?=some ((pickOrder (w.params.setOrder S ep) es)[i]'(by omega)):=Array.getElem?_eq_getElem _
  refine ah1 (slot:=0) (nxt:=0) (x:=((pickOrder (w.params.setOrder S ep) es)[i]'(by omega)).2) st.1 st.2 hd hf (fun q'=>as6 st.2 hd hf hb (by rw [hg]; exact q')) fun h' h1 hs=>hQ _ h' s.toks ⟨_,by rw [Array.getElem?_toList]; exact hg,rfl⟩ ⟨h1,hs.extBut _ _ hn1 st.2⟩ fun b o hb e=>hs.extBut b o (fun z=>hb (by simp [z])) e
 done:=fun s Q E st hQ=>by
  have hl:(pickOrder (w.params.setOrder S ep) es).size=es.size:=by
   have:=(aa9 (w.params.setOrder S ep) es).length_eq
   simpa using this
  exact ak1 hh st.1 st.2 hd hf (fun q'=>as6 st.2 hd hf hb (by rw [Array.getElem?_eq_none (by omega)]; exact q')) fun h' he=>hQ h' s.toks fun b o hb e=>he b o (fun z=>hb (by simp [z])) e
 self:=fun _ _ _ _ st hQ=>ai5 st.1 hQ
theorem c40 (hh:A.handled=none) (hn1:S≠it) (hd:o.data=.set es ep t) (hf:t.fits es.size=true) (hb:w.params.followText "set-order"=false) (h1:es.size≤1) (hl:t.led=true) :
 Walks prog w A it [it,S,S] [it] es.size (fun i v=>∃ e,es.toList[i]?=some e∧v=e.2) (fun i h=>h.get? it=some (aa3 (rawInt ((if i=0 then 0 else t.place.getD 0 0+1:Nat):Int)) S i es.size ep)∧h.get? S=some o) where
 sub:=fun b hb=>by simp at hb; simp [hb]
 frame:=fun _ _ _ st hk=>⟨hk it (by simp) _ st.1,hk S (by simp) _ st.2⟩
 item:=fun i s Q E hi st hQ=>by
  have e0:i=0:=by omega
  subst e0
  have sz:t.place.size=1:=by
   simp only [SetTable.fits,Bool.and_eq_true,beq_iff_eq] at hf
   omega
  obtain ⟨j,hj⟩:=arr1 _ sz
  have he:es[0]?=some (es[0]'(by omega)):=Array.getElem?_eq_getElem _
  refine ah1 (slot:=0) (nxt:=j+1) (x:=(es[0]'(by omega)).2) st.1 st.2 hd hf (fun q'=>az3 st.2 hd hf hb h1 hl (by rw [hj,(b75 j).1,he]; exact q')) fun h' h1' hs=>hQ _ h' s.toks ⟨_,by rw [Array.getElem?_toList]; exact he,rfl⟩ ⟨by rw [if_neg (by omega),hj]; exact h1',hs.extBut _ _ hn1 st.2⟩ fun b o hb e=>hs.extBut b o (fun z=>hb (by simp [z])) e
 done:=fun s Q E st hQ=>by
  refine ak1 hh st.1 st.2 hd hf (fun q'=>az3 st.2 hd hf hb h1 hl ?_) fun h' he=>hQ h' s.toks fun b o hb e=>he b o (fun z=>hb (by simp [z])) e
  by_cases h0:es.size=0
  · rw [Array.getElem?_eq_none (xs:=es) (by omega)]
    exact q'
  · have sz:t.place.size=1:=by
     simp only [SetTable.fits,Bool.and_eq_true,beq_iff_eq] at hf
     omega
    obtain ⟨j,hj⟩:=arr1 _ sz
    rw [if_neg h0,hj]
    rw [show (#[j]:Array Nat).getD 0 0=j from rfl,(b75 j).2,Array.getElem?_eq_none (xs:=es) (by omega)]
    exact q'
 self:=fun _ _ _ _ st hQ=>ai5 st.1 hQ
end
section
variable {prog:Program}{w:World}{A:Around}{E:Value→Shared→Prop}{s:Shared}{S:Addr}{es:Array (Int×Value)}
theorem be6 {Q:Bool→Shared→Prop}(hT:s.TypeIs (.ref S) "set") (h:Q false s):wpAny (model prog w) A (Builtin.List.listLengthHint (.ref S)) Q E s:=by
 unfold Builtin.List.listLengthHint
 refine wpAny_bind (wpAny_specialOf hT F.slot_set_len.lookup ?_)
 generalize hid:("set.__len__":String)=id0
 wp_delta
 rw [show splitId id0=some ("set","__len__") from by subst hid; decide +kernel]
 subst hid
 refine wpAny_bind (wpAny_isInstance (T:="set") (b:=true) hT (by rw [isSubtype_type]; kernel_rfl) ?_)
 refine wpAny_ite_split (fun hab=>absurd hab (by decide)) (fun _=>?_)
 refine wpAny_ite_split (fun _=>?_) (fun hab=>absurd (by decide +kernel) hab)
 refine wpAny_bind (wpAny_typeOf hT ?_)
 exact wpAny_pure h
theorem ae1 {R:Result→Shared→Prop}{I L:Addr}{fp:List Addr}{n c0:Nat}{P:Nat→Value→Prop}{St:Nat→Heap→Prop}{res:Value}{cnd:Bool}(W:Walks prog w A.in1 I fp [I] n P St) (hn:n≤sizeLine) (hLf:L∉fp) (hI:I∈fp) (hT:s.TypeIs (.ref S) "set") (hS:S∈fp)
 (st:St 0 s.heap) (hL:s.heap.get? L=some { cls:=.type "list",data:=.seq #[] c0 })
 (hR:∀ h' tk acc c',(∀ b o,b≠L→b≠I→s.heap.get? b=some o→h'.get? b=some o)→h'.get? L=some { cls:=.type "list",dict:=none,data:=.seq acc c',slots:=#[] }→ItemsOf P acc n→R (.ok (.ret res)) { s with heap:=h',toks:=tk }) :
 wpAny (model prog w) A.in1 (do
  let room←holding [.ref I] (Builtin.List.listLengthHint (.ref S))
  if (room || cnd)=true then do
   rule "list.extend.makes-room"
   Builtin.List.listTouch (.ref L)
   again (.builtin "list.extend.loop" ⟨[.ref L,.ref I,res],[]⟩)
   else again (.builtin "list.extend.loop" ⟨[.ref L,.ref I,res],[]⟩))
  (fun fin s'=>match fin with | .done f=>R (.ok f) s' | .again c'=>c'.quiet=true∧codeAny (model prog w) A c' R s') (fun e s'=>R (.error e) s') s:=by
 have key:∀ (h:Heap) (c1:Nat),St 0 h→(∀ b o,b≠L→s.heap.get? b=some o→h.get? b=some o)→h.get? L=some { cls:=.type "list",data:=.seq #[] c1 }→codeAny (model prog w) A (.builtin "list.extend.loop" ⟨[.ref L,.ref I,res],[]⟩) R { s with heap:=h }:=by
  intro h c1 hst hk hL1
  refine codeAny_extend_loopS W.toS hn L hLf res n 0 _ #[] c1 rfl (Nat.zero_le _) hst hL1 (ItemsOf.nil _) fun s' acc' c' hm hL' hacc=>?_
  rw [Moved.eq_with hm]
  refine hR s'.heap s'.toks acc' c' (fun b o hb hbI e=>hm.heap b o (fun z=>?_) (hk b o hb e)) hL' hacc
  rcases List.mem_cons.mp z with z | z
  · exact hb z
  · exact hbI (List.mem_singleton.mp z)
 refine wpAny_bind (wpAny_holding (be6 hT ?_))
 refine wpAny_ite_split (fun _=>?_) (fun _=>wpAny_pure ⟨plainId_quiet PySem.F.plain_extend_loop _,key _ c0 st (fun b o _ e=>e) hL⟩)
 refine wpAny_bind (wpAny_rule (wpAny_bind ?_))
 show wpAny _ _ (updateSeq L (·.push .none) >>= fun _=>updateSeq L (·.pop)) _ _ _
 refine wpAny_bind (wpAny_updateSeq hL rfl ?_)
 have hL2:=Heap.get?_update_self (Obj.mapSeq (·.push Value.none)) hL rfl
 refine wpAny_updateSeq (hz:=by seq_fits) hL2 rfl ?_
 have hL3:=Heap.get?_update_self (Obj.mapSeq (·.pop)) hL2 rfl
 have hk:∀ b o,b≠L→s.heap.get? b=some o→((s.heap.update L (Obj.mapSeq (·.push Value.none))).update L (Obj.mapSeq (·.pop))).get? b=some o:=fun b o hb e=>(Heap.get?_update_other _ _ (Ne.symm hb)).trans ((Heap.get?_update_other _ _ (Ne.symm hb)).trans e)
 exact wpAny_pure ⟨plainId_quiet PySem.F.plain_extend_loop _,key _ _ (W.frame 0 _ _ st fun b hb o e=>hk b o (fun z=>hLf (z ▸ hb)) e) hk hL3⟩
theorem ab0 {ord:List (Int×Value)}{acc:Array Value}{n:Nat}(h:ItemsOf (fun i v=>∃ e,ord[i]?=some e∧v=e.2) acc n) (hl:ord.length=n):acc.toList=ord.map (·.2):=by
 apply List.ext_getElem?
 intro j
 rw [List.getElem?_map]
 by_cases hj:j<n
 · have hj':j<acc.size:=by rw [h.1]; exact hj
   obtain ⟨e,h1,h2⟩:=h.2 j acc[j] (Array.getElem?_eq_getElem hj')
   rw [h1,Array.getElem?_toList,Array.getElem?_eq_getElem hj',h2]
   rfl
 · have:=h.1
   rw [Array.getElem?_toList,Array.getElem?_eq_none (by omega),List.getElem?_eq_none (by omega)]
   rfl
theorem am8 (es:Array (Int×Value)) (d:Int×Value):(List.range es.size).map (fun p=>es.getD p d)=es.toList:=by
 apply List.ext_getElem
 · simp
 · intro j h1 h2
   have hj:j<es.size:=by simpa using h2
   simp [Array.getD,hj]
theorem b19 {R:Result→Shared→Prop}{L:Addr}{c0:Nat}{res:Value}(hh:A.handled=none) (hS:SStr prog w s.heap S es) (hne:L≠S) (hL:s.heap.get? L=some { cls:=.type "list",data:=.seq #[] c0 })
 (hR:∀ h' tk d acc c',(∀ b o,b≠L→s.heap.get? b=some o→h'.get? b=some o)→h'.get? L=some { cls:=.type "list",dict:=none,data:=.seq acc c',slots:=#[] }→acc.toList.Perm (es.toList.map (·.2))→R (.ok (.ret res)) { s with heap:=h',toks:=tk,drawn:=d }) :
 wpAny (model prog w) A.in1 (Builtin.List.listExtendWith (.ref L) (.ref S) res)
  (fun fin s'=>match fin with | .done f=>R (.ok f) s' | .again c'=>c'.quiet=true∧codeAny (model prog w) A c' R s') (fun e s'=>R (.error e) s') s:=by
 obtain ⟨⟨o,ep,t,ho,hx,hd,hf,hl,hp⟩,hel,hlt⟩:=hS
 have T:s.TypeIs (.ref S) "set":=⟨o,ho,hx.1⟩
 have hn:es.size≤sizeLine:=fits_of_scanBound hlt
 have lS:=Heap.lt_size ho
 have lL:=Heap.lt_size hL
 have hh1:A.in1.handled=none:=hh
 unfold Builtin.List.listExtendWith
 refine wpAny_bind (wpAny_typeOf (T:="set") T ?_)
 have h1:Builtin.List.listSameRef (.ref L) (.ref S)=false:=by simp [Builtin.List.listSameRef,hne]
 simp only [h1,show (Value.type "set" == Value.type "list")=false by decide,show (Value.type "set" == Value.type "tuple")=false by decide,Bool.or_false,Bool.false_eq_true,if_false]
 refine wpAny_bind (az1 ho hx hd hf hlt (fun hD=>?_) (fun hD pl d pp=>?_))
 · have nf:L∉[s.heap.objs.size,S,S]:=by
    simp only [List.mem_cons,List.not_mem_nil,or_false,not_or]
    exact ⟨Nat.ne_of_lt lL,hne,hne⟩
   have T1:Shared.TypeIs { s with heap:=s.heap.push (aa3 (rawInt 0) S 0 es.size ep) } (.ref S) "set":=⟨o,Heap.get?_push_of_some _ ho,hx.1⟩
   by_cases hb:w.params.followText "set-order"=true
   · refine ae1 (bx7 hh1 (Nat.ne_of_lt lS) hd hf hb) hn nf (by simp) T1 (by simp) ⟨Heap.get?_push_size _ rfl,Heap.get?_push_of_some _ ho⟩ (Heap.get?_push_of_some _ hL) fun h' tk acc c' hk hL' hit=>?_
     have pl:=(aa9 (w.params.setOrder S ep) es).length_eq
     refine hR h' tk s.drawn acc c' (fun b o hb e=>hk b o hb (Nat.ne_of_lt (Heap.lt_size e)) (Heap.get?_push_of_some _ e)) hL' ?_
     rw [ab0 hit (by simpa using pl)]
     exact (aa9 _ _).map _
   · have hb':w.params.followText "set-order"=false:=by simpa using hb
     have h1':es.size≤1:=by
      by_cases h0:es.size≤1
      · exact h0
      · have:=hp (by omega)
        unfold Drw at hD
        rw [hb',this] at hD
        simp at hD
        omega
     refine ae1 (c40 hh1 (Nat.ne_of_lt lS) hd hf hb' h1' (by rw [hl,hb']; rfl)) hn nf (by simp) T1 (by simp) ⟨Heap.get?_push_size _ rfl,Heap.get?_push_of_some _ ho⟩ (Heap.get?_push_of_some _ hL) fun h' tk acc c' hk hL' hit=>?_
     refine hR h' tk s.drawn acc c' (fun b o hb e=>hk b o hb (Nat.ne_of_lt (Heap.lt_size e)) (Heap.get?_push_of_some _ e)) hL' ?_
     rw [ab0 hit (by simp)]
 · have gt:∀ b:Addr,b<s.heap.objs.size→b≠(s.heap.push (ae5 pl)).objs.size:=fun b z=>by
    rw [Heap.size_push]
    exact Nat.ne_of_lt (Nat.lt_succ_of_lt z)
   have gt2:s.heap.objs.size≠(s.heap.push (ae5 pl)).objs.size:=by
    rw [Heap.size_push]
    exact Nat.ne_of_lt (Nat.lt_succ_self _)
   have nf:L∉[(s.heap.push (ae5 pl)).objs.size,S,s.heap.objs.size]:=by
    simp only [List.mem_cons,List.not_mem_nil,or_false,not_or]
    exact ⟨gt L lL,hne,Nat.ne_of_lt lL⟩
   have up:∀ b ob,s.heap.get? b=some ob→((s.heap.push (ae5 pl)).push (aa3 (.ref s.heap.objs.size) S 0 es.size ep)).get? b=some ob:=fun b ob e=>Heap.get?_push_of_some _ (Heap.get?_push_of_some _ e)
   refine ae1 (s:={ s with heap:=(s.heap.push (ae5 pl)).push (aa3 (.ref s.heap.objs.size) S 0 es.size ep),drawn:=d }) (bx6 hh1 (gt S lS) gt2 hd hf pp) hn nf (by simp) ⟨o,up _ _ ho,hx.1⟩ (by simp) ⟨Heap.get?_push_size _ rfl,Heap.get?_push_of_some _ (Heap.get?_push_size _ rfl),up _ _ ho⟩ (up _ _ hL) fun h' tk acc c' hk hL' hit=>?_
   have ln:pl.length=es.size:=by rw [pp.length_eq,List.length_range]
   refine hR h' tk d acc c' (fun b o hb e=>hk b o hb (gt b (Heap.lt_size e)) (up _ _ e)) hL' ?_
   rw [ab0 hit (by simpa using ln),←am8 es (0,.none)]
   exact (pp.map _).map _
end
section
variable {prog:Program}{w:World}{A:Around}{E:Value→Shared→Prop}{s:Shared}{S:Addr}{es:Array (Int×Value)}
theorem aw1 {R:List Value→Shared→Prop}(hh:A.handled=none) (hS:SStr prog w s.heap S es)
 (h:∀ (h':Heap) (tk:Nat) (d:Drawn) (acc:Array Value),(∀ b o,s.heap.get? b=some o→h'.get? b=some o)→s.heap.objs.size<h'.objs.size→acc.toList.Perm (es.toList.map (·.2))→R acc.toList { s with heap:=h',toks:=tk,drawn:=d }) :
 wpAny (model prog w) A (collect (.ref S)) R E s:=by
 obtain ⟨o,ep,t,ho,_⟩:=hS.ex
 have lS:=Heap.lt_size ho
 unfold collect
 refine wpAny_bind (wpAny_runValue (codeAny_builtin entry_proto_collect' ?_))
 rw [Around.under_plainId PySem.F.plain_proto_collect _]
 show wpAny _ A.in1 (newList [] >>= fun l=>again (.builtin "list.__iadd__" ⟨[l,.ref S],[]⟩)) _ _ s
 refine wpAny_bind (wpAny_newObj_type (wpAny_pure ⟨plainId_quiet PySem.F.plain_list_iadd _,codeAny_builtin entry_list_iadd' ?_⟩))
 rw [Around.under_plainId PySem.F.plain_list_iadd _]
 have hL:(s.heap.push { cls:=.type "list",data:=.seq ([]:List Value).toArray }).get? s.heap.objs.size=some { cls:=.type "list",data:=.seq #[] }:=Heap.get?_push_size _ rfl
 show wpAny _ A.in1 (Builtin.List.listExtendWith (.ref s.heap.objs.size) (.ref S) (.ref s.heap.objs.size)) _ _ _
 have key:=b19 (A:=A) (s:={ s with heap:=s.heap.push { cls:=.type "list",data:=.seq ([]:List Value).toArray } }) (L:=s.heap.objs.size) (c0:=0) (res:=.ref s.heap.objs.size) (es:=es) (S:=S) (w:=w) (prog:=prog)
  (R:=fun (q:Result) (s':Shared)=>∃ (h':Heap) (tk:Nat) (d:Drawn) (acc:Array Value) (c':Nat),q=.ok (.ret (.ref s.heap.objs.size))∧s'={ s with heap:=h',toks:=tk,drawn:=d }∧(∀ b o,s.heap.get? b=some o→h'.get? b=some o)∧h'.get? s.heap.objs.size=some { cls:=.type "list",dict:=none,data:=.seq acc c',slots:=#[] }∧acc.toList.Perm (es.toList.map (·.2)))
  hh (hS.moved fun o e=>Heap.get?_push_of_some _ e) (Nat.ne_of_gt lS) hL
  (fun h' tk d acc c' hk hL' hp=>⟨h',tk,d,acc,c',rfl,rfl,fun b o e=>hk b o (Nat.ne_of_lt (Heap.lt_size e)) (Heap.get?_push_of_some _ e),hL',hp⟩)
 refine wpAny_mono key (fun fin s' x=>?_) fun e s' x=>?_
 · cases fin with
   | done f =>
     obtain ⟨h',tk,d,acc,c',e,rfl,hk,hL',hp⟩:=x
     cases e
     show wpAny _ A (load s.heap.objs.size >>= _) _ _ _
     exact wpAny_bind (wpAny_load hL' (wpAny_pure (h h' tk d acc hk (Heap.lt_size hL') hp)))
   | again c1 =>
     refine ⟨x.1,codeAny_mono x.2 fun q s2 y=>?_⟩
     obtain ⟨h',tk,d,acc,c',rfl,rfl,hk,hL',hp⟩:=y
     show wpAny _ A (load s.heap.objs.size >>= _) _ _ _
     exact wpAny_bind (wpAny_load hL' (wpAny_pure (h h' tk d acc hk (Heap.lt_size hL') hp)))
 · obtain ⟨_,_,_,_,_,e',_⟩:=x
   cases e'
theorem ak2 {α β:Type}{f:α→β}{xs ys:List β}(h:xs.Perm ys):∀ l:List α,ys=l.map f→∃ l':List α,l'.Perm l∧xs=l'.map f:=by
 induction h with
 | nil =>
   intro l hl
   exact ⟨l,List.Perm.refl _,hl⟩
 | cons x _ ih =>
   intro l hl
   cases l with
   | nil=>simp at hl
   | cons y l =>
     rw [List.map_cons,List.cons.injEq] at hl
     obtain ⟨l',p,e⟩:=ih l hl.2
     exact ⟨y::l',p.cons y,by rw [List.map_cons,←hl.1,e]⟩
 | swap x y zs =>
   intro l hl
   match l,hl with
   | a::b::l,hl =>
     rw [List.map_cons,List.map_cons,List.cons.injEq,List.cons.injEq] at hl
     exact ⟨b::a::l,List.Perm.swap _ _ _,by rw [List.map_cons,List.map_cons,←hl.1,←hl.2.1,hl.2.2]⟩
 | trans _ _ ih1 ih2 =>
   intro l hl
   obtain ⟨l2,p2,e2⟩:=ih2 l hl
   obtain ⟨l1,p1,e1⟩:=ih1 l2 e2
   exact ⟨l1,p1.trans p2,e1⟩
theorem b76:∀ {l:List (Str×Tok)}{vs:List Value},vs=l.map (fun x=>(entS w x).2)→StrsAre vs (l.map (·.1))
 | [],_,rfl=>.nil
 | x::l,_,rfl=>.cons x.1 x.2 (b76 rfl)
theorem b21 {ks:List Str}{Q:Value→Shared→Prop}(hh:A.handled=none) (hS:SStr prog w s.heap S es) (hK:KsOf w es ks) (h64:ks.length<64)
 (h:∀ (D:Addr) (h':Heap) (tk:Nat) (d:Drawn) (vs:List Value) (ss:List Str) (e:Nat),(∀ b o,s.heap.get? b=some o→h'.get? b=some o)→s.heap.objs.size≤D→h'.get? D=some (seqObj "list" vs.toArray e)→StrsAre vs ss→ss.Perm ks→sortedS ss=true→Q (.ref D) { s with heap:=h',toks:=tk,drawn:=d }) :
 wpAny (model prog w) A (call (.builtin "sorted") [.ref S]) Q E s:=by
 refine Calls.call_function_entry kind_sorted plain_sorted entry_sorted (args_sorted1 _) ?_
 unfold Builtin.«sorted»
 refine wpAny_bind (m:=checkCount "sorted" 1 1 _) (wpAny_pure ?_)
 refine wpAny_bind (aw1 hh hS fun h' tk d acc hk hsz hp=>?_)
 obtain ⟨nd,l,rfl,pp⟩:=hK
 have p2:acc.toList.Perm (l.map fun x=>(entS w x).2):=hp.trans (by have:=pp.map (·.2); rw [List.map_map] at this; exact this)
 have ln:acc.toList.length=l.length:=by rw [p2.length_eq,List.length_map]
 have hl64:acc.toList.length<64:=by rw [ln]; simpa using h64
 obtain ⟨l',p3,e3⟩:=ak2 p2 l rfl
 have hst:=b76 (w:=w) e3
 refine wpAny_bind (wpAny_newList ?_ (by have:64≤sizeLine:=le_line (by decide); omega))
 have hD:(h'.push (seqObj "list" acc.toList.toArray 0)).get? h'.objs.size=some (seqObj "list" acc.toList.toArray 0):=Heap.get?_push_size _ rfl
 show wpAny _ _ _ _ _ { s with heap:=h'.push (seqObj "list" acc.toList.toArray 0),toks:=tk,drawn:=d }
 refine wpAny_bind (wpAny_holding (wpAny_call_entry PyProof.Rows.slot_list_sort ⟨_,hD,rfl⟩ PyProof.Rows.entry_list_sort (list_sort_treeK strKind_oneLt hD hst.keysOf (fun v1 v2 rest e=>keyKind_strs (by rw [← e]; exact hst)) hl64 fun st' a1 a2=>⟨_,rfl,?_⟩) (args_list_sort _)))
 obtain ⟨ss',b1,b2,b3⟩:=sorted_out_str hst a1 a2
 obtain ⟨e,he⟩:=sortedHeap_at (h:=h'.push (seqObj "list" acc.toList.toArray 0)) (a:=h'.objs.size) (vs:=acc.toList) (out:=(arrOf st').map (·.2)) (n:=0) hD
 have lt:∀ b o,s.heap.get? b=some o→b<h'.objs.size:=fun b o e=>Heap.lt_size (hk b o e)
 refine wpAny_pure ⟨_,rfl,h h'.objs.size _ tk d ((arrOf st').map (·.2)).toList ss' e (fun b o e=>?_) ?_ (by rw [Array.toArray_toList]; exact he) b1 (b2.trans (p3.map _)) b3⟩
 · have:=lt b o e
   rw [sortedHeap_old (Nat.ne_of_lt this) (by rw [size_push']; exact Nat.lt_succ_of_lt this)]
   exact Heap.get?_push_of_some _ (hk b o e)
 · exact Nat.le_of_lt hsz
end
theorem Inv.drw {X:Cx}{pins:List (Addr×Obj)}{σ:List (Option V)} {H:Hp}{s:Shared}(I:Inv X pins σ H s) (d:Drawn):Inv X pins σ H { s with drawn:=d }:=⟨I.ok,I.os,I.bare,I.base,I.loc,I.cell,I.free,I.freeC,I.pin,I.hok,I.len⟩
def setφ (P:Program) (w:World) (p:Addr) (ks:List Str):Heap→Prop:=fun h=>∃ es,SStr P w h p es∧KsOf w es ks
def bx8 (P:Program) (w:World) (H:Hp) (p:Addr) (ks:List Str):Prop:=H p=some (.ext (setφ P w p ks))
def c41 (K:PySem.W.Frag) (P:Program) (w:World):List V→Hp→VK→Prop:=fun vs H Q=>∃ a ss,vs=[V.ref a]∧SqL K H a (a33 ss)∧ss.length+1<4096∧∀ p H' ks,H p=none→Same H H'→bx8 P w H' p ks→ks.Nodup→(∀ x,x∈ks↔x∈ss)→Q (.ref p) H'
def bx9 (P:Program) (w:World):List V→Hp→VK→Prop:=fun vs H Q=>∃ p ks,vs=[V.ref p]∧bx8 P w H p ks∧ks.length<64∧∀ q out H',H q=none→Same H H'→H' q=some (.lst (a33 out))→out.Perm ks→sortedS out=true→Q (.ref q) H'
theorem am9:∀ {ss:List Str}{us:List Value},Vals (a33 ss) us→∀ (i:Nat) (v:Value),us[i]?=some v→∃ t,v=Value.str (ss.getD i ⟨#[]⟩) t
 | [],us,h,i,v,e=>by
   cases h
   simp at e
 | x::ss,us,h,i,v,e=>by
   cases h with
   | cons h1 h2 =>
     obtain ⟨t,rfl⟩:=h1
     cases i with
     | zero =>
       simp at e
       exact ⟨t,by rw [← e]; rfl⟩
     | succ i=>exact am9 h2 i v (by simpa using e)
theorem as7:∀ {vs:List Value}{ss:List Str},StrsAre vs ss→Vals (a33 ss) vs
 | _,_,.nil=>.nil
 | _,_,.cons y t h=>.cons ⟨t,rfl⟩ (as7 h)
theorem b77 (ss:List Str) (x:Str):x∈a82 (fun i=>ss.getD i ⟨#[]⟩) ss.length↔x∈ss:=by
 rw [am6]
 constructor
 · rintro ⟨j,hj,rfl⟩
   rw [List.getD_eq_getElem?_getD,List.getElem?_eq_getElem hj]
   exact List.getElem_mem hj
 · intro hx
   obtain ⟨j,hj,rfl⟩:=List.mem_iff_getElem.mp hx
   exact ⟨j,hj,by rw [List.getD_eq_getElem?_getD,List.getElem?_eq_getElem hj]; rfl⟩
theorem ak3 (val:Nat→Str):∀ i,(a82 val i).Nodup
 | 0=>by simp [a82]
 | i+1=>by
   rw [ac3]
   unfold metS
   split
   · exact ak3 val i
   · next h =>
     refine List.nodup_append.mpr ⟨ak3 val i,by simp,fun a ha b hb z=>?_⟩
     rw [List.mem_singleton.mp hb] at z
     exact h (z ▸ ha)
section
variable {X:Cx}{P:Program}{w:World}
theorem b78 (K:PySem.W.Frag) (hP:X.prog=P) (hw:X.w=w) (hc:X.calm=true) (hK:X.K=K:=by rfl):CallR X (.type "set") (c41 K P w):=by
 subst hP hw hK
 intro pins s σ H xs us Q I r h
 obtain ⟨a,ss,rfl,hS,hl,q⟩:=h
 cases r with
 | cons r1 r2 =>
 cases r2
 cases r1
 obtain ⟨its,v1,p1,z⟩:=I.list hS
 have hlen:its.length=ss.length:=by
  have:=v1.length
  simpa [a33] using this.symm
 have hb:its.toArray.size+1<scanBound:=by
  rw [List.size_toArray,hlen]
  exact hl
 refine ao3 (I.ok.hd hc) p1.isList (val:=fun i=>ss.getD i ⟨#[]⟩) (fun i v e=>am9 v1 i v (by rw [List.getElem?_toArray] at e; exact e)) hb fun h' tk es hs hk keep=>?_
 rw [List.size_toArray,hlen] at hk
 have kp:∀ b u,s.heap.get? b=some u→h'.get? b=some u:=fun b u e=>keep b u (Heap.lt_size e) e
 have hp:=I.hok.fresh (Nat.le_refl s.heap.objs.size)
 obtain ⟨o,ep,t,ho,_⟩:=hs.ex
 have I2:=I.laid (h':=h') (t':=tk) (a:=s.heap.objs.size) (o:=.ext (setφ X.prog X.w s.heap.objs.size (a82 (fun i=>ss.getD i ⟨#[]⟩) ss.length))) kp (Nat.le_refl _) ⟨⟨es,hs,hk⟩,⟨o,ho⟩,fun h1 h2 ⟨es',a1,a2⟩ z=>⟨es',a1.moved z,a2⟩⟩
 exact ⟨.ref s.heap.objs.size,_,I2,rfl,q _ _ _ hp (Same.new hp) a46 (ak3 _ _) (b77 ss)⟩
theorem az4 (hP:X.prog=P) (hw:X.w=w) (hc:X.calm=true):CallR X (.builtin "sorted") (bx9 P w):=by
 subst hP hw
 intro pins s σ H xs us Q I r h
 obtain ⟨p,ks,rfl,hS,h64,q⟩:=h
 cases r with
 | cons r1 r2 =>
 cases r2
 cases r1
 obtain ⟨⟨es,hs,hk⟩,_⟩:=(show ObjOk X.prog X.w H s.heap p (.ext (setφ X.prog X.w p ks)) from I.hok p _ hS)
 refine b21 (I.ok.hd hc) hs hk h64 fun D h' tk d vs ss e kp hD hl hv pm so=>?_
 have hp:=I.hok.fresh hD
 have ln:ss.length=ks.length:=pm.length_eq
 have I2:=(I.drw d).laid (h':=h') (t':=tk) (a:=D) (o:=.lst (a33 ss)) kp hD ⟨by simp [a33]; exact Nat.le_trans (by omega) (le_line (show 64≤1000000 by decide)),vs,e,as7 hv,hl⟩
 exact ⟨.ref D,_,I2,rfl,q D ss _ hp (Same.new hp) a46 pm so⟩
end
section
variable {X:Cx}
end
theorem bi7:∀ {a b:List Nat},ltCps a b=false→ltCps b a=false→a=b
 | [],[],_,_=>rfl
 | [],_::_,h,_=>by simp [ltCps] at h
 | _::_,[],_,h=>by simp [ltCps] at h
 | x::a,y::b,h1,h2=>by
   simp only [ltCps,Bool.or_eq_false_iff,Bool.and_eq_false_iff,decide_eq_false_iff_not] at h1 h2
   have e:x=y:=by omega
   subst e
   rw [bi7 (a:=a) (b:=b) (by simpa using h1.2) (by simpa using h2.2)]
theorem az5:∀ {a b c:List Nat},ltCps b a=false→ltCps c b=false→ltCps c a=false
 | [],_,[],_,_=>rfl
 | [],[],_::_,_,_=>rfl
 | [],_::_,_::_,_,_=>rfl
 | _::_,[],_,h,_=>by simp [ltCps] at h
 | _::_,_::_,[],_,h=>by simp [ltCps] at h
 | x::a,y::b,z::c,h1,h2=>by
   simp only [ltCps,Bool.or_eq_false_iff,Bool.and_eq_false_iff,decide_eq_false_iff_not] at h1 h2 ⊢
   refine ⟨by omega,?_⟩
   by_cases e:z=x
   · have e1:y=x:=by omega
     have e2:z=y:=by omega
     subst e1 e2
     exact .inr (az5 (a:=a) (b:=b) (by simpa using h1.2) (by simpa using h2.2))
   · exact .inl (by simpa using e)
def leS (a b:Str):Prop:=ltCps b.cps.toList a.cps.toList=false
theorem be7 {a b:Str}(h1:leS a b) (h2:leS b a):a=b:=by
 have:=bi7 h2 h1
 cases a
 cases b
 simp only [Str.mk.injEq]
 exact Array.toList_inj.mp this
theorem ah2:∀ {l:List Str}{p:Str},risingS p l=true→(∀ x∈l,leS p x)∧sortedS l=true
 | [],p,_=>⟨by simp,rfl⟩
 | x::r,p,h=>by
   simp only [risingS,Bool.and_eq_true,Bool.not_eq_true'] at h
   obtain ⟨h1,h2⟩:=ah2 h.2
   refine ⟨fun y hy=>?_,h.2⟩
   rcases List.mem_cons.mp hy with rfl | hy
   · exact h.1
   · exact az5 h.1 (h1 y hy)
theorem an0:∀ {a b:List Str},sortedS a=true→sortedS b=true→a.Nodup→b.Nodup→(∀ x,x∈a↔x∈b)→a=b
 | [],[],_,_,_,_,_=>rfl
 | [],y::b,_,_,_,_,h=>absurd ((h y).mpr (by simp)) (by simp)
 | x::a,[],_,_,_,_,h=>absurd ((h x).mp (by simp)) (by simp)
 | x::a,y::b,s1,s2,n1,n2,h=>by
   obtain ⟨a1,a2⟩:=ah2 (show risingS x a=true from s1)
   obtain ⟨b1,b2⟩:=ah2 (show risingS y b=true from s2)
   rw [List.nodup_cons] at n1 n2
   have e:x=y:=by
    rcases List.mem_cons.mp ((h x).mp (by simp)) with e | hx
    · exact e
    rcases List.mem_cons.mp ((h y).mpr (by simp)) with e | hy
    · exact e.symm
    exact be7 (a1 y hy) (b1 x hx)
   subst e
   rw [an0 a2 b2 n1.2 n2.2 fun z=>?_]
   constructor
   · intro hz
     rcases List.mem_cons.mp ((h z).mp (List.mem_cons_of_mem _ hz)) with e | hz'
     · exact absurd (e ▸ hz) n1.1
     · exact hz'
   · intro hz
     rcases List.mem_cons.mp ((h z).mpr (List.mem_cons_of_mem _ hz)) with e | hz'
     · exact absurd (e ▸ hz) n2.1
     · exact hz'
section
variable {rs:List c39}{many:Nat}{p:Pr}
variable {N k:Nat}{dv:Pr→Option Nat}
end
section
variable {prog:Program}{w:World}{A:Around}{E:Value→Shared→Prop}{s:Shared}
end
section
variable {X:Cx}{P:Params}
end
section
variable {prog:Program}{w:World}{A:Around}{R:Result→Shared→Prop}{J:Addr}{fp wr:List Addr}{n:Nat}{P:Nat→Value→Prop}{St:Nat→Heap→Prop}
end
section
variable {prog:Program}{w:World}{A:Around}{E:Value→Shared→Prop}{s:Shared}
end
section
variable {X:Cx}{e d:Expr}{t tk:TA}{p kp pos:Pos}
end
section
variable {X:Cx}
end
section
variable {P:Program}{w:World}{K:PySem.W.Frag}{mg:Str→Option Value}{base:Heap}
end
section
variable {σ:St} {H:Hp}{D:Ends}{C:Addr}{E:XK}{t:TA}{n:Nat}{tb:XK→TS}{ts:TS}
end
section
variable {X:Cx}{k k':Nat}{f f' C C':Addr}{fd fd':FuncData}{ps ps':List Str}{sp sp':Sp}{m:Str}{pos apos:Pos}{e o:Expr}{es:List Expr}{ta:TE}{t:TA}
end
section
variable {σ:St} {H:Hp}{Q:VK}{ta:TE}{t:TA}{m:Str}{C1 C2:Addr}{sp1 sp2:Sp}
end
def ItrC (lo c:Int) (n:Nat):It:=⟨fun i _=>i<n,fun i H x H'=>H'=H∧x=.int (lo+i*c),fun i _=>n≤i⟩
theorem aw2 {P:Program}{w:World}{K:PySem.W.Frag}{tg:Expr}(it:Addr) (lo c:Int) (n:Nat):Turn P w K tg (ItrC lo c n) [it] it (fun i h=>IsRangeIter h it (lo+(i:Nat)*c) ((n:Int) - (i:Nat)) c) where
 mem:=by simp
 obj:=fun i h st b hb=>by
  have e:b=it:=by simpa using hb
  subst e
  exact ⟨_,st,fun v z=>by
   have z':Data.fields _=Data.cell v:=z
   cases z'⟩
 keep:=fun i h h' st k=>k it (by simp) _ st
 item:=by
  intro X hP hw hK hc i pins s σ H E I hf st hg
  subst hP hw hK
  obtain ⟨f0,f1,f2,f3,f4,f5⟩:=hf it (by simp)
  have W:=Walks.range (prog:=X.prog) (w:=X.w) (I.ok.hd hc) it lo c n
  refine W.item i s _ _ hg st fun v h' tk hv st' kk=>?_
  obtain ⟨t,rfl⟩:=hv
  have I1:Inv X pins σ H { s with heap:=h',toks:=tk }:=I.turned (fun b o hb e=>kk b o (by simpa using hb) e) f0 f1 f3 f4 f5
  exact ⟨_,rfl,bb9 (s:={ s with heap:=h',toks:=tk }) (n:="range_iterator") st' rfl rfl (by decide) ⟨.int (lo+i*c),H,I1,⟨t,rfl⟩,⟨rfl,rfl⟩,st',fun b hb=>(hf b hb).1⟩⟩
 done:=by
  intro X hP hw hK hc i pins s σ H E I hf st hg
  subst hP hw hK
  obtain ⟨f0,f1,f2,f3,f4,f5⟩:=hf it (by simp)
  exact wpAny_pyNext_range_end (I.ok.hd hc) st (by have:n≤i:=hg; omega) fun h' eb=>⟨rfl,I.turned (t':=s.toks) (fun b o hb e=>eb b o hb e) f0 f1 f3 f4 f5⟩
 self:=fun _ _ _ _ _ st h=>wpAny_pyIter_rangeiter st h
section
variable {X:Cx}{tg:Expr}
end
section
variable {σ:St} {H:Hp}{R:It→Hp→Prop}{ts:TA}
end
end L2
namespace L2
end L2
namespace L2
open PySem PySem.Spec PyProof.Rows
section
variable {prog:Program}{w:World}{z TI TO i1 i2 l1 l2:Addr}{xs ys:Array Value}{st1 st2:Nat→Heap→Prop}
end
section
variable {X:Cx}{elts:List Expr}{x1:Nat}{tpos:Pos}
end
def Ris (t:SetTable):Prop:=t.place.toList.Pairwise (·<·)∧t.dummies=#[]
theorem b79 {xs:Array Nat}(h:xs.toList.Pairwise (·<·)) {a b:Nat}(hab:a≤b) (hb:b<xs.size):xs.getD a 0≤xs.getD b 0:=by
 by_cases e:a=b
 · rw [e]; exact Nat.le_refl _
 · have:=List.pairwise_iff_getElem.mp h a b (by simp; omega) (by simpa using hb) (by omega)
   simp only [Array.getElem_toList] at this
   simp only [Array.getD,show a<xs.size by omega,hb,dif_pos]
   exact Nat.le_of_lt this
structure Blw (xs:Array Nat) (j k:Nat):Prop where
 le:k≤xs.size
 lo:∀ i,i<k→xs.getD i 0<j
 hi:∀ i,k≤i→i<xs.size→j≤xs.getD i 0
theorem ao4 {xs:Array Nat}{j:Nat}(h:xs.toList.Pairwise (·<·)):∀ (fuel lo hi:Nat),hi≤xs.size→lo≤hi→hi - lo≤fuel→(∀ i,i<lo→xs.getD i 0<j)→(∀ i,hi≤i→i<xs.size→j≤xs.getD i 0)→Blw xs j (SetTable.below.go xs j fuel lo hi)
 | 0,lo,hi,h1,h2,h3,h4,h5=>by
   have:lo=hi:=by omega
   subst this
   exact ⟨h1,h4,h5⟩
 | fuel+1,lo,hi,h1,h2,h3,h4,h5=>by
   show Blw xs j (if lo<hi then if xs.getD ((lo+hi) / 2) j<j then SetTable.below.go xs j fuel ((lo+hi) / 2+1) hi else SetTable.below.go xs j fuel lo ((lo+hi) / 2) else lo)
   by_cases c:lo<hi
   · rw [if_pos c]
     have hm:(lo+hi) / 2<xs.size:=by omega
     have e:xs.getD ((lo+hi) / 2) j=xs.getD ((lo+hi) / 2) 0:=by simp [Array.getD,hm]
     rw [e]
     by_cases d:xs.getD ((lo+hi) / 2) 0<j
     · rw [if_pos d]
       exact ao4 h fuel _ hi h1 (by omega) (by omega) (fun i hi'=>Nat.lt_of_le_of_lt (b79 h (by omega) hm) d) h5
     · rw [if_neg d]
       exact ao4 h fuel lo _ (by omega) (by omega) (by omega) h4 fun i hi' hs=>Nat.le_trans (Nat.le_of_not_lt d) (b79 h hi' hs)
   · rw [if_neg c]
     have:lo=hi:=by omega
     subst this
     exact ⟨h1,h4,h5⟩
theorem ao5 {xs:Array Nat}(h:xs.toList.Pairwise (·<·)) (j:Nat):Blw xs j (SetTable.below xs j) :=
 ao4 h xs.size 0 xs.size (Nat.le_refl _) (Nat.zero_le _) (by omega) (fun i hi=>absurd hi (Nat.not_lt_zero _)) fun i h1 h2=>absurd h2 (by omega)
theorem as8 {xs:Array Nat}{j k m:Nat}(a:Blw xs j k) (b:Blw xs j m):k=m:=by
 rcases Nat.lt_trichotomy k m with h | h | h
 · have h1:=a.hi k (Nat.le_refl _) (Nat.lt_of_lt_of_le h b.le)
   have h2:=b.lo k h
   omega
 · exact h
 · have h1:=b.hi m (Nat.le_refl _) (Nat.lt_of_lt_of_le h a.le)
   have h2:=a.lo m h
   omega
theorem an1 {xs:Array Nat}(h:xs.toList.Pairwise (·<·)) {i:Nat}(hi:i<xs.size):SetTable.below xs (xs.getD i 0+1)=i+1:=by
 refine as8 (ao5 h _) ⟨hi,fun a ha=>?_,fun a ha hs=>?_⟩
 · have:=b79 h (show a≤i by omega) hi
   omega
 · have:=List.pairwise_iff_getElem.mp h i a (by simpa using hi) (by simpa using hs) (by omega)
   simp only [Array.getElem_toList] at this
   simp only [Array.getD,hi,hs,dif_pos]
   exact this
theorem b80 {xs:Array Nat}(h:xs.toList.Pairwise (·<·)):SetTable.below xs 0=0 :=
 as8 (ao5 h 0) ⟨Nat.zero_le _,fun i hi=>absurd hi (Nat.not_lt_zero _),fun _ _ _=>Nat.zero_le _⟩
theorem ag1 (t:SetTable) (n:Nat):Ris (t.standIn n):=by
 refine ⟨?_,rfl⟩
 show (Array.range n).toList.Pairwise (·<·)
 rw [Array.toList_range]
 exact List.pairwise_lt_range
theorem bn3 {t:SetTable}{j:Nat}(h:Ris t) (he:t.slot j=.empty):Ris (t.put j).1:=by
 have b:=ao5 h.1 j
 refine ⟨?_,?_⟩
 · show (SetTable.insertAt t.place (SetTable.below t.place j) j).toList.Pairwise (·<·)
   have hne:t.place[SetTable.below t.place j]?≠some j:=fun z=>by
    unfold SetTable.slot at he
    simp only [z,beq_self_eq_true,if_true] at he
    cases he
   generalize SetTable.below t.place j=k at b hne
   have e:(SetTable.insertAt t.place k j).toList=t.place.toList.take k++(j::t.place.toList.drop k):=by
    unfold SetTable.insertAt
    simp [List.append_assoc]
    exact List.take_of_length_le (by simp)
   rw [e]
   have hat:∀ i (hi:i<t.place.size),t.place.getD i 0=t.place.toList[i]'(by simpa using hi):=fun i hi=>by simp [Array.getD,hi]
   refine List.pairwise_append.mpr ⟨h.1.sublist (List.take_sublist _ _),List.pairwise_cons.mpr ⟨fun x hx=>?_,h.1.sublist (List.drop_sublist _ _)⟩,fun x hx y hy=>?_⟩
   · obtain ⟨i,hi,rfl⟩:=List.mem_iff_getElem.mp hx
     rw [List.getElem_drop]
     rw [List.length_drop,Array.length_toList] at hi
     have h1:=b.hi (k+i) (by omega) (by omega)
     rw [hat _ (by omega)] at h1
     by_cases hz:i=0
     · subst hz
       have:t.place.toList[k+0]'(by simp; omega)≠j:=fun z=>hne (by
        rw [Array.getElem?_eq_getElem (by omega)]
        simpa using z)
       omega
     · have h2:=List.pairwise_iff_getElem.mp h.1 k (k+i) (by simp; omega) (by simp; omega) (by omega)
       have h3:=b.hi k (Nat.le_refl _) (by omega)
       rw [hat _ (by omega)] at h3
       omega
   · have hxj:x<j:=by
      obtain ⟨i,hi,rfl⟩:=List.mem_iff_getElem.mp hx
      rw [List.getElem_take]
      rw [List.length_take,Array.length_toList] at hi
      have h1:=b.lo i (by omega)
      rw [hat _ (by omega)] at h1
      exact h1
     rcases List.mem_cons.mp hy with rfl | hy
     · exact hxj
     · obtain ⟨i,hi,rfl⟩:=List.mem_iff_getElem.mp hy
       rw [List.getElem_drop]
       rw [List.length_drop,Array.length_toList] at hi
       have h1:=b.hi (k+i) (by omega) (by omega)
       rw [hat _ (by omega)] at h1
       omega
 · show (if SetTable.has t.dummies j then _ else t.dummies)=#[]
   rw [h.2]
   rfl
theorem ao6 (t:SetTable) (p:SetTable.Probe):(t.advance p).dummy=p.dummy:=by
 unfold SetTable.advance
 split <;> rfl
theorem az6 {t:SetTable}{f:Nat→Int}{h:Int}(hd:t.dummies=#[]):∀ (fuel:Nat) (p:SetTable.Probe) {j:Nat}{d:Option Nat},p.dummy=none→SetTable.probe.go t f h fuel p=some (.empty j d)→d=none∧t.slot j=.empty
 | 0,p,j,d,_,e=>by cases e
 | fuel+1,p,j,d,hp,e=>by
   have e':(match t.slot p.j with
    | .empty=>some (SetTable.Met.empty p.j p.dummy)
    | .dummy=>SetTable.probe.go t f h fuel (t.advance { p with dummy:=some p.j })
    | .live i=>if f i == h then some (.candidate p.j i (t.advance p)) else SetTable.probe.go t f h fuel (t.advance p))=some (.empty j d):=e
   cases hs:t.slot p.j with
   | empty =>
     rw [hs] at e'
     simp only [Option.some.injEq,SetTable.Met.empty.injEq] at e'
     obtain ⟨rfl,rfl⟩:=e'
     exact ⟨hp,hs⟩
   | dummy =>
     exfalso
     unfold SetTable.slot SetTable.has at hs
     rw [hd] at hs
     simp only at hs
     split at hs
     · cases hs
     · simp at hs
   | live i =>
     rw [hs] at e'
     simp only at e'
     split at e'
     · cases e'
     · exact az6 hd fuel _ (by rw [ao6]; exact hp) e'
theorem bn4 {t:SetTable}(h:Ris t) (es:Array (Int×Value)) (hh:Int) (x:Value):Ris (layNew t es hh x).2.1:=by
 unfold layNew
 split
 · next slot wd e =>
   have hs:t.slot slot=.empty:=by
    unfold SetTable.freeSlot at e
    split at e
    · next j d e' =>
      obtain ⟨rfl,hs⟩:=az6 h.2 _ _ rfl (show SetTable.probe.go t _ hh _ _=_ from e')
      simp only [Option.getD_none,Option.isSome_none,Option.some.injEq,Prod.mk.injEq] at e
      rw [← e.1]
      exact hs
    · cases e
   have hp:=bn3 h hs
   dsimp only
   unfold SetTable.orStandIn
   split
   · exact hp
   · exact ag1 _ _
 · exact ag1 _ _
theorem b81 (t:SetTable) (es:Array (Int×Value)) (n:Nat):Ris (relayAll t es n).2.1:=by
 unfold relayAll
 split
 · next t' order he =>
   dsimp only
   split
   · unfold SetTable.relaid SetTable.laid at he
     simp only [Option.bind_eq_bind,Option.pure_def,Option.bind_eq_some_iff,Option.some.injEq] at he
     obtain ⟨ow,_,he⟩:=he
     have:=congrArg Prod.fst he
     dsimp only at this
     rw [← this]
     refine ⟨?_,rfl⟩
     simp only [List.map_filterMap]
     rw [List.pairwise_filterMap]
     refine List.pairwise_lt_range.imp fun {a b} hab x hx y hy=>?_
     simp only [Option.map_map,Option.map_eq_some_iff,Function.comp] at hx hy
     obtain ⟨_,_,rfl⟩:=hx
     obtain ⟨_,_,rfl⟩:=hy
     exact hab
   · exact ag1 _ _
 · exact ag1 _ _
section
variable {prog:Program}{w:World}
structure SInt (prog:Program) (w:World) (h:Heap) (a:Addr) (es:Array (Int×Value)):Prop where
 ex:∃ o ep t,h.get? a=some o∧o.ExactSet∧o.data=.set es ep t∧t.fits es.size=true∧t.led=!w.params.followText "set-order"∧Ris t
 el:ElemsOf (intKind prog w) es.toList
 lt:es.size<scanBound
theorem SInt.store {h:Heap}{a:Addr}{o:Obj}{es es':Array (Int×Value)}{ep:Nat}{t t':SetTable}(ho:h.get? a=some o) (hx:o.ExactSet) (hd:o.data=.set es ep t) (hf:t'.fits es'.size=true) (hl:t'.led=!w.params.followText "set-order") (hp:Ris t') (el:ElemsOf (intKind prog w) es'.toList) (lt:es'.size<scanBound) :
 (h.update a (Obj.putSet es' t')).get? a=some { o with data:=.set es' (ep+1) t' }∧SInt prog w (h.update a (Obj.putSet es' t')) a es':=by
 have e:(h.update a (Obj.putSet es' t')).get? a=some { o with data:=.set es' (ep+1) t' }:=by
  rw [← putSet_of es' t' hd]
  exact Heap.get?_update_self (Obj.putSet es' t') ho (by rw [putSet_of es' t' hd]; rfl)
 exact ⟨e,⟨_,ep+1,t',e,hx,rfl,hf,hl,hp⟩,el,lt⟩
def by0 (w:World) (es es':Array (Int×Value)) (k:Int):Prop:=(es'=es∧∃ e∈es.toList,e.2.isInt k=true)∨((∀ e∈es.toList,e.2.isInt k=false)∧∃ u,es'.toList.Perm (es.toList++[(hashInt k,.int k u)]))
variable {A:Around}{E:Value→Shared→Prop}{s:Shared}
theorem SInt.add {a:Addr}{es:Array (Int×Value)}{k:Int}{u:Tok}{Q:Bool→Shared→Prop}(hS:SInt prog w s.heap a es) (room:es.size+1<scanBound)
 (h:∀ b h' es',Heap.SameBut a s.heap h'→SInt prog w h' a es'→by0 w es es' k→Q b { s with heap:=h',toks:=s.toks+1 }):wpAny (model prog w) A (setAdd a (.int k u)) Q E s:=by
 obtain ⟨⟨o,ep,t,ho,hx,hd,hf,hl,hp⟩,hel,hlt⟩:=hS
 have hk:(intKind prog w).is k (.int k u)=true:=by simp [PySem.intKind,Value.isInt]
 have hsc:(Value.int k u).scannable=true:=rfl
 unfold setAdd setAddHashed setAddHashedIn
 refine wpAny_holding (wpAny_bind ((intKind prog w).pyHash hk ?_))
 refine wpAny_holding (wpAny_bind (wpAny_setState_of (s:={ s with toks:=s.toks+1 }) ho hd hf ?_))
 dsimp only
 rw [byScan_of hsc hlt hel]
 simp only [↓reduceIte]
 unfold setAddByScan
 refine wpAny_bind (wpAny_bind (wpAny_rule (wpAny_bind (wpAny_setScan_of (s:={ s with toks:=s.toks+1 }) hk ho hd hf hel ?_))))
 cases hr:List.findIdx? (fun e=>(intKind prog w).is k e.2) es.toList with
 | some j =>
   dsimp only
   obtain ⟨hj,hpj,_⟩:=List.findIdx?_eq_some_iff_getElem.mp hr
   exact wpAny_pure (wpAny_pure (h _ s.heap es (Heap.SameBut.refl a s.heap) ⟨⟨o,ep,t,ho,hx,hd,hf,hl,hp⟩,hel,hlt⟩ (.inl ⟨rfl,_,List.getElem_mem hj,hpj⟩)))
 | none =>
   dsimp only
   have hno:∀ e∈es.toList,e.2.isInt k=false:=fun e he=>by
    have:=List.findIdx?_eq_none_iff.mp hr e he
    exact this
   have hgw:∀ (b:Bool) {s₁:Shared}{Q':Unit→Shared→Prop},Q' () s₁→wpAny (model prog w) A (match b with | true=>rule "set.scan.the-table-gave-way" | false=>pure ()) Q' E s₁:=fun b s₁ Q' hq=>by
    cases b
    · exact wpAny_pure hq
    · exact wpAny_rule hq
   have p1:=layNew_perm t es ((intKind prog w).hash k) (.int k u)
   have q1:=layNew_fits t es ((intKind prog w).hash k) (.int k u)
   have z1:=bn4 hp es ((intKind prog w).hash k) (.int k u)
   have r1:=b70 t es ((intKind prog w).hash k) (.int k u)
   generalize layNew t es ((intKind prog w).hash k) (.int k u)=L at p1 q1 r1 z1 ⊢
   obtain ⟨es1,t1,wd,gv⟩:=L
   dsimp only at p1 q1 r1 z1 ⊢
   rw [Array.toList_push] at p1
   have el1:ElemsOf (intKind prog w) es1.toList:=(hel.push hk hsc).perm p1
   have sz1:es1.size=es.size+1:=by rw [← Array.length_toList,p1.length_eq]; simp
   refine wpAny_bind (hgw _ ?_)
   have fin:∀ t2:SetTable,t2.fits es1.size=true→t2.led=t.led→Ris t2→wpAny (model prog w) A (do
    storeSet a es1 t2
    if (!wd && t2.tooFull)=true then do
     (match (relayAll t2 es1 (SetTable.grown es1.size)).2.2 with | true=>rule "set.scan.the-table-gave-way" | false=>pure ())
     storeSet a (relayAll t2 es1 (SetTable.grown es1.size)).1 (relayAll t2 es1 (SetTable.grown es1.size)).2.1
     pure (some true)
     else pure (some true)) (fun r s₁=>wpAny (model prog w) A (match r with | some added=>pure added | none=>setAddHashedIn a (.int k u) ((intKind prog w).hash k) 99999) Q E s₁) E { s with toks:=s.toks+1 }:=by
    intro t2 f2 l2 pl2
    obtain ⟨o1,S1⟩:=SInt.store (prog:=prog) (w:=w) (es':=es1) (t':=t2) ho hx hd f2 (l2.trans hl) pl2 el1 (by omega)
    have b1:=Heap.SameBut.update s.heap a (Obj.putSet es1 t2)
    refine wpAny_bind (wpAny_storeSet_of (s:={ s with toks:=s.toks+1 }) ho hd ?_ (fits_of_scanBound (by omega)))
    split
    · have p2:=relayAll_perm t2 es1 (SetTable.grown es1.size)
      have q2:=relayAll_fits t2 es1 (SetTable.grown es1.size)
      have z2:=b81 t2 es1 (SetTable.grown es1.size)
      have r2:=as4 t2 es1 (SetTable.grown es1.size)
      generalize relayAll t2 es1 (SetTable.grown es1.size)=R at p2 q2 r2 z2 ⊢
      obtain ⟨es2,t3,gv2⟩:=R
      dsimp only at p2 q2 r2 z2 ⊢
      have sz2:es2.size=es1.size:=by rw [← Array.length_toList,p2.length_eq,Array.length_toList]
      refine wpAny_bind (hgw _ ?_)
      obtain ⟨_,S2⟩:=SInt.store (prog:=prog) (w:=w) (es':=es2) (t':=t3) o1 hx rfl q2 (r2.1.trans (l2.trans hl)) z2 (el1.perm p2) (by omega)
      refine wpAny_bind (wpAny_storeSet_of o1 rfl ?_ (fits_of_scanBound (by omega)))
      exact wpAny_pure (wpAny_pure (h _ _ es2 (b1.trans (Heap.SameBut.update _ a _)) S2 (.inr ⟨hno,u,p2.trans p1⟩)))
    · exact wpAny_pure (wpAny_pure (h _ _ es1 b1 S1 (.inr ⟨hno,u,p1⟩)))
   split
   · refine wpAny_bind ?_
     rw [hashByValue_scannable 8 hsc]
     refine wpAny_pure ?_
     exact fin _ q1 r1.1 z1
   · refine wpAny_bind (wpAny_pure ?_)
     simp only [↓reduceIte]
     exact fin t1 q1 r1.1 z1
end
def metI (ks:List Int) (k:Int):List Int:=if k∈ks then ks else ks++[k]
def a84 (val:Nat→Int) (i:Nat):List Int:=((List.range i).map val).foldl metI []
theorem ac5 (val:Nat→Int) (i:Nat):a84 val (i+1)=metI (a84 val i) (val i):=by
 unfold a84
 rw [List.range_succ,List.map_append,List.foldl_append]
 rfl
theorem be8 {ks:List Int}{k x:Int}:x∈metI ks k↔x∈ks∨x=k:=by
 unfold metI
 split
 · constructor
   · exact .inl
   · rintro (h | rfl)
     · exact h
     · assumption
 · simp
theorem an2 (val:Nat→Int) (x:Int):∀ i,x∈a84 val i↔∃ j,j<i∧val j=x
 | 0=>by simp [a84]
 | i+1=>by
   rw [ac5,be8,an2 val x i]
   constructor
   · rintro (⟨j,h,e⟩ | rfl)
     · exact ⟨j,by omega,e⟩
     · exact ⟨i,by omega,rfl⟩
   · rintro ⟨j,h,e⟩
     by_cases hj:j=i
     · subst hj; exact .inr e.symm
     · exact .inl ⟨j,by omega,e⟩
theorem be9 (ks:List Int) (k:Int):(metI ks k).length≤ks.length+1:=by
 unfold metI
 split <;> simp
theorem an3 (val:Nat→Int):∀ i,(a84 val i).length≤i
 | 0=>by simp [a84]
 | i+1=>by
   rw [ac5]
   have h1:=be9 (a84 val i) (val i)
   have h2:=an3 val i
   omega
def entI (w:World) (x:Int×Tok):Int×Value:=(hashInt x.1,.int x.1 x.2)
def KiOf (w:World) (es:Array (Int×Value)) (ks:List Int):Prop:=ks.Nodup∧∃ l:List (Int×Tok),l.map (·.1)=ks∧es.toList.Perm (l.map (entI w))
theorem KiOf.len {w:World}{es:Array (Int×Value)}{ks:List Int}(h:KiOf w es ks):es.size=ks.length:=by
 obtain ⟨_,l,rfl,p⟩:=h
 rw [← Array.length_toList,p.length_eq]
 simp
theorem KiOf.grew {w:World}{es es':Array (Int×Value)}{ks:List Int}{k:Int}(h:KiOf w es ks) (g:by0 w es es' k):KiOf w es' (metI ks k):=by
 obtain ⟨nd,l,rfl,p⟩:=h
 have hm:k∈l.map (·.1)↔∃ e∈es.toList,e.2.isInt k=true:=by
  constructor
  · intro hk
    obtain ⟨x,hx,rfl⟩:=List.mem_map.mp hk
    exact ⟨entI w x,p.mem_iff.mpr (List.mem_map_of_mem hx),by simp [entI,Value.isInt]⟩
  · rintro ⟨e,he,hi⟩
    obtain ⟨x,hx,rfl⟩:=List.mem_map.mp (p.mem_iff.mp he)
    have:x.1=k:=by
     have:=Value.isInt_shape hi
     obtain ⟨t,e⟩:=this
     simp only [entI,Value.int.injEq] at e
     exact e.1
    rw [← this]
    exact List.mem_map_of_mem hx
 rcases g with ⟨rfl,hx⟩ | ⟨hno,u,pp⟩
 · unfold metI
   rw [if_pos (hm.mpr hx)]
   exact ⟨nd,l,rfl,p⟩
 · have hk:k∉l.map (·.1):=fun z=>by
    obtain ⟨e,he,hi⟩:=hm.mp z
    rw [hno e he] at hi
    cases hi
   unfold metI
   rw [if_neg hk]
   refine ⟨?_,l++[(k,u)],by simp,?_⟩
   · refine List.nodup_append.mpr ⟨nd,by simp,fun a ha b hb z=>?_⟩
     rw [List.mem_singleton.mp hb] at z
     exact hk (z ▸ ha)
   · refine pp.trans ?_
     rw [List.map_append]
     exact List.Perm.append p (List.Perm.refl _)
section
variable {prog:Program}{w:World}{A:Around}{R:Result→Shared→Prop}{I:Addr}{fp wr:List Addr}{G:Array GenState→Array GenState→Prop}{n:Nat}{P:Nat→Value→Prop}{St:Nat→Shared→Prop}
theorem SInt.moved {h h':Heap}{a:Addr}{es:Array (Int×Value)}(x:SInt prog w h a es) (k:∀ o,h.get? a=some o→h'.get? a=some o):SInt prog w h' a es:=by
 obtain ⟨⟨o,ep,t,ho,r⟩,el,lt⟩:=x
 exact ⟨⟨o,ep,t,k _ ho,r⟩,el,lt⟩
theorem b82 (W:WalksS prog w A.in1 I fp wr G n P St) (S:Addr) (hSf:S∉fp) (val:Nat→Int) (hval:∀ i v,P i v→∃ t,v=.int (val i) t) (hb:n+1<scanBound) :
 ∀ (k i:Nat) (s:Shared) (es:Array (Int×Value)),n - i=k→i≤n→St i s→SInt prog w s.heap S es→KiOf w es (a84 val i) →
  (∀ s' es',Moved (S::wr) G s s'→SInt prog w s'.heap S es'→KiOf w es' (a84 val n)→R (.ok (.ret .none)) s') →
  codeAny (model prog w) A (.builtin "set.update.loop" ⟨[.ref S,.ref I],[]⟩) R s:=by
 have hw:S∉wr:=fun z=>hSf (W.sub _ z)
 have hs:∀ b∈wr,b∈S::wr:=fun b z=>List.mem_cons_of_mem _ z
 intro k
 induction k with
 | zero =>
   intro i s es hk hi st hS hK q
   have e:i=n:=by omega
   subst e
   refine codeAny_builtin F.entry_set_update_loop ?_
   rw [Around.under_plainId F.plain_set_update_loop _]
   show wpAny _ A.in1 (pyNext (.ref I) >>= _) _ _ s
   refine wpAny_bind (W.done s _ _ st fun s' hm=>?_)
   show wpAny _ A.in1 (ret Value.none) _ _ s'
   exact wpAny_pure (q s' es (hm.mono hs) (hS.moved fun o e=>hm.heap S _ hw e) hK)
 | succ k ih =>
   intro i s es hk hi st hS hK q
   have lt:i<n:=by omega
   refine codeAny_builtin F.entry_set_update_loop ?_
   rw [Around.under_plainId F.plain_set_update_loop _]
   show wpAny _ A.in1 (pyNext (.ref I) >>= _) _ _ s
   refine wpAny_bind (W.item i s _ _ lt st fun v s' hP st' hm=>?_)
   obtain ⟨u,rfl⟩:=hval i v hP
   have hS':SInt prog w s'.heap S es:=hS.moved fun o e=>hm.heap S _ hw e
   show wpAny _ A.in1 (holding [Value.int (val i) u] (setAdd S (.int (val i) u)) >>= _) _ _ s'
   have l1:=an3 val i
   have l2:=hK.len
   refine wpAny_bind (wpAny_holding (SInt.add hS' (by omega) fun b h' es' sb hS2 g=>?_))
   refine wpAny_pure ⟨plainId_quiet F.plain_set_update_loop _,ih (i+1) _ es' (by omega) lt (W.frame _ s' _ _ st' (Nat.le_succ _) fun b hb o e=>?_) hS2 (by rw [ac5]; exact hK.grew g) fun s2 es2 m2 S2 K2=>?_⟩
   · rw [sb.2 b (fun z:b=S=>hSf (z ▸ hb))]
     exact e
   · refine q s2 es2 (Moved.trans W.gtrans ((hm.mono hs).then_heap (Nat.le_succ _) fun b o hb e=>?_) m2) S2 K2
     rw [sb.2 b (fun z:b=S=>hb (by rw [z]; exact List.mem_cons_self))]
     exact e
end
section
variable {prog:Program}{w:World}{A:Around}{E:Value→Shared→Prop}{s:Shared}
theorem ao7 {l:Addr}{items:Array Value}{val:Nat→Int}{Q:Value→Shared→Prop}(hh:A.handled=none) (hl:s.heap.IsList l items) (hi:∀ (i:Nat) (v:Value),items[i]?=some v→∃ t,v=.int (val i) t) (hb:items.size+1<scanBound)
 (h:∀ (h':Heap) (tk:Nat) (es:Array (Int×Value)),SInt prog w h' s.heap.objs.size es→KiOf w es (a84 val items.size)→(∀ b o,b<s.heap.objs.size→s.heap.get? b=some o→h'.get? b=some o)→Q (.ref s.heap.objs.size) { s with heap:=h',toks:=tk }) :
 wpAny (model prog w) A (call (.type "set") [.ref l]) Q E s:=by
 obtain ⟨c,tl,hmro⟩:=F.called_set.mro
 have hmade:=F.called_set.made
 have hsub:=F.called_set.sub
 refine wpAny_call (codeAny_of_tree ?_)
 show wpAny _ _ (callAny (.type "set") _) _ _ _
 refine wpAny_pure ⟨Code.quiet_builtin _ (by decide +kernel),codeAny_builtin F.entry_type_call ?_⟩
 rw [Around.under_plain (weight_type_call_type "set" [.ref l] []) rfl]
 have h1:=F.called_set.notType
 have h2:=F.called_set.canCreate
 have hct:=F.typeCall_set_1 (.ref l)
 repeat (any_goals (first | assumption | wp_step))
 refine codeAny_mono (az0 (.ref l) (E:=E) (Q1:=fun obj s1=>obj=.ref s.heap.objs.size∧s1={ s with heap:=s.heap.push (a70 w) }) ⟨rfl,rfl⟩) fun r s1 hr=>?_
 cases r with
 | error e=>exact hr
 | ok fl =>
   cases fl with
   | ret obj =>
     obtain ⟨rfl,rfl⟩:=hr
     have hS:(s.heap.push (a70 w)).get? s.heap.objs.size=some (a70 w):=Heap.get?_push_size _ rfl
     have hT:Shared.TypeIs { s with heap:=s.heap.push (a70 w) } (.ref s.heap.objs.size) "set":=⟨_,hS,rfl⟩
     have hli:=F.called_set.init.lookup
     have hbi:=F.called_set.init.bind (.ref s.heap.objs.size)
     repeat (any_goals (first | assumption | wp_step))
     refine codeAny_mono (codeAny_call_builtin (R:=wants (fun r s2=>r=.none∧∃ h' tk es,s2={ s with heap:=h',toks:=tk }∧SInt prog w h' s.heap.objs.size es∧KiOf w es (a84 val items.size) ∧
      (∀ b o,b<s.heap.objs.size→s.heap.get? b=some o→h'.get? b=some o)) E) F.called_set.init.plain F.entry_set_init (check_set_init_1 hT ?_)) fun r2 s2 hr2=>?_
     · obtain ⟨ol,hol,hcl,nl,hdl⟩:=hl
       obtain ⟨ocls,odict,odata,oslots⟩:=ol
       simp only at hcl hdl
       subst hcl; subst hdl
       have hol':(s.heap.push (a70 w)).get? l=some { cls:=.type "list",dict:=odict,data:=.seq items nl,slots:=oslots }:=Heap.get?_push_of_some _ hol
       have hsls:=F.sub_list_set
       have hslf:=F.sub_list_frozenset
       have hne:(Value.type "list" == Value.type "dict")=false:=by decide
       have hl1:(s.heap.push (a70 w)).IsList l items:=⟨_,hol',rfl,nl,rfl⟩
       unfold Builtin.«set.__init__» noKeywords Builtin.Frozenset.updateFrom
       generalize hPI:pyIter=PI
       wp_walk
       subst hPI
       refine wpAny_pyIter_list hl1 (wpAny_bind (wpAny_runValue ?_))
       have hlS:l<s.heap.objs.size:=Heap.lt_size hol
       have hh3:A.in1.in1.in1.handled=none:=by simp [hh]
       have hneI:l≠(s.heap.push (a70 w)).objs.size:=by
        rw [Heap.size_push]; exact Nat.ne_of_lt (Nat.lt_succ_of_lt hlS)
       have hSf:s.heap.objs.size∉[(s.heap.push (a70 w)).objs.size,l]:=by
        rw [Heap.size_push]
        simp only [List.mem_cons,List.not_mem_nil,or_false,not_or]
        exact ⟨Nat.ne_of_lt (Nat.lt_succ_self _),Nat.ne_of_gt hlS⟩
       have hget:((s.heap.push (a70 w)).push { cls:=.type "list_iterator",data:=.fields #[.ref l,.int 0 0] }).get? s.heap.objs.size=some (a70 w):=Heap.get?_push_of_some _ hS
       refine b82 ((Walks.list hh3 _ l hneI items).toS) s.heap.objs.size hSf val hi hb (items.size - 0) 0 _ #[] (by omega) (Nat.zero_le _) ⟨⟨_,Heap.get?_push_size _ rfl,rfl,rfl⟩,(hl1.push _)⟩ ?hS0 ?hK0 ?hR
       case hS0=>exact ⟨⟨_,0,_,hget,⟨rfl,rfl,rfl⟩,rfl,rfl,rfl,⟨List.Pairwise.nil,rfl⟩⟩,fun e he=>by simp at he,by decide⟩
       case hK0=>exact ⟨by simp [a84],[],by simp [a84],by simp⟩
       case hR =>
        intro s' es' hm hS' hK'
        obtain ⟨h',g',d',tk',os'⟩:=s'
        have eg:g'=s.gens:=hm.gens
        have ed:d'=s.drawn:=hm.drawn
        have eo:os'=s.os:=hm.os
        subst eg; subst ed; subst eo
        show wpAny _ _ _ _ _ _
        refine wpAny_pure ?_
        show wpAny _ _ (ret Value.none) _ _ _
        refine wpAny_pure ⟨rfl,h',tk',es',rfl,hS',hK',fun b o hb e=>?_⟩
        have hb1:b≠s.heap.objs.size:=Nat.ne_of_lt hb
        have hb2:b≠(s.heap.push (a70 w)).objs.size:=by
         rw [Heap.size_push]; exact Nat.ne_of_lt (Nat.lt_succ_of_lt hb)
        exact hm.heap b o (by simp only [List.mem_cons,List.not_mem_nil,or_false,not_or]; exact ⟨hb1,hb2⟩) (Heap.get?_push_of_some _ (Heap.get?_push_of_some _ e))
     · cases r2 with
       | error e=>exact hr2
       | ok fl2 =>
         cases fl2 with
         | ret r =>
           obtain ⟨rfl,h',tk,es,rfl,hS',hK',hk'⟩:=hr2
           repeat (any_goals (first | assumption | wp_step))
           exact h _ _ _ hS' hK' hk'
         | _=>exact hr2.elim
   | _=>exact hr.elim
end
section
variable {prog:Program}{w:World}{A:Around}{E:Value→Shared→Prop}{s:Shared}{S it tp:Addr}{o:Obj}{es:Array (Int×Value)}{ep i:Nat}{t:SetTable}{first:Value}
theorem as9 {slot:Nat}{Q:Option (Value×Nat)→Shared→Prop}(ho:s.heap.get? S=some o) (hd:o.data=.set es ep t) (hf:t.fits es.size=true) (hb:w.params.followText "set-order"=false) (h1:(!t.plain && decide (es.size > 1))=false) (hl:t.led=true)
 (q:Q (match es[SetTable.below t.place slot]?,t.place[SetTable.below t.place slot]? with | some (_,x),some j=>some (x,j+1) | _,_=>none) s):wpAny (model prog w) A (setNext S slot i ep) Q E s:=by
 unfold setNext
 refine wpAny_bind (wpAny_setState_of ho hd hf ?_)
 dsimp only
 unfold setsByText
 refine wpAny_bind (wpAny_bind (wpAny_askSetting (wpAny_pure ?_)))
 rw [show (model prog w).w.params.followText "set-order"=false from hb]
 simp only [Bool.false_eq_true,if_false]
 refine wpAny_ite_split (fun z=>?_) fun _=>?_
 · have z':(!t.plain && decide (es.size > 1))=true:=z
   rw [h1] at z'
   cases z'
 show wpAny _ _ ((if (!t.led && !es.isEmpty)=true then unsupported "set:maker-not-led" else pure ()) >>= _) _ _ s
 rw [hl]
 simp only [Bool.not_true,Bool.false_and,Bool.false_eq_true,if_false]
 exact wpAny_bind (wpAny_pure (wpAny_pure q))
theorem c42 (hh:A.handled=none) (hn1:S≠it) (hd:o.data=.set es ep t) (hf:t.fits es.size=true) (hb:w.params.followText "set-order"=false) (h1:(!t.plain && decide (es.size > 1))=false) (hl:t.led=true) (hr:Ris t) :
 Walks prog w A it [it,S,S] [it] es.size (fun i v=>∃ e,es.toList[i]?=some e∧v=e.2) (fun i h=>h.get? it=some (aa3 (rawInt ((if i=0 then 0 else t.place.getD (i - 1) 0+1:Nat):Int)) S i es.size ep)∧h.get? S=some o) where
 sub:=fun b hb=>by simp at hb; simp [hb]
 frame:=fun _ _ _ st hk=>⟨hk it (by simp) _ st.1,hk S (by simp) _ st.2⟩
 item:=fun i s Q E hi st hQ=>by
  have sz:t.place.size=es.size:=by
   simp only [SetTable.fits,Bool.and_eq_true,beq_iff_eq] at hf
   exact hf.1
  have he:es[i]?=some (es[i]'hi):=Array.getElem?_eq_getElem _
  have hp:t.place[i]?=some (t.place.getD i 0):=by
   rw [Array.getElem?_eq_getElem (by omega)]
   simp [Array.getD,show i<t.place.size by omega]
  have hbl:SetTable.below t.place (if i=0 then 0 else t.place.getD (i - 1) 0+1)=i:=by
   by_cases h0:i=0
   · rw [if_pos h0,b80 hr.1,h0]
   · rw [if_neg h0,an1 hr.1 (by omega)]
     omega
  refine ah1 (slot:=(if i=0 then 0 else t.place.getD (i - 1) 0+1)) (nxt:=t.place.getD i 0+1) (x:=(es[i]'hi).2) st.1 st.2 hd hf (fun q'=>as9 st.2 hd hf hb h1 hl (by rw [hbl,he,hp]; exact q')) fun h' h1' hs=>hQ _ h' s.toks ⟨_,by rw [Array.getElem?_toList]; exact he,rfl⟩ ⟨by rw [if_neg (by omega)]; exact h1',hs.extBut _ _ hn1 st.2⟩ fun b o hb e=>hs.extBut b o (fun z=>hb (by simp [z])) e
 done:=fun s Q E st hQ=>by
  have sz:t.place.size=es.size:=by
   simp only [SetTable.fits,Bool.and_eq_true,beq_iff_eq] at hf
   exact hf.1
  refine ak1 hh st.1 st.2 hd hf (fun q'=>as9 st.2 hd hf hb h1 hl ?_) fun h' he=>hQ h' s.toks fun b o hb e=>he b o (fun z=>hb (by simp [z])) e
  have hbl:SetTable.below t.place (if es.size=0 then 0 else t.place.getD (es.size - 1) 0+1)=es.size:=by
   by_cases h0:es.size=0
   · rw [if_pos h0,b80 hr.1,h0]
   · rw [if_neg h0,an1 hr.1 (by omega)]
     omega
  rw [hbl,Array.getElem?_eq_none (xs:=es) (Nat.le_refl _)]
  exact q'
 self:=fun _ _ _ _ st hQ=>ai5 st.1 hQ
end
section
variable {prog:Program}{w:World}{A:Around}{E:Value→Shared→Prop}{s:Shared}{S:Addr}{es:Array (Int×Value)}
theorem aw3 {R:Result→Shared→Prop}{L:Addr}{c0:Nat}{res:Value}(hh:A.handled=none) (hS:SInt prog w s.heap S es) (hne:L≠S) (hL:s.heap.get? L=some { cls:=.type "list",data:=.seq #[] c0 })
 (hR:∀ h' tk d acc c',(∀ b o,b≠L→s.heap.get? b=some o→h'.get? b=some o)→h'.get? L=some { cls:=.type "list",dict:=none,data:=.seq acc c',slots:=#[] }→acc.toList.Perm (es.toList.map (·.2))→R (.ok (.ret res)) { s with heap:=h',toks:=tk,drawn:=d }) :
 wpAny (model prog w) A.in1 (Builtin.List.listExtendWith (.ref L) (.ref S) res)
  (fun fin s'=>match fin with | .done f=>R (.ok f) s' | .again c'=>c'.quiet=true∧codeAny (model prog w) A c' R s') (fun e s'=>R (.error e) s') s:=by
 obtain ⟨⟨o,ep,t,ho,hx,hd,hf,hl,hp⟩,hel,hlt⟩:=hS
 have T:s.TypeIs (.ref S) "set":=⟨o,ho,hx.1⟩
 have hn:es.size≤sizeLine:=fits_of_scanBound hlt
 have lS:=Heap.lt_size ho
 have lL:=Heap.lt_size hL
 have hh1:A.in1.handled=none:=hh
 unfold Builtin.List.listExtendWith
 refine wpAny_bind (wpAny_typeOf (T:="set") T ?_)
 have h1:Builtin.List.listSameRef (.ref L) (.ref S)=false:=by simp [Builtin.List.listSameRef,hne]
 simp only [h1,show (Value.type "set" == Value.type "list")=false by decide,show (Value.type "set" == Value.type "tuple")=false by decide,Bool.or_false,Bool.false_eq_true,if_false]
 refine wpAny_bind (az1 ho hx hd hf hlt (fun hD=>?_) (fun hD pl d pp=>?_))
 · have nf:L∉[s.heap.objs.size,S,S]:=by
    simp only [List.mem_cons,List.not_mem_nil,or_false,not_or]
    exact ⟨Nat.ne_of_lt lL,hne,hne⟩
   have T1:Shared.TypeIs { s with heap:=s.heap.push (aa3 (rawInt 0) S 0 es.size ep) } (.ref S) "set":=⟨o,Heap.get?_push_of_some _ ho,hx.1⟩
   by_cases hb:w.params.followText "set-order"=true
   · refine ae1 (bx7 hh1 (Nat.ne_of_lt lS) hd hf hb) hn nf (by simp) T1 (by simp) ⟨Heap.get?_push_size _ rfl,Heap.get?_push_of_some _ ho⟩ (Heap.get?_push_of_some _ hL) fun h' tk acc c' hk hL' hit=>?_
     have pl:=(aa9 (w.params.setOrder S ep) es).length_eq
     refine hR h' tk s.drawn acc c' (fun b o hb e=>hk b o hb (Nat.ne_of_lt (Heap.lt_size e)) (Heap.get?_push_of_some _ e)) hL' ?_
     rw [ab0 hit (by simpa using pl)]
     exact (aa9 _ _).map _
   · have hb':w.params.followText "set-order"=false:=by simpa using hb
     have h1':(!t.plain && decide (es.size > 1))=false:=by
      unfold Drw at hD
      rw [hb'] at hD
      simpa using hD
     refine ae1 (c42 hh1 (Nat.ne_of_lt lS) hd hf hb' h1' (by rw [hl,hb']; rfl) hp) hn nf (by simp) T1 (by simp) ⟨Heap.get?_push_size _ rfl,Heap.get?_push_of_some _ ho⟩ (Heap.get?_push_of_some _ hL) fun h' tk acc c' hk hL' hit=>?_
     refine hR h' tk s.drawn acc c' (fun b o hb e=>hk b o hb (Nat.ne_of_lt (Heap.lt_size e)) (Heap.get?_push_of_some _ e)) hL' ?_
     rw [ab0 hit (by simp)]
 · have gt:∀ b:Addr,b<s.heap.objs.size→b≠(s.heap.push (ae5 pl)).objs.size:=fun b z=>by
    rw [Heap.size_push]
    exact Nat.ne_of_lt (Nat.lt_succ_of_lt z)
   have gt2:s.heap.objs.size≠(s.heap.push (ae5 pl)).objs.size:=by
    rw [Heap.size_push]
    exact Nat.ne_of_lt (Nat.lt_succ_self _)
   have nf:L∉[(s.heap.push (ae5 pl)).objs.size,S,s.heap.objs.size]:=by
    simp only [List.mem_cons,List.not_mem_nil,or_false,not_or]
    exact ⟨gt L lL,hne,Nat.ne_of_lt lL⟩
   have up:∀ b ob,s.heap.get? b=some ob→((s.heap.push (ae5 pl)).push (aa3 (.ref s.heap.objs.size) S 0 es.size ep)).get? b=some ob:=fun b ob e=>Heap.get?_push_of_some _ (Heap.get?_push_of_some _ e)
   refine ae1 (s:={ s with heap:=(s.heap.push (ae5 pl)).push (aa3 (.ref s.heap.objs.size) S 0 es.size ep),drawn:=d }) (bx6 hh1 (gt S lS) gt2 hd hf pp) hn nf (by simp) ⟨o,up _ _ ho,hx.1⟩ (by simp) ⟨Heap.get?_push_size _ rfl,Heap.get?_push_of_some _ (Heap.get?_push_size _ rfl),up _ _ ho⟩ (up _ _ hL) fun h' tk acc c' hk hL' hit=>?_
   have ln:pl.length=es.size:=by rw [pp.length_eq,List.length_range]
   refine hR h' tk d acc c' (fun b o hb e=>hk b o hb (gt b (Heap.lt_size e)) (up _ _ e)) hL' ?_
   rw [ab0 hit (by simpa using ln),←am8 es (0,.none)]
   exact (pp.map _).map _
end
def a53 (l:List Int):List V:=l.map V.int
section
variable {prog:Program}{w:World}{A:Around}{E:Value→Shared→Prop}{s:Shared}{S:Addr}{es:Array (Int×Value)}
theorem at0 {R:List Value→Shared→Prop}(hh:A.handled=none) (hS:SInt prog w s.heap S es)
 (h:∀ (h':Heap) (tk:Nat) (d:Drawn) (acc:Array Value),(∀ b o,s.heap.get? b=some o→h'.get? b=some o)→s.heap.objs.size<h'.objs.size→acc.toList.Perm (es.toList.map (·.2))→R acc.toList { s with heap:=h',toks:=tk,drawn:=d }) :
 wpAny (model prog w) A (collect (.ref S)) R E s:=by
 obtain ⟨o,ep,t,ho,_⟩:=hS.ex
 have lS:=Heap.lt_size ho
 unfold collect
 refine wpAny_bind (wpAny_runValue (codeAny_builtin entry_proto_collect' ?_))
 rw [Around.under_plainId PySem.F.plain_proto_collect _]
 show wpAny _ A.in1 (newList [] >>= fun l=>again (.builtin "list.__iadd__" ⟨[l,.ref S],[]⟩)) _ _ s
 refine wpAny_bind (wpAny_newObj_type (wpAny_pure ⟨plainId_quiet PySem.F.plain_list_iadd _,codeAny_builtin entry_list_iadd' ?_⟩))
 rw [Around.under_plainId PySem.F.plain_list_iadd _]
 have hL:(s.heap.push { cls:=.type "list",data:=.seq ([]:List Value).toArray }).get? s.heap.objs.size=some { cls:=.type "list",data:=.seq #[] }:=Heap.get?_push_size _ rfl
 show wpAny _ A.in1 (Builtin.List.listExtendWith (.ref s.heap.objs.size) (.ref S) (.ref s.heap.objs.size)) _ _ _
 have key:=aw3 (A:=A) (s:={ s with heap:=s.heap.push { cls:=.type "list",data:=.seq ([]:List Value).toArray } }) (L:=s.heap.objs.size) (c0:=0) (res:=.ref s.heap.objs.size) (es:=es) (S:=S) (w:=w) (prog:=prog)
  (R:=fun (q:Result) (s':Shared)=>∃ (h':Heap) (tk:Nat) (d:Drawn) (acc:Array Value) (c':Nat),q=.ok (.ret (.ref s.heap.objs.size))∧s'={ s with heap:=h',toks:=tk,drawn:=d }∧(∀ b o,s.heap.get? b=some o→h'.get? b=some o)∧h'.get? s.heap.objs.size=some { cls:=.type "list",dict:=none,data:=.seq acc c',slots:=#[] }∧acc.toList.Perm (es.toList.map (·.2)))
  hh (hS.moved fun o e=>Heap.get?_push_of_some _ e) (Nat.ne_of_gt lS) hL
  (fun h' tk d acc c' hk hL' hp=>⟨h',tk,d,acc,c',rfl,rfl,fun b o e=>hk b o (Nat.ne_of_lt (Heap.lt_size e)) (Heap.get?_push_of_some _ e),hL',hp⟩)
 refine wpAny_mono key (fun fin s' x=>?_) fun e s' x=>?_
 · cases fin with
   | done f =>
     obtain ⟨h',tk,d,acc,c',e,rfl,hk,hL',hp⟩:=x
     cases e
     show wpAny _ A (load s.heap.objs.size >>= _) _ _ _
     exact wpAny_bind (wpAny_load hL' (wpAny_pure (h h' tk d acc hk (Heap.lt_size hL') hp)))
   | again c1 =>
     refine ⟨x.1,codeAny_mono x.2 fun q s2 y=>?_⟩
     obtain ⟨h',tk,d,acc,c',rfl,rfl,hk,hL',hp⟩:=y
     show wpAny _ A (load s.heap.objs.size >>= _) _ _ _
     exact wpAny_bind (wpAny_load hL' (wpAny_pure (h h' tk d acc hk (Heap.lt_size hL') hp)))
 · obtain ⟨_,_,_,_,_,e',_⟩:=x
   cases e'
theorem az7:∀ {l:List (Int×Tok)}{vs:List Value},vs=l.map (fun x=>(entI w x).2)→IntsAre vs (l.map (·.1))
 | [],_,rfl=>.nil
 | x::l,_,rfl=>.cons x.1 x.2 (az7 rfl)
theorem aw4 {ks:List Int}{Q:Value→Shared→Prop}(hh:A.handled=none) (hS:SInt prog w s.heap S es) (hK:KiOf w es ks) (h64:ks.length<64)
 (h:∀ (D:Addr) (h':Heap) (tk:Nat) (d:Drawn) (vs:List Value) (ss:List Int) (e:Nat),(∀ b o,s.heap.get? b=some o→h'.get? b=some o)→s.heap.objs.size≤D→h'.get? D=some (seqObj "list" vs.toArray e)→IntsAre vs ss→ss.Perm ks→ss.Pairwise (·≤·)→Q (.ref D) { s with heap:=h',toks:=tk,drawn:=d }) :
 wpAny (model prog w) A (call (.builtin "sorted") [.ref S]) Q E s:=by
 refine Calls.call_function_entry kind_sorted plain_sorted entry_sorted (args_sorted1 _) ?_
 unfold Builtin.«sorted»
 refine wpAny_bind (m:=checkCount "sorted" 1 1 _) (wpAny_pure ?_)
 refine wpAny_bind (at0 hh hS fun h' tk d acc hk hsz hp=>?_)
 obtain ⟨nd,l,rfl,pp⟩:=hK
 have p2:acc.toList.Perm (l.map fun x=>(entI w x).2):=hp.trans (by have:=pp.map (·.2); rw [List.map_map] at this; exact this)
 have ln:acc.toList.length=l.length:=by rw [p2.length_eq,List.length_map]
 have hl64:acc.toList.length<64:=by rw [ln]; simpa using h64
 obtain ⟨l',p3,e3⟩:=ak2 p2 l rfl
 have hst:=az7 (w:=w) e3
 refine wpAny_bind (wpAny_newList ?_ (by have:64≤sizeLine:=le_line (by decide); omega))
 have hD:(h'.push (seqObj "list" acc.toList.toArray 0)).get? h'.objs.size=some (seqObj "list" acc.toList.toArray 0):=Heap.get?_push_size _ rfl
 show wpAny _ _ _ _ _ { s with heap:=h'.push (seqObj "list" acc.toList.toArray 0),toks:=tk,drawn:=d }
 refine wpAny_bind (wpAny_holding (wpAny_call_entry PyProof.Rows.slot_list_sort ⟨_,hD,rfl⟩ PyProof.Rows.entry_list_sort (list_sort_tree hD hst hl64 fun out ss' b1 b2 b3=>⟨_,rfl,?_⟩) (args_list_sort _)))
 obtain ⟨e,he⟩:=sortedHeap_at (h:=h'.push (seqObj "list" acc.toList.toArray 0)) (a:=h'.objs.size) (vs:=acc.toList) (out:=out) (n:=0) hD
 have lt:∀ b o,s.heap.get? b=some o→b<h'.objs.size:=fun b o e=>Heap.lt_size (hk b o e)
 refine wpAny_pure ⟨_,rfl,h h'.objs.size _ tk d out.toList ss' e (fun b o e=>?_) ?_ (by rw [Array.toArray_toList]; exact he) b1 (b2.trans (p3.map _)) b3⟩
 · have:=lt b o e
   rw [sortedHeap_old (Nat.ne_of_lt this) (by rw [size_push']; exact Nat.lt_succ_of_lt this)]
   exact Heap.get?_push_of_some _ (hk b o e)
 · exact Nat.le_of_lt hsz
end
def setIφ (P:Program) (w:World) (p:Addr) (ks:List Int):Heap→Prop:=fun h=>∃ es,SInt P w h p es∧KiOf w es ks
def bi8 (P:Program) (w:World) (H:Hp) (p:Addr) (ks:List Int):Prop:=H p=some (.ext (setIφ P w p ks))
def c43 (K:PySem.W.Frag) (P:Program) (w:World):List V→Hp→VK→Prop:=fun vs H Q=>∃ a ss,vs=[V.ref a]∧SqL K H a (a53 ss)∧ss.length+1<4096∧∀ p H' ks,H p=none→Same H H'→bi8 P w H' p ks→ks.Nodup→(∀ x,x∈ks↔x∈ss)→Q (.ref p) H'
def by1 (P:Program) (w:World):List V→Hp→VK→Prop:=fun vs H Q=>∃ p ks,vs=[V.ref p]∧bi8 P w H p ks∧ks.length<64∧∀ q out H',H q=none→Same H H'→H' q=some (.lst (a53 out))→out.Perm ks→out.Pairwise (·≤·)→Q (.ref q) H'
theorem an4:∀ {ss:List Int}{us:List Value},Vals (a53 ss) us→∀ (i:Nat) (v:Value),us[i]?=some v→∃ t,v=Value.int (ss.getD i 0) t
 | [],us,h,i,v,e=>by
   cases h
   simp at e
 | x::ss,us,h,i,v,e=>by
   cases h with
   | cons h1 h2 =>
     obtain ⟨t,rfl⟩:=h1
     cases i with
     | zero =>
       simp at e
       exact ⟨t,by rw [← e]; rfl⟩
     | succ i=>exact an4 h2 i v (by simpa using e)
theorem an5:∀ {vs:List Value}{ss:List Int},IntsAre vs ss→Vals (a53 ss) vs
 | _,_,.nil=>.nil
 | _,_,.cons y t h=>.cons ⟨t,rfl⟩ (an5 h)
theorem b22 (ss:List Int) (x:Int):x∈a84 (fun i=>ss.getD i 0) ss.length↔x∈ss:=by
 rw [an2]
 constructor
 · rintro ⟨j,hj,rfl⟩
   rw [List.getD_eq_getElem?_getD,List.getElem?_eq_getElem hj]
   exact List.getElem_mem hj
 · intro hx
   obtain ⟨j,hj,rfl⟩:=List.mem_iff_getElem.mp hx
   exact ⟨j,hj,by rw [List.getD_eq_getElem?_getD,List.getElem?_eq_getElem hj]; rfl⟩
theorem ak4 (val:Nat→Int):∀ i,(a84 val i).Nodup
 | 0=>by simp [a84]
 | i+1=>by
   rw [ac5]
   unfold metI
   split
   · exact ak4 val i
   · next h =>
     refine List.nodup_append.mpr ⟨ak4 val i,by simp,fun a ha b hb z=>?_⟩
     rw [List.mem_singleton.mp hb] at z
     exact h (z ▸ ha)
section
variable {X:Cx}{P:Program}{w:World}
theorem b83 (K:PySem.W.Frag) (hP:X.prog=P) (hw:X.w=w) (hc:X.calm=true) (hK:X.K=K:=by rfl):CallR X (.type "set") (c43 K P w):=by
 subst hP hw hK
 intro pins s σ H xs us Q I r h
 obtain ⟨a,ss,rfl,hS,hl,q⟩:=h
 cases r with
 | cons r1 r2 =>
 cases r2
 cases r1
 obtain ⟨its,v1,p1,z⟩:=I.list hS
 have hlen:its.length=ss.length:=by
  have:=v1.length
  simpa [a53] using this.symm
 have hb:its.toArray.size+1<scanBound:=by
  rw [List.size_toArray,hlen]
  exact hl
 refine ao7 (I.ok.hd hc) p1.isList (val:=fun i=>ss.getD i 0) (fun i v e=>an4 v1 i v (by rw [List.getElem?_toArray] at e; exact e)) hb fun h' tk es hs hk keep=>?_
 rw [List.size_toArray,hlen] at hk
 have kp:∀ b u,s.heap.get? b=some u→h'.get? b=some u:=fun b u e=>keep b u (Heap.lt_size e) e
 have hp:=I.hok.fresh (Nat.le_refl s.heap.objs.size)
 obtain ⟨o,ep,t,ho,_⟩:=hs.ex
 have I2:=I.laid (h':=h') (t':=tk) (a:=s.heap.objs.size) (o:=.ext (setIφ X.prog X.w s.heap.objs.size (a84 (fun i=>ss.getD i 0) ss.length))) kp (Nat.le_refl _) ⟨⟨es,hs,hk⟩,⟨o,ho⟩,fun h1 h2 ⟨es',a1,a2⟩ z=>⟨es',a1.moved z,a2⟩⟩
 exact ⟨.ref s.heap.objs.size,_,I2,rfl,q _ _ _ hp (Same.new hp) a46 (ak4 _ _) (b22 ss)⟩
theorem az8 (hP:X.prog=P) (hw:X.w=w) (hc:X.calm=true):CallR X (.builtin "sorted") (by1 P w):=by
 subst hP hw
 intro pins s σ H xs us Q I r h
 obtain ⟨p,ks,rfl,hS,h64,q⟩:=h
 cases r with
 | cons r1 r2 =>
 cases r2
 cases r1
 obtain ⟨⟨es,hs,hk⟩,_⟩:=(show ObjOk X.prog X.w H s.heap p (.ext (setIφ X.prog X.w p ks)) from I.hok p _ hS)
 refine aw4 (I.ok.hd hc) hs hk h64 fun D h' tk d vs ss e kp hD hl hv pm so=>?_
 have hp:=I.hok.fresh hD
 have ln:ss.length=ks.length:=pm.length_eq
 have I2:=(I.drw d).laid (h':=h') (t':=tk) (a:=D) (o:=.lst (a53 ss)) kp hD ⟨by simp [a53]; exact Nat.le_trans (by omega) (le_line (show 64≤1000000 by decide)),vs,e,an5 hv,hl⟩
 exact ⟨.ref D,_,I2,rfl,q D ss _ hp (Same.new hp) a46 pm so⟩
end
def bn5:V→List V→Hp→VK→Prop:=fun x vs H Q=>∃ z y,x=.str z∧vs=[.str y]∧z.length≤sizeLine∧Q (.str (Txt.rstripChars z y)) H
def bn6:V→List V→Hp→VK→Prop:=fun x vs H Q=>∃ z y i rest,x=.str z∧vs=[.str y]∧Builtin.Str.occurrences z y 0 z.length 1=i::rest∧Q (.int (i:Nat)) H
section
variable {X:Cx}
theorem b23:MtR X "str.rstrip" bn5:=by
 intro pins s σ H x vs v us Q I rx rv h
 obtain ⟨z,y,rfl,rfl,hz,q⟩:=h
 obtain ⟨t,rfl⟩:=rx
 obtain ⟨u,rfl,ru⟩:=rv.one
 obtain ⟨t',rfl⟩:=ru
 exact SC.rstripChars (fun t2 k=>⟨.str _,H,I.tok _,⟨_,rfl⟩,q⟩) hz
theorem b84:MtR X "str.index" bn6:=by
 intro pins s σ H x vs v us Q I rx rv h
 obtain ⟨z,y,i,rest,rfl,rfl,ho,q⟩:=h
 obtain ⟨t,rfl⟩:=rx
 obtain ⟨u,rfl,ru⟩:=rv.one
 obtain ⟨t',rfl⟩:=ru
 exact SC.index ho ⟨.int _,H,I.tok _,⟨_,rfl⟩,q⟩
end
def PAt (H:Hp) (v:V) (p:List Pt):Prop:=(Tr.tup (p.map Pt.tr)).At H v []
def SAt (H:Hp) (v:V) (s:Stm):Prop:=∃ fs,s.tr.At H v fs
def BAt (H:Hp) (v:V) (b:List Stm):Prop:=∃ fs,(Tr.lst (Stm.trs b)).At H v fs
theorem PAt.same {H H':Hp}{v:V}{p:List Pt}(h:PAt H v p) (s:Same H H'):PAt H' v p:=bn0 h s.tups
theorem SAt.same {H H':Hp}{v:V}{x:Stm}(h:SAt H v x) (s:Same H H'):SAt H' v x:=by
 obtain ⟨fs,h⟩:=h
 exact ⟨fs,h.mono (s.keep _)⟩
theorem BAt.same {H H':Hp}{v:V}{b:List Stm}(h:BAt H v b) (s:Same H H'):BAt H' v b:=by
 obtain ⟨fs,h⟩:=h
 exact ⟨fs,h.mono (s.keep _)⟩
theorem ao8 {H:Hp}{α:Type}{f:α→Tr}{R:V→α→Prop}(hR:∀ v x fs,(f x).At H v fs→R v x):∀ {xs:List α}{ts:List Tr}{vs:List V}{fs:List Addr},ts=xs.map f→Tr.Ats H ts vs fs→Each R vs xs
 | [],_,vs,fs,rfl,h=>by
   simp only [List.map_nil,Tr.Ats] at h
   rw [h.1]
   exact Each.nil
 | x::xs,_,vs,fs,rfl,h=>by
   simp only [List.map_cons,Tr.Ats] at h
   obtain ⟨v,ws,f1,g1,rfl,_,h1,h2⟩:=h
   have:=ao8 hR (xs:=xs) rfl h2
   refine ⟨by simp [this.1],fun j a b e1 e2=>?_⟩
   cases j with
   | zero =>
     simp at e1 e2
     subst e1 e2
     exact hR _ _ _ h1
   | succ j=>exact this.2 j a b (by simpa using e1) (by simpa using e2)
theorem ao9 {H:Hp}{α:Type}{f:α→Tr}{R:V→α→Prop}(hR:∀ v x,R v x→∃ fs,(f x).At H v fs):∀ {xs:List α}{vs:List V},Each R vs xs→∃ fs,Tr.Ats H (xs.map f) vs fs
 | [],[],_=>⟨[],by simp [Tr.Ats]⟩
 | x::xs,v::vs,h=>by
   obtain ⟨f1,h1⟩:=hR v x (h.2 0 v x rfl rfl)
   obtain ⟨f2,h2⟩:=ao9 hR (xs:=xs) (vs:=vs) ⟨by simpa using h.1,fun j a b e1 e2=>h.2 (j+1) a b (by simpa using e1) (by simpa using e2)⟩
   refine ⟨f1++f2,?_⟩
   simp only [List.map_cons,Tr.Ats]
   exact ⟨v,vs,f1,f2,rfl,rfl,h1,h2⟩
 | [],v::vs,h=>absurd h.1 (by simp)
 | x::xs,[],h=>absurd h.1 (by simp)
theorem aw5:∀ b:List Stm,Stm.trs b=b.map Stm.tr
 | []=>rfl
 | s::r=>by rw [Stm.trs,aw5 r]; rfl
theorem aw6:∀ b:List Br,Br.trs b=b.map Br.tr
 | []=>rfl
 | s::r=>by rw [Br.trs,aw6 r]; rfl
theorem bat_iff {H:Hp}{v:V}{b:List Stm}:BAt H v b↔∃ l us,v=.ref l∧H l=some (.lst us)∧Each (SAt H) us b:=by
 constructor
 · rintro ⟨fs,h⟩
   simp only [Tr.At] at h
   obtain ⟨l,us,gs,rfl,e,h,_⟩:=h
   exact ⟨l,us,rfl,e,ao8 (f:=Stm.tr) (fun v x fs h=>⟨fs,h⟩) (aw5 b) h⟩
 · rintro ⟨l,us,rfl,e,h⟩
   obtain ⟨fs,h⟩:=ao9 (f:=Stm.tr) (fun v x h=>h) h
   refine ⟨l::fs,?_⟩
   simp only [Tr.At]
   exact ⟨l,us,fs,rfl,e,by rw [aw5]; exact h,rfl⟩
def BrAt (H:Hp) (v:V) (x:Br):Prop:=match x with | .mk p b=>∃ q pv bv,v=.ref q∧H q=some (.tup [pv,bv])∧PAt H pv p∧BAt H bv b
theorem az9 {H:Hp}:∀ {p:List Pt}{vs:List V}{fs:List Addr},Tr.Ats H (p.map Pt.tr) vs fs→fs=[]
 | [],vs,fs,h=>by
   simp only [List.map_nil,Tr.Ats] at h
   exact h.2
 | x::p,vs,fs,h=>by
   simp only [List.map_cons,Tr.Ats] at h
   obtain ⟨v,ws,f,g,_,rfl,h1,h2⟩:=h
   rw [az9 h2]
   cases x with
   | s z=>simp only [Pt.tr,Tr.At] at h1; simp [h1.2]
   | i z=>simp only [Pt.tr,Tr.At] at h1; simp [h1.2]
theorem by2 {H:Hp}{v:V}{x:Br}{fs:List Addr}(h:x.tr.At H v fs):BrAt H v x:=by
 cases x with
 | mk p b =>
   simp only [Br.tr,Tr.At,Tr.Ats] at h
   obtain ⟨q,vs,rfl,e,v1,w1,f1,g1,rfl,rfl,⟨a,us,rfl,e1,h1⟩,v2,w2,f2,g2,rfl,rfl,⟨l,ws,gs,rfl,e2,h2,rfl⟩,rfl,rfl⟩:=h
   have:=az9 h1
   subst this
   refine ⟨q,_,_,rfl,e,?_,⟨l::gs,?_⟩⟩
   · unfold PAt
     simp only [Tr.At]
     exact ⟨a,us,rfl,e1,h1⟩
   · simp only [Tr.At]
     exact ⟨l,ws,gs,rfl,e2,h2,rfl⟩
theorem c44 {H:Hp}{v:V}{x:Br}(h:BrAt H v x):∃ fs,x.tr.At H v fs:=by
 cases x with
 | mk p b =>
   obtain ⟨q,pv,bv,rfl,e,h1,⟨fs,h2⟩⟩:=h
   refine ⟨[]++(fs++[]),?_⟩
   simp only [Br.tr,Tr.At,Tr.Ats] at h2 ⊢
   exact ⟨q,_,rfl,e,pv,_,[],_,rfl,rfl,by unfold PAt at h1; simp only [Tr.At] at h1; exact h1,bv,_,fs,[],rfl,rfl,h2,rfl,rfl⟩
theorem sat_loop {H:Hp}{v:V}{b:List Stm}:SAt H v (.loop b)↔∃ a u,v=.ref a∧H a=some (.tup [.str "loop",u])∧BAt H u b:=by
 constructor
 · rintro ⟨fs,h⟩
   simp only [Stm.tr,Tr.At,Tr.Ats] at h
   obtain ⟨a,vs,rfl,e,v1,w1,f1,g1,rfl,rfl,⟨rfl,rfl⟩,v2,w2,f2,g2,rfl,rfl,h2,rfl,rfl⟩:=h
   exact ⟨a,v2,rfl,e,f2,by simp only [Tr.At]; exact h2⟩
 · rintro ⟨a,u,rfl,e,fs,h⟩
   refine ⟨[]++(fs++[]),?_⟩
   simp only [Stm.tr,Tr.At,Tr.Ats] at h ⊢
   exact ⟨a,_,rfl,e,_,_,[],_,rfl,rfl,⟨rfl,rfl⟩,u,_,fs,[],rfl,rfl,h,rfl,rfl⟩
theorem sat_wait {H:Hp}{v:V}{n:Int}{bs:List Br}:SAt H v (.wait n bs)↔∃ a l ws,v=.ref a∧H a=some (.tup [.str "wait",.int n,.ref l])∧H l=some (.lst ws)∧Each (BrAt H) ws bs:=by
 constructor
 · rintro ⟨fs,h⟩
   simp only [Stm.tr,Tr.At,Tr.Ats] at h
   obtain ⟨a,vs,rfl,e,v1,w1,f1,g1,rfl,rfl,⟨rfl,rfl⟩,v2,w2,f2,g2,rfl,rfl,⟨rfl,rfl⟩,v3,w3,f3,g3,rfl,rfl,⟨l,ws,gs,rfl,e2,h2,_⟩,rfl,rfl⟩:=h
   exact ⟨a,l,ws,rfl,e,e2,ao8 (f:=Br.tr) (fun v x fs h=>by2 h) (aw6 bs) h2⟩
 · rintro ⟨a,l,ws,rfl,e,e2,h⟩
   obtain ⟨gs,h⟩:=ao9 (f:=Br.tr) (fun v x h=>c44 h) h
   refine ⟨[]++([]++((l::gs)++[])),?_⟩
   simp only [Stm.tr,Tr.At,Tr.Ats]
   exact ⟨a,_,rfl,e,_,_,[],_,rfl,rfl,⟨rfl,rfl⟩,_,_,[],_,rfl,rfl,⟨rfl,rfl⟩,_,_,l::gs,[],rfl,rfl,⟨l,ws,gs,rfl,e2,by rw [aw6]; exact h,rfl⟩,rfl,rfl⟩
theorem ai6 {H:Hp}{v:V}{c:Cd}{x y:List Stm}(h:SAt H v (.test c x y)):∃ a u1 u2 u3,v=.ref a∧H a=some (.tup [.str "test",u1,u2,u3])∧BAt H u2 x∧BAt H u3 y:=by
 obtain ⟨fs,h⟩:=h
 simp only [Stm.tr,Tr.At,Tr.Ats] at h
 obtain ⟨a,vs,rfl,e,v1,w1,f1,g1,rfl,rfl,⟨rfl,rfl⟩,v2,w2,f2,g2,rfl,rfl,_,v3,w3,f3,g3,rfl,rfl,h3,v4,w4,f4,g4,rfl,rfl,h4,rfl,rfl⟩:=h
 exact ⟨a,v2,v3,v4,rfl,e,⟨f3,by simp only [Tr.At]; exact h3⟩,f4,by simp only [Tr.At]; exact h4⟩
theorem at1 {H:Hp}{v:V}{k:Str}{r:List Pt}(h:SAt H v (.plain (.s k::r))):∃ a us,v=.ref a∧H a=some (.tup (.str k::us)):=by
 obtain ⟨fs,h⟩:=h
 simp only [Stm.tr,List.map_cons,Tr.At,Tr.Ats,Pt.tr] at h
 obtain ⟨a,vs,rfl,e,v1,w1,f1,g1,rfl,_,⟨rfl,_⟩,_⟩:=h
 exact ⟨a,w1,rfl,e⟩
def a28:Stm→List (List Stm)
 | .loop b=>[b]
 | .wait _ bs=>bs.map fun | .mk _ b=>b
 | .test _ a b=>[a,b]
 | _=>[]
def a30:Stm→List (List Pt)
 | .wait _ bs=>bs.map fun | .mk p _=>p
 | _=>[]
def c45 (K:PySem.W.Frag):R2:=fun x y H Q=>∃ (ts:List Tr) (a b:Addr) (vs ws:List V),x=.ref a∧y=.ref b∧H a=some (.lst vs)∧H b=some (.lst ws)∧Tr.AtsK K H ts vs∧Tr.AtsK K H ts ws∧Tr.hs ts≤20∧Q (.bl true) H
def c46 (K:PySem.W.Frag):R2:=fun x y H Q=>∃ (ts:List Tr) (a b:Addr) (vs ws:List V),x=.ref a∧y=.ref b∧H a=some (.lst vs)∧H b=some (.lst ws)∧Tr.AtsK K H ts vs∧Tr.AtsK K H ts ws∧Tr.hs ts≤20∧Q (.bl false) H
section
variable {X:Cx}
theorem bf0 (K:PySem.W.Frag) (hu:X.A.units+64<cLine) (hK:X.K=K:=by rfl):OpR X (compareOp .Eq) (c45 K):=by
 subst hK
 intro pins s σ H x y v u Q I rx ry h
 obtain ⟨ts,a,b,vs,ws,rfl,rfl,e1,e2,c1,c2,hh,q⟩:=h
 cases rx
 cases ry
 obtain ⟨is1,q1,p1,_⟩:=I.list (SqL.of e1)
 obtain ⟨is2,q2,p2,_⟩:=I.list (SqL.of e2)
 have n1:=Tr.AtsK.isIns I c1 q1
 have n2:=Tr.AtsK.isIns I c2 q2
 have hl:is1.length=is2.length:=by rw [n1.len,n2.len]
 have:=SeqAt.RcAt.lists (A:=X.A) (s:=s) (e:=fun _=>true) p1.isList p2.isList (by simpa using hl) (by omega) (fun j h1 h2=>by
  have:=Tr.Ins.eqAts (A:=X.A.in1) n1 n2 (by rw [ad4]; omega) j (by simpa using h1) (by simpa using h2)
  simpa using this) X.prog X.w X.xe (EP X pins σ Q)
 refine this ⟨.bl true,H,I,?_,q⟩
 rw [show ((List.range is1.toArray.size).all fun _=>true)=true by simp]
 rfl
theorem bf1 (K:PySem.W.Frag) (hu:X.A.units+64<cLine) (hK:X.K=K:=by rfl):OpR X (compareOp .NotEq) (c46 K):=by
 subst hK
 intro pins s σ H x y v u Q I rx ry h
 obtain ⟨ts,a,b,vs,ws,rfl,rfl,e1,e2,c1,c2,hh,q⟩:=h
 cases rx
 cases ry
 obtain ⟨is1,q1,p1,_⟩:=I.list (SqL.of e1)
 obtain ⟨is2,q2,p2,_⟩:=I.list (SqL.of e2)
 have n1:=Tr.AtsK.isIns I c1 q1
 have n2:=Tr.AtsK.isIns I c2 q2
 have hl:is1.length=is2.length:=by rw [n1.len,n2.len]
 have:=SeqAt.RcNeAt.lists (A:=X.A) (s:=s) (e:=fun _=>true) p1.isList p2.isList (by simpa using hl) (by omega) (fun j h1 h2=>by
  have:=Tr.Ins.eqAts (A:=X.A.in1) n1 n2 (by rw [ad4]; omega) j (by simpa using h1) (by simpa using h2)
  simpa using this) X.prog X.w X.xe (EP X pins σ Q)
 refine this ⟨.bl false,H,I,?_,q⟩
 rw [show ((List.range is1.toArray.size).all fun _=>true)=true by simp]
 rfl
end
theorem ak5:∀ {a b:List Int},a.Pairwise (·≤·)→b.Pairwise (·≤·)→a.Nodup→b.Nodup→(∀ x,x∈a↔x∈b)→a=b
 | [],[],_,_,_,_,_=>rfl
 | [],y::b,_,_,_,_,h=>absurd ((h y).mpr (by simp)) (by simp)
 | x::a,[],_,_,_,_,h=>absurd ((h x).mp (by simp)) (by simp)
 | x::a,y::b,s1,s2,n1,n2,h=>by
   rw [List.pairwise_cons] at s1 s2
   rw [List.nodup_cons] at n1 n2
   have e:x=y:=by
    rcases List.mem_cons.mp ((h x).mp (by simp)) with e | hx
    · exact e
    rcases List.mem_cons.mp ((h y).mpr (by simp)) with e | hy
    · exact e.symm
    have:=s2.1 x hx
    have:=s1.1 y hy
    omega
   subst e
   rw [ak5 s1.2 s2.2 n1.2 n2.2 fun z=>?_]
   constructor
   · intro hz
     rcases List.mem_cons.mp ((h z).mp (List.mem_cons_of_mem _ hz)) with e | hz'
     · exact absurd (e ▸ hz) n1.1
     · exact hz'
   · intro hz
     rcases List.mem_cons.mp ((h z).mpr (List.mem_cons_of_mem _ hz)) with e | hz'
     · exact absurd (e ▸ hz) n2.1
     · exact hz'
def keyP (k:Int):List Pt:=[.s "key",.i k]
def ab1 (x:Str):List Pt:=[.s "word",.s x]
def keysOf (ps:List (List Pt)):List Int:=ps.filterMap fun | [.s k,.i n]=>if k=Str.ofString "key" then some n else none | _=>none
def wordsOf (ps:List (List Pt)):List Str:=ps.filterMap fun | [.s k,.s n]=>if k=Str.ofString "word" then some n else none | _=>none
theorem keysOf_mem {ps:List (List Pt)}{k:Int}:k∈keysOf ps↔keyP k∈ps:=by
 unfold keysOf
 rw [List.mem_filterMap]
 constructor
 · rintro ⟨p,hp,e⟩
   split at e
   · next k' n =>
     split at e
     · next hk =>
       cases e
       subst hk
       exact hp
     · cases e
   · cases e
 · intro h
   exact ⟨_,h,by simp [keyP]⟩
theorem wordsOf_mem {ps:List (List Pt)}{k:Str}:k∈wordsOf ps↔ab1 k∈ps:=by
 unfold wordsOf
 rw [List.mem_filterMap]
 constructor
 · rintro ⟨p,hp,e⟩
   split at e
   · next k' n =>
     split at e
     · next hk =>
       cases e
       subst hk
       exact hp
     · cases e
   · cases e
 · intro h
   exact ⟨_,h,by simp [ab1]⟩
theorem b00 {ks:List Int}(hn:ks.Nodup) (h:∀ x∈ks,0≤x∧x<10):ks.length≤10:=by
 have:=pigeon 10 (ks.map fun x=>x.toNat) (List.pairwise_map.mpr (List.Pairwise.imp_of_mem (fun {a b} ha hb hne e=>hne (by
  have:=h a ha
  have:=h b hb
  omega)) hn)) (fun k hk=>by
  obtain ⟨x,hx,rfl⟩:=List.mem_map.mp hk
  have:=h x hx
  omega)
 simpa using this
section
variable {σ:St} {H:Hp}{nn bb cc:St→Hp→Prop}{rr:VK}{t u:TS}
theorem bi9 (h:∀ N:St→Hp→Prop,(∀ σ H,u ⟨nn,rr,bb,cc⟩ σ H→N σ H)→t ⟨N,rr,bb,cc⟩ σ H):tSeq t u ⟨nn,rr,bb,cc⟩ σ H:=h _ fun _ _ x=>x
theorem bj0 {P N:St→Hp→Prop}(e:∀ σ H,P σ H→N σ H) (h:P σ H):N σ H:=e σ H h
end
abbrev Pl:=Nat×Nat
inductive KS where
 | say (w:Str)
 | hand (l:Int) (w:Str)
 | put (n:Str) (e:Ex)
 | test (c:Cd) (a b:Nat)
 | loop (n:Nat)
 | call (n:Nat)
 | wait (l:Int) (br:List (List Pt×Pl)) (w:Pl)
 | again
 | leave
 | back
 | stop
def plT (p:Pl):Tr:=.tup [.int (p.1:Nat),.int (p.2:Nat)]
def brK (b:List Pt×Pl):Tr:=.tup [.tup (b.1.map Pt.tr),plT b.2]
def KS.word:KS→Str
 | .say _=>"say"
 | .hand _ _=>"hand"
 | .put _ _=>"put"
 | .test _ _ _=>"test"
 | .loop _=>"loop"
 | .call _=>"call"
 | .wait _ _ _=>"wait"
 | .again=>"again"
 | .leave=>"leave"
 | .back=>"back"
 | .stop=>"stop"
def KS.its:KS→List Tr
 | .say w=>[.str w]
 | .hand l w=>[.int l,.str w]
 | .put n e=>[.str n,e.tr]
 | .test c a b=>[c.tr,.int (a:Nat),.int (b:Nat)]
 | .loop n=>[.int (n:Nat)]
 | .call n=>[.int (n:Nat)]
 | .wait l br w=>[.int l,.tup (br.map brK),plT w]
 | _=>[]
def KS.tr (s:KS):Tr:=.tup (.str s.word::s.its)
theorem KS.word_at {H:Hp}{v:V}{s:KS}(h:s.tr.At H v []):∃ a us,v=.ref a∧H a=some (.tup (.str s.word::us))∧Tr.Ats H s.its us []:=by
 obtain ⟨a,vs,rfl,e,h⟩:=at_tup0.mp h
 obtain ⟨v1,w1,hz,h1,h2⟩:=ats_cons0.mp h
 obtain rfl:=at_str0.mp h1
 exact ⟨a,w1,rfl,by rw [e,hz],h2⟩
def BxAt (H:Hp) (v:V) (b:Str×Int):Prop:=∃ p,v=.ref p∧H p=some (.tup [.str b.1,.int b.2])
theorem BxAt.same {H H':Hp}{v:V}{b:Str×Int}(h:BxAt H v b) (s:Same H H'):BxAt H' v b:=by
 obtain ⟨p,h1,h2⟩:=h
 exact ⟨p,h1,s _ _ h2⟩
mutual
def Tr.nl:Tr→Bool
 | .tup xs=>Tr.nls xs
 | .lst _=>false
 | _=>true
def Tr.nls:List Tr→Bool
 | []=>true
 | x::xs=>x.nl && Tr.nls xs
end
mutual
theorem by3 {H:Hp}:∀ {x:Tr}{v:V}{fs:List Addr},x.nl=true→x.At H v fs→fs=[]
 | .non,_,_,_,h=>by simp only [Tr.At] at h; exact h.2
 | .int _,_,_,_,h=>by simp only [Tr.At] at h; exact h.2
 | .str _,_,_,_,h=>by simp only [Tr.At] at h; exact h.2
 | .tup xs,_,_,n,h=>by
   simp only [Tr.At] at h
   obtain ⟨a,vs,_,_,h⟩:=h
   exact bj1 (by simpa only [Tr.nl] using n) h
 | .lst _,_,_,n,_=>by simp [Tr.nl] at n
theorem bj1 {H:Hp}:∀ {xs:List Tr}{vs:List V}{fs:List Addr},Tr.nls xs=true→Tr.Ats H xs vs fs→fs=[]
 | [],_,_,_,h=>by simp only [Tr.Ats] at h; exact h.2
 | x::xs,_,_,n,h=>by
   simp only [Tr.nls,Bool.and_eq_true] at n
   simp only [Tr.Ats] at h
   obtain ⟨v,ws,f,g,_,rfl,h1,h2⟩:=h
   rw [by3 n.1 h1,bj1 n.2 h2]
   rfl
end
theorem bn7:∀ e:Ex,e.tr.nl=true
 | .num _=>rfl
 | .box _=>rfl
 | .two k a b=>by simp only [Ex.tr,Tr.nl,Tr.nls,bn7 a,bn7 b]; rfl
def Stm.kd (tn:List Str):Stm→Prop
 | .plain ps=>(∃ w,ps=[.s "say",.s w])∨(∃ l w,ps=[.s "hand",.i l,.s w])∨(∃ w,ps=[.s "call",.s w]∧w∈tn)∨ps=[.s "again"]∨ps=[.s "leave"]∨ps=[.s "back"]∨ps=[.s "stop"]
 | .wait _ bs=>bs.length≤1000
 | _=>True
theorem b85 {tn:List Str}{ps:List Pt}(h:Stm.kd tn (.plain ps)):∃ k r,ps=.s k::r∧k≠Str.ofString "test"∧k≠Str.ofString "wait"∧k≠Str.ofString "loop":=by
 rcases h with ⟨w,rfl⟩ | ⟨l,w,rfl⟩ | ⟨w,rfl,_⟩ | rfl | rfl | rfl | rfl <;> exact ⟨_,_,rfl,by decide +kernel,by decide +kernel,by decide +kernel⟩
theorem b86 {H:Hp}{v:V}{n:Str}{e:Ex}(h:SAt H v (.put n e)):(KS.put n e).tr.At H v []:=by
 obtain ⟨fs,h⟩:=h
 have:fs=[]:=by3 (by simp only [Stm.tr,Tr.nl,Tr.nls,bn7]; rfl) h
 subst this
 exact h
def Stm.wd:Stm→Str
 | .plain (.s k::_)=>k
 | .plain _=>"stop"
 | .put _ _=>"put"
 | .loop _=>"loop"
 | .wait _ _=>"wait"
 | .test _ _ _=>"test"
theorem bj2 {H:Hp}{v:V}{s:Stm}{tn:List Str}(h:SAt H v s) (hk:s.kd tn):∃ a us,v=.ref a∧H a=some (.tup (.str s.wd::us)):=by
 cases s with
 | plain ps =>
   obtain ⟨k,r,rfl,_⟩:=b85 hk
   obtain ⟨a,us,h1,h2⟩:=at1 h
   exact ⟨a,us,h1,h2⟩
 | put n e =>
   obtain ⟨a,us,h1,h2,_⟩:=KS.word_at (b86 h)
   exact ⟨a,us,h1,h2⟩
 | loop b =>
   obtain ⟨a,u,h1,h2,_⟩:=sat_loop.mp h
   exact ⟨a,_,h1,h2⟩
 | wait n bs =>
   obtain ⟨a,l,ws,h1,h2,_⟩:=sat_wait.mp h
   exact ⟨a,_,h1,h2⟩
 | test c x y =>
   obtain ⟨a,u1,u2,u3,h1,h2,_⟩:=ai6 h
   exact ⟨a,_,h1,h2⟩
theorem b87 {s:Stm}{tn:List Str}(hk:s.kd tn) (h:s.wd=Str.ofString "test"):∃ c x y,s=.test c x y:=by
 cases s with
 | test c x y=>exact ⟨c,x,y,rfl⟩
 | plain ps=>obtain ⟨k,r,rfl,h1,h2,h3⟩:=b85 hk; exact absurd h h1
 | _=>simp only [Stm.wd] at h; exact absurd h (by decide +kernel)
theorem b88 {s:Stm}{tn:List Str}(hk:s.kd tn) (h:s.wd=Str.ofString "wait"):∃ c x,s=.wait c x:=by
 cases s with
 | wait c x=>exact ⟨c,x,rfl⟩
 | plain ps=>obtain ⟨k,r,rfl,h1,h2,h3⟩:=b85 hk; exact absurd h h2
 | _=>simp only [Stm.wd] at h; exact absurd h (by decide +kernel)
theorem b89 {s:Stm}{tn:List Str}(hk:s.kd tn) (h:s.wd=Str.ofString "loop"):∃ c,s=.loop c:=by
 cases s with
 | loop c=>exact ⟨c,rfl⟩
 | plain ps=>obtain ⟨k,r,rfl,h1,h2,h3⟩:=b85 hk; exact absurd h h3
 | _=>simp only [Stm.wd] at h; exact absurd h (by decide +kernel)
theorem b90 {s:Stm}(h1:s.wd≠Str.ofString "test") (h2:s.wd≠Str.ofString "wait") (h3:s.wd≠Str.ofString "loop"):a28 s=[]:=by
 cases s <;> first | rfl | exact absurd rfl h1 | exact absurd rfl h2 | exact absurd rfl h3
section
variable {X:Cx}{tg:Expr}
end
section
variable {X:Cx}{pins:List (Addr×Obj)}{σ:St} {H:Hp}{s:Shared}
end
section
variable {prog:Program}{w:World}{A:Around}{E:Value→Shared→Prop}{s:Shared}
end
section
variable {X:Cx}
end
theorem aw7 (n:Nat):sliceBounds none (some 0) (some (-1)) n=((n:Int) - 1,min 0 ((n:Int) - 1),-1):=by
 unfold sliceBounds
 simp
 try omega
theorem b24 (m:Nat):sliceRange (((m+1:Nat):Int) - 1) 0 (-1)=(List.range m).map fun k=>m - k:=by
 unfold sliceRange
 have hc:(if ((-1:Int) > 0) then (if (((m+1:Nat):Int) - 1<0) then ((0:Int) - (((m+1:Nat):Int) - 1)+-1 - 1) / -1 else 0) else (if (((m+1:Nat):Int) - 1 > 0) then (((m+1:Nat):Int) - 1 - 0 - -1 - 1) / - -1 else 0)).toNat=m:=by
  rw [if_neg (by decide)]
  split
  · rw [show (- -1:Int)=1 from rfl,Int.ediv_one]
    omega
  · omega
 simp only [hc]
 refine List.map_congr_left fun k hk=>?_
 have:=List.mem_range.mp hk
 omega
theorem b01 {α β:Type}{f g:α→Option β}:∀ {l:List α},(∀ x∈l,f x=g x)→l.filterMap f=l.filterMap g
 | [],_=>rfl
 | x::l,h=>by
   rw [List.filterMap_cons,List.filterMap_cons,h x (by simp),b01 fun y hy=>h y (by simp [hy])]
theorem b91 (items:List Value):slicePick items.toArray none (some 0) (some (-1))=(items.drop 1).reverse.toArray:=by
 unfold slicePick
 rw [aw7]
 simp only [List.size_toArray]
 cases items with
 | nil=>rfl
 | cons x items =>
   rw [show min (0:Int) (((x::items).length:Int) - 1)=0 by simp; omega,List.length_cons,b24,List.drop_succ_cons,List.drop_zero]
   congr 1
   refine List.ext_getElem? fun k=>?_
   have e:((List.range items.length).map fun k=>items.length - k).filterMap (fun i=>(x::items).toArray[i]?)=(List.range items.length).filterMap fun k=>items[items.length - 1 - k]?:=by
    rw [List.filterMap_map]
    refine b01 fun k hk=>?_
    have hk:=List.mem_range.mp hk
    show (x::items).toArray[items.length - k]?=_
    rw [List.getElem?_toArray,show items.length - k=(items.length - 1 - k)+1 by omega,List.getElem?_cons_succ]
   rw [e]
   have h:∀ n,n≤items.length→(List.range n).filterMap (fun k=>items[items.length - 1 - k]?)=items.reverse.take n:=fun n=>by
    induction n with
    | zero=>intro _; simp
    | succ n ih =>
      intro hn
      rw [List.range_succ,List.filterMap_append,ih (by omega),List.take_add_one,List.getElem?_reverse (by omega)]
      have:items[items.length - 1 - n]?=some items[items.length - 1 - n]:=List.getElem?_eq_getElem (by omega)
      simp [this]
   rw [h _ (Nat.le_refl _),List.take_of_length_le (by simp)]
def by4 (K:PySem.W.Frag) (te tu ts:TE):TE:=fun σ H Q=>te σ H fun x H1=>tu σ H1 fun z H2=>ts σ H2 fun y H3=>z=.int 0∧y=.int (-1)∧∃ a xs,x=.ref a∧SqL K H3 a xs∧New H3 (.lst (xs.drop 1).reverse) Q
section
variable {X:Cx}{e st up:Expr}{te ts tu:TE}{p2 pos:Pos}
theorem bn8 (K:PySem.W.Frag) (he:PE X e te) (hu:PE X up tu) (hs:PE X st ts) (ht:∀ (o r:Value),letTemporaryGo e o r=pure ():=by intro _ _; rfl) (hK:X.K=K:=by rfl):PE X (.Subscript e (.Slice none (some up) (some st) p2) pos) (by4 K te tu ts):=by
 subst hK
 intro pins s σ H Q I h
 refine wpAny_Subscript_Slice_step PySem.F.slot_list_getitem.lookup (thn (he pins s σ H _ I h) ?_) ht
 rintro v s1 ⟨x,H1,I1,r1,q1⟩
 refine wpAny_Slice ?_
 rw [evalPart_none]
 refine wpAny_pure ?_
 rw [evalPart_some]
 refine thn (hu pins s1 σ H1 _ I1 q1) ?_
 rintro w2 s2 ⟨z,H2,I2,r2,q2⟩
 rw [evalPart_some]
 refine thn (hs pins s2 σ H2 _ I2 q2) ?_
 rintro w3 s3 ⟨y,H3,I3,r3,q3⟩
 obtain ⟨rfl,rfl,a,xs,rfl,hS,q⟩:=q3
 cases r1
 obtain ⟨t,rfl⟩:=r2
 obtain ⟨t3,rfl⟩:=r3
 have I4:Inv X pins σ H3 { s3 with heap:=s3.heap.push { cls:=.type "slice",data:=.fields #[.none,.int 0 t,.int (-1) t3] } }:=I3.kept (t':=s3.toks) fun b ob q=>Heap.get?_push_of_some _ q
 obtain ⟨its,v1,p1,hz⟩:=I4.list hS
 refine ⟨p1.isList.typeIs,wpAny_getItem_list_slice (lo:=none) (hi:=some 0) (st:=some (-1)) p1.isList (Heap.IsSliceOf.new ..) .none (.int _ _) (.int _ _) (by decide) ?_ (by rw [List.size_toArray,←v1.length]; exact hz)⟩
 refine ⟨.ref _,_,I4.laid (t':=s3.toks) (o:=.lst (xs.drop 1).reverse) (fun b ob q=>Heap.get?_push_of_some _ q) (Nat.le_refl _) ?_,rfl,New.to q _ (I4.hok.fresh (Nat.le_refl _))⟩
 rw [b91]
 exact ⟨by rw [List.length_reverse,List.length_drop]; exact Nat.le_trans (Nat.sub_le _ _) hz,(its.drop 1).reverse,0,(v1.drop 1).reverse,Heap.get?_push_size _ rfl⟩
theorem by5 {K:PySem.W.Frag}{σ:St} {H:Hp}{Q:VK}(h:te σ H fun x H1=>tu σ H1 fun z H2=>ts σ H2 fun y H3=>z=.int 0∧y=.int (-1)∧∃ a xs,x=.ref a∧SqL K H3 a xs∧New H3 (.lst (xs.drop 1).reverse) Q):by4 K te tu ts σ H Q:=h
end
end L2
namespace L2
open PySem
inductive Wd where
 | on | again | leave | back | stop
deriving DecidableEq
abbrev Tks:=List (Str×List Stm)
def c59 (ts:Tks) (n:Str):Option (List Stm):=(ts.find? fun t=>decide (t.1=n)).map (·.2)
variable {ts:Tks}{G:Bool→Stm→Prop}
variable {ts:Tks}{G:Bool→Stm→Prop}
variable {ts:Tks}{G:Bool→Stm→Prop}
variable {ts:Tks}{G:Bool→Stm→Prop}
variable {ts:Tks}{ns:List Str}
def bnd:Nat→Nat
 | 0=>0
 | d+1=>94+4*bnd d
end L2
namespace L2
open PySem PySem.Spec PyProof.Rows
section
variable {X:Cx}
open Classical in
end
def by6:R2:=fun x y H Q=>∃ (a b l1 l2 m1 m2:Addr) (ms ns:List Addr),x=.ref a∧y=.ref b∧H a=some (.tup [.ref l1,.ref l2])∧H b=some (.tup [.ref m1,.ref m2])∧H l1=some (.lst (ms.map V.ref))∧H m1=some (.lst (ms.map V.ref))∧H l2=some (.lst (ns.map V.ref))∧H m2=some (.lst (ns.map V.ref))∧Q (.bl false) H
theorem eqOL {X:Cx}{pins:List (Addr×Obj)}{σ:St} {H:Hp}{s:Shared}(I:Inv X pins σ H s) {A:Around}{a b:Addr}{ms:List Addr}(e1:H a=some (.lst (ms.map V.ref))) (e2:H b=some (.lst (ms.map V.ref))) (hu:A.units+4<cLine):SeqAt.EqAt A s (.ref a) (.ref b) true:=by
 by_cases hab:a=b
 · subst hab
   exact SeqAt.EqAt.same _
 refine SeqAt.EqAt.of_refs hab ?_
 obtain ⟨is1,q1,p1,_⟩:=I.list (SqL.of e1)
 obtain ⟨is2,q2,p2,_⟩:=I.list (SqL.of e2)
 cases ad6 q1
 cases ad6 q2
 have:=SeqAt.RcAt.lists (A:=A) (s:=s) (e:=fun _=>true) p1.isList p2.isList rfl (by omega) (fun j h1 h2=>SeqAt.EqAt.same _)
 rw [show ((List.range (ms.map Value.ref).toArray.size).all fun _=>true)=true by simp] at this
 exact this
theorem bf2 {X:Cx}(hu:X.A.units+64<cLine):OpR X (compareOp .NotEq) by6:=by
 intro pins s σ H x y v u Q I rx ry h
 obtain ⟨a,b,l1,l2,m1,m2,ms,ns,rfl,rfl,e1,e2,g1,g2,g3,g4,q⟩:=h
 cases rx
 cases ry
 obtain ⟨is1,q1,p1,_⟩:=I.tuple (SqT.of e1)
 obtain ⟨is2,q2,p2,_⟩:=I.tuple (SqT.of e2)
 cases ad6 (ms:=[l1,l2]) q1
 cases ad6 (ms:=[m1,m2]) q2
 have k1:=SeqAt.RcNeAt.tuples (A:=X.A) (s:=s) (e:=fun _=>true) p1 p2 (by omega) (fun j h1 h2=>by
  match j,h1,h2 with
  | 0,_,_=>exact eqOL I g1 g2 (by rw [ad4]; omega)
  | 1,_,_=>exact eqOL I g3 g4 (by rw [ad4]; omega)
  | j+2,h1,_=>exact absurd h1 (by simp))
 refine k1 X.prog X.w X.xe (EP X pins σ Q) ⟨.bl false,H,I,?_,q⟩
 rfl
theorem by7 {H:Hp}{Q:VK}{a b l1 l2 m1 m2:Addr}{ms ns:List Addr}(h1:H a=some (.tup [.ref l1,.ref l2])) (h2:H b=some (.tup [.ref m1,.ref m2])) (h3:H l1=some (.lst (ms.map V.ref))) (h4:H m1=some (.lst (ms.map V.ref))) (h5:H l2=some (.lst (ns.map V.ref))) (h6:H m2=some (.lst (ns.map V.ref))) (h:Q (.bl false) H):by6 (.ref a) (.ref b) H Q:=⟨a,b,l1,l2,m1,m2,ms,ns,rfl,rfl,h1,h2,h3,h4,h5,h6,h⟩
def c47 (P:Nat→Value→Prop) (bt:Nat→Nat→Bool) (j:Nat) (o:Array Value):Prop:=(j=0∧o=#[])∨∃ i vb,j=i+1∧o=#[vb,vb]∧P (argBest bt i) vb
section
variable {prog:Program}{w:World}{A:Around}{R:Result→Shared→Prop}{J:Addr}{fp wr:List Addr}{n:Nat}{P:Nat→Value→Prop}{St:Nat→Heap→Prop}
theorem b92 (W:Walks prog w A.in1 J fp wr n P St) (bt:Nat→Nat→Bool) (hc:CmpOf prog w A.in1 .Gt P bt) (S:Addr) (hS:S∉fp) (d:Value):∀ (k j:Nat) (s:Shared) (o:Array Value) (c:Nat),n - j=k→j≤n→St j s.heap→c47 P bt j o →
 s.heap.get? S=some { cls:=.type "list",dict:=none,data:=.seq o c,slots:=#[] } →
 (∀ v h' tk,((n=0∧v=d)∨(0<n∧P (argBest bt (n - 1)) v))→(∀ b o,b∉wr→b≠S→s.heap.get? b=some o→h'.get? b=some o)→R (.ok (.ret v)) { s with heap:=h',toks:=tk }) →
 codeAny (model prog w) A (.builtin "max.loop" ⟨[.ref J,.none,.ref S],[("default",d)]⟩) R s:=by
 have nw:S∉wr:=fun h=>hS (W.sub _ h)
 have nm:(toString "max"++toString ".loop":String)="max.loop":=by decide
 intro k
 induction k with
 | zero =>
   intro j s o c e1 e2 st hb g hR
   obtain rfl:j=n:=by omega
   refine codeAny_builtin F.entry_max_loop ?_
   rw [Around.under_plainId F.plain_max_loop _]
   show wpAny (model prog w) A.in1 (seqItems? (.ref S) >>= _) _ _ s
   refine wpAny_bind (wpAny_seqItems g rfl ?_)
   show wpAny (model prog w) A.in1 (tryCatch (pyNext (.ref J)) _ >>= _) _ _ s
   refine wpAny_bind (wpAny_tryCatch (W.done s _ _ st fun h' tk kk=>?_))
   have g':=kk S _ nw g
   rcases hb with ⟨rfl,rfl⟩ | ⟨i,vb,rfl,rfl,hP⟩
   · show wpAny (model prog w) A.in1 (rule _ >>= _) _ _ _
     exact wpAny_bind (wpAny_rule (wpAny_pure (hR d _ tk (.inl ⟨rfl,rfl⟩) fun b o hw _ e=>kk b o hw e)))
   · show wpAny (model prog w) A.in1 (updateSeq S (fun _=>#[]) >>= _) _ _ _
     refine wpAny_bind (wpAny_updateSeq g' rfl (wpAny_bind (wpAny_letGo (wpAny_pure (hR vb _ tk (.inr ⟨Nat.succ_pos _,hP⟩) fun b o hw hne e=>?_)))))
     exact (Heap.get?_update_other _ _ (Ne.symm hne)).trans (kk b o hw e)
 | succ k ih =>
   intro j s o c e1 e2 st hb g hR
   refine codeAny_builtin F.entry_max_loop ?_
   rw [Around.under_plainId F.plain_max_loop _]
   show wpAny (model prog w) A.in1 (seqItems? (.ref S) >>= _) _ _ s
   refine wpAny_bind (wpAny_seqItems g rfl ?_)
   show wpAny (model prog w) A.in1 (tryCatch (pyNext (.ref J)) _ >>= _) _ _ s
   refine wpAny_bind (wpAny_tryCatch (W.item j s _ _ (by omega) st fun v h' tk hP st' kk=>?_))
   have g':=kk S _ nw g
   rcases hb with ⟨rfl,rfl⟩ | ⟨i,vb,rfl,rfl,hB⟩
   · show wpAny (model prog w) A.in1 (updateSeq S (fun _=>#[v,v]) >>= _) _ _ _
     refine wpAny_bind (wpAny_updateSeq g' rfl ?_)
     rw [nm]
     refine wpAny_pure ⟨plainId_quiet F.plain_max_loop _,ih 1 _ _ _ (by omega) (by omega) (W.frame _ _ _ st' fun b hf o e=>?_) (.inr ⟨0,v,rfl,rfl,hP⟩) (Heap.get?_update_self _ g' rfl) fun v' h2 tk2 hv k2=>hR v' h2 tk2 hv fun b o hw hne e=>?_⟩
     · exact (Heap.get?_update_other _ _ (fun z:S=b=>hS (z ▸ hf))).trans e
     · exact k2 b o hw hne ((Heap.get?_update_other _ _ (Ne.symm hne)).trans (kk b o hw e))
   · show wpAny (model prog w) A.in1 (tryCatch (holding [v,v] (richCompare .Gt v vb >>= _)) _ >>= _) _ _ _
     refine wpAny_bind (wpAny_tryCatch (wpAny_holding (wpAny_bind (hc (i+1) (argBest bt i) v vb _ _ _ hP hB ?_))))
     refine wpAny_bind (wpAny_holding (wpAny_truthy_bool (wpAny_bind (wpAny_letGo (wpAny_pure ?_)))))
     cases hx:bt (i+1) (argBest bt i) with
     | true =>
       simp only [if_true]
       refine wpAny_bind (wpAny_updateSeq g' rfl (wpAny_bind (wpAny_letGo ?_)))
       rw [nm]
       refine wpAny_pure ⟨plainId_quiet F.plain_max_loop _,ih (i+2) _ _ _ (by omega) (by omega) (W.frame _ _ _ st' fun b hf o e=>?_) (.inr ⟨i+1,v,rfl,rfl,by simp only [argBest,hx,if_true]; exact hP⟩) (Heap.get?_update_self _ g' rfl) fun v' h2 tk2 hv k2=>hR v' h2 tk2 hv fun b o hw hne e=>?_⟩
       · exact (Heap.get?_update_other _ _ (fun z:S=b=>hS (z ▸ hf))).trans e
       · exact k2 b o hw hne ((Heap.get?_update_other _ _ (Ne.symm hne)).trans (kk b o hw e))
     | false =>
       simp only [Bool.false_eq_true,if_false]
       refine wpAny_bind (wpAny_letGo ?_)
       rw [nm]
       exact wpAny_pure ⟨plainId_quiet F.plain_max_loop _,ih (i+2) _ _ _ (by omega) (by omega) st' (.inr ⟨i+1,vb,rfl,rfl,by simp only [argBest,hx,Bool.false_eq_true,if_false]; exact hB⟩) g' fun v' h2 tk2 hv k2=>hR v' h2 tk2 hv fun b o hw hne e=>k2 b o hw hne (kk b o hw e)⟩
end
section
variable {prog:Program}{w:World}{A:Around}{E:Value→Shared→Prop}{s:Shared}
theorem b93 (a d:Value):argsOk "max" ⟨[a],[("default",d)]⟩:=by unfold argsOk; kernel_rfl
theorem b94 (d:Value):Builtin.Builtins.bindParams "max" ["key","default"] 0 ⟨[],[("default",d)]⟩=pure [none,some d]:=by
 unfold Builtin.Builtins.bindParams
 simp [List.lookup]
 rfl
theorem at2 {l:Addr}{its:Array Value}{bt:Nat→Nat→Bool}{d:Value}{Q:Value→Shared→Prop}(hh:A.handled=none) (hl:s.heap.IsList l its) (hc:CmpOf prog w A.in1 .Gt (fun i v=>its[i]?=some v) bt)
 (h:∀ v h' tk,((its.size=0∧v=d)∨(0<its.size∧its[argBest bt (its.size - 1)]?=some v))→(∀ b o,s.heap.get? b=some o→h'.get? b=some o)→Q v { s with heap:=h',toks:=tk }) :
 wpAny (model prog w) A (call (.builtin "max") [.ref l] [("default",d)]) Q E s:=by
 have nm:(toString "max"++toString ".loop":String)="max.loop":=by decide
 refine wpAny_call (codeAny_call_builtin F.plain_max F.entry_max ?_)
 simp only [checkBuiltinCall,F.kind_max]
 have go:wpAny (model prog w) A.in1 (Builtin.«max» ⟨[.ref l],[("default",d)]⟩) (fun fin s'=>match fin with
  | .done f=>(match (Except.ok f:Result) with | .ok (.ret v)=>Q v s' | .ok _=>False | .error e=>E e s')
  | .again c'=>c'.quiet=true∧codeAny (model prog w) A c' (fun r s'=>match r with | .ok (.ret v)=>Q v s' | .ok _=>False | .error e=>E e s') s') E s:=by
  show wpAny _ A.in1 (Builtin.Builtins.bindParams "max" ["key","default"] 0 ⟨[],[("default",d)]⟩ >>= _) _ _ s
  refine wpAny_bind (wpAny_of_eq (show Builtin.Builtins.bindParams "max" ["key","default"] 0 ⟨[],[("default",d)]⟩=pure [none,some d] from b94 d) (wpAny_bind (wpAny_pure (wpAny_bind (Flt.iter_list_ hl fun s₂ e st hfp hlI=>?_)))))
  subst e
  refine wpAny_bind (wpAny_newObj_type ?_)
  rw [nm]
  refine wpAny_pure ⟨plainId_quiet F.plain_max_loop _,b92 (Walks.list (A:=A.in1) hh _ l hlI its) bt hc _ (fun hm=>Nat.lt_irrefl _ (hfp _ hm)) d _ 0 _ _ _ rfl (Nat.zero_le _) ?_ (.inl ⟨rfl,rfl⟩) (Heap.get?_push_size _ rfl) fun v h' tk hv kk=>?_⟩
  · exact (Walks.list (prog:=prog) (w:=w) (A:=A.in1) hh _ l hlI its).frame _ _ _ st fun b _ o e=>Heap.get?_push_of_some _ e
  · refine h v h' tk hv (old_kept fun b o hw e=>kk b o hw (Nat.ne_of_lt (Heap.lt_size e)) (Heap.get?_push_of_some _ e))
 cases hsig:Manifest.signature? "max" with
 | none=>exact wpAny_pure go
 | some sig =>
   have ha:Bind.checkArgs "max" sig ⟨[.ref l],[("default",d)]⟩=pure ():=by simpa only [argsOk,hsig] using b93 (.ref l) d
   simp only [ha]
   exact wpAny_pure go
end
def blsX (bs:List Bool):List V:=bs.map V.bl
def bf3 (K:PySem.W.Frag) (t tk:TA):TE:=fun σ H Q=>t σ H fun vs H1=>tk σ H1 fun zs H2=>∃ (a:Addr) (z:V),vs=[.ref a]∧zs=[z]∧((∃ ns:List Int,SqL K H2 a (ns.map V.int)∧(ns=[]→Q z H2)∧∀ M,M∈ns→(∀ a∈ns,a≤M)→Q (.int M) H2)∨(∃ bs:List Bool,SqL K H2 a (blsX bs)∧(bs=[]→Q z H2)∧∀ M,M∈bs→(∀ a∈bs,a=true→M=true)→Q (.bl M) H2))
section
variable {X:Cx}{e d:Expr}{t tk:TA}{p kp pos:Pos}
theorem b02:∀ {bs:List Bool}{us:List Value},Vals (blsX bs) us→us=bs.map Value.bool
 | [],us,h=>by cases h; rfl
 | b::bs,us,h=>by
   cases h with
   | cons h1 h2=>rw [b02 h2]; cases h1; rfl
theorem aw8 (K:PySem.W.Frag) (hc:X.calm=true) (hK:X.K=K) (hg:Gl X "max") (hm:X.mg "max"=none) (hv:bootBuiltins "max"=some (.builtin "max")) (ha:PA X [e] t) (hk:PK X [⟨some "default",d,kp⟩] tk)
 (he:starEach [e] X.env=(false,eval e X.env)::starEach [] X.env:=by rfl):PE X (.Call (.Name "max" p) [e] [⟨some "default",d,kp⟩] pos) (bf3 K t tk):=by
 subst hK
 intro pins s σ H Q I h
 refine wpAny_Call_Name_kw (ah4 I hg hm hv ?_ (by decide) (by decide))
 refine PyProof.Rows.callWith_kw (thn (ha pos pins s σ H _ I h) fun us s1 ⟨vs,H1,I1,r1,q1⟩=>thn (hk pos pins s1 σ H1 _ I1 q1) fun ws s2 ⟨zs,H2,I2,r2,a,z,e1,e2,q2⟩=>?_) (by rw [he]; rfl) (by rw [he]; rfl)
 subst e1 e2
 obtain ⟨u,rfl,ru⟩:=aq7 r1
 obtain ⟨u',rfl,ru'⟩:=aq7 r2
 cases ru
 rcases q2 with ⟨ns,hS,q0,q2⟩ | ⟨bs,hS,q0,q2⟩
 · obtain ⟨its,v1,p1,_⟩:=I2.list hS
   have hi:=al6 v1
   obtain ⟨ys,e⟩:=hi.allInts.items
   have hn:=nums_intItems (xs:=ys)
   rw [← e,show its.toArray.toList=its from rfl,hi.numsOf] at hn
   have hl:ns.length=ys.size:=by rw [hn]; simp
   have hsz:(intItems ys).size=ys.size:=by simp [intItems]
   refine at2 (its:=intItems ys) (I2.ok.hd hc) (e ▸ p1.isList) (CmpOf.ints_gt (numAt ys) (fun _ _=>intItems_at)) fun v h' tk hv hk=>?_
   rw [hsz] at hv
   rcases hv with ⟨h0,rfl⟩ | ⟨hp,hv⟩
   · exact ⟨z,H2,I2.kept hk,ru',q0 (List.length_eq_zero_iff.mp (hl.trans h0))⟩
   · obtain ⟨t,rfl⟩:=intItems_at hv
     obtain ⟨h1,h2⟩:=argBest_gt (numAt ys) (ys.size - 1)
     refine ⟨.int _,H2,I2.kept hk,⟨t,rfl⟩,q2 _ ?_ fun b hb=>?_⟩
     · rw [hn,numAt_eq]
       exact getD_mem (by rw [List.length_map,Array.length_toList]; omega)
     · rw [hn] at hb
       obtain ⟨j,hj,rfl⟩:=mem_getD hb
       rw [List.length_map,Array.length_toList] at hj
       rw [← numAt_eq]
       exact h2 j (by omega)
 · obtain ⟨its,v1,p1,_⟩:=I2.list hS
   obtain rfl:=b02 v1
   have hsz:(bs.map Value.bool).toArray.size=bs.length:=by simp
   refine at2 (its:=(bs.map Value.bool).toArray) (bt:=fun i j=>decide (b2i (bs.getD i false) > b2i (bs.getD j false))) (I2.ok.hd hc) p1.isList (fun i j vi vj s' Q' E' h1 h2 q=>?_) fun v h' tk hv hk=>?_
   · have at_:∀ {i:Nat}{v:Value},(bs.map Value.bool).toArray[i]?=some v→v=.bool (bs.getD i false):=fun {i v} h=>by
      rw [List.getElem?_toArray,List.getElem?_map] at h
      obtain ⟨b,hb,rfl⟩:=Option.map_eq_some_iff.mp h
      rw [List.getD_eq_getElem?_getD,hb]; rfl
     rw [at_ h1,at_ h2]
     exact richCompare_gives (typeIs_bool' s' _) (typeIs_bool' s' _) F.slot_bool_gt F.entry_int_gt (F.args_int_gt_2 (Value.bool _) (Value.bool _)) (gives_int_gt_bools _ _) (fun x=>nomatch x) q rfl
   · rw [hsz] at hv
     rcases hv with ⟨h0,rfl⟩ | ⟨hp,hv⟩
     · exact ⟨z,H2,I2.kept hk,ru',q0 (List.length_eq_zero_iff.mp h0)⟩
     · obtain ⟨h1,h2⟩:=argBest_gt (fun i=>b2i (bs.getD i false)) (bs.length - 1)
       generalize argBest (fun i j=>decide (b2i (bs.getD i false) > b2i (bs.getD j false))) (bs.length - 1)=m at hv h1 h2
       rw [List.getElem?_toArray,List.getElem?_map] at hv
       obtain ⟨b,hb,rfl⟩:=Option.map_eq_some_iff.mp hv
       refine ⟨.bl b,H2,I2.kept hk,rfl,q2 b (List.mem_of_getElem? hb) fun c hc ht=>?_⟩
       obtain ⟨j,hj,rfl⟩:=List.mem_iff_getElem.mp hc
       have:=h2 j (by omega)
       simp only [List.getD_eq_getElem?_getD,List.getElem?_eq_getElem hj,hb,Option.getD_some] at this
       rw [ht] at this
       cases b with
       | true=>rfl
       | false=>exact absurd this (by decide)
end
end L2
namespace L2
open PySem
def abc:List Char:="abcdefghijklmnopqrstuvwxyz".toList
def w1:List Str:=abc.map fun c=>Str.ofString (String.ofList [c])
def w2:List Str:=w1.flatMap fun a=>w1.map fun b=>a++b
def WL:List Str:=w1++w2
end L2
namespace L2
open PySem PySem.Spec PyProof.Rows
def chrs (z:Str):List V:=z.cps.toList.map fun c=>V.str ⟨#[c]⟩
def b95:List V→Hp→VK→Prop:=fun xs H Q=>∃ z,xs=[.str z]∧z.cps.size≤sizeLine∧New H (.lst (chrs z)) Q
section
variable {X:Cx}
theorem bf4 (hc:X.calm=true):CallR X (.type "list") b95:=by
 intro pins s σ H xs us Q I r h
 obtain ⟨z,rfl,hz,q⟩:=h
 obtain ⟨u,rfl,ru⟩:=aq7 r
 obtain ⟨t,rfl⟩:=ru
 refine call_list_str (I.ok.hd hc) z t (fun h' tk acc' c' hk hS hacc=>?_) hz
 refine ⟨.ref _,_,I.laid (a:=s.heap.objs.size) (o:=.lst (chrs z)) (t':=tk) hk (Nat.le_refl _) ?_,rfl,New.to q _ (I.hok.fresh (Nat.le_refl _))⟩
 have hal:acc'.size=z.cps.size:=hacc.1
 refine ⟨by unfold chrs; rw [List.length_map]; simpa using hz,acc'.toList,c',?_,by simpa using hS⟩
 refine b67 (by unfold chrs; simp [hal]) fun j x1 x2 hx1 hx2=>?_
 obtain ⟨c,u,hcj,rfl⟩:=hacc.2 j x2 (by rw [← Array.getElem?_toList]; exact hx2)
 unfold chrs at hx1
 rw [List.getElem?_map,Array.getElem?_toList,hcj] at hx1
 obtain rfl:=Option.some.inj hx1
 exact ⟨u,rfl⟩
theorem at3 (h:X.calm=true:=by rfl):CallR X (.type "list") b95:=bf4 h
end
theorem b96 {H:Hp}{Q:VK}{z:Str}(hz:z.cps.size≤sizeLine) (h:New H (.lst (chrs z)) Q):b95 [.str z] H Q:=⟨z,rfl,hz,h⟩
section
variable {prog:Program}{w:World}{A:Around}{E:Value→Shared→Prop}{s:Shared}
def aw9 (n:Int):Obj:={ cls:=.type "range_iterator",data:=.fields #[rawInt (0+(n - 1)*1),rawInt n,rawInt (-1)] }
theorem ap0 {l:Addr}{n:Int}{t u v:Tok}{Q:Value→Shared→Prop}(hl:IsRange s.heap l 0 n 1 t u v) (h0:0≤n) (h1:n≤1000000)
 (h:Q (.ref s.heap.objs.size) { s with heap:=s.heap.push (aw9 n) }):wpAny (model prog w) A (call (.builtin "range.__reversed__") [.ref l]) Q E s:=by
 have hT:s.TypeIs (.ref l) "range":=⟨_,hl,rfl⟩
 refine wpAny_call_entry F.slot_range_reversed hT F.entry_range_reversed ?_ (F.args_range_reversed_1 _)
 unfold Builtin.«range.__reversed__»
 refine wpAny_bind (wpAny_of_eq (a:=Value.ref l) rfl ?_)
 unfold Builtin.Range.rangeFields
 simp only [bind_assoc]
 refine wpAny_bind (wpAny_field hl rfl (x:=.int 0 t) rfl ?_)
 refine wpAny_bind (wpAny_of_eq (a:=some (0:Int)) rfl ?_)
 refine wpAny_bind (wpAny_field hl rfl (x:=.int n u) rfl ?_)
 refine wpAny_bind (wpAny_of_eq (a:=some n) rfl ?_)
 refine wpAny_bind (wpAny_field hl rfl (x:=.int 1 v) rfl ?_)
 refine wpAny_bind (wpAny_of_eq (a:=some (1:Int)) rfl ?_)
 refine wpAny_bind (wpAny_of_eq (a:=((0:Int),n,(1:Int))) rfl ?_)
 have hsz:Builtin.Range.rangeSize 0 n 1=n:=by
  rw [rangeSize_one]
  split <;> omega
 have hsm:(Builtin.Range.rangeFitsLong 0 && Builtin.Range.rangeFitsLong n && Builtin.Range.rangeFitsLong 1 && Builtin.Range.rangeFitsLong (-1) && Builtin.Range.rangeFitsLong (0 - 1) && Builtin.Range.rangeFitsLong n)=true:=by
  simp only [Builtin.Range.rangeFitsLong,Bool.and_eq_true,decide_eq_true_eq]
  omega
 simp only [hsz,hsm,Bool.not_true,Bool.false_eq_true,if_false,if_true]
 unfold newFields
 exact wpAny_bind (wpAny_newObj_type (wpAny_pure ⟨_,rfl,h⟩))
theorem ai0 {l:Addr}{n:Int}{t u v:Tok}{Q₁:Value→Shared→Prop}(hl:IsRange s.heap l 0 n 1 t u v) (h0:0≤n) (h1:n≤1000000)
 (h:Q₁ (.ref s.heap.objs.size) { s with heap:=s.heap.push (aw9 n) }) :
 codeAny (model prog w) A (.call (.builtin "reversed.__new__") ⟨[.type "reversed",.ref l],[]⟩) (wants Q₁ E) s:=by
 have hT:s.TypeIs (.ref l) "range":=⟨_,hl,rfl⟩
 refine codeAny_of_tree ?_
 show wpAny _ A.in1 (do checkBuiltinCall "reversed.__new__" ⟨[.type "reversed",.ref l],[]⟩; again (.builtin "reversed.__new__" ⟨[.type "reversed",.ref l],[]⟩)) _ _ s
 refine wpAny_bind (wpAny_of_eq (F.newCall_reversed_1 _) (wpAny_pure ⟨plainId_quiet F.plain_reversed_new _,codeAny_builtin F.entry_reversed_new ?_⟩))
 rw [Around.under_plainId F.plain_reversed_new _]
 unfold Builtin.«reversed.__new__»
 refine wpAny_bind (wpAny_of_eq (newClass_reversed _) ?_)
 try dsimp only
 refine wpAny_bind (wpAny_of_eq (a:=()) (by first | rfl | kernel_rfl) ?_)
 refine wpAny_bind (wpAny_of_eq (a:=()) (by first | rfl | kernel_rfl) ?_)
 try dsimp only
 refine wpAny_bind (wpAny_specialOf hT F.slot_range_reversed.lookup ?_)
 try dsimp only
 refine wpAny_bind (wpAny_of_eq (F.slot_range_reversed.bind _) ?_)
 try dsimp only
 rw [if_neg (show ¬ ((Value.builtin "range.__reversed__" == Value.none)=true) from Bool.false_ne_true)]
 refine wpAny_bind (wpAny_rule ?_)
 refine wpAny_bind (m:=runValue (.call (.builtin "range.__reversed__") ⟨[.ref l],[]⟩)) (show wpAny _ _ (call (.builtin "range.__reversed__") [.ref l]) _ _ _ from ap0 hl h0 h1 ?_)
 first
 | exact wpAny_pure h
 | exact wpAny_bind (wpAny_pure (wpAny_pure h))
theorem ak6:isSubtype (.type "range_iterator") (.type "reversed")=pure false:=by rw [isSubtype_type]; kernel_rfl
theorem ai1 {l:Addr}{n:Int}{t u v:Tok}{Q:Value→Shared→Prop}(hl:IsRange s.heap l 0 n 1 t u v) (h0:0≤n) (h1:n≤1000000)
 (h:Q (.ref s.heap.objs.size) { s with heap:=s.heap.push (aw9 n) }):wpAny (model prog w) A (call (.type "reversed") [.ref l]) Q E s:=by
 refine callType_other (U:="range_iterator") (Q₁:=fun obj s₁=>obj=.ref s.heap.objs.size∧s₁={ s with heap:=s.heap.push (aw9 n) }) (by decide +kernel) F.create_reversed ⟨_,_,F.mro_reversed⟩ F.made_reversed ak6 (F.typeCall_reversed_1 _) (ai0 hl h0 h1 ⟨rfl,rfl⟩) ?_
 rintro obj s₁ ⟨rfl,rfl⟩
 exact ⟨⟨_,Heap.get?_push_size _ rfl,rfl⟩,h⟩
end
section
variable {X:Cx}{tg:Expr}
def by8 (ta:TA):TI:=fun σ H R=>ta σ H fun vs H1=>∃ n:Nat,vs=[.int (n:Nat)]∧n≤1000000∧R (ItrC ((n:Int) - 1) (-1) n) H1
theorem bn9 {a:Expr}{ta:TA}{p1 p2 pos1 pos2:Pos}(hg:Gl X "reversed") (hm:X.mg "reversed"=none) (hgr:Gl X "range") (hmr:X.mg "range"=none) (ha:PA X [a] ta) (hs:starEach [a] X.env=[(false,eval a X.env)]:=by rfl) (hs2:starEach [.Call (.Name "range" p2) [a] [] pos2] X.env=[(false,eval (.Call (.Name "range" p2) [a] [] pos2) X.env)]:=by rfl) :
 PI X tg (.Call (.Name "reversed" p1) [.Call (.Name "range" p2) [a] [] pos2] [] pos1) (by8 ta):=by
 intro pins s σ H R I h
 refine Call_ (ah4 I hg hm boot_reversed ?_)
 refine PyProof.Rows.callWith_type1 ?_ hs2 rfl
 refine Calls.spliced_cons ?_
 refine Call_ (ah4 I hgr hmr boot_range (PyProof.Rows.callWith_type1 (thn (ha pos2 pins s σ H _ I h) ?_) hs rfl))
 rintro us s1 ⟨vs,H1,I1,r1,q1⟩
 obtain ⟨n,e,hn,q⟩:=q1
 subst e
 obtain ⟨u,rfl,ru⟩:=aq7 r1
 obtain ⟨t,rfl⟩:=ru
 refine call_range_1 ?_
 refine Calls.spliced_nil ?_
 have I2:Inv X pins σ H1 { s1 with heap:=s1.heap.push { cls:=.type "range",data:=.fields #[.int 0 s1.toks,.int (n:Nat) t,.int 1 (s1.toks+1)] },toks:=s1.toks+1+1 }:=I1.kept (t':=s1.toks+1+1) fun b o e=>Heap.get?_push_of_some _ e
 refine ai1 (IsRange.new ..) (by omega) (by omega) ?_
 generalize hS:({ s1 with heap:=s1.heap.push { cls:=.type "range",data:=.fields #[.int 0 s1.toks,.int (n:Nat) t,.int 1 (s1.toks+1)] },toks:=s1.toks+1+1 }:Shared)=s2 at I2 ⊢
 have hit:IsRangeIter (s2.heap.push (aw9 n)) s2.heap.objs.size ((n:Int) - 1+((0:Nat):Int)*(-1)) ((n:Int) - ((0:Nat):Int)) (-1):=by
  have e:aw9 n={ cls:=.type "range_iterator",data:=.fields #[rawInt ((n:Int) - 1+((0:Nat):Int)*(-1)),rawInt ((n:Int) - ((0:Nat):Int)),rawInt (-1)] }:=by
   unfold aw9
   rw [show (0:Int)+((n:Int) - 1)*1=(n:Int) - 1+((0:Nat):Int)*(-1) by omega,show ((n:Int) - ((0:Nat):Int))=(n:Int) by omega]
  rw [e]
  exact Heap.get?_push_size _ rfl
 refine wpAny_pyIter_rangeiter hit ?_
 refine ⟨s2.heap.objs.size,[s2.heap.objs.size],_,_,H1,rfl,I2.kept (t':=s2.toks) fun b o e=>Heap.get?_push_of_some _ e,aw2 _ ((n:Int) - 1) (-1) n,hit,fun b hb=>?_,q⟩
 have e:b=s2.heap.objs.size:=by simpa using hb
 subst e
 exact I2.fpOk (Nat.le_refl _) (I2.hok.fresh (Nat.le_refl _))
theorem b97 {lo c:Int}{n:Nat}{te:TE}{tt:TT}{caps:List Nat}{σ:St} {H:Hp}{Q:VK}(hz:n≤sizeLine) (Pv:Nat→List V→Hp→Prop) (h0:Pv 0 [] H) (hl:∀ i acc H,Pv i acc H→acc.length≤i)
 (hs:∀ i acc H,i<n→Pv i acc H→tt (some (.int (lo+i*c))::capV caps σ) H fun b H4=>if b=true then te (some (.int (lo+i*c))::capV caps σ) H4 fun y H5=>Pv (i+1) (acc++[y]) H5 else Pv (i+1) acc H4)
 (hd:∀ acc H,Pv n acc H→New H (.lst acc) Q):ac1 (ItrC lo c n) (ae6 0) tt te 1 caps σ H Q:=by
 refine ay5 n hz Pv h0 hl (fun i acc H hi p=>hi) (fun acc H p=>Nat.le_refl _) ?_ hd
 rintro i x acc H1 H2 hi p ⟨rfl,rfl⟩
 exact hs i acc _ hi p
theorem by9 {σ:St} {H:Hp}{R:It→Hp→Prop}{ts:TA}(h:ts σ H fun vs H1=>∃ n:Nat,vs=[.int (n:Nat)]∧n≤1000000∧R (ItrC ((n:Int) - 1) (-1) n) H1):by8 ts σ H R:=h
end
variable {X:Cx}
def bo0 (K:PySem.W.Frag):List V→Hp→VK→Prop:=fun xs H Q=>∃ a us n b,xs=[.ref a,.ty n]∧SqT K H a us∧PySem.W.kitOne K (.type "tuple") (.type n)=some b∧Q (.bl b) H
theorem bo1:CallR X (.builtin "isinstance") (bo0 X.K):=by
 intro pins s σ H xs us Q I r h
 obtain ⟨a,ys,n,b,rfl,ht,e,q⟩:=h
 obtain ⟨u,w',rfl,rx,ry⟩:=bc4 r
 cases (show w'=Value.type n from ry)
 cases (show u=Value.ref a from rx)
 obtain ⟨its,_,⟨o,h1,h2,_⟩,_⟩:=I.tuple ht
 exact PySem.W.kia_one PySem.W.kitx_tuple I.kIn ⟨o,h1,h2⟩ e (fun z=>nomatch z) fun tk=>⟨.bl b,H,I.tok _,rfl,q⟩
theorem bf5 (K:PySem.W.Frag) (hK:X.K=K:=by rfl):CallR X (.builtin "isinstance") (bo0 K):=hK ▸ bo1
theorem bz0 {K:PySem.W.Frag}{H:Hp}{Q:VK}{a:Addr}{xs:List V}(e:SqT K H a xs) (h:Q (.bl true) H):bo0 K [V.ref a,V.ty "tuple"] H Q:=⟨_,_,_,true,rfl,e,rfl,h⟩
theorem bo2 {K:PySem.W.Frag}{H:Hp}{Q:VK}{z:Str}(h:Q (.bl false) H):rIsi K [V.str z,V.ty "bool"] H Q:=⟨_,_,_,false,rfl,.str z,by rfl,h⟩
end L2
local macro_rules | `(tactic| walk_at "side") => `(tactic| first | exact ⟨by decide, by decide, by decide⟩ | exact ⟨by decide, by decide⟩ | exact .inr (.inr ⟨by decide, by decide⟩) | exact .inr (.inl ⟨by decide, by decide⟩) | decide | omega | exact L2.le_line (by simp only [List.length_cons, List.length_nil]; omega))
local macro_rules | `(tactic| walk_at "o") => `(tactic| first | exact Or.inl rfl | exact Or.inr rfl)
local macro_rules | `(tactic| walk_at "step") => do
  let mut acc ← `(tactic| ((with_reducible refine L2.i_rgA ?k ?l ?_); (case k => walk_at "side"); (case l => walk_at "side")))
  for s in ("i_rI ai4 bi9 c16 i_c i_op i_un i_rU c17 bm3 c18 c19 c20 bu7 i_bl c21 c22 bu8 bu9 bv0 c23 i_cb bv1 c24 c25 c26 bv5 c27 i_or c28 i_lc bv6 bm4 bv8 c29 c30 i_sx i_bm c31 c32 i_sl bd7 bv9 c33 bw0 bw1 bw2 bw5 bm5 bw3 bm6 bm7 c34 bw9 bx0 bx2 i_tB c37 by9 by5 bv4 bj0".splitOn " ").reverse do
    let n := Lean.mkIdent (Lean.Name.str `L2 s)
    if s == "i_rI" || s == "ai4" || s == "bv4" then acc ← `(tactic| first | ((with_reducible refine $n ?k ?_); (case k => walk_at "side")) | $acc:tactic)
    else if s == "bi9" then acc ← `(tactic| first | ((with_reducible refine $n ?_); intro _ _) | $acc:tactic)
    else if s == "bj0" then acc ← `(tactic| first | ((with_reducible refine' $n ?k ?_); (case k => assumption)) | $acc:tactic)
    else acc ← `(tactic| first | with_reducible refine $n ?_ | $acc:tactic)
  `(tactic| first | ((with_reducible refine L2.i_name ?_); dsimp only [List.set_cons_zero, List.set_cons_succ]) | ((with_reducible refine' L2.i_var ?k ?_); (case k => rfl)) | $acc:tactic)
local macro_rules | `(tactic| walk_at "run") => `(tactic| (repeat walk_at "step"))
local macro_rules | `(tactic| walk_at "go") => do
  let ids := (("L2.start List.map_cons List.map_nil List.length_cons List.length_nil List.replicate List.cons_append List.nil_append Nat.reduceSub Nat.reduceAdd L2.nox_K L2.wish_K L2.cxOf_K L2.cxC_K".splitOn " ").map fun s => Lean.mkIdent s.toName).toArray
  `(tactic| (simp only [$[$ids:term],*]; walk_at "run"))
namespace K19
open PySem L2
theorem sc_bodies_of:FnScope ["statement","kind"] ["statement"] (a06 ae9):=⟨rfl,rfl,rfl,by decide +kernel,rfl,by decide +kernel,by decide +kernel⟩
theorem sc_statements_in:FnScope ["body","found","statement","inner"] ["body"] (a06 ad1):=⟨rfl,rfl,rfl,by decide +kernel,rfl,by decide +kernel,by decide +kernel⟩
theorem at4:FnScope ["script"] ["script"] (a06 aj4):=⟨rfl,rfl,rfl,by decide +kernel,rfl,by decide +kernel,by decide +kernel⟩
theorem sc_events_of_patterns:FnScope ["patterns","keys","words"] ["patterns"] (a06 a41):=⟨rfl,rfl,rfl,by decide +kernel,rfl,by decide +kernel,by decide +kernel⟩
theorem sc_patterns_of:FnScope ["script","found","name","body","statement"] ["script"] (a06 ab5):=⟨rfl,rfl,rfl,by decide +kernel,rfl,by decide +kernel,by decide +kernel⟩
theorem sc_first_free_word:FnScope ["words","taken","word"] ["words"] (a06 a86):=⟨rfl,rfl,rfl,by decide +kernel,rfl,by decide +kernel,by decide +kernel⟩
theorem sc_word_behind:FnScope ["word","last","stem","letter"] ["word"] (a06 af5):=⟨rfl,rfl,rfl,by decide +kernel,rfl,by decide +kernel,by decide +kernel⟩
theorem ax0:FnScope ["script","k"] ["script","k"] (a06 al7):=⟨rfl,rfl,rfl,by decide +kernel,rfl,by decide +kernel,by decide +kernel⟩
theorem sc_law_stir:FnScope ["cell","k","number"] ["cell","k"] (a06 al8):=⟨rfl,rfl,rfl,by decide +kernel,rfl,by decide +kernel,by decide +kernel⟩
theorem sc_law_drawn:FnScope ["cell","sizes","found","rest","k","size"] ["cell","sizes"] (a06 aj5):=⟨rfl,rfl,rfl,by decide +kernel,rfl,by decide +kernel,by decide +kernel⟩
theorem sc_law_word:FnScope ["number","letters"] ["number"] (a06 al9):=⟨rfl,rfl,rfl,by decide +kernel,rfl,by decide +kernel,by decide +kernel⟩
theorem sc_law_expression:FnScope ["d","boxes","one","other","found"] ["d","boxes"] (a06 ac6):=⟨rfl,rfl,rfl,by decide +kernel,rfl,by decide +kernel,by decide +kernel⟩
theorem sc_law_condition:FnScope ["d","boxes","one","other","plain"] ["d","boxes"] (a06 ad2):=⟨rfl,rfl,rfl,by decide +kernel,rfl,by decide +kernel,by decide +kernel⟩
theorem sc_law_simple:FnScope ["cell","boxes","calls","most","kind","number","line","d0","d1","d2","d3","word","name"] ["cell","boxes","calls","most"] (a06 ah5):=⟨rfl,rfl,rfl,by decide +kernel,rfl,by decide +kernel,by decide +kernel⟩
theorem sc_law_test:FnScope ["some","cell","boxes","d","at","bodies"] ["some","cell","boxes"] (a06 ae0):=⟨rfl,rfl,rfl,by decide +kernel,rfl,by decide +kernel,by decide +kernel⟩
theorem sc_law_wait:FnScope ["some","cell","most","limit","start","more","key","number","menu","branches","k"] ["some","cell","most"] (a06 ag5):=⟨rfl,rfl,rfl,by decide +kernel,rfl,by decide +kernel,by decide +kernel⟩
theorem sc_law_loop:FnScope ["some","cell","most","limit","place","key","number","leaves","form","first","k","at","branches","held","body"] ["some","cell","most"] (a06 ag6):=⟨rfl,rfl,rfl,by decide +kernel,rfl,by decide +kernel,by decide +kernel⟩
theorem sc_law_entry:FnScope ["cell","some","boxes","most","way","deep","opened"] ["cell","some","boxes","most","way"] (a06 a95):=⟨rfl,rfl,rfl,by decide +kernel,rfl,by decide +kernel,by decide +kernel⟩
theorem sc_law_talk:FnScope ["cells","boxes","calls","most","pile","cell","way","many","rest","some"] ["cells","boxes","calls","most"] (a06 aa8):=⟨rfl,rfl,rfl,by decide +kernel,rfl,by decide +kernel,by decide +kernel⟩
theorem sc_law_script:FnScope ["script","way","many","named","turned","two","three","boxes","most","menu","names","talks","k","cells"] ["script"] (a06 ad3):=⟨rfl,rfl,rfl,by decide +kernel,rfl,by decide +kernel,by decide +kernel⟩
theorem sc_law_patterns:FnScope ["script","found","bodies","statement","pattern","body"] ["script"] (a06 aa6):=⟨rfl,rfl,rfl,by decide +kernel,rfl,by decide +kernel,by decide +kernel⟩
theorem sc_law_more:FnScope ["cell","mask","way","many","without","keys","letters","words","some"] ["cell"] (a06 a94):=⟨rfl,rfl,rfl,by decide +kernel,rfl,by decide +kernel,by decide +kernel⟩
theorem sc_law_free:FnScope ["words","letters","one","other"] ["words"] (a06 am0):=⟨rfl,rfl,rfl,by decide +kernel,rfl,by decide +kernel,by decide +kernel⟩
theorem sc_law_due:FnScope ["script","patterns","keys","words","other","found"] ["script"] (a06 a96):=⟨rfl,rfl,rfl,by decide +kernel,rfl,by decide +kernel,by decide +kernel⟩
theorem sc_law:FnScope ["script","boxes","talks","due","handed","found"] ["script"] (a06 bk9):=⟨rfl,rfl,rfl,by decide +kernel,rfl,by decide +kernel,by decide +kernel⟩
theorem Txt.d_QUIET {K:PySem.W.Frag}{mg:Str→Option Value}{t:Adr}(T:Txt K mg t):TupK K t.ad_QUIET [.str "quiet"]:=by obtain ⟨_,its,nn,_,h1,h2,h3⟩:=T.dd_QUIET; exact ⟨_,its,nn,h1,rfl,rfl,h2,h3⟩
section
variable {P:Program}{w:World}{K:PySem.W.Frag}{mg:Str→Option Value}{base:Heap}{t:Adr}
def bo3 (K:PySem.W.Frag):Sp:=fun vs H Q _=>∃ (a:Addr) (ns:List Int) (k:Nat),vs=[.ref a,.int (k:Nat)]∧SqL K H a (ns.map V.int)∧∀ z:Int,Q (.int z) H
theorem ak7 (T:Txt K mg t):FnOk P w K mg base CX0 1 t.a__law_cell t.fd__law_cell ["script","k"] (bo3 K):=by
 refine T.f__law_cell.F.ok ax0 (fun vs H Q E h=>?_) (fun cdv A outer s H vs Q E hr h=>?_)
 · obtain ⟨a,ns,k,rfl,_⟩:=h
   rfl
 · obtain ⟨a,ns,k,rfl,hS,q⟩:=h
   refine ⟨_,(@a03 _ _ _ _ _ (@a67 _ _ _ _ _ _ _ _ (bc2 c01 br7 (@a02 _ _ _ _) (pv 1) (@a39 _ _ _ _ _ _ _ _ _ (a65 K) (by rfl) T.z_len a80 (@a00 _ _ _ _ _ (pv 0) (@a01 _) (by rfl)) (by decide) (by decide) (by rfl) (by rfl))) (@a08 _ _ _ (@a40 _ _ _ _ (@a37 _ _ _ _ _ _ _ (a35 K) (pv 0) (pv 1) (fun _ _=>rfl)))) (@a42 _))
    (@a08 _ _ _ (@a40 _ _ _ _ (@a02 _ _ _ _)))),?_⟩
   walk_at "go"
   refine a55 (by omega) ?_
   walk_at "run"
   refine a90 hS ?_
   walk_at "run"
   rw [List.length_map]
   by_cases hk:k<ns.length
   · refine a55 (by omega) ?_
     walk_at "run"
     exact a61 hS (a04 (j:=k) (v:=.int ns[k]) (by simp [hk])) (q _)
   · refine a43 (by omega) ?_
     walk_at "run"
     exact q 0
def bo4:Sp:=fun vs H Q _=>∃ (c:Int) (k:Nat),vs=[.int c,.int (k:Nat)]∧k≤100∧∀ r:Int,Q (.int r) H
theorem p60:(10:Int) ^ Int.toNat 60=1000000000000000000000000000000000000000000000000000000000000:=by decide
theorem bo5 (c:Int) {k:Nat}(hk:k≤100):Bd 210 (c % 10 ^ Int.toNat 60+7919*(k:Int)+1):=by
 rw [p60]
 have a1:=Int.emod_nonneg c (show (1000000000000000000000000000000000000000000000000000000000000:Int)≠0 by decide)
 have a2:=Int.emod_lt_of_pos c (show (0:Int)<1000000000000000000000000000000000000000000000000000000000000 by decide)
 refine Bd.of (by omega) ?_
 have e2:(2:Int) ^ 210=1645504557321206042154969182557350504982735865633579863348609024:=by decide
 rw [e2]
 omega
theorem b98 (c:Int):Bd 128 (c % 170141183460469231731687303715884105727):=by
 have a1:=Int.emod_nonneg c (show (170141183460469231731687303715884105727:Int)≠0 by decide)
 have a2:=Int.emod_lt_of_pos c (show (0:Int)<170141183460469231731687303715884105727 by decide)
 refine Bd.of a1 ?_
 have e2:(2:Int) ^ 128=340282366920938463463374607431768211456:=by decide
 rw [e2]
 omega
theorem ax1 (T:Txt K mg t):FnOk P w K mg base CX0 1 t.a__law_stir t.fd__law_stir ["cell","k"] bo4:=by
 refine T.f__law_stir.F.ok sc_law_stir (fun vs H Q E h=>?_) (fun cdv A outer s H vs Q E hr h=>?_)
 · obtain ⟨c,k,rfl,_⟩:=h
   rfl
 · obtain ⟨c,k,rfl,hk,q⟩:=h
   refine ⟨_,(@a03 _ _ _ _ _ (@a27 _ _ 2 _ _ _ _ sc_law_stir.nd rfl (by walk_at "o") (@a31 _ _ _ _ _ _ _ _ ac0 (@a31 _ _ _ _ _ _ _ _ a34 (@a31 _ _ _ _ _ _ _ _ a34 (@a31 _ _ _ _ _ _ _ _ a62 (pv 0) (@a31 _ _ _ _ _ _ _ _ br3 (@a02 _ _ _ _) (@a02 _ _ _ _))) (@a31 _ _ _ _ _ _ _ _ ac0 (@a02 _ _ _ _) (pv 1))) (@a02 _ _ _ _)) (@a02 _ _ _ _)) (by rfl) (by walk_at "o"))
    (@a03 _ _ _ _ _ (@a27 _ _ 2 _ _ _ _ sc_law_stir.nd rfl (by walk_at "o") (@a31 _ _ _ _ _ _ _ _ a62 (pv 2) (@a02 _ _ _ _)) (by rfl) (by walk_at "o"))
    (@a08 _ _ _ (@a40 _ _ _ _ (@a31 _ _ _ _ _ _ _ _ ae7 (@a31 _ _ _ _ _ _ _ _ a62 (@a31 _ _ _ _ _ _ _ _ ac0 (pv 2) (pv 2)) (@a02 _ _ _ _)) (@a02 _ _ _ _)))))),?_⟩
   walk_at "go"
   refine ai4 (Bd.big (bo5 c hk) (show Bd 120 27182818284590452353602874713527 by unfold Bd; decide)) ?_
   walk_at "run"
   refine ai4 (Bd.big (b98 _) (b98 _)) ?_
   walk_at "run"
   exact q _
theorem bz1 {ks:List Nat}{i:Nat}{v:V}(h:(ae4 ks)[i]?=some v):∃ k,ks[i]?=some k∧v=.int (k:Nat):=by
 unfold ae4 at h
 rw [List.getElem?_map] at h
 obtain ⟨k,h1,h2⟩:=Option.map_eq_some_iff.mp h
 exact ⟨k,h1,h2.symm⟩
def bf6 (K:PySem.W.Frag):Sp:=fun vs H Q _=>∃ (c:Int) (a:Addr) (sz:List Nat),vs=[.int c,.ref a]∧H a=some (.lst (ae4 sz))∧(∀ s∈sz,0<s∧s≤100000)∧sz.length≤100∧∀ l ds H',H l=none→Same H H'→H' l=some (.lst (ae4 ds))→ds.length=sz.length→(∀ (i d s:Nat),ds[i]?=some d→sz[i]?=some s→d<s)→Q (.ref l) H'
theorem a71 (T:Txt K mg t):FnOk P w K mg base CX0 2 t.a__law_drawn t.fd__law_drawn ["cell","sizes"] (bf6 K):=by
 have G__law_stir:=ax1 (P:=P) (w:=w) (base:=base) T
 refine T.f__law_drawn.F.ok sc_law_drawn (fun vs H Q E h=>?_) (fun cdv A outer s H vs Q E hr h=>?_)
 · obtain ⟨c,a,sz,rfl,_⟩:=h
   rfl
 · obtain ⟨c,a,sz,rfl,ha,hs,hl,q⟩:=h
   refine ⟨_,(@a03 _ _ _ _ _ (@a27 _ _ 2 _ _ _ _ sc_law_drawn.nd rfl (by walk_at "o") (@a19 _ _ _ _ (@a01 _)) (by rfl) (by walk_at "o"))
    (@a03 _ _ _ _ _ (@a27 _ _ 3 _ _ _ _ sc_law_drawn.nd rfl (by walk_at "o") (@a31 _ _ _ _ _ _ _ _ ae7 (pv 0) (@a02 _ _ _ _)) (by rfl) (by walk_at "o"))
    (@a03 _ _ _ _ _ (@aa7 _ _ _ _ _ _ _ _ PassesOwn.never rfl (bm8 K rfl T.z_enumerate (@a00 _ _ _ _ _ (pv 1) (@a01 _) (by rfl))) (af1 K (n:=2) rfl (a20 (a09 (i:=4) sc_law_drawn.nd rfl (by walk_at "o")) (a20 (a09 (i:=5) sc_law_drawn.nd rfl (by walk_at "o")) (@a85 _)))) (@a08 _ _ _ (@a67 _ _ _ _ _ _ _ _ (@a29 _ _ _ _ _ _ _ _ a68 (@a31 _ _ _ _ _ _ _ _ a62 (pv 0) (@a02 _ _ _ _)) (@a02 _ _ _ _) (nomark _)) (@a03 _ _ _ _ _ (@a75 _ _ _ _ (@a89 _ K _ _ _ _ _ _ _ _ _ _ _ PySem.F.plainAttrs_list PySem.F.slot_list_append PySem.F.type_list_append a66 (pv 2) (@a00 _ _ _ _ _ (@a31 _ _ _ _ _ _ _ _ a62 (pv 3) (pv 5)) (@a01 _) (by rfl)) (by rfl) (by rfl) (by rfl) (by rfl) (by rfl) (by rfl)) (by rfl))
     (@a08 _ _ _ (@a27 _ _ 3 _ _ _ _ sc_law_drawn.nd rfl (by walk_at "o") (@a31 _ _ _ _ _ _ _ _ ae7 (pv 3) (pv 5)) (by rfl) (by walk_at "o")))) (@a08 _ _ _ (@a75 _ _ _ _ (@a89 _ K _ _ _ _ _ _ _ _ _ _ _ PySem.F.plainAttrs_list PySem.F.slot_list_append PySem.F.type_list_append a66 (pv 2) (@a00 _ _ _ _ _ (@a31 _ _ _ _ _ _ _ _ a62 (@a32 _ _ _ _ _ _ _ _ _ _ _ _ _ _ _ _ G__law_stir (hr.mono (by omega)) rfl T.f__law_stir.m T.f__law_stir.F.kp T.f__law_stir.b .nil a60 (@a00 _ _ _ _ _ (pv 3) (@a00 _ _ _ _ _ (pv 4) (@a01 _) (by rfl)) (by rfl)) (by decide) (by rfl) (by rfl)) (pv 5)) (@a01 _) (by rfl)) (by rfl) (by rfl) (by rfl) (by rfl) (by rfl) (by rfl)) (by rfl))))) (by intro _; rfl))
    (@a08 _ _ _ (@a40 _ _ _ _ (pv 2)))))),?_⟩
   have sl:(1000000:Nat)≤sizeLine:=le_line (Nat.le_refl _)
   walk_at "go"
   intro l H1 f1 s1 e1
   walk_at "run"
   refine ⟨⟨_,SqL.of (s1 _ _ ha)⟩,be0 (K:=K) (a:=a) (xs:=ae4 sz) (fun i σ H'=>∃ (rest:Int) (ds:List Nat) (y1 y2:Option V),σ=[some (.int c),some (.ref a),some (.ref l),some (.int rest),y1,y2]∧Same H H'∧H' l=some (.lst (ae4 ds))∧ds.length=i∧i≤sz.length∧∀ (i d s:Nat),ds[i]?=some d→sz[i]?=some s→d<s) ⟨_,[],_,_,rfl,s1,e1,rfl,Nat.zero_le _,by simp⟩ (fun i σ H' _ zz=>by obtain ⟨_,_,_,_,_,s',_⟩:=zz; exact SqL.of (s' _ _ ha)) ?_ ?_⟩
   · rintro i v σ H2 pq H3 hv ⟨rest,ds,y1,y2,rfl,s2,e2,hdl,hi,hd⟩ s3 e3
     obtain ⟨x,hx,rfl⟩:=bz1 hv
     have hi':i<sz.length:=(List.getElem?_eq_some_iff.mp hx).1
     obtain ⟨x1,x2⟩:=hs x (List.mem_of_getElem? hx)
     have s23:=s2.trans s3
     have e23:=s3 _ _ e2
     have fin:∀ (z:Int) (r:Int) (y1 y2:Option V),0≤z→z<x→∃ (rest:Int) (ds':List Nat) (y1' y2':Option V),[some (V.int c),some (.ref a),some (.ref l),some (.int r),y1,y2]=[some (V.int c),some (.ref a),some (.ref l),some (.int rest),y1',y2']∧Same H (upd H3 l (.lst (ae4 ds++[.int z])))∧upd H3 l (.lst (ae4 ds++[.int z])) l=some (.lst (ae4 ds'))∧ds'.length=i+1∧i+1≤sz.length∧∀ (i d s:Nat),ds'[i]?=some d→sz[i]?=some s→d<s:=fun z r y1 y2 z0 z1=>by
      refine ⟨r,ds++[z.toNat],y1,y2,rfl,s23.updNew f1,?_,by simp [hdl],hi',fun j d s e4 e5=>?_⟩
      · rw [a46]
        simp only [ae4,List.map_append,List.map_cons,List.map_nil]
        rw [Int.toNat_of_nonneg z0]
      · rcases Nat.lt_or_ge j ds.length with hj | hj
        · rw [List.getElem?_append_left hj] at e4
          exact hd j d s e4 e5
        · rw [List.getElem?_append_right hj] at e4
          have:=(List.getElem?_eq_some_iff.mp e4).1
          simp only [List.length_cons,List.length_nil] at this
          have hji:j=i:=by omega
          rw [show j - ds.length=0 by omega] at e4
          obtain rfl:=Option.some.inj e4
          rw [hji,hx] at e5
          obtain rfl:=Option.some.inj e5
          omega
     refine ⟨_,_,rfl,SqT.of e3,rfl,?_⟩
     walk_at "run"
     by_cases hc:c % 2=0
     · refine a55 hc ?_
       walk_at "run"
       refine ae3 (SqL.of e23) ?_
       walk_at "run"
       refine a74 e23 (by simp only [ae4,List.length_map]; omega) ?_
       walk_at "run"
       refine i_rI (show CDiv _ _ from ⟨by omega,by omega⟩) ?_
       exact fin _ _ _ _ (Int.emod_nonneg _ (by omega)) (Int.emod_lt_of_pos _ (by omega))
     · refine a43 hc ?_
       walk_at "run"
       refine ae3 (SqL.of e23) ?_
       walk_at "run"
       refine ⟨_,i,rfl,by omega,fun r=>?_⟩
       walk_at "run"
       refine a74 e23 (by simp only [ae4,List.length_map]; omega) ?_
       walk_at "run"
       exact fin _ _ _ _ (Int.emod_nonneg _ (by omega)) (Int.emod_lt_of_pos _ (by omega))
   · rintro σ H2 ⟨rest,ds,y1,y2,rfl,s2,e2,hdl,hi,hd⟩
     walk_at "run"
     rw [show (ae4 sz).length=sz.length by simp [ae4]] at hdl
     exact q l ds H2 f1 s2 e2 hdl hd
abbrev LET:Str:="abcdefghijklmnopqrstuvwxyz"
def bj3 (i:Nat):Bool :=
 let z:=WL.getD i ""
 let st:=Txt.rstripChars z "z"
 decide (z.length≤3) && decide (st.length≤3) &&
 if st="" then decide (Txt.mul "a" ((z.length:Int)+1)=WL.getD (i+1) "")
 else match atI st.cps.toList (-1) with
  | none=>false
  | some c=>match Builtin.Str.occurrences LET ⟨#[c]⟩ 0 LET.length 1 with
    | []=>false
    | k::_=>match atI LET.cps.toList ((k:Int)+1) with
      | none=>false
      | some c'=>decide ((Txt.slice st none (some (-1))++(⟨#[c']⟩:Str))++Txt.mul "a" ((z.length:Int) - (st.length:Int))=WL.getD (i+1) "") && decide ((Txt.slice st none (some (-1))).length≤3)
theorem b25:∀ i,i<70→bj3 i=true:=by decide +kernel
theorem bo6 {n:Int}(h:n≤100):(Txt.mul "a" n).length≤100:=by
 by_cases h1:n<1
 · unfold Txt.mul
   rw [if_pos h1]
   decide
 · have:∀ k,k≤100→(Txt.mul "a" ((k:Nat):Int)).length≤100:=by decide +kernel
   have:=this n.toNat (by omega)
   rw [show ((n.toNat:Nat):Int)=n by omega] at this
   exact this
def b99:Sp:=fun vs H Q _=>∃ i,i<70∧vs=[.str (WL.getD i "")]∧Q (.str (WL.getD (i+1) "")) H
theorem at5 {n:Int}(h:n≤100) (h0:-100≤n):MulOk "a" n:=by
 have hl:(Str.ofString "a").length=1:=by decide +kernel
 refine ⟨?_,fun h1 _=>?_,fun h1 _=>?_⟩
 · simp
   omega
 · rw [hl]
   have:(1:Int)≤(2 ^ 63 - 1) / n:=by
    rw [Int.le_ediv_iff_mul_le (by omega)]
    omega
   omega
 · rw [hl]
   have:Builtin.Str.tooLong n.toNat=false:=by
    have h2:n.toNat≤100:=by omega
    have:∀ k,k≤100→Builtin.Str.tooLong k=false:=by decide +kernel
    exact this _ h2
   simpa using this
theorem al3 (T:Txt K mg t):FnOk P w K mg base CX0 1 t.a_word_behind t.fd_word_behind ["word"] b99:=by
 refine T.f_word_behind.F.ok sc_word_behind (fun vs H Q E h=>?_) (fun cdv A outer s H vs Q E hr h=>?_)
 · obtain ⟨i,hi,rfl,_⟩:=h
   rfl
 · obtain ⟨i,hi,rfl,q⟩:=h
   refine ⟨_,(@a03 _ _ _ _ _ (@a27 _ _ 1 _ _ _ _ sc_word_behind.nd rfl (by walk_at "o") (@a37 _ _ _ _ _ _ _ af4 (ac9 (by rfl) T.m_LETTERS (by exact T.r_LETTERS)) (@b36 _ _ _ _ _ _ aq5 (@a02 _ _ _ _)) (fun _ _=>rfl)) (by rfl) (by walk_at "o"))
    (@a03 _ _ _ _ _ (@a27 _ _ 2 _ _ _ _ sc_word_behind.nd rfl (by walk_at "o") (@a89 _ K _ _ _ _ _ _ _ _ _ _ _ PySem.F.plainAttrs_str PySem.F.slot_str_rstrip PySem.F.type_str_rstrip b23 (pv 0) (@a00 _ _ _ _ _ (pv 1) (@a01 _) (by rfl)) (by rfl) (by rfl) (by rfl) (by rfl) (by rfl) (by rfl)) (by rfl) (by walk_at "o"))
    (@a03 _ _ _ _ _ (@a67 _ _ _ _ _ _ _ _ (@a29 _ _ _ _ _ _ _ _ a68 (pv 2) (@a07 _ _ _ _) (nomark _)) (@a08 _ _ _ (@a40 _ _ _ _ (@a31 _ _ _ _ _ _ _ _ ac0 (@a37 _ _ _ _ _ _ _ af4 (ac9 (by rfl) T.m_LETTERS (by exact T.r_LETTERS)) (@a02 _ _ _ _) (fun _ _=>rfl)) (@a31 _ _ _ _ _ _ _ _ a34 (@a39 _ _ _ _ _ _ _ _ _ (a65 K) (by rfl) T.z_len a80 (@a00 _ _ _ _ _ (pv 0) (@a01 _) (by rfl)) (by decide) (by decide) (by rfl) (by rfl)) (@a02 _ _ _ _))))) (@a42 _))
    (@a03 _ _ _ _ _ (@a27 _ _ 3 _ _ _ _ sc_word_behind.nd rfl (by walk_at "o") (@a37 _ _ _ _ _ _ _ af4 (ac9 (by rfl) T.m_LETTERS (by exact T.r_LETTERS)) (@a31 _ _ _ _ _ _ _ _ a34 (@a89 _ K _ _ _ _ _ _ _ _ _ _ _ PySem.F.plainAttrs_str PySem.F.slot_str_index PySem.F.type_str_index b84 (ac9 (by rfl) T.m_LETTERS (by exact T.r_LETTERS)) (@a00 _ _ _ _ _ (@a37 _ _ _ _ _ _ _ af4 (pv 2) (@b36 _ _ _ _ _ _ aq5 (@a02 _ _ _ _)) (fun _ _=>rfl)) (@a01 _) (by rfl)) (by rfl) (by rfl) (by rfl) (by rfl) (by rfl) (by rfl)) (@a02 _ _ _ _)) (fun _ _=>rfl)) (by rfl) (by walk_at "o"))
    (@a08 _ _ _ (@a40 _ _ _ _ (@a31 _ _ _ _ _ _ _ _ a34 (@a31 _ _ _ _ _ _ _ _ a34 (@a44 _ _ _ _ _ _ _ _ _ _ bn2 (pv 2) (@a59 _) (@a51 _ _ _ (@b36 _ _ _ _ _ _ aq5 (@a02 _ _ _ _)))) (pv 3)) (@a31 _ _ _ _ _ _ _ _ ac0 (@a37 _ _ _ _ _ _ _ af4 (ac9 (by rfl) T.m_LETTERS (by exact T.r_LETTERS)) (@a02 _ _ _ _) (fun _ _=>rfl)) (@a31 _ _ _ _ _ _ _ _ ay1 (@a39 _ _ _ _ _ _ _ _ _ (a65 K) (by rfl) T.z_len a80 (@a00 _ _ _ _ _ (pv 0) (@a01 _) (by rfl)) (by decide) (by decide) (by rfl) (by rfl)) (@a39 _ _ _ _ _ _ _ _ _ (a65 K) (by rfl) T.z_len a80 (@a00 _ _ _ _ _ (pv 2) (@a01 _) (by rfl)) (by decide) (by decide) (by rfl) (by rfl))))))))))),?_⟩
   have sl:(1000000:Nat)≤sizeLine:=le_line (Nat.le_refl _)
   have hok:=b25 i hi
   unfold bj3 at hok
   generalize WL.getD (i+1) ""=nxt at q hok
   generalize WL.getD i ""=z at hok
   simp only [Bool.and_eq_true,decide_eq_true_iff] at hok
   obtain ⟨⟨hz3,hs3⟩,hok⟩:=hok
   have hL:(Str.ofString "abcdefghijklmnopqrstuvwxyz").length=26:=by decide +kernel
   have ez:(⟨#[122]⟩:Str)=Str.ofString "z":=by decide +kernel
   have ea:(⟨#[97]⟩:Str)=Str.ofString "a":=by decide +kernel
   walk_at "go"
   refine ⟨_,-1,122,rfl,rfl,by omega,by decide +kernel,?_⟩
   rw [ez]
   walk_at "run"
   refine ⟨z,_,rfl,rfl,by omega,?_⟩
   generalize Txt.rstripChars z (Str.ofString "z")=st at hok hs3
   walk_at "run"
   by_cases hst:st=Str.ofString ""
   · rw [if_pos hst] at hok
     have hok:=of_decide_eq_true hok
     refine a55 (by rw [hst]) ?_
     walk_at "run"
     refine ⟨_,0,97,rfl,rfl,by omega,by decide +kernel,?_⟩
     rw [ea]
     walk_at "run"
     refine b58 (by omega) ?_
     walk_at "run"
     refine ⟨at5 (by omega) (by omega),?_⟩
     rw [hok]
     exact q
   · rw [if_neg hst] at hok
     refine a43 hst ?_
     walk_at "run"
     cases e1:atI st.cps.toList (-1) with
     | none=>rw [e1] at hok; cases hok
     | some c =>
     rw [e1] at hok
     simp only at hok
     cases e2:Builtin.Str.occurrences LET ⟨#[c]⟩ 0 LET.length 1 with
     | nil=>rw [e2] at hok; cases hok
     | cons k rest =>
     rw [e2] at hok
     simp only at hok
     cases e3:atI LET.cps.toList ((k:Int)+1) with
     | none=>rw [e3] at hok; cases hok
     | some c' =>
     rw [e3] at hok
     simp only [Bool.and_eq_true,decide_eq_true_iff] at hok
     obtain ⟨hok,hsl3⟩:=hok
     refine ⟨st,-1,c,rfl,rfl,by omega,e1,?_⟩
     walk_at "run"
     refine ⟨_,_,k,rest,rfl,rfl,e2,?_⟩
     walk_at "run"
     refine ⟨_,_,c',rfl,rfl,by omega,e3,?_⟩
     walk_at "run"
     refine ⟨st,rfl,by omega,?_⟩
     walk_at "run"
     refine ⟨by have:(⟨#[c']⟩:Str).length=1:=rfl; omega,?_⟩
     walk_at "run"
     refine ⟨_,0,97,rfl,rfl,by omega,by decide +kernel,?_⟩
     rw [ea]
     walk_at "run"
     refine b58 (by omega) ?_
     walk_at "run"
     refine b58 (by omega) ?_
     walk_at "run"
     refine ⟨at5 (by omega) (by omega),?_⟩
     refine ⟨?_,by rw [hok]; exact q⟩
     have h1:(⟨#[c']⟩:Str).length=1:=rfl
     have h2:=bo6 (n:=(z.length:Int) - (st.length:Int)) (by omega)
     have h3:(Txt.slice st none (some (-1))++(⟨#[c']⟩:Str)).length=(Txt.slice st none (some (-1))).length+1:=by
      rw [← h1]
      exact Array.size_append
     omega
def ba0 (ws:List Str):Nat:=WL.findIdx fun x=>decide (x∉ws)
def a99 (ws:List Str):Str:=WL.getD (ba0 ws) ""
theorem b03:WL.length=702:=by decide +kernel
theorem c48:(WL.take 70).Nodup:=by decide +kernel
theorem full {ws:List Str}{i:Nat}(hi:i≤70) (h:∀ j,j<i→WL.getD j ""∈ws):i≤ws.length:=by
 have h1:(WL.take i).length=i:=by rw [List.length_take,b03]; omega
 have h2:(WL.take i).Nodup:=List.Nodup.sublist (by rw [show WL.take i=(WL.take 70).take i by rw [List.take_take,Nat.min_eq_left hi]]; exact List.take_sublist _ _) c48
 have:=List.Nodup.length_le_of_subset h2 (l₂:=ws) fun x hx=>by
  obtain ⟨j,hj,rfl⟩:=List.mem_iff_getElem.mp hx
  rw [h1] at hj
  have:=h j hj
  rw [List.getD_eq_getElem?_getD,List.getElem?_eq_getElem (by rw [b03]; omega)] at this
  rw [List.getElem_take]
  exact this
 omega
def ba1 (K:PySem.W.Frag):Sp:=fun vs H Q _=>∃ (a:Addr) (ws:List Str),vs=[.ref a]∧H a=some (.lst (a33 ws))∧ws.length≤63∧∀ H',Same H H'→Q (.str (a99 ws)) H'
theorem ag2 (T:Txt K mg t):FnOk P w K mg base CX0 2 t.a_first_free_word t.fd_first_free_word ["words"] (ba1 K):=by
 have G_word_behind:=al3 (P:=P) (w:=w) (base:=base) T
 refine T.f_first_free_word.F.ok sc_first_free_word (fun vs H Q E h=>?_) (fun cdv A outer s H vs Q E hr h=>?_)
 · obtain ⟨a,ws,rfl,_⟩:=h
   rfl
 · obtain ⟨a,ws,rfl,ha,hl,q⟩:=h
   refine ⟨_,(@a03 _ _ _ _ _ (@a27 _ _ 1 _ _ _ _ sc_first_free_word.nd rfl (by walk_at "o") (@a77 _ _ _ _ _ _ _ _ _ (bd9 K) (by rfl) T.z_dict bm2 (@a00 _ _ _ _ _ (a98 (Nt:=["word"]) (Nf:=[]) (caps:=[]) rfl (a45 (sc:=a06 a86) rfl rfl (by decide +kernel) (by decide +kernel) (by decide +kernel) rfl (by decide +kernel)) (a36 K (pv 0)) (fun _ _ _ _ _=>(a09 (i:=0) (show (["word"]:List Str).Nodup by decide +kernel) rfl (by walk_at "o"))) (fun _ _ _ _ _=>(@a64 _)) (fun _ _ _ _ _=>(@a05 _ _ _ _ _ (@a00 _ _ _ _ _ (pv 0) (@a00 _ _ _ _ _ (@aa1 _ _ _ _) (@a01 _) (by rfl)) (by rfl))))) (@a01 _) (by rfl)) (by decide) (by decide) (by rfl) (by rfl)) (by rfl) (by walk_at "o"))
    (@a03 _ _ _ _ _ (@a27 _ _ 2 _ _ _ _ sc_first_free_word.nd rfl (by walk_at "o") (@a37 _ _ _ _ _ _ _ af4 (ac9 (by rfl) T.m_LETTERS (by exact T.r_LETTERS)) (@a02 _ _ _ _) (fun _ _=>rfl)) (by rfl) (by walk_at "o"))
    (@a03 _ _ _ _ _ (@ay0 _ _ _ _ _ _ PassesOwn.never (bq7 (bt5 (by exact c04 hr) (pv 2) (pv 1))) (@a08 _ _ _ (@a27 _ _ 2 _ _ _ _ sc_first_free_word.nd rfl (by walk_at "o") (@a32 _ _ _ _ _ _ _ _ _ _ _ _ _ _ _ _ G_word_behind (hr.mono (by omega)) rfl T.f_word_behind.m T.f_word_behind.F.kp T.f_word_behind.b .nil a60 (@a00 _ _ _ _ _ (pv 2) (@a01 _) (by rfl)) (by decide) (by rfl) (by rfl)) (by rfl) (by walk_at "o"))))
    (@a08 _ _ _ (@a40 _ _ _ _ (pv 2)))))),?_⟩
   have sl:(1000000:Nat)≤sizeLine:=le_line (Nat.le_refl _)
   have ea:(⟨#[97]⟩:Str)=Str.ofString "a":=by decide +kernel
   have hL:(Str.ofString "abcdefghijklmnopqrstuvwxyz").length=26:=by decide +kernel
   walk_at "go"
   refine ⟨⟨_,SqL.of ha⟩,a73 (xs:=a33 ws) (by simp [a33]; omega) (fun j acc H'=>j≤ws.length∧Same H H'∧acc.length=j∧PrK H' acc ((ws.take j).map fun x=>(Sum.inr x,V.bl true))) ⟨Nat.zero_le _,Same.refl _,rfl,.nil⟩ (fun j acc H' ⟨_,s',e,_⟩=>⟨by omega,SqL.of (s' _ _ ha)⟩) ?_ ?_⟩
   · rintro i v acc H1 hv ⟨hi,s1,ea',hpr⟩
     unfold a33 at hv
     rw [List.getElem?_map] at hv
     obtain ⟨x,hx,rfl⟩:=Option.map_eq_some_iff.mp hv
     walk_at "run"
     intro p2 H2 f2 s2 e2
     refine ⟨(List.getElem?_eq_some_iff.mp hx).1,s1.trans s2,by simp [ea'],?_⟩
     rw [List.take_add_one,hx,Option.toList_some,List.map_append]
     exact (hpr.mono s2.tups).snoc (k:=Sum.inr x) e2
   · rintro acc H1 ⟨_,s1,_,hpr⟩ p2 H2 f2 s2 e2
     rw [show (a33 ws).length=ws.length by simp [a33],List.take_length] at hpr
     walk_at "run"
     refine bm9 (SqL.of e2) (hpr.mono s2.tups) ?_
     intro pd H3 f3 s3 e3
     have hval:∀ x:Str,(valV (ac7 [] (ws.map fun x=>(Sum.inr x,V.bl true))) (Sum.inr x)).isSome=decide (x∈ws):=fun x=>by
      have gen:∀ (l:List Str) (kvs:List (Key×V)),(valV (ac7 kvs (l.map fun x=>(Sum.inr x,V.bl true))) (Sum.inr x)).isSome=(decide (x∈l) || (valV kvs (Sum.inr x)).isSome):=by
       intro l
       induction l with
       | nil=>intro kvs; simp [ac7]
       | cons y l ih =>
         intro kvs
         show (valV (ac7 (putK kvs (Sum.inr y) (V.bl true)) (l.map fun x=>(Sum.inr x,V.bl true))) (Sum.inr x)).isSome=_
         rw [ih,bd0]
         by_cases e:x=y
         · subst e; simp
         · rw [if_neg (fun z=>e (Sum.inr.inj z))]
           simp [e]
      rw [gen]
      simp [bc9]
     generalize ac7 [] (ws.map fun x=>(Sum.inr x,V.bl true))=kvs at e3 hval
     walk_at "run"
     refine ⟨_,0,97,rfl,rfl,by omega,by decide +kernel,?_⟩
     rw [ea]
     walk_at "run"
     have s13:=s1.trans (s2.trans s3)
     have wl:=b03
     have hl':ws.length≤1000:=by omega
     refine b64 (fun m σ H'=>H'=H3∧∃ i,m=65 - i∧i≤64∧(∀ j,j<i→WL.getD j ""∈ws)∧σ=[some (.ref a),some (.ref pd),some (.str (WL.getD i ""))]) 65 ⟨rfl,0,rfl,by omega,fun j hj=>absurd hj (Nat.not_lt_zero _),rfl⟩ ?_
     rintro m σ H4 ⟨rfl,i,rfl,hi,hall,rfl⟩
     walk_at "run"
     refine ⟨pd,_,rfl,DGet.k (k:=Sum.inr (WL.getD i "")) e3,?_⟩
     rw [hval]
     by_cases hm:WL.getD i ""∈ws
     · refine ⟨true,by rw [decide_eq_true hm],bw0 ?_⟩
       have hi28:i<63:=by
        have h1:=full (i:=i+1) (by omega) (fun j hj=>by
         by_cases e:j=i
         · rw [e]; exact hm
         · exact hall j (by omega))
        omega
       refine ⟨fun σ' H'=>H'=H4∧σ'=[some (.ref a),some (.ref pd),some (.str (WL.getD (i+1) ""))],fun σ' H' h'=>⟨65 - (i+1),by omega,h'.1,i+1,rfl,by omega,fun j hj=>?_,h'.2⟩,?_⟩
       · by_cases e:j=i
         · rw [e]; exact hm
         · exact hall j (by omega)
       walk_at "run"
       refine ⟨i,by omega,rfl,?_⟩
       walk_at "run"
       exact ⟨rfl,rfl⟩
     · refine ⟨false,by rw [decide_eq_false hm],bw1 ?_⟩
       walk_at "run"
       have hfree:ba0 ws=i:=by
        unfold ba0
        rw [List.findIdx_eq (by omega)]
        refine ⟨?_,fun j hj=>?_⟩
        · have:WL.getD i ""=WL[i]'(by omega):=by simp [List.getD,List.getElem?_eq_getElem (show i<WL.length by omega)]
          rw [this] at hm
          simpa using hm
        · have h2:=hall j hj
          have:WL.getD j ""=WL[j]'(by omega):=by simp [List.getD,List.getElem?_eq_getElem (show j<WL.length by omega)]
          rw [this] at h2
          simpa using h2
       have:=q H4 s13
       unfold a99 at this
       rw [hfree] at this
       exact this
def bo7 (K:PySem.W.Frag):Sp:=fun vs H Q _=>∃ (v:V) (x:Stm) (G:Hp) (tn:List Str),vs=[v]∧Same G H∧SAt G v x∧x.kd tn∧∀ l us H',H l=none→Same H H'→H' l=some (.lst us)→Each (BAt G) us (a28 x)→Q (.ref l) H'
theorem at6 (T:Txt K mg t):FnOk P w K mg base CX0 1 t.a_bodies_of t.fd_bodies_of ["statement"] (bo7 K):=by
 refine T.f_bodies_of.F.ok sc_bodies_of (fun vs H Q E h=>?_) (fun cdv A outer s H vs Q E hr h=>?_)
 · obtain ⟨v,x,G,tn,rfl,_⟩:=h
   rfl
 · obtain ⟨v,x,G,tn,rfl,sG,hx,hp,q⟩:=h
   refine ⟨_,(@a03 _ _ _ _ _ (@a27 _ _ 1 _ _ _ _ sc_bodies_of.nd rfl (by walk_at "o") (@a37 _ _ _ _ _ _ _ (a38 K) (pv 0) (@a02 _ _ _ _) (fun _ _=>rfl)) (by rfl) (by walk_at "o"))
    (@a03 _ _ _ _ _ (@a67 _ _ _ _ _ _ _ _ (@a29 _ _ _ _ _ _ _ _ a68 (pv 1) (@a07 _ _ _ _) (nomark _)) (@a08 _ _ _ (@a40 _ _ _ _ (@a19 _ _ _ _ (@a00 _ _ _ _ _ (@a37 _ _ _ _ _ _ _ (a38 K) (pv 0) (@a02 _ _ _ _) (fun _ _=>rfl)) (@a00 _ _ _ _ _ (@a37 _ _ _ _ _ _ _ (a38 K) (pv 0) (@a02 _ _ _ _) (fun _ _=>rfl)) (@a01 _) (by rfl)) (by rfl))))) (@a42 _))
    (@a03 _ _ _ _ _ (@a67 _ _ _ _ _ _ _ _ (@a29 _ _ _ _ _ _ _ _ a68 (pv 1) (@a07 _ _ _ _) (nomark _)) (@a08 _ _ _ (@a40 _ _ _ _ (a98 (Nt:=["pattern","body"]) (Nf:=[]) (caps:=[]) rfl (a45 (sc:=a06 ae9) rfl rfl (by decide +kernel) (by decide +kernel) (by decide +kernel) rfl (by decide +kernel)) (a36 K (@a37 _ _ _ _ _ _ _ (a38 K) (pv 0) (@a02 _ _ _ _) (fun _ _=>rfl))) (fun _ _ _ _ _=>(af1 K (n:=2) rfl (a20 (a09 (i:=0) (show (["pattern","body"]:List Str).Nodup by decide +kernel) rfl (by walk_at "o")) (a20 (a09 (i:=1) (show (["pattern","body"]:List Str).Nodup by decide +kernel) rfl (by walk_at "o")) (@a85 _))))) (fun _ _ _ _ _=>(@a64 _)) (fun _ _ _ _ _=>(pv 1))))) (@a42 _))
    (@a03 _ _ _ _ _ (@a67 _ _ _ _ _ _ _ _ (@a29 _ _ _ _ _ _ _ _ a68 (pv 1) (@a07 _ _ _ _) (nomark _)) (@a08 _ _ _ (@a40 _ _ _ _ (@a19 _ _ _ _ (@a00 _ _ _ _ _ (@a37 _ _ _ _ _ _ _ (a38 K) (pv 0) (@a02 _ _ _ _) (fun _ _=>rfl)) (@a01 _) (by rfl))))) (@a42 _))
    (@a08 _ _ _ (@a40 _ _ _ _ (@a19 _ _ _ _ (@a01 _)))))))),?_⟩
   have sl:(1000000:Nat)≤sizeLine:=le_line (Nat.le_refl _)
   obtain ⟨a,us,rfl,ha⟩:=bj2 hx hp
   walk_at "go"
   refine a52 (SqT.of (sG _ _ ha)) (a04 (j:=0) rfl) ?_
   walk_at "run"
   by_cases w1:x.wd=Str.ofString "test"
   · refine a55 w1 ?_
     walk_at "run"
     obtain ⟨c,y,z,rfl⟩:=b87 hp w1
     obtain ⟨a,u1,u2,u3,hz,e,h2,h3⟩:=ai6 hx
     cases hz
     refine a52 (SqT.of (sG _ _ e)) (a04 (j:=2) rfl) ?_
     walk_at "run"
     refine a52 (SqT.of (sG _ _ e)) (a04 (j:=3) rfl) ?_
     walk_at "run"
     intro p1 H1 f1 s1 e1
     exact q p1 _ H1 f1 s1 e1 ((Each.nil.snoc h2).snoc h3)
   refine a43 w1 ?_
   walk_at "run"
   by_cases w2:x.wd=Str.ofString "wait"
   · refine a55 w2 ?_
     walk_at "run"
     obtain ⟨n,bs,rfl⟩:=b88 hp w2
     obtain ⟨a,l,ws,hz,e,el,hw⟩:=sat_wait.mp hx
     cases hz
     have wl:ws.length=bs.length:=hw.1
     have bl:bs.length≤1000:=hp
     refine a52 (SqT.of (sG _ _ e)) (a04 (j:=2) rfl) ?_
     refine ⟨_,rfl,⟨_,SqL.of (sG _ _ el)⟩,ao0 (xs:=ws) (by omega) (fun i acc H'=>H'=H∧i≤ws.length∧acc.length=i∧Each (BAt G) acc ((a28 (.wait n bs)).take i)) ⟨rfl,Nat.zero_le _,rfl,by simpa using Each.nil⟩ (fun i acc H' ⟨e0,_,ea,_⟩=>⟨by omega,e0 ▸ SqL.of (sG _ _ el)⟩) ?_ ?_⟩
     · rintro i w acc H' hw' ⟨rfl,hi,ea,hE⟩
       have hi':=(List.getElem?_eq_some_iff.mp hw').1
       obtain ⟨br,hbr⟩:∃ br,bs[i]?=some br:=⟨_,List.getElem?_eq_getElem (by omega)⟩
       have hB:=hw.2 i w br hw' hbr
       obtain ⟨pp,bb⟩:=br
       obtain ⟨qv,pv,bv,rfl,eq,hp1,hb1⟩:=hB
       refine ⟨qv,_,_,rfl,SqT.of (sG _ _ eq),?_⟩
       walk_at "run"
       refine ⟨rfl,hi',by simp [ea],?_⟩
       rw [List.take_add_one,show (a28 (.wait n bs))[i]?=some bb by unfold a28; rw [List.getElem?_map,hbr]; rfl,Option.toList_some]
       exact hE.snoc hb1
     · rintro acc H' ⟨rfl,_,ea,hE⟩ p1 H1 f1 s1 e1
       rw [wl,show (a28 (.wait n bs)).take bs.length=a28 (.wait n bs) from List.take_of_length_le (by simp [a28])] at hE
       walk_at "run"
       exact q p1 _ H1 f1 s1 e1 hE
   refine a43 w2 ?_
   walk_at "run"
   by_cases w3:x.wd=Str.ofString "loop"
   · refine a55 w3 ?_
     walk_at "run"
     obtain ⟨b,rfl⟩:=b89 hp w3
     obtain ⟨a,u,hz,e,hb⟩:=sat_loop.mp hx
     cases hz
     refine a52 (SqT.of (sG _ _ e)) (a04 (j:=1) rfl) ?_
     walk_at "run"
     intro p1 H1 f1 s1 e1
     exact q p1 _ H1 f1 s1 e1 (Each.nil.snoc hb)
   refine a43 w3 ?_
   walk_at "run"
   intro p1 H1 f1 s1 e1
   exact q p1 [] H1 f1 s1 e1 (by rw [b90 w1 w2 w3]; exact Each.nil)
theorem a92 {us:List V}{k:Nat}:cutV us none (some (k:Int))=us.take k:=by
 unfold cutV
 have h0:HT.sIx us.length 0 (none:Option Int)=0:=rfl
 have h1:HT.sIx us.length us.length (some (k:Int))=min k us.length:=by
  unfold HT.sIx
  simp only
  split <;> omega
 rw [h0,h1,List.drop_zero,Nat.sub_zero]
 rcases Nat.le_total k us.length with h | h
 · rw [Nat.min_eq_left h]
 · rw [Nat.min_eq_right h,List.take_of_length_le (Nat.le_refl _),List.take_of_length_le h]
theorem aa0 {us:List V}{k:Nat}:cutV us (some (k:Int)) none=us.drop k:=by
 unfold cutV
 rw [HT.sIx_none,HT.sIx_nat]
 by_cases h:k≤us.length
 · rw [Nat.min_eq_left h,List.take_of_length_le (by simp)]
 · rw [Nat.min_eq_right (by omega),List.drop_of_length_le (Nat.le_refl _),List.drop_of_length_le (by omega)]
   simp
theorem ab2 {α β:Type}{R:α→β→Prop}{vs:List α}{xs:List β}(h:Each R vs xs) (k:Nat):Each R (vs.drop k) (xs.drop k):=by
 refine ⟨by rw [List.length_drop,List.length_drop,h.1],fun j v x h1 h2=>?_⟩
 rw [List.getElem?_drop] at h1 h2
 exact h.2 _ v x h1 h2
theorem bf7 {α β:Type}{R:α→β→Prop}{vs:List α}{xs:List β}(h:Each R vs xs):Each R vs.reverse xs.reverse:=by
 refine ⟨by rw [List.length_reverse,List.length_reverse,h.1],fun j v x h1 h2=>?_⟩
 have l1:j<vs.length:=by have:=(List.getElem?_eq_some_iff.mp h1).1; simpa using this
 have l2:j<xs.length:=by have:=(List.getElem?_eq_some_iff.mp h2).1; simpa using this
 rw [List.getElem?_reverse l1] at h1
 rw [List.getElem?_reverse l2,←h.1] at h2
 exact h.2 _ v x h1 h2
theorem b04 {H H':Hp}{d:Addr}{o:HO}(s:Same H H') (f:H d=none):Same H (upd H' d o):=fun a x e=>by
 rw [a48 (fun z=>by rw [z,f] at e; cases e)]
 exact s _ _ e
mutual
def allS:Stm→List Stm
 | .plain ps=>[.plain ps]
 | .put n e=>[.put n e]
 | .loop b=>.loop b::allB b
 | .wait n bs=>.wait n bs::allR bs
 | .test c x y=>.test c x y::(allB x++allB y)
def allB:List Stm→List Stm
 | []=>[]
 | s::b=>allS s++allB b
def allR:List Br→List Stm
 | []=>[]
 | .mk _ b::bs=>allB b++allR bs
end
def a87:List (List Stm)→List Stm
 | []=>[]
 | b::bs=>allB b++a87 bs
theorem ah7 (s:Stm):allS s=s::a87 (a28 s):=by
 cases s with
 | plain ps=>rfl
 | put n e=>rfl
 | loop b=>simp [allS,a28,a87]
 | test c x y=>simp [allS,a28,a87]
 | wait n bs =>
   have:∀ bs:List Br,allR bs=a87 (a28 (.wait n bs)):=fun bs=>by
    induction bs with
    | nil=>rfl
    | cons x bs ih =>
      cases x with
      | mk p b =>
        have e:a28 (.wait n (.mk p b::bs))=b::a28 (.wait n bs):=by simp [a28]
        rw [e,allR,a87,ih]
   rw [allS,this]
theorem bo8 {b:List Stm}{s:Stm}(h:s∈b):s.tr.h≤Tr.hs (Stm.trs b):=by
 induction b with
 | nil=>cases h
 | cons x b ih =>
   simp only [Stm.trs,Tr.hs]
   rcases List.mem_cons.mp h with rfl | h
   · exact Nat.le_max_left _ _
   · exact Nat.le_trans (ih h) (Nat.le_max_right _ _)
theorem c49 {s:Stm}{b:List Stm}(h:b∈a28 s):Tr.hs (Stm.trs b)<s.tr.h:=by
 cases s with
 | plain ps=>cases h
 | put n e=>cases h
 | loop x =>
   rw [List.mem_singleton.mp h]
   simp only [Stm.tr,Tr.h,Tr.hs]
   omega
 | test c x y =>
   simp only [a28,List.mem_cons,List.not_mem_nil,or_false] at h
   rcases h with rfl | rfl <;> (simp only [Stm.tr,Tr.h,Tr.hs]; omega)
 | wait n bs =>
   simp only [Stm.tr,Tr.h,Tr.hs]
   have:∀ bs:List Br,b∈a28 (.wait n bs)→Tr.hs (Stm.trs b)<Tr.hs (Br.trs bs):=fun bs=>by
    induction bs with
    | nil=>intro h; cases h
    | cons x bs ih =>
      cases x with
      | mk p z =>
        intro h
        have e:a28 (.wait n (.mk p z::bs))=z::a28 (.wait n bs):=by simp [a28]
        rw [e] at h
        simp only [Br.trs,Br.tr,Tr.hs,Tr.h]
        rcases List.mem_cons.mp h with rfl | h
        · omega
        · have:=ih h; omega
   have:=this bs h
   omega
theorem a93 (a b:List Stm):allB (a++b)=allB a++allB b:=by
 induction a with
 | nil=>rfl
 | cons x a ih=>simp only [List.cons_append,allB,ih,List.append_assoc]
theorem at7 (a b:List (List Stm)):a87 (a++b)=a87 a++a87 b:=by
 induction a with
 | nil=>rfl
 | cons x a ih=>simp only [List.cons_append,a87,ih,List.append_assoc]
def KdB (tn:List Str) (b:List Stm):Prop:=∀ s∈allB b,s.kd tn
theorem ba2 {b:List Stm}{s x:Stm}(h:s∈b) (hx:x∈allS s):x∈allB b:=by
 induction b with
 | nil=>cases h
 | cons y b ih =>
   rw [allB]
   rcases List.mem_cons.mp h with rfl | h
   · exact List.mem_append_left _ hx
   · exact List.mem_append_right _ (ih h)
theorem ba3 {bs:List (List Stm)}{b:List Stm}{x:Stm}(h:b∈bs) (hx:x∈allB b):x∈a87 bs:=by
 induction bs with
 | nil=>cases h
 | cons y bs ih =>
   rw [a87]
   rcases List.mem_cons.mp h with rfl | h
   · exact List.mem_append_left _ hx
   · exact List.mem_append_right _ (ih h)
theorem ba4 {b:List Stm}(i:Nat):(allB (b.take i)).length≤(allB b).length:=by
 have:=a93 (b.take i) (b.drop i)
 rw [List.take_append_drop] at this
 rw [this,List.length_append]
 omega
theorem b26 {b:List (List Stm)}(i:Nat):(a87 (b.take i)).length≤(a87 b).length:=by
 have:=at7 (b.take i) (b.drop i)
 rw [List.take_append_drop] at this
 rw [this,List.length_append]
 omega
def bz2 (K:PySem.W.Frag) (d:Nat):Sp:=fun vs H Q _=>∃ (v:V) (b:List Stm) (G:Hp) (tn:List Str),vs=[v]∧Tr.hs (Stm.trs b)<d∧Same G H∧BAt G v b∧KdB tn b∧(allB b).length≤100000∧∀ l us H',H l=none→Same H H'→H' l=some (.lst us)→Each (SAt G) us (allB b)→Q (.ref l) H'
theorem ai2 (T:Txt K mg t):∀ d:Nat,FnOk P w K mg base CX0 (d+2) t.a_statements_in t.fd_statements_in ["body"] (bz2 K d):=by
 intro d
 induction d with
 | zero=>exact vac (fun vs H Q E ⟨_,_,_,_,_,h,_⟩=>Nat.not_lt_zero _ h)
 | succ d G_statements_in =>
   have G_bodies_of:=at6 (P:=P) (w:=w) (base:=base) T
   refine T.f_statements_in.F.ok sc_statements_in (fun vs H Q E h=>?_) (fun cdv A outer s H vs Q E hr h=>?_)
   · obtain ⟨v,b,G,tn,rfl,_⟩:=h
     rfl
   · obtain ⟨v,b,G,tn,rfl,hd,sG,hb,hk,hl,q⟩:=h
     obtain ⟨bl,us,rfl,eb,hE⟩:=bat_iff.mp hb
     refine ⟨_,(@a03 _ _ _ _ _ (@a27 _ _ 1 _ _ _ _ sc_statements_in.nd rfl (by walk_at "o") (@a19 _ _ _ _ (@a01 _)) (by rfl) (by walk_at "o"))
     (@a03 _ _ _ _ _ (@aa7 _ _ _ _ _ _ _ _ PassesOwn.never rfl (a36 K (pv 0)) (a09 (i:=2) sc_statements_in.nd rfl (by walk_at "o")) (@a03 _ _ _ _ _ (@a75 _ _ _ _ (@a89 _ K _ _ _ _ _ _ _ _ _ _ _ PySem.F.plainAttrs_list PySem.F.slot_list_append PySem.F.type_list_append a66 (pv 1) (@a00 _ _ _ _ _ (pv 2) (@a01 _) (by rfl)) (by rfl) (by rfl) (by rfl) (by rfl) (by rfl) (by rfl)) (by rfl))
      (@a08 _ _ _ (@aa7 _ _ _ _ _ _ _ _ PassesOwn.never rfl (a36 K (@a32 _ _ _ _ _ _ _ _ _ _ _ _ _ _ _ _ G_bodies_of (hr.mono (by omega)) rfl T.f_bodies_of.m T.f_bodies_of.F.kp T.f_bodies_of.b .nil a60 (@a00 _ _ _ _ _ (pv 2) (@a01 _) (by rfl)) (by decide) (by rfl) (by rfl))) (a09 (i:=3) sc_statements_in.nd rfl (by walk_at "o")) (@a08 _ _ _ (@a75 _ _ _ _ (@a89 _ K _ _ _ _ _ _ _ _ _ _ _ PySem.F.plainAttrs_list PySem.F.slot_list_extend PySem.F.type_list_extend aj2 (pv 1) (@a00 _ _ _ _ _ (@a32 _ _ _ _ _ _ _ _ _ _ _ _ _ _ _ _ G_statements_in (hr.mono (by omega)) rfl T.f_statements_in.m T.f_statements_in.F.kp T.f_statements_in.b .nil a60 (@a00 _ _ _ _ _ (pv 3) (@a01 _) (by rfl)) (by decide) (by rfl) (by rfl)) (@a01 _) (by rfl)) (by rfl) (by rfl) (by rfl) (by rfl) (by rfl) (by rfl)) (by rfl))) (by intro _; rfl)))) (by intro _; rfl))
     (@a08 _ _ _ (@a40 _ _ _ _ (pv 1))))),?_⟩
     have sl:(1000000:Nat)≤sizeLine:=le_line (Nat.le_refl _)
     walk_at "go"
     intro fl H1 f1 s1 e1
     walk_at "run"
     refine ⟨⟨us,SqL.of (s1 _ _ (sG _ _ eb))⟩,aa4 (xs:=us) (fun i σ H'=>i≤us.length∧∃ vs y2 y3,σ=[some (.ref bl),some (.ref fl),y2,y3]∧Same H H'∧H' fl=some (.lst vs)∧Each (SAt G) vs (allB (b.take i))) ⟨Nat.zero_le _,[],_,_,rfl,s1,e1,Each.nil⟩ (fun i σ H' _ zz=>by obtain ⟨_,_,_,_,_,z,_⟩:=zz; exact SqL.of (z _ _ (sG _ _ eb))) ?_ ?_⟩
     · rintro i sv σ' H2 hi ⟨hib,vs,y2,y3,rfl,s2,e2,hE2⟩
       obtain ⟨st,hst⟩:∃ st,b[i]?=some st:=⟨_,List.getElem?_eq_getElem (by rw [← hE.1]; exact (List.getElem?_eq_some_iff.mp hi).1)⟩
       have hs:=hE.2 i _ _ hi hst
       have hmem:=List.mem_of_getElem? hst
       have hlt:=(List.getElem?_eq_some_iff.mp hi).1
       have hvl:=hE2.1
       have h1:=ba4 (b:=b) (i+1)
       have h2:allB (b.take (i+1))=allB (b.take i)++allS st:=by
        rw [List.take_add_one,hst,a93]
        simp [allB]
       rw [h2,List.length_append] at h1
       have h3:(allS st).length=1+(a87 (a28 st)).length:=by rw [ah7,List.length_cons]; omega
       walk_at "run"
       refine ae3 (SqL.of e2) ?_
       walk_at "run"
       refine a74 e2 (by omega) ?_
       walk_at "run"
       have s3:Same H (upd H2 fl (.lst (vs++[sv]))):=b04 s2 f1
       have e3:upd H2 fl (.lst (vs++[sv])) fl=some (.lst (vs++[sv])):=a46
       generalize upd H2 fl (.lst (vs++[sv]))=H3 at s3 e3 ⊢
       have hkS:∀ x∈allS st,x.kd tn:=fun x hx=>hk x (ba2 hmem hx)
       refine ⟨sv,st,G,tn,rfl,sG.trans s3,hs,hkS st (by rw [ah7]; exact List.mem_cons_self),fun l4 us4 H4 f4 s4 e4 hE4=>?_⟩
       have hst':=bo8 hmem
       refine ⟨l4,rfl,⟨us4,SqL.of e4⟩,aa4 (xs:=us4) (fun i2 σ H'=>i2≤us4.length∧∃ vs y3,σ=[some (.ref bl),some (.ref fl),some sv,y3]∧Same H H'∧H' l4=some (.lst us4)∧l4≠fl∧H' fl=some (.lst vs)∧Each (SAt G) vs (allB (b.take i)++(st::a87 ((a28 st).take i2)))) ⟨Nat.zero_le _,_,_,rfl,s3.trans s4,e4,fun z=>(by rw [z,e3] at f4; cases f4),s4 _ _ e3,hE2.snoc hs⟩ (fun i σ H' _ zz=>by obtain ⟨_,_,_,_,_,z,_⟩:=zz; exact SqL.of z) ?_ ?_⟩
       · rintro i2 bv σ' H5 hi2 ⟨hib2,vs,y3,rfl,s5,e5,nl5,e5f,hE5⟩
         obtain ⟨bb,hbb⟩:∃ bb,(a28 st)[i2]?=some bb:=⟨_,List.getElem?_eq_getElem (by rw [← hE4.1]; exact (List.getElem?_eq_some_iff.mp hi2).1)⟩
         have hbm:=List.mem_of_getElem? hbb
         have hlt2:=(List.getElem?_eq_some_iff.mp hi2).1
         have hh:=c49 hbm
         have hl5:=hE5.1
         have g1:=b26 (b:=a28 st) (i2+1)
         have g2:a87 ((a28 st).take (i2+1))=a87 ((a28 st).take i2)++allB bb:=by
          rw [List.take_add_one,hbb,at7]
          simp [a87]
         rw [g2,List.length_append] at g1
         walk_at "run"
         refine ae3 (SqL.of e5f) ?_
         walk_at "run"
         refine ⟨bv,bb,G,tn,rfl,by omega,sG.trans s5,hE4.2 i2 _ _ hi2 hbb,fun x hx=>hkS x (by rw [ah7]; exact List.mem_cons_of_mem _ (ba3 hbm hx)),by omega,fun l6 us6 H6 f6 s6 e6 hE6=>?_⟩
         have hl6:=hE6.1
         walk_at "run"
         refine ao1 (s6 _ _ e5f) e6 (by rw [List.length_append,List.length_cons] at hl5; omega) ?_
         refine ⟨by omega,vs++us6,_,rfl,b04 (s5.trans s6) f1,by rw [a48 nl5]; exact s6 _ _ e5,nl5,a46,?_⟩
         rw [g2,show allB (b.take i)++st::(a87 ((a28 st).take i2)++allB bb)=(allB (b.take i)++st::a87 ((a28 st).take i2))++allB bb by simp]
         exact hE5.append hE6
       · rintro σ' H5 ⟨_,vs,y3,rfl,s5,e5,nl5,e5f,hE5⟩
         refine ⟨by omega,vs,_,_,rfl,s5,e5f,?_⟩
         rw [hE4.1,List.take_of_length_le (Nat.le_refl _),←ah7,←h2] at hE5
         exact hE5
     · rintro σ' H2 ⟨_,vs,y2,y3,rfl,s2,e2,hE2⟩
       walk_at "run"
       rw [hE.1,List.take_of_length_le (Nat.le_refl _)] at hE2
       exact q fl vs H2 f1 s2 e2 hE2
def TkAt (G:Hp) (w:V) (b:List Stm):Prop:=∃ q nm bv,w=.ref q∧G q=some (.tup [nm,bv])∧BAt G bv b
def a49 (tks:List (List Stm)):List (List Pt):=(tks.flatMap allB).flatMap a30
def bo9 (K:PySem.W.Frag):Sp:=fun vs H Q _=>∃ (tt lt:Addr) (x:V) (ws:List V) (tks:List (List Stm)),vs=[.ref tt]∧H tt=some (.tup [x,.ref lt])∧H lt=some (.lst ws)∧Each (TkAt H) ws tks∧(∃ tn,∀ b∈tks,Tr.hs (Stm.trs b)<100∧(allB b).length≤10000∧KdB tn b)∧(a49 tks).length≤10000∧∀ l us H',H l=none→Same H H'→H' l=some (.lst us)→Each (PAt H) us (a49 tks)→Q (.ref l) H'
theorem al4 (T:Txt K mg t):FnOk P w K mg base CX0 105 t.a_patterns_of t.fd_patterns_of ["script"] (bo9 K):=by
 have G_statements_in:=ai2 (P:=P) (w:=w) (base:=base) T
 refine T.f_patterns_of.F.ok sc_patterns_of (fun vs H Q E h=>?_) (fun cdv A outer s H vs Q E hr h=>?_)
 · obtain ⟨tt,lt,x,ws,tks,rfl,_⟩:=h
   rfl
 · obtain ⟨tt,lt,x,ws,tks,rfl,e1,e2,hT,⟨tn,hok⟩,hlen,q⟩:=h
   replace G_statements_in:=G_statements_in 100
   refine ⟨_,(@a03 _ _ _ _ _ (@a27 _ _ 1 _ _ _ _ sc_patterns_of.nd rfl (by walk_at "o") (@a19 _ _ _ _ (@a01 _)) (by rfl) (by walk_at "o"))
    (@a03 _ _ _ _ _ (@aa7 _ _ _ _ _ _ _ _ PassesOwn.never rfl (a36 K (@a37 _ _ _ _ _ _ _ (a38 K) (pv 0) (@a02 _ _ _ _) (fun _ _=>rfl))) (af1 K (n:=2) rfl (a20 (a09 (i:=2) sc_patterns_of.nd rfl (by walk_at "o")) (a20 (a09 (i:=3) sc_patterns_of.nd rfl (by walk_at "o")) (@a85 _)))) (@a08 _ _ _ (@aa7 _ _ _ _ _ _ _ _ PassesOwn.never rfl (a36 K (@a32 _ _ _ _ _ _ _ _ _ _ _ _ _ _ _ _ G_statements_in (hr.mono (by omega)) rfl T.f_statements_in.m T.f_statements_in.F.kp T.f_statements_in.b .nil a60 (@a00 _ _ _ _ _ (pv 3) (@a01 _) (by rfl)) (by decide) (by rfl) (by rfl))) (a09 (i:=4) sc_patterns_of.nd rfl (by walk_at "o")) (@a08 _ _ _ (@a67 _ _ _ _ _ _ _ _ (@a29 _ _ _ _ _ _ _ _ a68 (@a37 _ _ _ _ _ _ _ (a38 K) (pv 4) (@a02 _ _ _ _) (fun _ _=>rfl)) (@a07 _ _ _ _) (nomark _)) (@a08 _ _ _ (@a75 _ _ _ _ (@a89 _ K _ _ _ _ _ _ _ _ _ _ _ PySem.F.plainAttrs_list PySem.F.slot_list_extend PySem.F.type_list_extend aj2 (pv 1) (@a00 _ _ _ _ _ (a98 (Nt:=["pattern","inner"]) (Nf:=[]) (caps:=[]) rfl (a45 (sc:=a06 ab5) rfl rfl (by decide +kernel) (by decide +kernel) (by decide +kernel) rfl (by decide +kernel)) (a36 K (@a37 _ _ _ _ _ _ _ (a38 K) (pv 4) (@a02 _ _ _ _) (fun _ _=>rfl))) (fun _ _ _ _ _=>(af1 K (n:=2) rfl (a20 (a09 (i:=0) (show (["pattern","inner"]:List Str).Nodup by decide +kernel) rfl (by walk_at "o")) (a20 (a09 (i:=1) (show (["pattern","inner"]:List Str).Nodup by decide +kernel) rfl (by walk_at "o")) (@a85 _))))) (fun _ _ _ _ _=>(@a64 _)) (fun _ _ _ _ _=>(pv 0))) (@a01 _) (by rfl)) (by rfl) (by rfl) (by rfl) (by rfl) (by rfl) (by rfl)) (by rfl))) (@a42 _))) (by intro _; rfl))) (by intro _; rfl))
    (@a08 _ _ _ (@a40 _ _ _ _ (pv 1))))),?_⟩
   have sl:(1000000:Nat)≤sizeLine:=le_line (Nat.le_refl _)
   have n1:Str.ofString "test"≠Str.ofString "wait":=by decide +kernel
   have n3:Str.ofString "loop"≠Str.ofString "wait":=by decide +kernel
   have bnd:∀ {i:Nat}{b:List Stm}{j:Nat},tks[i]?=some b→(a49 (tks.take i)).length+(((allB b).take j).flatMap a30).length≤10000∧∀ x,(allB b)[j]?=some x→(a49 (tks.take i)).length+(((allB b).take j).flatMap a30).length+(a30 x).length≤10000:=fun {i b j} hb=>by
    have e:a49 tks=a49 (tks.take i)++((allB b).flatMap a30++a49 (tks.drop (i+1))):=by
     have e:tks=tks.take i++(b::tks.drop (i+1)):=by
      obtain ⟨h1,h2⟩:=List.getElem?_eq_some_iff.mp hb
      rw [← h2,←List.drop_eq_getElem_cons h1,List.take_append_drop]
     conv=>lhs; rw [e]
     simp [a49]
    have e2:(allB b).flatMap a30=((allB b).take j).flatMap a30++((allB b).drop j).flatMap a30:=by
     rw [← List.flatMap_append,List.take_append_drop]
    have l1:=congrArg List.length e
    have l2:=congrArg List.length e2
    simp only [List.length_append] at l1 l2
    refine ⟨by omega,fun x hx=>?_⟩
    obtain ⟨q1,q2⟩:=List.getElem?_eq_some_iff.mp hx
    have e3:((allB b).drop j).flatMap a30=a30 x++((allB b).drop (j+1)).flatMap a30:=by
     rw [List.drop_eq_getElem_cons q1,List.flatMap_cons,q2]
    have l3:=congrArg List.length e3
    simp only [List.length_append] at l3
    omega
   walk_at "go"
   intro pf H1 f1 s1 ef
   walk_at "run"
   refine a52 (SqT.of (s1 _ _ e1)) (a04 (j:=1) rfl) ?_
   walk_at "run"
   refine ⟨⟨_,SqL.of (s1 _ _ e2)⟩,aa4 (K:=K) (a:=lt) (xs:=ws) (fun i σ H'=>i≤ws.length∧Same H H'∧(∃ vs,H' pf=some (.lst vs)∧Each (PAt H) vs (a49 (tks.take i)))∧∃ y2 y3 y4,σ=[some (.ref tt),some (.ref pf),y2,y3,y4]) ⟨Nat.zero_le _,s1,⟨[],ef,by simpa [a49] using Each.nil⟩,_,_,_,rfl⟩ (fun i σ H' _ ⟨_,s',_⟩=>SqL.of (s' _ _ e2)) ?_ ?_⟩
   · rintro i w σ H2 hw ⟨hi,s2,⟨vs,e2f,hvs⟩,y2,y3,y4,rfl⟩
     have hi':=(List.getElem?_eq_some_iff.mp hw).1
     obtain ⟨b,hb⟩:∃ b,tks[i]?=some b:=⟨_,List.getElem?_eq_getElem (by rw [← hT.1]; exact hi')⟩
     obtain ⟨qv,nm,bv,rfl,eq,hbv⟩:=hT.2 i w b hw hb
     obtain ⟨k1,k2,k3⟩:=hok b (List.mem_of_getElem? hb)
     refine b57 (SqT.of (s2 _ _ eq)) rfl ?_
     walk_at "run"
     refine ⟨bv,b,H,tn,rfl,k1,s2,hbv,k3,Nat.le_trans k2 (by decide),fun ls us H3 f3 s3 e3 hus=>?_⟩
     have hne:ls≠pf:=(a50 e2f f3).symm
     walk_at "run"
     refine ⟨⟨_,SqL.of e3⟩,aa4 (K:=K) (a:=ls) (xs:=us) (fun j σ H'=>j≤us.length∧Same H H'∧H' ls=some (.lst us)∧(∃ vs,H' pf=some (.lst vs)∧Each (PAt H) vs (a49 (tks.take i)++((allB b).take j).flatMap a30))∧∃ y4,σ=[some (.ref tt),some (.ref pf),some nm,some bv,y4]) ⟨Nat.zero_le _,s2.trans s3,e3,⟨vs,s3 _ _ e2f,by simpa using hvs⟩,_,rfl⟩ (fun j σ H' _ ⟨_,_,h',_⟩=>SqL.of h') ?_ ?_⟩
     · rintro j v σ H4 hv ⟨hj,s4,e4,⟨vs4,e4f,h4⟩,y4,rfl⟩
       have hj':=(List.getElem?_eq_some_iff.mp hv).1
       obtain ⟨x,hx⟩:∃ x,(allB b)[j]?=some x:=⟨_,List.getElem?_eq_getElem (by rw [← hus.1]; exact hj')⟩
       have hvx:=hus.2 j v x hv hx
       have pk:=k3 x (List.mem_of_getElem? hx)
       have htk:((allB b).take (j+1)).flatMap a30=((allB b).take j).flatMap a30++a30 x:=by
        rw [List.take_add_one,hx,Option.toList_some,List.flatMap_append]
        simp
       have hbd:=(bnd (j:=j) hb).2 x hx
       have h4l:=h4.1
       rw [List.length_append] at h4l
       cases x with
       | put n e' =>
         obtain ⟨a,u,rfl,e,_⟩:=KS.word_at (b86 hvx)
         walk_at "run"
         refine a52 (SqT.of (s4 _ _ e)) (a04 (j:=0) rfl) ?_
         walk_at "run"
         refine a43 (by show ¬ (Str.ofString "put"=Str.ofString "wait"); decide +kernel) ?_
         refine ⟨hj',s4,e4,⟨vs4,e4f,?_⟩,_,rfl⟩
         rw [htk]
         simpa [a30] using h4
       | plain ps =>
         obtain ⟨k,r,rfl,q1,q2,q3⟩:=b85 pk
         obtain ⟨a,us',rfl,e⟩:=at1 hvx
         walk_at "run"
         refine a52 (SqT.of (s4 _ _ e)) (a04 (j:=0) rfl) ?_
         walk_at "run"
         refine a43 q2 ?_
         refine ⟨hj',s4,e4,⟨vs4,e4f,?_⟩,_,rfl⟩
         rw [htk]
         simpa [a30] using h4
       | loop bb =>
         obtain ⟨a,u,rfl,e,_⟩:=sat_loop.mp hvx
         walk_at "run"
         refine a52 (SqT.of (s4 _ _ e)) (a04 (j:=0) rfl) ?_
         walk_at "run"
         refine a43 n3 ?_
         refine ⟨hj',s4,e4,⟨vs4,e4f,?_⟩,_,rfl⟩
         rw [htk]
         simpa [a30] using h4
       | test c y z =>
         obtain ⟨a,u1,u2,u3,rfl,e,_⟩:=ai6 hvx
         walk_at "run"
         refine a52 (SqT.of (s4 _ _ e)) (a04 (j:=0) rfl) ?_
         walk_at "run"
         refine a43 n1 ?_
         refine ⟨hj',s4,e4,⟨vs4,e4f,?_⟩,_,rfl⟩
         rw [htk]
         simpa [a30] using h4
       | wait n bs =>
         obtain ⟨a,l,wsl,rfl,e,el,hwl⟩:=sat_wait.mp hvx
         have wl:wsl.length=bs.length:=hwl.1
         have pl:(a30 (.wait n bs)).length=bs.length:=by simp [a30]
         walk_at "run"
         refine a52 (SqT.of (s4 _ _ e)) (a04 (j:=0) rfl) ?_
         walk_at "run"
         refine a55 rfl ?_
         walk_at "run"
         refine ae3 (SqL.of e4f) ?_
         walk_at "run"
         refine a52 (SqT.of (s4 _ _ e)) (a04 (j:=2) rfl) ?_
         refine ⟨_,rfl,⟨_,SqL.of (s4 _ _ el)⟩,ao0 (xs:=wsl) (by omega) (fun m acc H'=>H'=H4∧m≤wsl.length∧acc.length=m∧Each (PAt H) acc ((a30 (.wait n bs)).take m)) ⟨rfl,Nat.zero_le _,rfl,by simpa using Each.nil⟩ (fun m acc H' ⟨e',_,ea,_⟩=>⟨by omega,e' ▸ SqL.of (s4 _ _ el)⟩) ?_ ?_⟩
         · rintro m w acc H' hw' ⟨rfl,hm,ea,hE⟩
           have hm':=(List.getElem?_eq_some_iff.mp hw').1
           obtain ⟨br,hbr⟩:∃ br,bs[m]?=some br:=⟨_,List.getElem?_eq_getElem (by omega)⟩
           have hB:=hwl.2 m w br hw' hbr
           obtain ⟨pp,bb⟩:=br
           obtain ⟨qv',pv,bv',rfl,eq',hp1,hb1⟩:=hB
           refine ⟨qv',_,_,rfl,SqT.of (s4 _ _ eq'),?_⟩
           walk_at "run"
           refine ⟨rfl,hm',by simp [ea],?_⟩
           rw [List.take_add_one,show (a30 (.wait n bs))[m]?=some pp by unfold a30; rw [List.getElem?_map,hbr]; rfl,Option.toList_some]
           exact hE.snoc hp1
         · rintro acc H' ⟨rfl,_,ea,hE⟩ p5 H5 f5 s5 e5
           rw [wl,←pl,List.take_length] at hE
           walk_at "run"
           refine ao1 (s5 _ _ e4f) e5 (by have:=hE.1; omega) ?_
           refine ⟨hj',(s4.trans s5).updNew f1,by rw [a48 hne]; exact s5 _ _ e4,⟨_,a46,?_⟩,_,rfl⟩
           rw [htk,←List.append_assoc]
           exact h4.append hE
     · rintro σ H4 ⟨_,s4,e4,⟨vs4,e4f,h4⟩,y4,rfl⟩
       rw [hus.1,List.take_length] at h4
       refine ⟨hi',s4,⟨vs4,e4f,?_⟩,_,_,_,rfl⟩
       rw [List.take_add_one,hb,Option.toList_some]
       have:a49 (tks.take i++[b])=a49 (tks.take i)++(allB b).flatMap a30:=by simp [a49]
       rw [this]
       exact h4
   · rintro σ H2 ⟨_,s2,⟨vs,e2f,hvs⟩,y2,y3,y4,rfl⟩
     rw [hT.1,List.take_length] at hvs
     walk_at "run"
     exact q pf vs H2 f1 s2 e2f hvs
def quietT:Tr:=.tup [.str "quiet"]
def keyE (k:Int):Tr:=.tup [.str "key",.int k]
def at8 (x:Str):Tr:=.tup [.str "word",.str x]
def allK:List Int:=(List.range 10).map fun (k:Nat)=>(k:Int)
def a81 (ks:List Int):List Int:=(allK.filter fun k=>decide (k∉ks)).take 1
def evT (ks:List Int) (ws:List Str):List Tr:=quietT::((ks++a81 ks).map keyE++(ws++[a99 ws]).map at8)
structure IsE (ps:List (List Pt)) (ks:List Int) (ws:List Str):Prop where
 k1:ks.Pairwise (·≤·)
 k2:ks.Nodup
 k3:∀ x,x∈ks↔keyP x∈ps
 w1:PyProof.Rows.sortedS ws=true
 w2:ws.Nodup
 w3:∀ x,x∈ws↔ab1 x∈ps
theorem IsE.one {ps qs:List (List Pt)}{ks ls:List Int}{ws us:List Str}(a:IsE ps ks ws) (b:IsE qs ls us) (h:∀ p,p∈ps↔p∈qs):ks=ls∧ws=us :=
 ⟨ak5 a.k1 b.k1 a.k2 b.k2 fun x=>(a.k3 x).trans ((h _).trans (b.k3 x).symm),an0 a.w1 b.w1 a.w2 b.w2 fun x=>(a.w3 x).trans ((h _).trans (b.w3 x).symm)⟩
theorem c50 {ks:List Int}{ws:List Str}:Tr.hs (evT ks ws)≤20:=by
 have h1:∀ l:List Int,Tr.hs (l.map keyE)≤1:=by
  intro l
  induction l with
  | nil=>simp [Tr.hs]
  | cons x l ih=>simp only [List.map_cons,Tr.hs,keyE,Tr.h]; omega
 have h2:∀ l:List Str,Tr.hs (l.map at8)≤1:=by
  intro l
  induction l with
  | nil=>simp [Tr.hs]
  | cons x l ih=>simp only [List.map_cons,Tr.hs,at8,Tr.h]; omega
 have h3:∀ a b:List Tr,Tr.hs (a++b)=max (Tr.hs a) (Tr.hs b):=by
  intro a b
  induction a with
  | nil=>simp [Tr.hs]
  | cons x a ih=>simp only [List.cons_append,Tr.hs,ih]; omega
 unfold evT
 simp only [Tr.hs,h3,quietT,Tr.h]
 have:=h1 (ks++a81 ks)
 have:=h2 (ws++[a99 ws])
 omega
theorem ai7 {K:PySem.W.Frag}{H:Hp}:∀ {a b:List Tr}{vs ws:List V},Tr.AtsK K H a vs→Tr.AtsK K H b ws→Tr.AtsK K H (a++b) (vs++ws)
 | [],b,vs,ws,h1,h2=>by
   simp only [Tr.AtsK] at h1
   subst h1
   exact h2
 | x::a,b,vs,ws,h1,h2=>by
   simp only [Tr.AtsK,List.cons_append] at h1 ⊢
   obtain ⟨v,r,rfl,h3,h4⟩:=h1
   exact ⟨v,_,rfl,h3,ai7 h4 h2⟩
theorem ag3 {K:PySem.W.Frag}{H:Hp}{a:List Tr}{vs:List V}{x:Tr}{v:V}(h1:Tr.AtsK K H a vs) (h2:x.AtK K H v):Tr.AtsK K H (a++[x]) (vs++[v]):=ai7 h1 (by simp only [Tr.AtsK]; exact ⟨v,[],rfl,h2,rfl⟩)
theorem a58 {K:PySem.W.Frag}{H H':Hp}(s:Tups H H'):∀ {a:List Tr}{vs:List V},Tr.AtsK K H a vs→Tr.AtsK K H' a vs
 | [],vs,h=>h
 | x::a,vs,h=>by
   simp only [Tr.AtsK] at h ⊢
   obtain ⟨v,r,rfl,h3,h4⟩:=h
   exact ⟨v,r,rfl,h3.mono s,a58 s h4⟩
theorem ap1 {H:Hp}{v:V}{k:Int}(h:PAt H v (keyP k)):∃ a,v=.ref a∧H a=some (.tup [.str "key",.int k]):=by
 unfold PAt keyP at h
 simp only [List.map_cons,List.map_nil,Pt.tr] at h
 obtain ⟨a,vs,rfl,e,h⟩:=at_tup0.mp h
 obtain ⟨v1,w1,rfl,h1,h⟩:=ats_cons0.mp h
 obtain ⟨v2,w2,rfl,h2,h⟩:=ats_cons0.mp h
 obtain rfl:=ats_nil0.mp h
 obtain rfl:=at_str0.mp h1
 obtain rfl:=at_int0.mp h2
 exact ⟨a,rfl,e⟩
theorem ai8 {H:Hp}{v:V}{x:Str}(h:PAt H v (ab1 x)):∃ a,v=.ref a∧H a=some (.tup [.str "word",.str x]):=by
 unfold PAt ab1 at h
 simp only [List.map_cons,List.map_nil,Pt.tr] at h
 obtain ⟨a,vs,rfl,e,h⟩:=at_tup0.mp h
 obtain ⟨v1,w1,rfl,h1,h⟩:=ats_cons0.mp h
 obtain ⟨v2,w2,rfl,h2,h⟩:=ats_cons0.mp h
 obtain rfl:=ats_nil0.mp h
 obtain rfl:=at_str0.mp h1
 obtain rfl:=at_str0.mp h2
 exact ⟨a,rfl,e⟩
theorem ad7 {H:Hp}{v:V}{x:Str}(h:PAt H v [.s x]):∃ a,v=.ref a∧H a=some (.tup [.str x]):=by
 unfold PAt at h
 simp only [List.map_cons,List.map_nil,Pt.tr] at h
 obtain ⟨a,vs,rfl,e,h⟩:=at_tup0.mp h
 obtain ⟨v1,w1,rfl,h1,h⟩:=ats_cons0.mp h
 obtain rfl:=ats_nil0.mp h
 obtain rfl:=at_str0.mp h1
 exact ⟨a,rfl,e⟩
theorem bz3 {K:PySem.W.Frag}{H:Hp}{a:Addr}{k:Int}(e:H a=some (.tup [.str "key",.int k])):(keyE k).AtK K H (.ref a):=by
 simp only [keyE,Tr.AtK,Tr.AtsK]
 exact ⟨_,_,rfl,.inl e,_,_,rfl,rfl,_,_,rfl,rfl,rfl⟩
theorem bj4 {K:PySem.W.Frag}{H:Hp}{a:Addr}{k:Str}(e:H a=some (.tup [.str "word",.str k])):(at8 k).AtK K H (.ref a):=by
 simp only [at8,Tr.AtK,Tr.AtsK]
 exact ⟨_,_,rfl,.inl e,_,_,rfl,rfl,_,_,rfl,rfl,rfl⟩
inductive PatK:List Pt→Prop
 | key (k:Int) (h0:0≤k) (h1:k<10):PatK (keyP k)
 | word (x:Str):PatK (ab1 x)
 | other:PatK [.s "other"]
 | non:PatK [.s "none"]
def bz4 (K:PySem.W.Frag):Sp:=fun vs H Q _=>∃ (a:Addr) (us:List V) (ps:List (List Pt)),vs=[.ref a]∧H a=some (.lst us)∧Each (PAt H) us ps∧(∀ p∈ps,PatK p)∧(wordsOf ps).length≤63∧ps.length≤1000∧∀ l vs ks ws H',H l=none→Same H H'→H' l=some (.lst vs)→Tr.AtsK K H' (evT ks ws) vs→IsE ps ks ws→Q (.ref l) H'
theorem ad8 (T:Txt K mg t):FnOk P w K mg base CX0 3 t.a_events_of_patterns t.fd_events_of_patterns ["patterns"] (bz4 K):=by
 have G_first_free_word:=ag2 (P:=P) (w:=w) (base:=base) T
 refine T.f_events_of_patterns.F.ok sc_events_of_patterns (fun vs H Q E h=>?_) (fun cdv A outer s H vs Q E hr h=>?_)
 · obtain ⟨a,us,ps,rfl,_⟩:=h
   rfl
 · obtain ⟨a,us,ps,rfl,ha,hE,hok,hw63,hl,q⟩:=h
   refine ⟨_,(@a03 _ _ _ _ _ (@a27 _ _ 1 _ _ _ _ sc_events_of_patterns.nd rfl (by walk_at "o") (@a39 _ _ _ _ _ _ _ _ _ (az8 (P:=P) (w:=w) rfl rfl rfl) (by rfl) T.z_sorted af9 (@a00 _ _ _ _ _ (@a77 _ _ _ _ _ _ _ _ _ (b83 (P:=P) (w:=w) K rfl rfl rfl) (by rfl) T.z_set ay7 (@a00 _ _ _ _ _ (a98 (Nt:=["pattern"]) (Nf:=[]) (caps:=[]) rfl (a45 (sc:=a06 a41) rfl rfl (by decide +kernel) (by decide +kernel) (by decide +kernel) rfl (by decide +kernel)) (a36 K (pv 0)) (fun _ _ _ _ _=>(a09 (i:=0) (show (["pattern"]:List Str).Nodup by decide +kernel) rfl (by walk_at "o"))) (fun _ _ _ _ _=>(@a97 _ _ _ (@a29 _ _ _ _ _ _ _ _ a68 (@a37 _ _ _ _ _ _ _ (a38 K) (pv 0) (@a02 _ _ _ _) (fun _ _=>rfl)) (@a07 _ _ _ _) (nomark _)))) (fun _ _ _ _ _=>(@a37 _ _ _ _ _ _ _ (a38 K) (pv 0) (@a02 _ _ _ _) (fun _ _=>rfl)))) (@a01 _) (by rfl)) (by decide) (by decide) (by rfl) (by rfl)) (@a01 _) (by rfl)) (by decide) (by decide) (by rfl) (by rfl)) (by rfl) (by walk_at "o"))
    (@a03 _ _ _ _ _ (@a27 _ _ 2 _ _ _ _ sc_events_of_patterns.nd rfl (by walk_at "o") (@a39 _ _ _ _ _ _ _ _ _ (az4 (P:=P) (w:=w) rfl rfl rfl) (by rfl) T.z_sorted af9 (@a00 _ _ _ _ _ (@a77 _ _ _ _ _ _ _ _ _ (b78 (P:=P) (w:=w) K rfl rfl rfl) (by rfl) T.z_set ay7 (@a00 _ _ _ _ _ (a98 (Nt:=["pattern"]) (Nf:=[]) (caps:=[]) rfl (a45 (sc:=a06 a41) rfl rfl (by decide +kernel) (by decide +kernel) (by decide +kernel) rfl (by decide +kernel)) (a36 K (pv 0)) (fun _ _ _ _ _=>(a09 (i:=0) (show (["pattern"]:List Str).Nodup by decide +kernel) rfl (by walk_at "o"))) (fun _ _ _ _ _=>(@a97 _ _ _ (@a29 _ _ _ _ _ _ _ _ a68 (@a37 _ _ _ _ _ _ _ (a38 K) (pv 0) (@a02 _ _ _ _) (fun _ _=>rfl)) (@a07 _ _ _ _) (nomark _)))) (fun _ _ _ _ _=>(@a37 _ _ _ _ _ _ _ (a38 K) (pv 0) (@a02 _ _ _ _) (fun _ _=>rfl)))) (@a01 _) (by rfl)) (by decide) (by decide) (by rfl) (by rfl)) (@a01 _) (by rfl)) (by decide) (by decide) (by rfl) (by rfl)) (by rfl) (by walk_at "o"))
    (@a03 _ _ _ _ _ (@a75 _ _ _ _ (@a89 _ K _ _ _ _ _ _ _ _ _ _ _ PySem.F.plainAttrs_list PySem.F.slot_list_extend PySem.F.type_list_extend aj2 (pv 1) (@a00 _ _ _ _ _ (@a44 _ _ _ _ _ _ _ _ _ _ (a47 K) (a98 (Nt:=["key"]) (Nf:=["keys"]) (caps:=[1]) rfl (a45 (sc:=a06 a41) rfl rfl (by decide +kernel) (by decide +kernel) (by decide +kernel) rfl (by decide +kernel)) (a88 rfl T.z_range (@a00 _ _ _ _ _ (ac9 (by rfl) T.m_KEYS (by exact T.r_KEYS)) (@a01 _) (by rfl))) (fun _ _ _ _ _=>(a09 (i:=0) (show (["key","keys"]:List Str).Nodup by decide +kernel) rfl (by walk_at "o"))) (fun _ _ _ _ _=>(@a97 _ _ _ (@a29 _ _ _ _ _ _ _ _ (aj6 K) (pv 0) (pv 1) (by with_unfolding_all rfl)))) (fun _ _ _ _ _=>(pv 0))) (@a59 _) (@a51 _ _ _ (@a02 _ _ _ _))) (@a01 _) (by rfl)) (by rfl) (by rfl) (by rfl) (by rfl) (by rfl) (by rfl)) (by rfl))
    (@a03 _ _ _ _ _ (@a75 _ _ _ _ (@a89 _ K _ _ _ _ _ _ _ _ _ _ _ PySem.F.plainAttrs_list PySem.F.slot_list_append PySem.F.type_list_append a66 (pv 2) (@a00 _ _ _ _ _ (@a32 _ _ _ _ _ _ _ _ _ _ _ _ _ _ _ _ G_first_free_word (hr.mono (by omega)) rfl T.f_first_free_word.m T.f_first_free_word.F.kp T.f_first_free_word.b .nil a60 (@a00 _ _ _ _ _ (pv 2) (@a01 _) (by rfl)) (by decide) (by rfl) (by rfl)) (@a01 _) (by rfl)) (by rfl) (by rfl) (by rfl) (by rfl) (by rfl) (by rfl)) (by rfl))
    (@a08 _ _ _ (@a40 _ _ _ _ (@a31 _ _ _ _ _ _ _ _ a34 (@a31 _ _ _ _ _ _ _ _ a34 (@a19 _ _ _ _ (@a00 _ _ _ _ _ (ac9 (by rfl) T.m_QUIET (by exact T.r_QUIET)) (@a01 _) (by rfl))) (a98 (Nt:=["key"]) (Nf:=[]) (caps:=[]) rfl (a45 (sc:=a06 a41) rfl rfl (by decide +kernel) (by decide +kernel) (by decide +kernel) rfl (by decide +kernel)) (a36 K (pv 1)) (fun _ _ _ _ _=>(a09 (i:=0) (show (["key"]:List Str).Nodup by decide +kernel) rfl (by walk_at "o"))) (fun _ _ _ _ _=>(@a64 _)) (fun _ _ _ _ _=>(@a05 _ _ _ _ _ (@a00 _ _ _ _ _ (@a07 _ _ _ _) (@a00 _ _ _ _ _ (pv 0) (@a01 _) (by rfl)) (by rfl)))))) (a98 (Nt:=["word"]) (Nf:=[]) (caps:=[]) rfl (a45 (sc:=a06 a41) rfl rfl (by decide +kernel) (by decide +kernel) (by decide +kernel) rfl (by decide +kernel)) (a36 K (pv 2)) (fun _ _ _ _ _=>(a09 (i:=0) (show (["word"]:List Str).Nodup by decide +kernel) rfl (by walk_at "o"))) (fun _ _ _ _ _=>(@a64 _)) (fun _ _ _ _ _=>(@a05 _ _ _ _ _ (@a00 _ _ _ _ _ (@a07 _ _ _ _) (@a00 _ _ _ _ _ (pv 0) (@a01 _) (by rfl)) (by rfl)))))))))))),?_⟩
   have sl:(1000000:Nat)≤sizeLine:=le_line (Nat.le_refl _)
   have ul:us.length=ps.length:=hE.1
   have n1:Str.ofString "word"≠Str.ofString "key":=by decide +kernel
   have n2:Str.ofString "other"≠Str.ofString "key":=by decide +kernel
   have n3:Str.ofString "none"≠Str.ofString "key":=by decide +kernel
   have m1:Str.ofString "key"≠Str.ofString "word":=by decide +kernel
   have m2:Str.ofString "other"≠Str.ofString "word":=by decide +kernel
   have m3:Str.ofString "none"≠Str.ofString "word":=by decide +kernel
   walk_at "go"
   refine ⟨⟨_,SqL.of ha⟩,a73 (xs:=us) (by omega) (fun i acc H'=>H'=H∧i≤us.length∧acc.length≤i∧acc=a53 (keysOf (ps.take i))) ⟨rfl,Nat.zero_le _,Nat.le_refl _,rfl⟩ (fun i acc H' ⟨e,_,ea,_⟩=>⟨ea,e ▸ SqL.of ha⟩) ?_ ?_⟩
   · rintro i v acc H' hv ⟨rfl,hi,ea,rfl⟩
     have hi':=(List.getElem?_eq_some_iff.mp hv).1
     obtain ⟨p,hp⟩:∃ p,ps[i]?=some p:=⟨_,List.getElem?_eq_getElem (by omega)⟩
     have hvp:=hE.2 i v p hv hp
     have hpk:=hok p (List.mem_of_getElem? hp)
     rw [List.take_add_one,hp,Option.toList_some]
     cases hpk with
     | key k h0 h1 =>
       obtain ⟨b,rfl,e⟩:=ap1 hvp
       walk_at "run"
       refine a52 (SqT.of e) (a04 (j:=0) rfl) ?_
       walk_at "run"
       refine a55 rfl ?_
       walk_at "run"
       refine a52 (SqT.of e) (a04 (j:=1) rfl) ?_
       refine ⟨rfl,hi',by simp; omega,?_⟩
       simp [keysOf,keyP,a53,List.filterMap_append]
     | word x =>
       obtain ⟨b,rfl,e⟩:=ai8 hvp
       walk_at "run"
       refine a52 (SqT.of e) (a04 (j:=0) rfl) ?_
       walk_at "run"
       refine a43 n1 ?_
       refine ⟨rfl,hi',by omega,?_⟩
       simp [keysOf,ab1,a53,List.filterMap_append]
     | other =>
       obtain ⟨b,rfl,e⟩:=ad7 hvp
       walk_at "run"
       refine a52 (SqT.of e) (a04 (j:=0) rfl) ?_
       walk_at "run"
       refine a43 n2 ?_
       refine ⟨rfl,hi',by omega,?_⟩
       simp [keysOf,a53,List.filterMap_append]
     | non =>
       obtain ⟨b,rfl,e⟩:=ad7 hvp
       walk_at "run"
       refine a52 (SqT.of e) (a04 (j:=0) rfl) ?_
       walk_at "run"
       refine a43 n3 ?_
       refine ⟨rfl,hi',by omega,?_⟩
       simp [keysOf,a53,List.filterMap_append]
   · rintro acc H' ⟨rfl,_,ea,rfl⟩ p1 H1 f1 s1 e1
     rw [ul,List.take_length] at e1 ea
     walk_at "run"
     refine ⟨p1,keysOf ps,rfl,SqL.of e1,by simp [a53] at ea; omega,fun p2 H2 ks0 f2 s2 h2 nd2 mem2=>?_⟩
     walk_at "run"
     have hk10:∀ x∈ks0,0≤x∧x<10:=fun x hx=>by
      have:=hok _ (keysOf_mem.mp ((mem2 x).mp hx))
      generalize he:keyP x=pp at this
      cases this with
      | key k h0 h1=>simp only [keyP,List.cons.injEq,Pt.i.injEq,and_true,true_and] at he; subst he; exact ⟨h0,h1⟩
      | word y=>simp [keyP,ab1] at he
      | other=>simp [keyP] at he
      | non=>simp [keyP] at he
     have kl:=b00 nd2 hk10
     refine ⟨p2,ks0,rfl,h2,by omega,fun pk ks H3 f3 s3 e3 pm3 so3=>?_⟩
     walk_at "run"
     have s03:=s1.trans (s2.trans s3)
     refine ⟨⟨_,SqL.of (s03 _ _ ha)⟩,a73 (xs:=us) (by omega) (fun i acc H'=>H'=H3∧i≤us.length∧acc.length≤i∧acc=a33 (wordsOf (ps.take i))) ⟨rfl,Nat.zero_le _,Nat.le_refl _,rfl⟩ (fun i acc H' ⟨e,_,ea,_⟩=>⟨ea,e ▸ SqL.of (s03 _ _ ha)⟩) ?_ ?_⟩
     · rintro i v acc H4 hv ⟨rfl,hi,ea,rfl⟩
       have hi':=(List.getElem?_eq_some_iff.mp hv).1
       obtain ⟨p,hp⟩:∃ p,ps[i]?=some p:=⟨_,List.getElem?_eq_getElem (by omega)⟩
       have hvp:=(hE.2 i v p hv hp).same s03
       have hpk:=hok p (List.mem_of_getElem? hp)
       rw [List.take_add_one,hp,Option.toList_some]
       cases hpk with
       | key k h0 h1 =>
         obtain ⟨b,rfl,e⟩:=ap1 hvp
         walk_at "run"
         refine a52 (SqT.of e) (a04 (j:=0) rfl) ?_
         walk_at "run"
         refine a43 m1 ?_
         refine ⟨rfl,hi',by omega,?_⟩
         simp [L2.wordsOf,keyP,a33,List.filterMap_append]
       | word x =>
         obtain ⟨b,rfl,e⟩:=ai8 hvp
         walk_at "run"
         refine a52 (SqT.of e) (a04 (j:=0) rfl) ?_
         walk_at "run"
         refine a55 rfl ?_
         walk_at "run"
         refine a52 (SqT.of e) (a04 (j:=1) rfl) ?_
         refine ⟨rfl,hi',by simp; omega,?_⟩
         simp [L2.wordsOf,ab1,a33,List.filterMap_append]
       | other =>
         obtain ⟨b,rfl,e⟩:=ad7 hvp
         walk_at "run"
         refine a52 (SqT.of e) (a04 (j:=0) rfl) ?_
         walk_at "run"
         refine a43 m2 ?_
         refine ⟨rfl,hi',by omega,?_⟩
         simp [L2.wordsOf,a33,List.filterMap_append]
       | non =>
         obtain ⟨b,rfl,e⟩:=ad7 hvp
         walk_at "run"
         refine a52 (SqT.of e) (a04 (j:=0) rfl) ?_
         walk_at "run"
         refine a43 m3 ?_
         refine ⟨rfl,hi',by omega,?_⟩
         simp [L2.wordsOf,a33,List.filterMap_append]
     rintro acc H4 ⟨rfl,_,eb,rfl⟩ p4 H5 f4 s4 e4
     rw [ul,List.take_length] at e4 eb
     walk_at "run"
     refine ⟨p4,wordsOf ps,rfl,SqL.of e4,by simp [a33] at eb; omega,fun p5 H6 ws0 f5 s5 h5 nd5 mem5=>?_⟩
     walk_at "run"
     have wl:ws0.length≤63:=Nat.le_trans (List.Nodup.length_le_of_subset nd5 fun x hx=>(mem5 x).mp hx) hw63
     refine ⟨p5,ws0,rfl,h5,by omega,fun pw ws H7 f7 s7 e7 pm7 so7=>?_⟩
     walk_at "run"
     have s37:=s4.trans (s5.trans s7)
     have kl3:ks.length≤10:=by rw [pm3.length_eq]; exact kl
     have wl3:ws.length≤63:=by rw [pm7.length_eq]; exact wl
     have isE:IsE ps ks ws:=⟨so3,pm3.nodup_iff.mpr nd2,fun x=>pm3.mem_iff.trans ((mem2 x).trans keysOf_mem),so7,pm7.nodup_iff.mpr nd5,fun x=>pm7.mem_iff.trans ((mem5 x).trans wordsOf_mem)⟩
     have ek7:=s37 _ _ e3
     refine ae3 (SqL.of ek7) ?_
     walk_at "run"
     refine af8 (n:=10) (by omega) (fun i acc H'=>H'=H7∧i≤10∧acc.length≤i∧acc=((allK.take i).filter fun k=>decide (k∉ks)).map V.int) ⟨rfl,Nat.zero_le _,Nat.le_refl _,rfl⟩ (fun i acc H' ⟨_,_,e,_⟩=>e) ?_ ?_
     · rintro i acc H8 hi ⟨rfl,_,ea,rfl⟩
       walk_at "run"
       refine ay9 (SqL.of ek7) ?_
       walk_at "run"
       have hk:allK[i]?=some (0+(i:Int)):=by
        unfold allK
        rw [List.getElem?_map,List.getElem?_range hi]
        simp
       rw [List.take_add_one,hk,Option.toList_some,List.filter_append]
       by_cases hin:(0+(i:Int))∈ks
       · refine bi1 hin ?_
         refine ⟨rfl,hi,by omega,?_⟩
         simp only [List.filter_cons,List.filter_nil,decide_not,decide_eq_true hin,Bool.not_true,Bool.false_eq_true,if_false,List.append_nil]
       · refine bi0 hin ?_
         walk_at "run"
         refine ⟨rfl,hi,by rw [List.length_append,List.length_singleton]; omega,?_⟩
         simp only [List.filter_cons,List.filter_nil,decide_not,decide_eq_false hin,Bool.not_false,if_true,List.map_append,List.map_cons,List.map_nil]
     rintro acc H8 ⟨rfl,_,ec,rfl⟩ p8 H9 f8 s8 e8
     rw [show allK.take 10=allK from rfl] at e8
     walk_at "run"
     refine aa2 (SqL.of e8) ?_
     intro p9 H10 f9 s9 e9
     rw [show (1:Int)=((1:Nat):Int) from rfl,bu6] at e9
     walk_at "run"
     have s710:=s8.trans s9
     have fkl:(a81 ks).length≤1:=by unfold a81; rw [List.length_take]; omega
     refine ao1 (s710 _ _ ek7) e9 (by rw [show (a53 ks).length=ks.length by simp [a53],List.length_map]; have:=fkl; unfold a81 at this; omega) ?_
     have hkw:pw≠pk:=(a50 (s4.trans s5 |> fun s=>s _ _ e3) f7).symm
     generalize hH11:upd H10 pk (HO.lst (a53 ks++List.map V.int (List.take 1 (List.filter (fun k=>decide (k∉ks)) allK))))=H11
     have ek11:H11 pk=some (.lst (a53 (ks++a81 ks))):=by
      rw [← hH11,a46]
      unfold a81 a53
      rw [List.map_append]
     have ew11:H11 pw=some (.lst (a33 ws)):=by
      rw [← hH11,a48 hkw]
      exact s710 _ _ e7
     have fpk:H' pk=none:=(s1.trans s2).free f3
     have fpw:H' pw=none:=(s03.trans (s4.trans s5)).free f7
     have s11:Same H' H11:=by
      rw [← hH11]
      exact (s03.trans (s37.trans s710)).updNew fpk
     clear hH11
     walk_at "run"
     refine ae3 (SqL.of ew11) ?_
     walk_at "run"
     refine ⟨pw,ws,rfl,ew11,by omega,fun H12 s12=>?_⟩
     walk_at "run"
     refine a74 (s12 _ _ ew11) (by simp [a33]; omega) ?_
     generalize hH13:upd H12 pw (HO.lst (a33 ws++[V.str (a99 ws)]))=H13
     have ek13:H13 pk=some (.lst (a53 (ks++a81 ks))):=by
      rw [← hH13,a48 hkw.symm]
      exact s12 _ _ ek11
     have ew13:H13 pw=some (.lst (a33 (ws++[a99 ws]))):=by
      rw [← hH13,a46]
      simp [a33]
     have s13:Same H' H13:=by
      rw [← hH13]
      exact (s11.trans s12).updNew fpw
     clear hH13
     walk_at "run"
     intro q1 H14 g1 t1 d1
     walk_at "run"
     refine ⟨⟨_,SqL.of (t1 _ _ ek13)⟩,a73 (xs:=a53 (ks++a81 ks)) (by simp [a53]; omega) (fun i acc H'=>i≤(ks++a81 ks).length∧Same H14 H'∧acc.length=i∧Tr.AtsK K H' (((ks++a81 ks).take i).map keyE) acc) ⟨Nat.zero_le _,Same.refl _,rfl,rfl⟩ (fun i acc H' ⟨_,s',e,_⟩=>⟨by omega,SqL.of (s' _ _ (t1 _ _ ek13))⟩) ?_ ?_⟩
     · rintro i v acc H15 hv ⟨hi,t2,el,hat⟩
       unfold a53 at hv
       rw [List.getElem?_map] at hv
       obtain ⟨x,hx,rfl⟩:=Option.map_eq_some_iff.mp hv
       walk_at "run"
       intro q2 H16 g2 t3 d3
       refine ⟨(List.getElem?_eq_some_iff.mp hx).1,t2.trans t3,by simp [el],?_⟩
       rw [List.take_add_one,hx,Option.toList_some,List.map_append]
       exact ag3 (a58 t3.tups hat) (bz3 d3)
     rintro acc H15 ⟨_,t2,el,hat⟩ q2 H16 g2 t3 d3
     rw [show (a53 (ks++a81 ks)).length=(ks++a81 ks).length by simp [a53],List.take_length] at hat
     rw [show (a53 (ks++a81 ks)).length=(ks++a81 ks).length by simp [a53]] at el
     walk_at "run"
     refine a69 ((t2.trans t3) _ _ d1) d3 (by rw [el]; simp; omega) ?_
     intro q3 H17 g3 t4 d4
     walk_at "run"
     have t147:=t2.trans (t3.trans t4)
     have ew17:=t147 _ _ (t1 _ _ ew13)
     have hk17:=a58 (t3.trans t4).tups hat
     refine ⟨⟨_,SqL.of ew17⟩,a73 (xs:=a33 (ws++[a99 ws])) (by simp [a33]; omega) (fun i acc H'=>i≤(ws++[a99 ws]).length∧Same H17 H'∧acc.length=i∧Tr.AtsK K H' (((ws++[a99 ws]).take i).map at8) acc) ⟨Nat.zero_le _,Same.refl _,rfl,rfl⟩ (fun i acc H' ⟨_,s',e,_⟩=>⟨by omega,SqL.of (s' _ _ ew17)⟩) ?_ ?_⟩
     · rintro i v acc H18 hv ⟨hi,t5,el5,hat5⟩
       unfold a33 at hv
       rw [List.getElem?_map] at hv
       obtain ⟨x,hx,rfl⟩:=Option.map_eq_some_iff.mp hv
       walk_at "run"
       intro q5 H19 g5 t6 d6
       refine ⟨(List.getElem?_eq_some_iff.mp hx).1,t5.trans t6,by simp [el5],?_⟩
       rw [List.take_add_one,hx,Option.toList_some,List.map_append]
       exact ag3 (a58 t6.tups hat5) (bj4 d6)
     rintro acc5 H18 ⟨_,t5,el5,hat5⟩ q5 H19 g5 t6 d6
     rw [show (a33 (ws++[a99 ws])).length=(ws++[a99 ws]).length by simp [a33],List.take_length] at hat5
     rw [show (a33 (ws++[a99 ws])).length=(ws++[a99 ws]).length by simp [a33]] at el5
     walk_at "run"
     refine a69 ((t5.trans t6) _ _ d4) d6 (by rw [el5]; simp only [List.length_append,List.length_singleton,el]; omega) ?_
     intro q6 H20 g6 t7 d7
     walk_at "run"
     have sAll:=s13.trans (t1.trans (t147.trans (t5.trans (t6.trans t7))))
     refine q q6 _ ks ws H20 ((s13.trans (t1.trans (t147.trans (t5.trans t6)))).free g6) sAll d7 ?_ isE
     have hk20:=a58 (t5.trans (t6.trans t7)).tups hk17
     have hw20:=a58 (t6.trans t7).tups hat5
     have hq:quietT.AtK K H20 (.ref t.ad_QUIET):=by
      simp only [quietT,Tr.AtK,Tr.AtsK]
      exact ⟨_,_,rfl,.inr T.d_QUIET,_,_,rfl,rfl,rfl⟩
     unfold evT
     simp only [List.cons_append,List.nil_append,Tr.AtsK]
     exact ⟨_,_,rfl,hq,ai7 hk20 hw20⟩
open Classical in
noncomputable def woP (p:Addr→Prop) (H:Hp):Hp:=fun a=>if p a then none else H a
theorem wpG {p:Addr→Prop}{H:Hp}{a:Addr}(h:¬ p a):woP p H a=H a:=if_neg h
theorem wpT {p:Addr→Prop}{H:Hp}{a:Addr}{o:HO}(e:woP p H a=some o):¬ p a∧H a=some o:=by
 by_cases h:p a
 · unfold woP at e; rw [if_pos h] at e; cases e
 · rw [wpG h] at e; exact ⟨h,e⟩
theorem wpS {p:Addr→Prop}{H H':Hp}(s:Same H H'):Same (woP p H) (woP p H'):=fun a o e=>by
 obtain ⟨h1,h2⟩:=wpT e
 rw [wpG h1]
 exact s _ _ h2
theorem wpL {p:Addr→Prop}{H:Hp}:Same (woP p H) H:=fun a o e=>(wpT e).2
theorem wpB {p q:Addr→Prop}{H:Hp}(h:∀ a,q a→p a):Same (woP p H) (woP q H):=fun a o e=>by
 obtain ⟨h1,h2⟩:=wpT e
 rw [wpG (fun z=>h1 (h a z))]
 exact h2
theorem wpU {p:Addr→Prop}{H:Hp}{d:Addr}{o:HO}(h:p d):woP p (upd H d o)=woP p H:=funext fun a=>by
 by_cases e:p a
 · unfold woP; rw [if_pos e,if_pos e]
 · rw [wpG e,wpG e,a48 (fun z=>e (by rw [z]; exact h))]
def Ex_ (p:Addr→Prop) (H:Hp):Prop:=∀ a,p a→H a≠none
theorem Ex_.same {p:Addr→Prop}{H H':Hp}(h:Ex_ p H) (s:Same H H'):Ex_ p H':=fun a ha z=>by
 cases e:H a with
 | none=>exact h a ha e
 | some o=>rw [s _ _ e] at z; cases z
theorem Ex_.fr {p:Addr→Prop}{H:Hp}{a:Addr}(h:Ex_ p H) (f:H a=none):¬ p a:=fun z=>h a z f
def Nmd (H:Hp) (v:V) (n:Str):Prop:=∃ a r,v=.ref a∧H a=some (.tup (.str n::r))
theorem Nmd.same {H H':Hp}{v:V}{n:Str}(h:Nmd H v n) (s:Same H H'):Nmd H' v n:=by
 obtain ⟨a,r,rfl,e⟩:=h
 exact ⟨a,r,rfl,s _ _ e⟩
def BxAt (H:Hp) (bl:Addr) (bn:List Str):Prop:=∃ us,H bl=some (.lst us)∧Each (Nmd H) us bn∧bn.length≤3
theorem BxAt.same {H H':Hp}{bl:Addr}{bn:List Str}(h:BxAt H bl bn) (s:Same H H'):BxAt H' bl bn:=by
 obtain ⟨us,e,h1,h2⟩:=h
 exact ⟨us,s _ _ e,h1.mono fun _ _ z=>z.same s,h2⟩
def bp0:Sp:=fun vs H Q _=>∃ n:Nat,vs=[.int (n:Nat)]∧∀ (z:Str) H',Same H H'→Q (.str z) H'
theorem wset {n:Nat}(h:n<9):∃ z:Str,([V.str "other",V.str "none",V.str "quiet",V.str "key",V.str "word",V.str "say",V.str "x",V.str "xx",V.str "wait"]:List V)[n]?=some (.str z):=by
 match n,h with
 | 0,_ | 1,_ | 2,_ | 3,_ | 4,_ | 5,_ | 6,_ | 7,_ | 8,_=>exact ⟨_,rfl⟩
theorem af2 (T:Txt K mg t):FnOk P w K mg base CX0 1 t.a__law_word t.fd__law_word ["number"] bp0:=by
 refine T.f__law_word.F.ok sc_law_word (fun vs H Q E h=>?_) (fun cdv A outer s H vs Q E hr h=>?_)
 · obtain ⟨n,rfl,_⟩:=h
   rfl
 · obtain ⟨n,rfl,q⟩:=h
   refine ⟨_,(@a03 _ _ _ _ _ (@a27 _ _ 1 _ _ _ _ sc_law_word.nd rfl (by walk_at "o") (@a07 _ _ _ _) (by rfl) (by walk_at "o"))
    (@a03 _ _ _ _ _ (@a67 _ _ _ _ _ _ _ _ (@a29 _ _ _ _ _ _ _ _ a68 (@a31 _ _ _ _ _ _ _ _ a62 (pv 0) (@a02 _ _ _ _)) (@a02 _ _ _ _) (nomark _)) (@a08 _ _ _ (@a40 _ _ _ _ (@a37 _ _ _ _ _ _ _ (a35 K) (@a19 _ _ _ _ (@a00 _ _ _ _ _ (@a07 _ _ _ _) (@a00 _ _ _ _ _ (@a07 _ _ _ _) (@a00 _ _ _ _ _ (@a07 _ _ _ _) (@a00 _ _ _ _ _ (@a07 _ _ _ _) (@a00 _ _ _ _ _ (@a07 _ _ _ _) (@a00 _ _ _ _ _ (@a07 _ _ _ _) (@a00 _ _ _ _ _ (@a07 _ _ _ _) (@a00 _ _ _ _ _ (@a07 _ _ _ _) (@a00 _ _ _ _ _ (@a07 _ _ _ _) (@a01 _) (by rfl)) (by rfl)) (by rfl)) (by rfl)) (by rfl)) (by rfl)) (by rfl)) (by rfl)) (by rfl))) (@a31 _ _ _ _ _ _ _ _ a62 (@a31 _ _ _ _ _ _ _ _ ae7 (pv 0) (@a02 _ _ _ _)) (@a02 _ _ _ _)) (fun _ _=>rfl)))) (@a42 _))
    (@a03 _ _ _ _ _ (@a67 _ _ _ _ _ _ _ _ (@a29 _ _ _ _ _ _ _ _ a68 (@a31 _ _ _ _ _ _ _ _ a62 (@a31 _ _ _ _ _ _ _ _ ae7 (pv 0) (@a02 _ _ _ _)) (@a02 _ _ _ _)) (@a02 _ _ _ _) (nomark _)) (@a08 _ _ _ (@a40 _ _ _ _ (@a37 _ _ _ _ _ _ _ af4 (pv 1) (@a31 _ _ _ _ _ _ _ _ a62 (pv 0) (@a02 _ _ _ _)) (fun _ _=>rfl)))) (@a42 _))
    (@a08 _ _ _ (@a40 _ _ _ _ (@a31 _ _ _ _ _ _ _ _ a34 (@a37 _ _ _ _ _ _ _ af4 (pv 1) (@a31 _ _ _ _ _ _ _ _ a62 (pv 0) (@a02 _ _ _ _)) (fun _ _=>rfl)) (@a37 _ _ _ _ _ _ _ af4 (pv 1) (@a31 _ _ _ _ _ _ _ _ a62 (@a31 _ _ _ _ _ _ _ _ ae7 (pv 0) (@a02 _ _ _ _)) (@a02 _ _ _ _)) (fun _ _=>rfl)))))))),?_⟩
   walk_at "go"
   have hlt:∀ {m:Nat},m<26→∃ c,atI (Str.ofString "abcdefghijklmnopqrstuvwxyz").cps.toList (m:Int)=some c:=fun {m} h=>by
    have hl:(Str.ofString "abcdefghijklmnopqrstuvwxyz").cps.toList.length=26:=by decide +kernel
    exact ⟨_,a04 (List.getElem?_eq_getElem (by rw [hl]; exact h))⟩
   by_cases h5:(n:Int) % 6=5
   · rw [if_pos (decide_eq_true h5)]
     walk_at "run"
     intro l H1 f1 s1 e1
     walk_at "run"
     obtain ⟨m,hm⟩:∃ m:Nat,(n:Int) / 6 % 9=(m:Int):=⟨n / 6 % 9,by omega⟩
     rw [hm]
     obtain ⟨z,hz⟩:=wset (n:=m) (by omega)
     exact a61 (SqL.of e1) (a04 (j:=m) hz) (q z H1 s1)
   · rw [if_neg (by simp [h5])]
     walk_at "run"
     obtain ⟨m,hm⟩:∃ m:Nat,(n:Int) % 26=(m:Int):=⟨n % 26,by omega⟩
     obtain ⟨m2,hm2⟩:∃ m:Nat,(n:Int) / 52 % 26=(m:Int):=⟨n / 52 % 26,by omega⟩
     obtain ⟨c,hc⟩:=hlt (m:=m) (by omega)
     obtain ⟨c2,hc2⟩:=hlt (m:=m2) (by omega)
     by_cases h2:(n:Int) / 26 % 2=0
     · rw [if_pos (decide_eq_true h2)]
       walk_at "run"
       rw [hm]
       exact ⟨_,_,c,rfl,rfl,by decide +kernel,hc,q _ H (Same.refl _)⟩
     · rw [if_neg (by simp [h2])]
       walk_at "run"
       rw [hm]
       refine ⟨_,_,c,rfl,rfl,by decide +kernel,hc,?_⟩
       walk_at "run"
       rw [hm2]
       refine ⟨_,_,c2,rfl,rfl,by decide +kernel,hc2,?_⟩
       exact ⟨by have h1:(⟨#[c]⟩:Str).length=1:=rfl; have h2:(⟨#[c2]⟩:Str).length=1:=rfl; rw [h1,h2]; decide,q _ H (Same.refl _)⟩
theorem nmA {H:Hp}{a:Addr}{n:Int}(h:H a=some (.tup [.str "number",.int n])):(Ex.num n).tr.At H (.ref a) []:=ao2 h ag9 bi3
theorem bxA {H:Hp}{a:Addr}{n:Str}(h:H a=some (.tup [.str "box",.str n])):(Ex.box n).tr.At H (.ref a) []:=ao2 h ag9 ag9
theorem twA {H:Hp}{a:Addr}{k:Bool}{x y:Ex}{u v:V}(h:H a=some (.tup [.str (bw6 k),u,v])) (hx:x.tr.At H u []) (hy:y.tr.At H v []):(Ex.two k x y).tr.At H (.ref a) []:=by
 simp only [Ex.tr,Tr.At,Tr.Ats]
 exact ⟨a,_,rfl,h,_,_,[],[],rfl,rfl,⟨rfl,rfl⟩,_,_,[],[],rfl,rfl,hx,_,_,[],[],rfl,rfl,hy,rfl,rfl⟩
theorem cpA {H:Hp}{a:Addr}{k:Bool}{x y:Ex}{u v:V}(h:H a=some (.tup [.str (bw7 k),u,v])) (hx:x.tr.At H u []) (hy:y.tr.At H v []):(Cd.cmp k x y).tr.At H (.ref a) []:=by
 simp only [Cd.tr,Tr.At,Tr.Ats]
 exact ⟨a,_,rfl,h,_,_,[],[],rfl,rfl,⟨rfl,rfl⟩,_,_,[],[],rfl,rfl,hx,_,_,[],[],rfl,rfl,hy,rfl,rfl⟩
theorem ntA {H:Hp}{a:Addr}{x:Cd}{u:V}(h:H a=some (.tup [.str "not",u])) (hx:x.tr.At H u []):(Cd.nt x).tr.At H (.ref a) []:=by
 simp only [Cd.tr,Tr.At,Tr.Ats]
 exact ⟨a,_,rfl,h,_,_,[],[],rfl,rfl,⟨rfl,rfl⟩,_,_,[],[],rfl,rfl,hx,rfl,rfl⟩
theorem btA {H:Hp}{a:Addr}{x y:Cd}{u v:V}(h:H a=some (.tup [.str "both",u,v])) (hx:x.tr.At H u []) (hy:y.tr.At H v []):(Cd.both x y).tr.At H (.ref a) []:=by
 simp only [Cd.tr,Tr.At,Tr.Ats]
 exact ⟨a,_,rfl,h,_,_,[],[],rfl,rfl,⟨rfl,rfl⟩,_,_,[],[],rfl,rfl,hx,_,_,[],[],rfl,rfl,hy,rfl,rfl⟩
theorem atS {t:Tr}{H H':Hp}{v:V}(h:t.At H v []) (s:Same H H'):t.At H' v []:=h.mono (s.keep _)
def XpA (G:Hp) (v:V):Prop:=∃ e:Ex,e.tr.At G v []∧e.tr.h≤3
def CdA (G:Hp) (v:V):Prop:=∃ c:Cd,c.tr.At G v []∧c.tr.h≤6
theorem XpA.same {G G':Hp}{v:V}(h:XpA G v) (s:Same G G'):XpA G' v:=by
 obtain ⟨e,h1,h2⟩:=h
 exact ⟨e,atS h1 s,h2⟩
def bp1 (K:PySem.W.Frag):Sp:=fun vs H Q _=>∃ (d bl:Addr) (ds:List Nat) (bn:List Str) (p:Addr→Prop),vs=[.ref d,.ref bl]∧H d=some (.lst (ae4 ds))∧ds.length=4∧(∀ k,ds[0]?=some k→k<5)∧BxAt H bl bn∧Ex_ p H∧∀ v H',Same H H'→XpA (woP p H') v→Q v H'
theorem ab3 (T:Txt K mg t):FnOk P w K mg base CX0 1 t.a__law_expression t.fd__law_expression ["d","boxes"] (bp1 K):=by
 refine T.f__law_expression.F.ok sc_law_expression (fun vs H Q E h=>?_) (fun cdv A outer s H vs Q E hr h=>?_)
 · obtain ⟨d,bl,ds,bn,p,rfl,_⟩:=h
   rfl
 · obtain ⟨d,bl,ds,bn,p,rfl,hd,hl,hk,hb,hp,q⟩:=h
   refine ⟨_,(@a03 _ _ _ _ _ (@a27 _ _ 2 _ _ _ _ sc_law_expression.nd rfl (by walk_at "o") (@a05 _ _ _ _ _ (@a00 _ _ _ _ _ (@a07 _ _ _ _) (@a00 _ _ _ _ _ (@a37 _ _ _ _ _ _ _ (a35 K) (pv 0) (@a02 _ _ _ _) (fun _ _=>rfl)) (@a01 _) (by rfl)) (by rfl))) (by rfl) (by walk_at "o"))
    (@a03 _ _ _ _ _ (@a27 _ _ 3 _ _ _ _ sc_law_expression.nd rfl (by walk_at "o") (@a05 _ _ _ _ _ (@a00 _ _ _ _ _ (@a07 _ _ _ _) (@a00 _ _ _ _ _ (@a37 _ _ _ _ _ _ _ (a35 K) (pv 0) (@a02 _ _ _ _) (fun _ _=>rfl)) (@a01 _) (by rfl)) (by rfl))) (by rfl) (by walk_at "o"))
    (@a91 _ _ _ _ _ (@a67 _ _ _ _ _ _ _ _ (@a29 _ _ _ _ _ _ _ _ (ad5 K (by exact hr.units)) (pv 1) (@a19 _ _ _ _ (@a01 _)) (nomark _)) (@a08 _ _ _ (@a27 _ _ 3 _ _ _ _ sc_law_expression.nd rfl (by walk_at "o") (@a05 _ _ _ _ _ (@a00 _ _ _ _ _ (@a07 _ _ _ _) (@a00 _ _ _ _ _ (@a37 _ _ _ _ _ _ _ (a38 K) (@a37 _ _ _ _ _ _ _ (a35 K) (pv 1) (@a31 _ _ _ _ _ _ _ _ a62 (@a37 _ _ _ _ _ _ _ (a35 K) (pv 0) (@a02 _ _ _ _) (fun _ _=>rfl)) (@a39 _ _ _ _ _ _ _ _ _ (a65 K) (by rfl) T.z_len a80 (@a00 _ _ _ _ _ (pv 1) (@a01 _) (by rfl)) (by decide) (by decide) (by rfl) (by rfl))) (fun _ _=>rfl)) (@a02 _ _ _ _) (fun _ _=>rfl)) (@a01 _) (by rfl)) (by rfl))) (by rfl) (by walk_at "o"))) (@a42 _))
    (@a03 _ _ _ _ _ (@a27 _ _ 4 _ _ _ _ sc_law_expression.nd rfl (by walk_at "o") (@a19 _ _ _ _ (@a00 _ _ _ _ _ (pv 2) (@a00 _ _ _ _ _ (pv 3) (@a00 _ _ _ _ _ (@a05 _ _ _ _ _ (@a00 _ _ _ _ _ (@a07 _ _ _ _) (@a00 _ _ _ _ _ (pv 3) (@a00 _ _ _ _ _ (pv 2) (@a01 _) (by rfl)) (by rfl)) (by rfl))) (@a00 _ _ _ _ _ (@a05 _ _ _ _ _ (@a00 _ _ _ _ _ (@a07 _ _ _ _) (@a00 _ _ _ _ _ (pv 3) (@a00 _ _ _ _ _ (pv 2) (@a01 _) (by rfl)) (by rfl)) (by rfl))) (@a00 _ _ _ _ _ (@a05 _ _ _ _ _ (@a00 _ _ _ _ _ (@a07 _ _ _ _) (@a00 _ _ _ _ _ (@a05 _ _ _ _ _ (@a00 _ _ _ _ _ (@a07 _ _ _ _) (@a00 _ _ _ _ _ (pv 2) (@a00 _ _ _ _ _ (pv 3) (@a01 _) (by rfl)) (by rfl)) (by rfl))) (@a00 _ _ _ _ _ (pv 3) (@a01 _) (by rfl)) (by rfl)) (by rfl))) (@a01 _) (by rfl)) (by rfl)) (by rfl)) (by rfl)) (by rfl))) (by rfl) (by walk_at "o"))
    (@a08 _ _ _ (@a40 _ _ _ _ (@a37 _ _ _ _ _ _ _ (a35 K) (pv 4) (@a37 _ _ _ _ _ _ _ (a35 K) (pv 0) (@a02 _ _ _ _) (fun _ _=>rfl)) (fun _ _=>rfl)))))))),?_⟩
   have sl:(1000000:Nat)≤sizeLine:=le_line (Nat.le_refl _)
   obtain ⟨d0,d1,d2,d3,rfl⟩:∃ a b c e,ds=[a,b,c,e]:=by
    match ds,hl with
    | [a,b,c,e],_=>exact ⟨a,b,c,e,rfl⟩
   have hk0:=hk d0 rfl
   walk_at "go"
   refine a61 (SqL.of hd) (a04 (j:=1) rfl) ?_
   walk_at "run"
   intro t1 H1 f1 s1 e1
   walk_at "run"
   refine a61 (SqL.of (s1 _ _ hd)) (a04 (j:=3) rfl) ?_
   walk_at "run"
   intro t2 H2 f2 s2 e2
   walk_at "run"
   have s12:=s1.trans s2
   have w:∀ {Hk Hm:Hp}{a:Addr}{o:HO},Same H Hk→Hk a=none→Hm a=some o→woP p Hm a=some o:=fun s f e=>by rw [wpG ((hp.same s).fr f)]; exact e
   obtain ⟨bus,eb,hbE,hbl⟩:=id hb
   refine ah6 (fun σ' H'=>∃ (v3:V) (x3:Ex),σ'=[some (.ref d),some (.ref bl),some (.ref t1),some v3,none]∧Same H2 H'∧x3.tr.At (woP p H') v3 []∧x3.tr.h≤1) ?_ ?_
   · walk_at "run"
     intro n1 H3 f3 s3 e3
     have eb3:=(s12.trans s3) _ _ eb
     refine ak0 (SqL.of eb3) (SqL.of e3) ?_
     cases hbu:bus with
     | nil =>
       subst hbu
       refine ⟨false,rfl,?_⟩
       rw [if_neg Bool.false_ne_true]
       walk_at "run"
       exact ⟨_,.num _,rfl,s3,nmA (w (s1) f2 (s3 _ _ e2)),by simp [Ex.tr,Tr.h,Tr.hs]⟩
     | cons b0 bus' =>
       have hbne:0<bus.length:=by rw [hbu]; simp
       refine ⟨true,rfl,?_⟩
       rw [if_pos rfl]
       walk_at "run"
       refine a61 (SqL.of ((s12.trans s3) _ _ hd)) (a04 (j:=2) rfl) ?_
       walk_at "run"
       refine a90 (SqL.of eb3) ?_
       obtain ⟨m,hm,hml⟩:∃ m:Nat,((d2:Nat):Int) % ((bus.length:Nat):Int)=(m:Int)∧m<bus.length:=⟨d2 % bus.length,by omega,Nat.mod_lt _ hbne⟩
       obtain ⟨bv,hbv⟩:∃ v,bus[m]?=some v:=⟨_,List.getElem?_eq_getElem hml⟩
       obtain ⟨nn,hnn⟩:∃ n,bn[m]?=some n:=⟨_,List.getElem?_eq_getElem (by rw [← hbE.1]; exact hml)⟩
       obtain ⟨ba,br,rfl,eba⟩:=hbE.2 m _ _ hbv hnn
       refine i_rI (show (0:Int)<((bus.length:Nat):Int) by omega) ?_
       show rIxL K _ (.int (((d2:Nat):Int) % ((bus.length:Nat):Int))) _ _
       rw [hm]
       refine a61 (SqL.of eb3) (a04 (j:=m) hbv) ?_
       walk_at "run"
       refine a52 (SqT.of ((s12.trans s3) _ _ eba)) (a04 (j:=0) rfl) ?_
       walk_at "run"
       intro n4 H4 f4 s4 e4
       walk_at "run"
       exact ⟨_,.box nn,rfl,s3.trans s4,bxA (w (s12.trans s3) f4 e4),by simp [Ex.tr,Tr.h,Tr.hs]⟩
   rintro σ' H3 ⟨v3,x3,rfl,s3,h3,hh3⟩
   walk_at "run"
   have s13:=s12.trans s3
   have h1:(Ex.num d1).tr.At (woP p H1) (.ref t1) []:=nmA (w (Same.refl _) f1 e1)
   have hh1:(Ex.num d1).tr.h=1:=by simp [Ex.tr,Tr.h,Tr.hs]
   intro t4 H4 f4 s4 e4
   walk_at "run"
   intro t5 H5 f5 s5 e5
   walk_at "run"
   intro t6 H6 f6 s6 e6
   walk_at "run"
   intro t7 H7 f7 s7 e7
   walk_at "run"
   intro l8 H8 f8 s8 e8
   walk_at "run"
   have s48:=s4.trans (s5.trans (s6.trans (s7.trans s8)))
   have s18:=s13.trans s48
   refine a61 (SqL.of (s18 _ _ hd)) (a04 (j:=0) rfl) ?_
   have a1:=atS h1 (wpS (p:=p) (s2.trans (s3.trans s48)))
   have a3:=atS h3 (wpS (p:=p) s48)
   have hs3:Tr.hs [x3.tr,(Ex.num d1).tr]≤1:=by simp only [Tr.hs]; omega
   have A4:(Ex.two true x3 (.num d1)).tr.At (woP p H8) (.ref t4) []:=twA (w s13 f4 ((s5.trans (s6.trans (s7.trans s8))) _ _ e4)) a3 a1
   have A5:(Ex.two false x3 (.num d1)).tr.At (woP p H8) (.ref t5) []:=twA (w (s13.trans s4) f5 ((s6.trans (s7.trans s8)) _ _ e5)) a3 a1
   have A6:(Ex.two false (.num d1) x3).tr.At (woP p H8) (.ref t6) []:=twA (w (s13.trans (s4.trans s5)) f6 ((s7.trans s8) _ _ e6)) a1 a3
   have A7:(Ex.two true (.two false (.num d1) x3) x3).tr.At (woP p H8) (.ref t7) []:=twA (w (s13.trans (s4.trans (s5.trans s6))) f7 (s8 _ _ e7)) A6 a3
   have fin:∀ {v:V}{x:Ex},x.tr.At (woP p H8) v []→x.tr.h≤3→Q v H8:=fun {v x} h hh=>q v H8 s18 ⟨x,h,hh⟩
   have hk5:d0=0∨d0=1∨d0=2∨d0=3∨d0=4:=by omega
   rcases hk5 with rfl | rfl | rfl | rfl | rfl
   · exact a61 (SqL.of e8) (a04 (j:=0) rfl) (fin a1 (by omega))
   · exact a61 (SqL.of e8) (a04 (j:=1) rfl) (fin a3 (by omega))
   · exact a61 (SqL.of e8) (a04 (j:=2) rfl) (fin A4 (by simp only [Ex.tr,Tr.h,Tr.hs] at *; omega))
   · exact a61 (SqL.of e8) (a04 (j:=3) rfl) (fin A5 (by simp only [Ex.tr,Tr.h,Tr.hs] at *; omega))
   · exact a61 (SqL.of e8) (a04 (j:=4) rfl) (fin A7 (by simp only [Ex.tr,Tr.h,Tr.hs] at *; omega))
def bf8 (K:PySem.W.Frag):Sp:=fun vs H Q _=>∃ (d bl:Addr) (ds:List Nat) (bn:List Str) (p:Addr→Prop),vs=[.ref d,.ref bl]∧H d=some (.lst (ae4 ds))∧ds.length=9∧(∀ k,ds[0]?=some k→k<4)∧(∀ k,ds[1]?=some k→k<5)∧(∀ k,ds[5]?=some k→k<5)∧BxAt H bl bn∧Ex_ p H∧∀ v H',Same H H'→CdA (woP p H') v→Q v H'
theorem at9 {us:List V}{k m:Nat}:cutV us (some (k:Int)) (some (m:Int))=(us.take m).drop k:=by
 unfold cutV
 have h1:HT.sIx us.length us.length (some (m:Int))=min m us.length:=by
  unfold HT.sIx
  simp only
  split <;> omega
 rw [h1,HT.sIx_nat,List.drop_take]
 by_cases h:k≤us.length
 · rw [Nat.min_eq_left (show k≤us.length from h)]
   rcases Nat.le_total m us.length with h2 | h2
   · rw [Nat.min_eq_left h2]
   · rw [Nat.min_eq_right h2,List.take_of_length_le (by rw [List.length_drop]; omega),List.take_of_length_le (by rw [List.length_drop]; omega)]
 · rw [Nat.min_eq_right (show us.length≤k by omega),List.drop_of_length_le (Nat.le_refl _),List.drop_of_length_le (show us.length≤k by omega)]
   simp
theorem c51 {us:List V}:cutV us (some (1:Int)) (some (5:Int))=(us.take 5).drop 1:=at9 (k:=1) (m:=5)
theorem c52 {us:List V}:cutV us (some (5:Int)) (some (9:Int))=(us.take 9).drop 5:=at9 (k:=5) (m:=9)
theorem c53 {us:List V}:cutV us none (some (9:Int))=us.take 9:=a92 (k:=9)
theorem ai3 (T:Txt K mg t):FnOk P w K mg base CX0 2 t.a__law_condition t.fd__law_condition ["d","boxes"] (bf8 K):=by
 have G__law_expression:=ab3 (P:=P) (w:=w) (base:=base) T
 refine T.f__law_condition.F.ok sc_law_condition (fun vs H Q E h=>?_) (fun cdv A outer s H vs Q E hr h=>?_)
 · obtain ⟨d,bl,ds,bn,p,rfl,_⟩:=h
   rfl
 · obtain ⟨d,bl,ds,bn,p,rfl,hd,hl,hk0,hk1,hk5,hb,hp,q⟩:=h
   refine ⟨_,(@a03 _ _ _ _ _ (@a27 _ _ 2 _ _ _ _ sc_law_condition.nd rfl (by walk_at "o") (@a32 _ _ _ _ _ _ _ _ _ _ _ _ _ _ _ _ G__law_expression (hr.mono (by omega)) rfl T.f__law_expression.m T.f__law_expression.F.kp T.f__law_expression.b .nil a60 (@a00 _ _ _ _ _ (@a44 _ _ _ _ _ _ _ _ _ _ (a47 K) (pv 0) (@a51 _ _ _ (@a02 _ _ _ _)) (@a51 _ _ _ (@a02 _ _ _ _))) (@a00 _ _ _ _ _ (pv 1) (@a01 _) (by rfl)) (by rfl)) (by decide) (by rfl) (by rfl)) (by rfl) (by walk_at "o"))
    (@a03 _ _ _ _ _ (@a27 _ _ 3 _ _ _ _ sc_law_condition.nd rfl (by walk_at "o") (@a32 _ _ _ _ _ _ _ _ _ _ _ _ _ _ _ _ G__law_expression (hr.mono (by omega)) rfl T.f__law_expression.m T.f__law_expression.F.kp T.f__law_expression.b .nil a60 (@a00 _ _ _ _ _ (@a44 _ _ _ _ _ _ _ _ _ _ (a47 K) (pv 0) (@a51 _ _ _ (@a02 _ _ _ _)) (@a51 _ _ _ (@a02 _ _ _ _))) (@a00 _ _ _ _ _ (pv 1) (@a01 _) (by rfl)) (by rfl)) (by decide) (by rfl) (by rfl)) (by rfl) (by walk_at "o"))
    (@a03 _ _ _ _ _ (@a27 _ _ 4 _ _ _ _ sc_law_condition.nd rfl (by walk_at "o") (@a05 _ _ _ _ _ (@a00 _ _ _ _ _ (@a07 _ _ _ _) (@a00 _ _ _ _ _ (pv 2) (@a00 _ _ _ _ _ (pv 3) (@a01 _) (by rfl)) (by rfl)) (by rfl))) (by rfl) (by walk_at "o"))
    (@a91 _ _ _ _ _ (@a67 _ _ _ _ _ _ _ _ (@a29 _ _ _ _ _ _ _ _ a68 (@a31 _ _ _ _ _ _ _ _ a62 (@a37 _ _ _ _ _ _ _ (a35 K) (pv 0) (@a02 _ _ _ _) (fun _ _=>rfl)) (@a02 _ _ _ _)) (@a02 _ _ _ _) (nomark _)) (@a08 _ _ _ (@a27 _ _ 4 _ _ _ _ sc_law_condition.nd rfl (by walk_at "o") (@a05 _ _ _ _ _ (@a00 _ _ _ _ _ (@a07 _ _ _ _) (@a00 _ _ _ _ _ (pv 2) (@a00 _ _ _ _ _ (pv 3) (@a01 _) (by rfl)) (by rfl)) (by rfl))) (by rfl) (by walk_at "o"))) (@a42 _))
    (@a08 _ _ _ (@a40 _ _ _ _ (@a37 _ _ _ _ _ _ _ (a35 K) (@a19 _ _ _ _ (@a00 _ _ _ _ _ (pv 4) (@a00 _ _ _ _ _ (pv 4) (@a00 _ _ _ _ _ (@a05 _ _ _ _ _ (@a00 _ _ _ _ _ (@a07 _ _ _ _) (@a00 _ _ _ _ _ (pv 4) (@a01 _) (by rfl)) (by rfl))) (@a00 _ _ _ _ _ (@a05 _ _ _ _ _ (@a00 _ _ _ _ _ (@a07 _ _ _ _) (@a00 _ _ _ _ _ (@a05 _ _ _ _ _ (@a00 _ _ _ _ _ (@a07 _ _ _ _) (@a00 _ _ _ _ _ (@a05 _ _ _ _ _ (@a00 _ _ _ _ _ (@a07 _ _ _ _) (@a00 _ _ _ _ _ (pv 3) (@a00 _ _ _ _ _ (@a05 _ _ _ _ _ (@a00 _ _ _ _ _ (@a07 _ _ _ _) (@a00 _ _ _ _ _ (@a02 _ _ _ _) (@a01 _) (by rfl)) (by rfl))) (@a01 _) (by rfl)) (by rfl)) (by rfl))) (@a01 _) (by rfl)) (by rfl))) (@a00 _ _ _ _ _ (pv 4) (@a01 _) (by rfl)) (by rfl)) (by rfl))) (@a01 _) (by rfl)) (by rfl)) (by rfl)) (by rfl))) (@a37 _ _ _ _ _ _ _ (a35 K) (pv 0) (@a02 _ _ _ _) (fun _ _=>rfl)) (fun _ _=>rfl)))))))),?_⟩
   have sl:(1000000:Nat)≤sizeLine:=le_line (Nat.le_refl _)
   obtain ⟨d0,d1,d2,d3,d4,d5,d6,d7,d8,rfl⟩:∃ a b c e f g h i j,ds=[a,b,c,e,f,g,h,i,j]:=by
    match ds,hl with
    | [a,b,c,e,f,g,h,i,j],_=>exact ⟨a,b,c,e,f,g,h,i,j,rfl⟩
   have hk0:=hk0 d0 rfl
   have hk1:=hk1 d1 rfl
   have hk5:=hk5 d5 rfl
   walk_at "go"
   refine aa2 (SqL.of hd) ?_
   rw [c51]
   intro l1 H1 f1 s1 e1
   walk_at "run"
   refine ⟨l1,bl,[d1,d2,d3,d4],bn,p,rfl,e1,rfl,fun k hk=>by cases hk; exact hk1,hb.same s1,hp.same s1,fun v2 H2 s2 hx2=>?_⟩
   walk_at "run"
   have s12:=s1.trans s2
   refine aa2 (SqL.of (s12 _ _ hd)) ?_
   rw [c52]
   intro l3 H3 f3 s3 e3
   walk_at "run"
   have s13:=s12.trans s3
   refine ⟨l3,bl,[d5,d6,d7,d8],bn,p,rfl,e3,rfl,fun k hk=>by cases hk; exact hk5,hb.same s13,hp.same s13,fun v4 H4 s4 hx4=>?_⟩
   walk_at "run"
   have s14:=s13.trans s4
   obtain ⟨x,hx,hxh⟩:=hx2.same (wpS (p:=p) (s3.trans s4))
   obtain ⟨y,hy,hyh⟩:=hx4
   have w:∀ {Hk Hm:Hp}{a:Addr}{o:HO},Same H Hk→Hk a=none→Hm a=some o→woP p Hm a=some o:=fun s f e=>by rw [wpG ((hp.same s).fr f)]; exact e
   intro t5 H5 f5 s5 e5
   walk_at "run"
   have s15:=s14.trans s5
   refine ah6 (fun σ' H'=>∃ (v6:V) (b:Bool),σ'=[some (.ref d),some (.ref bl),some v2,some v4,some v6]∧Same H5 H'∧(Cd.cmp b x y).tr.At (woP p H') v6 []) ?_ ?_
   · walk_at "run"
     refine a61 (SqL.of (s15 _ _ hd)) (a04 (j:=0) rfl) ?_
     walk_at "run"
     by_cases h1:((d0:Nat):Int) % 2=1
     · refine a55 h1 ?_
       walk_at "run"
       intro t6 H6 f6 s6 e6
       walk_at "run"
       exact ⟨_,false,rfl,s6,cpA (w s15 f6 e6) (atS hx (wpS (s5.trans s6))) (atS hy (wpS (s5.trans s6)))⟩
     · refine a43 h1 ?_
       walk_at "run"
       exact ⟨_,true,rfl,Same.refl _,cpA (w s14 f5 e5) (atS hx (wpS s5)) (atS hy (wpS s5))⟩
   rintro σ' H6 ⟨v6,b,rfl,s6,h6⟩
   walk_at "run"
   have s16:=s15.trans s6
   intro t7 H7 f7 s7 e7
   walk_at "run"
   intro t8 H8 f8 s8 e8
   walk_at "run"
   intro t9 H9 f9 s9 e9
   walk_at "run"
   intro t10 H10 f10 s10 e10
   walk_at "run"
   intro t11 H11 f11 s11 e11
   walk_at "run"
   intro l12 H12 f12 s12' e12
   walk_at "run"
   have u12:=s7.trans (s8.trans (s9.trans (s10.trans (s11.trans s12'))))
   have a6:=atS h6 (wpS (p:=p) u12)
   have ay:=atS hy (wpS (p:=p) ((s5.trans s6).trans u12))
   have A7:(Cd.nt (.cmp b x y)).tr.At (woP p H12) (.ref t7) []:=ntA (w s16 f7 ((s8.trans (s9.trans (s10.trans (s11.trans s12')))) _ _ e7)) a6
   have A8:(Ex.num 1).tr.At (woP p H12) (.ref t8) []:=nmA (w (s16.trans s7) f8 ((s9.trans (s10.trans (s11.trans s12'))) _ _ e8))
   have A9:(Cd.cmp false y (.num 1)).tr.At (woP p H12) (.ref t9) []:=cpA (w (s16.trans (s7.trans s8)) f9 ((s10.trans (s11.trans s12')) _ _ e9)) ay A8
   have A10:(Cd.nt (.cmp false y (.num 1))).tr.At (woP p H12) (.ref t10) []:=ntA (w (s16.trans (s7.trans (s8.trans s9))) f10 ((s11.trans s12') _ _ e10)) A9
   have A11:(Cd.both (.nt (.cmp false y (.num 1))) (.cmp b x y)).tr.At (woP p H12) (.ref t11) []:=btA (w (s16.trans (s7.trans (s8.trans (s9.trans s10)))) f11 (s12' _ _ e11)) A10 a6
   refine a61 (SqL.of ((s16.trans u12) _ _ hd)) (a04 (j:=0) rfl) ?_
   have fin:∀ {v:V}{c:Cd},c.tr.At (woP p H12) v []→c.tr.h≤6→Q v H12:=fun {v c} h hh=>q v H12 (s16.trans u12) ⟨c,h,hh⟩
   have hk4:d0=0∨d0=1∨d0=2∨d0=3:=by omega
   rcases hk4 with rfl | rfl | rfl | rfl
   · exact a61 (SqL.of e12) (a04 (j:=0) rfl) (fin a6 (by simp only [Cd.tr,Tr.h,Tr.hs] at *; omega))
   · exact a61 (SqL.of e12) (a04 (j:=1) rfl) (fin a6 (by simp only [Cd.tr,Tr.h,Tr.hs] at *; omega))
   · exact a61 (SqL.of e12) (a04 (j:=2) rfl) (fin A7 (by simp only [Cd.tr,Tr.h,Tr.hs] at *; omega))
   · exact a61 (SqL.of e12) (a04 (j:=3) rfl) (fin A11 (by simp only [Cd.tr,Ex.tr,Tr.h,Tr.hs] at *; omega))
theorem b27:∀ p:List Pt,Tr.hs (p.map Pt.tr)≤0
 | []=>by simp [Tr.hs]
 | p::ps=>by
   have:=b27 ps
   simp only [List.map_cons,Tr.hs]
   cases p <;> simp only [Pt.tr,Tr.h] <;> omega
def psS (s:Stm):List (List Pt):=(allS s).flatMap a30
def psB (b:List Stm):List (List Pt):=(allB b).flatMap a30
structure Sk (tn:List Str) (m:Nat) (s:Stm):Prop where
 k:∀ x∈allS s,x.kd tn
 p:∀ q∈psS s,PatK q
 l:(allS s).length≤6*m
 h:s.tr.h≤20+10*m
 w:(L2.wordsOf (psS s)).length≤m
 n:(psS s).length≤6*m
structure Bk (tn:List Str) (m:Nat) (b:List Stm):Prop where
 k:∀ x∈allB b,x.kd tn
 p:∀ q∈psB b,PatK q
 l:(allB b).length≤6*m
 h:Tr.hs (Stm.trs b)≤20+10*m
 w:(L2.wordsOf (psB b)).length≤m
 n:(psB b).length≤6*m
theorem a72 (a b:List (List Pt)):L2.wordsOf (a++b)=L2.wordsOf a++L2.wordsOf b:=List.filterMap_append
theorem ax2 (a b:List Stm):psB (a++b)=psB a++psB b:=by unfold psB; rw [a93,List.flatMap_append]
theorem b05:∀ a b:List Stm,Tr.hs (Stm.trs (a++b))=max (Tr.hs (Stm.trs a)) (Tr.hs (Stm.trs b))
 | [],b=>by simp [Stm.trs,Tr.hs]
 | s::a,b=>by simp only [List.cons_append,Stm.trs,Tr.hs,b05 a b]; omega
theorem Bk.nil {tn:List Str}:Bk tn 0 []:=⟨fun x h=>(by cases h),fun q h=>(by cases h),Nat.zero_le _,Nat.zero_le _,Nat.zero_le _,Nat.zero_le _⟩
theorem Bk.app {tn:List Str}{m n:Nat}{a b:List Stm}(h:Bk tn m a) (g:Bk tn n b):Bk tn (m+n) (a++b):=by
 have h1:=h.l; have h2:=g.l; have h3:=h.h; have h4:=g.h; have h5:=h.w; have h6:=g.w; have h7:=h.n; have h8:=g.n
 refine ⟨fun x hx=>?_,fun q hq=>?_,?_,?_,?_,?_⟩
 · rw [a93] at hx
   exact (List.mem_append.mp hx).elim (h.k x) (g.k x)
 · rw [ax2] at hq
   exact (List.mem_append.mp hq).elim (h.p q) (g.p q)
 · rw [a93,List.length_append]; omega
 · rw [b05]; omega
 · rw [ax2,a72,List.length_append]; omega
 · rw [ax2,List.length_append]; omega
theorem Sk.b {tn:List Str}{m:Nat}{s:Stm}(h:Sk tn m s):Bk tn m [s]:=by
 have e:allB [s]=allS s:=by simp [allB]
 have e2:psB [s]=psS s:=by unfold psB psS; rw [e]
 refine ⟨by rw [e]; exact h.k,by rw [e2]; exact h.p,by rw [e]; exact h.l,?_,by rw [e2]; exact h.w,by rw [e2]; exact h.n⟩
 have:=h.h
 simp only [Stm.trs,Tr.hs]; omega
theorem Sk.mono {tn:List Str}{m n:Nat}{s:Stm}(h:Sk tn m s) (hn:m≤n):Sk tn n s:=by
 have h1:=h.l; have h3:=h.h; have h5:=h.w; have h7:=h.n
 exact ⟨h.k,h.p,by omega,by omega,by omega,by omega⟩
theorem Bk.mono {tn:List Str}{m n:Nat}{s:List Stm}(h:Bk tn m s) (hn:m≤n):Bk tn n s:=by
 have h1:=h.l; have h3:=h.h; have h5:=h.w; have h7:=h.n
 exact ⟨h.k,h.p,by omega,by omega,by omega,by omega⟩
theorem Sk.plain {tn:List Str}{ps:List Pt}(hk:(Stm.plain ps).kd tn):Sk tn 1 (.plain ps):=by
 have hh:=b27 ps
 refine ⟨fun x hx=>?_,fun q hq=>?_,by simp [allS],?_,by simp [psS,allS,a30,L2.wordsOf],by simp [psS,allS,a30]⟩
 · rw [List.mem_singleton.mp (show x∈[Stm.plain ps] from hx)]; exact hk
 · simp [psS,allS,a30] at hq
 · simp only [Stm.tr,Tr.h]; omega
theorem Sk.put {tn:List Str}{n:Str}{e:Ex}(h:e.tr.h≤3):Sk tn 1 (.put n e):=by
 refine ⟨fun x hx=>?_,fun q hq=>?_,by simp [allS],?_,by simp [psS,allS,a30,L2.wordsOf],by simp [psS,allS,a30]⟩
 · rw [List.mem_singleton.mp (show x∈[Stm.put n e] from hx)]; trivial
 · simp [psS,allS,a30] at hq
 · simp only [Stm.tr,Tr.h,Tr.hs]; omega
theorem Sk.test {tn:List Str}{m n:Nat}{c:Cd}{x y:List Stm}(hx:Bk tn m x) (hy:Bk tn n y) (hc:c.tr.h≤6):Sk tn (m+n+1) (.test c x y):=by
 have h1:=hx.l; have h2:=hy.l; have h3:=hx.h; have h4:=hy.h; have h5:=hx.w; have h6:=hy.w; have h7:=hx.n; have h8:=hy.n
 have e:allS (.test c x y)=.test c x y::(allB x++allB y):=rfl
 have e2:psS (.test c x y)=psB x++psB y:=by unfold psS psB; rw [e]; simp [a30]
 refine ⟨fun z hz=>?_,fun q hq=>?_,?_,?_,?_,?_⟩
 · rw [e] at hz
   rcases List.mem_cons.mp hz with rfl | hz
   · trivial
   · exact (List.mem_append.mp hz).elim (hx.k z) (hy.k z)
 · rw [e2] at hq
   exact (List.mem_append.mp hq).elim (hx.p q) (hy.p q)
 · rw [e,List.length_cons,List.length_append]; omega
 · simp only [Stm.tr,Tr.h,Tr.hs]; omega
 · rw [e2,a72,List.length_append]; omega
 · rw [e2,List.length_append]; omega
theorem Sk.loop {tn:List Str}{m n:Nat}{x:List Stm}(hx:Bk tn m x) (hl:(allB x).length+1≤6*n) (hm:m≤n) (hh:Tr.hs (Stm.trs x)+2≤20+10*n):Sk tn n (.loop x):=by
 have h1:=hx.l; have h3:=hx.h; have h5:=hx.w; have h7:=hx.n
 have e:allS (.loop x)=.loop x::allB x:=rfl
 have e2:psS (.loop x)=psB x:=by unfold psS psB; rw [e]; simp [a30]
 refine ⟨fun z hz=>?_,fun q hq=>?_,?_,?_,?_,?_⟩
 · rw [e] at hz
   rcases List.mem_cons.mp hz with rfl | hz
   · trivial
   · exact hx.k z hz
 · rw [e2] at hq; exact hx.p q hq
 · rw [e,List.length_cons]; omega
 · simp only [Stm.tr,Tr.h,Tr.hs]; omega
 · rw [e2]; omega
 · rw [e2]; omega
theorem au0 {H:Hp}{a:Addr}{ps:List Pt}(e:H a=some (.tup (ps.map Pt.v))):SAt H (.ref a) (.plain ps):=by
 have:∀ ps:List Pt,Tr.Ats H (ps.map Pt.tr) (ps.map Pt.v) []:=fun ps=>by
  induction ps with
  | nil=>simp [Tr.Ats]
  | cons p ps ih =>
    simp only [List.map_cons,Tr.Ats]
    refine ⟨_,_,[],[],rfl,rfl,?_,ih⟩
    cases p with
    | s z=>simp [Pt.tr,Pt.v,Tr.At]
    | i z=>simp [Pt.tr,Pt.v,Tr.At]
 refine ⟨[],?_⟩
 simp only [Stm.tr,Tr.At]
 exact ⟨a,_,rfl,e,this ps⟩
def Ent (G:Hp) (v:V) (s:Stm) (g l:Bool) (d:Int):Prop:=∃ a sv,v=.ref a∧G a=some (.tup [sv,.bl g,.bl l,.int d])∧SAt G sv s
theorem Ent.same {G G':Hp}{v:V}{s:Stm}{g l:Bool}{d:Int}(h:Ent G v s g l d) (m:Same G G'):Ent G' v s g l d:=by
 obtain ⟨a,sv,rfl,e,hs⟩:=h
 exact ⟨a,sv,rfl,m _ _ e,hs.same m⟩
theorem Sk.wait0 {tn:List Str}{n:Int}:Sk tn 1 (.wait n []):=by
 refine ⟨fun x hx=>?_,fun q hq=>?_,by simp [allS,allR],?_,by simp [psS,allS,allR,a30,L2.wordsOf],by simp [psS,allS,allR,a30]⟩
 · rw [List.mem_singleton.mp (show x∈[Stm.wait n []] from hx)]; exact Nat.zero_le _
 · simp [psS,allS,allR,a30] at hq
 · simp [Stm.tr,Br.trs,Tr.h,Tr.hs]
theorem bj5 {H:Hp}{a:Addr}{n:Str}{e:Ex}{u:V}(h:H a=some (.tup [.str "put",.str n,u])) (h1:e.tr.At H u []):SAt H (.ref a) (.put n e):=by
 refine ⟨[],?_⟩
 simp only [Stm.tr,Tr.At,Tr.Ats]
 exact ⟨a,_,rfl,h,_,_,[],[],rfl,rfl,⟨rfl,rfl⟩,_,_,[],[],rfl,rfl,⟨rfl,rfl⟩,u,_,[],[],rfl,rfl,h1,rfl,rfl⟩
theorem ap2 {cs:List Str}{i:Nat}{x:Str}(h:cs[i]?=some x):(a33 cs)[i]?=some (.str x):=by
 unfold a33
 rw [List.getElem?_map,h]; rfl
def ba5 (K:PySem.W.Frag):Sp:=fun vs H Q _=>∃ (c:Int) (bl cl:Addr) (bn cs:List Str) (most:Nat) (tn:List Str) (p:Addr→Prop),vs=[.int c,.ref bl,.ref cl,.int (most:Nat)]∧BxAt H bl bn∧H cl=some (.lst (a33 cs))∧cs.length≤3∧(∀ x∈cs,x∈tn)∧Ex_ p H∧∀ v s g l d H',Same H H'→Ent (woP p H') v s g l d→Sk tn 1 s→Q v H'
theorem ap3 (T:Txt K mg t):FnOk P w K mg base CX0 4 t.a__law_simple t.fd__law_simple ["cell","boxes","calls","most"] (ba5 K):=by
 have G__law_drawn:=a71 (P:=P) (w:=w) (base:=base) T
 have G__law_expression:=ab3 (P:=P) (w:=w) (base:=base) T
 have G__law_word:=af2 (P:=P) (w:=w) (base:=base) T
 refine T.f__law_simple.F.ok sc_law_simple (fun vs H Q E h=>?_) (fun cdv A outer s H vs Q E hr h=>?_)
 · obtain ⟨c,bl,cl,bn,cs,most,tn,p,rfl,_⟩:=h
   rfl
 · obtain ⟨c,bl,cl,bn,cs,most,tn,p,rfl,hb,hcl,hc3,hct,hp,q⟩:=h
   refine ⟨_,(@a03 _ _ _ _ _ (@aj0 _ _ _ _ _ _ (@a32 _ _ _ _ _ _ _ _ _ _ _ _ _ _ _ _ G__law_drawn (hr.mono (by omega)) rfl T.f__law_drawn.m T.f__law_drawn.F.kp T.f__law_drawn.b .nil a60 (@a00 _ _ _ _ _ (pv 0) (@a00 _ _ _ _ _ (@a19 _ _ _ _ (@a00 _ _ _ _ _ (@a02 _ _ _ _) (@a00 _ _ _ _ _ (@a02 _ _ _ _) (@a00 _ _ _ _ _ (@a02 _ _ _ _) (@a00 _ _ _ _ _ (@a02 _ _ _ _) (@a00 _ _ _ _ _ (@a02 _ _ _ _) (@a00 _ _ _ _ _ (@a02 _ _ _ _) (@a00 _ _ _ _ _ (@a02 _ _ _ _) (@a01 _) (by rfl)) (by rfl)) (by rfl)) (by rfl)) (by rfl)) (by rfl)) (by rfl))) (@a01 _) (by rfl)) (by rfl)) (by decide) (by rfl) (by rfl)) (ag8 K (n:=7) rfl (a20 (a09 (i:=4) sc_law_simple.nd rfl (by walk_at "o")) (a20 (a09 (i:=5) sc_law_simple.nd rfl (by walk_at "o")) (a20 (a09 (i:=6) sc_law_simple.nd rfl (by walk_at "o")) (a20 (a09 (i:=7) sc_law_simple.nd rfl (by walk_at "o")) (a20 (a09 (i:=8) sc_law_simple.nd rfl (by walk_at "o")) (a20 (a09 (i:=9) sc_law_simple.nd rfl (by walk_at "o")) (a20 (a09 (i:=10) sc_law_simple.nd rfl (by walk_at "o")) (@a85 _))))))))) (by rfl) (by rfl) (by rfl))
    (@a03 _ _ _ _ _ (@a27 _ _ 11 _ _ _ _ sc_law_simple.nd rfl (by walk_at "o") (@a32 _ _ _ _ _ _ _ _ _ _ _ _ _ _ _ _ G__law_word (hr.mono (by omega)) rfl T.f__law_word.m T.f__law_word.F.kp T.f__law_word.b .nil a60 (@a00 _ _ _ _ _ (pv 5) (@a01 _) (by rfl)) (by decide) (by rfl) (by rfl)) (by rfl) (by walk_at "o"))
    (@a03 _ _ _ _ _ (@a67 _ _ _ _ _ _ _ _ (@PW.pt _ _ _ (@av1 _ _ _ _ _ _ _ (@a29 _ _ _ _ _ _ _ _ a68 (pv 4) (@a02 _ _ _ _) (nomark _)) (@av1 _ _ _ _ _ _ _ (@PW.pt _ _ _ (@b33 _ _ _ _ _ _ _ (@a29 _ _ _ _ _ _ _ _ a68 (pv 4) (@a02 _ _ _ _) (nomark _)) (@av0 _ _ _ _ (@a29 _ _ _ _ _ _ _ _ (as3 K (by exact hr.units)) (pv 1) (@a19 _ _ _ _ (@a01 _)) (nomark _))))) (@aq3 _ _ _ _ (@PW.pt _ _ _ (@b33 _ _ _ _ _ _ _ (@a29 _ _ _ _ _ _ _ _ a68 (pv 4) (@a02 _ _ _ _) (nomark _)) (@av0 _ _ _ _ (@a29 _ _ _ _ _ _ _ _ (as3 K (by exact hr.units)) (pv 2) (@a19 _ _ _ _ (@a01 _)) (nomark _))))))))) (@a08 _ _ _ (@a40 _ _ _ _ (@a05 _ _ _ _ _ (@a00 _ _ _ _ _ (@a05 _ _ _ _ _ (@a00 _ _ _ _ _ (@a07 _ _ _ _) (@a00 _ _ _ _ _ (pv 6) (@a00 _ _ _ _ _ (pv 11) (@a01 _) (by rfl)) (by rfl)) (by rfl))) (@a00 _ _ _ _ _ (@aa1 _ _ _ _) (@a00 _ _ _ _ _ (@aa1 _ _ _ _) (@a00 _ _ _ _ _ (@a02 _ _ _ _) (@a01 _) (by rfl)) (by rfl)) (by rfl)) (by rfl))))) (@a42 _))
    (@a03 _ _ _ _ _ (@a67 _ _ _ _ _ _ _ _ (@PW.pt _ _ _ (@av1 _ _ _ _ _ _ _ (@a29 _ _ _ _ _ _ _ _ a68 (pv 4) (@a02 _ _ _ _) (nomark _)) (@aq3 _ _ _ _ (@PW.pt _ _ _ (@b33 _ _ _ _ _ _ _ (@a29 _ _ _ _ _ _ _ _ a68 (pv 4) (@a02 _ _ _ _) (nomark _)) (@av0 _ _ _ _ (@a29 _ _ _ _ _ _ _ _ (ad5 K (by exact hr.units)) (pv 1) (@a19 _ _ _ _ (@a01 _)) (nomark _)))))))) (@a03 _ _ _ _ _ (@a27 _ _ 12 _ _ _ _ sc_law_simple.nd rfl (by walk_at "o") (@a37 _ _ _ _ _ _ _ (a38 K) (@a37 _ _ _ _ _ _ _ (a35 K) (pv 1) (@a31 _ _ _ _ _ _ _ _ a62 (pv 5) (@a39 _ _ _ _ _ _ _ _ _ (a65 K) (by rfl) T.z_len a80 (@a00 _ _ _ _ _ (pv 1) (@a01 _) (by rfl)) (by decide) (by decide) (by rfl) (by rfl))) (fun _ _=>rfl)) (@a02 _ _ _ _) (fun _ _=>rfl)) (by rfl) (by walk_at "o"))
     (@a08 _ _ _ (@a40 _ _ _ _ (@a05 _ _ _ _ _ (@a00 _ _ _ _ _ (@a05 _ _ _ _ _ (@a00 _ _ _ _ _ (@a07 _ _ _ _) (@a00 _ _ _ _ _ (pv 12) (@a00 _ _ _ _ _ (@a32 _ _ _ _ _ _ _ _ _ _ _ _ _ _ _ _ G__law_expression (hr.mono (by omega)) rfl T.f__law_expression.m T.f__law_expression.F.kp T.f__law_expression.b .nil a60 (@a00 _ _ _ _ _ (@a19 _ _ _ _ (@a00 _ _ _ _ _ (pv 7) (@a00 _ _ _ _ _ (pv 8) (@a00 _ _ _ _ _ (pv 9) (@a00 _ _ _ _ _ (pv 10) (@a01 _) (by rfl)) (by rfl)) (by rfl)) (by rfl))) (@a00 _ _ _ _ _ (pv 1) (@a01 _) (by rfl)) (by rfl)) (by decide) (by rfl) (by rfl)) (@a01 _) (by rfl)) (by rfl)) (by rfl))) (@a00 _ _ _ _ _ (@aa1 _ _ _ _) (@a00 _ _ _ _ _ (@aa1 _ _ _ _) (@a00 _ _ _ _ _ (@a02 _ _ _ _) (@a01 _) (by rfl)) (by rfl)) (by rfl)) (by rfl)))))) (@a42 _))
    (@a03 _ _ _ _ _ (@a67 _ _ _ _ _ _ _ _ (@a29 _ _ _ _ _ _ _ _ a68 (pv 4) (@a02 _ _ _ _) (nomark _)) (@a08 _ _ _ (@a40 _ _ _ _ (@a05 _ _ _ _ _ (@a00 _ _ _ _ _ (@a05 _ _ _ _ _ (@a00 _ _ _ _ _ (@a07 _ _ _ _) (@a01 _) (by rfl))) (@a00 _ _ _ _ _ (@aa1 _ _ _ _) (@a00 _ _ _ _ _ (@aa1 _ _ _ _) (@a00 _ _ _ _ _ (@a02 _ _ _ _) (@a01 _) (by rfl)) (by rfl)) (by rfl)) (by rfl))))) (@a42 _))
    (@a03 _ _ _ _ _ (@a67 _ _ _ _ _ _ _ _ (@a29 _ _ _ _ _ _ _ _ a68 (pv 4) (@a02 _ _ _ _) (nomark _)) (@a08 _ _ _ (@a40 _ _ _ _ (@a05 _ _ _ _ _ (@a00 _ _ _ _ _ (@a05 _ _ _ _ _ (@a00 _ _ _ _ _ (@a07 _ _ _ _) (@a01 _) (by rfl))) (@a00 _ _ _ _ _ (@aa1 _ _ _ _) (@a00 _ _ _ _ _ (@aa1 _ _ _ _) (@a00 _ _ _ _ _ (@a02 _ _ _ _) (@a01 _) (by rfl)) (by rfl)) (by rfl)) (by rfl))))) (@a42 _))
    (@a03 _ _ _ _ _ (@a67 _ _ _ _ _ _ _ _ (@a29 _ _ _ _ _ _ _ _ a68 (pv 4) (@a02 _ _ _ _) (nomark _)) (@a08 _ _ _ (@a40 _ _ _ _ (@a05 _ _ _ _ _ (@a00 _ _ _ _ _ (@a05 _ _ _ _ _ (@a00 _ _ _ _ _ (@a07 _ _ _ _) (@a00 _ _ _ _ _ (@a37 _ _ _ _ _ _ _ (a35 K) (pv 2) (@a31 _ _ _ _ _ _ _ _ a62 (pv 5) (@a39 _ _ _ _ _ _ _ _ _ (a65 K) (by rfl) T.z_len a80 (@a00 _ _ _ _ _ (pv 2) (@a01 _) (by rfl)) (by decide) (by decide) (by rfl) (by rfl))) (fun _ _=>rfl)) (@a01 _) (by rfl)) (by rfl))) (@a00 _ _ _ _ _ (@aa1 _ _ _ _) (@a00 _ _ _ _ _ (@aa1 _ _ _ _) (@a00 _ _ _ _ _ (@a02 _ _ _ _) (@a01 _) (by rfl)) (by rfl)) (by rfl)) (by rfl))))) (@a42 _))
    (@a03 _ _ _ _ _ (@a67 _ _ _ _ _ _ _ _ (@a29 _ _ _ _ _ _ _ _ a68 (pv 4) (@a02 _ _ _ _) (nomark _)) (@a08 _ _ _ (@a40 _ _ _ _ (@a05 _ _ _ _ _ (@a00 _ _ _ _ _ (@a37 _ _ _ _ _ _ _ (a35 K) (@a19 _ _ _ _ (@a00 _ _ _ _ _ (@a05 _ _ _ _ _ (@a00 _ _ _ _ _ (@a07 _ _ _ _) (@a01 _) (by rfl))) (@a00 _ _ _ _ _ (@a05 _ _ _ _ _ (@a00 _ _ _ _ _ (@a07 _ _ _ _) (@a01 _) (by rfl))) (@a01 _) (by rfl)) (by rfl))) (@a31 _ _ _ _ _ _ _ _ a62 (pv 6) (@a02 _ _ _ _)) (fun _ _=>rfl)) (@a00 _ _ _ _ _ (@aa1 _ _ _ _) (@a00 _ _ _ _ _ (@aa1 _ _ _ _) (@a00 _ _ _ _ _ (@a02 _ _ _ _) (@a01 _) (by rfl)) (by rfl)) (by rfl)) (by rfl))))) (@a42 _))
    (@a03 _ _ _ _ _ (@a67 _ _ _ _ _ _ _ _ (@a29 _ _ _ _ _ _ _ _ a68 (pv 4) (@a02 _ _ _ _) (nomark _)) (@a08 _ _ _ (@a40 _ _ _ _ (@a05 _ _ _ _ _ (@a00 _ _ _ _ _ (@a05 _ _ _ _ _ (@a00 _ _ _ _ _ (@a07 _ _ _ _) (@a00 _ _ _ _ _ (@a31 _ _ _ _ _ _ _ _ a62 (pv 6) (@a31 _ _ _ _ _ _ _ _ a34 (pv 3) (@a02 _ _ _ _))) (@a00 _ _ _ _ _ (@a19 _ _ _ _ (@a01 _)) (@a01 _) (by rfl)) (by rfl)) (by rfl))) (@a00 _ _ _ _ _ (@aa1 _ _ _ _) (@a00 _ _ _ _ _ (@aa1 _ _ _ _) (@a00 _ _ _ _ _ (@a02 _ _ _ _) (@a01 _) (by rfl)) (by rfl)) (by rfl)) (by rfl))))) (@a42 _))
    (@a08 _ _ _ (@a40 _ _ _ _ (@a05 _ _ _ _ _ (@a00 _ _ _ _ _ (@a05 _ _ _ _ _ (@a00 _ _ _ _ _ (@a07 _ _ _ _) (@a00 _ _ _ _ _ (pv 11) (@a01 _) (by rfl)) (by rfl))) (@a00 _ _ _ _ _ (@aa1 _ _ _ _) (@a00 _ _ _ _ _ (@aa1 _ _ _ _) (@a00 _ _ _ _ _ (@a02 _ _ _ _) (@a01 _) (by rfl)) (by rfl)) (by rfl)) (by rfl)))))))))))))),?_⟩
   have sl:(1000000:Nat)≤sizeLine:=le_line (Nat.le_refl _)
   walk_at "go"
   intro l1 H1 f1 s1 e1
   walk_at "run"
   refine ⟨c,l1,[11,1352,10,5,10,2,10],rfl,e1,fun s hs=>?_,by decide,fun l2 ds H2 f2 s2 e2 hdl hdd=>?_⟩
   · simp only [List.mem_cons,List.not_mem_nil,or_false] at hs
     omega
   obtain ⟨kind,number,line,d0,d1,d2,d3,rfl⟩:∃ a b c e f g h,ds=[a,b,c,e,f,g,h]:=by
    match ds,hdl with
    | [a,b,c,e,f,g,h],_=>exact ⟨a,b,c,e,f,g,h,rfl⟩
   have hkind:kind<11:=hdd 0 _ _ rfl rfl
   have hline:line<10:=hdd 2 _ _ rfl rfl
   have hd0:d0<5:=hdd 3 _ _ rfl rfl
   clear hdd
   walk_at "run"
   have e2:H2 l2=some (.lst [.int (kind:Nat),.int (number:Nat),.int (line:Nat),.int (d0:Nat),.int (d1:Nat),.int (d2:Nat),.int (d3:Nat)]):=e2
   refine am4 (SqL.of e2) rfl ?_
   walk_at "run"
   refine ⟨number,rfl,fun word H3 s3=>?_⟩
   walk_at "run"
   have s13:=s1.trans (s2.trans s3)
   have ent:∀ {H' J1 J2:Hp}{a1 a2:Addr}{ps:List Pt}{g l:Bool}{d:Int},Same H H'→H' a1=none→Same H' J1→J1 a1=some (.tup (ps.map Pt.v))→J1 a2=none→Same J1 J2→J2 a2=some (.tup [.ref a1,.bl g,.bl l,.int d])→(Stm.plain ps).kd tn→Q (.ref a2) J2:=fun {H' J1 J2 a1 a2 ps g l d} s f1 m1 j1 f2 m2 j2 hk=>by
    have p1:=(hp.same s).fr f1
    have p2:=(hp.same (s.trans m1)).fr f2
    exact q _ _ g l d J2 (s.trans (m1.trans m2)) ⟨a2,.ref a1,rfl,by rw [wpG p2]; exact j2,au0 (by rw [wpG p1]; exact m2 _ _ j1)⟩ (Sk.plain hk)
   obtain ⟨bus,eb,hbE,hbl⟩:=id hb
   have hbn:bus=[]↔bn=[]:=⟨fun z=>List.eq_nil_of_length_eq_zero (by rw [← hbE.1,z]; rfl),fun z=>List.eq_nil_of_length_eq_zero (by rw [hbE.1,z]; rfl)⟩
   have hcn:a33 cs=[]↔cs=[]:=by unfold a33; exact List.map_eq_nil_iff
   rename_i N hN
   have rest:∀ {H':Hp},Same H3 H'→kind≠3→(kind=4→bn≠[])→(kind=7→cs≠[])→N [some (.int c),some (.ref bl),some (.ref cl),some (.int (most:Nat)),some (.int (kind:Nat)),some (.int (number:Nat)),some (.int (line:Nat)),some (.int (d0:Nat)),some (.int (d1:Nat)),some (.int (d2:Nat)),some (.int (d3:Nat)),some (.str word),none] H':=fun {H'} sH k3 k4 k7=>by
    refine hN _ _ ?_
    clear hN
    have s1H:=s13.trans sH
    walk_at "run"
    rename_i N2 hN2
    have rest2:∀ {H':Hp},Same H H'→kind≠4→N2 [some (.int c),some (.ref bl),some (.ref cl),some (.int (most:Nat)),some (.int (kind:Nat)),some (.int (number:Nat)),some (.int (line:Nat)),some (.int (d0:Nat)),some (.int (d1:Nat)),some (.int (d2:Nat)),some (.int (d3:Nat)),some (.str word),none] H':=fun {H'} sH k4=>by
     refine hN2 _ _ ?_
     clear hN2
     walk_at "run"
     by_cases k5:kind=5
     · refine a55 (show (kind:Int)=5 by omega) ?_
       walk_at "run"
       intro a1 J1 g1 m1 j1
       walk_at "run"
       intro a2 J2 g2 m2 j2
       exact ent (ps:=[.s "again"]) sH g1 m1 j1 g2 m2 j2 (.inr (.inr (.inr (.inl rfl))))
     refine a43 (show ¬ (kind:Int)=5 by omega) ?_
     walk_at "run"
     by_cases k6:kind=6
     · refine a55 (show (kind:Int)=6 by omega) ?_
       walk_at "run"
       intro a1 J1 g1 m1 j1
       walk_at "run"
       intro a2 J2 g2 m2 j2
       exact ent (ps:=[.s "leave"]) sH g1 m1 j1 g2 m2 j2 (.inr (.inr (.inr (.inr (.inl rfl)))))
     refine a43 (show ¬ (kind:Int)=6 by omega) ?_
     walk_at "run"
     by_cases k7':kind=7
     · refine a55 (show (kind:Int)=7 by omega) ?_
       walk_at "run"
       refine a90 (SqL.of (sH _ _ hcl)) ?_
       have hcne:0<(a33 cs).length:=by
        cases hz:cs with
        | nil=>exact absurd hz (k7 k7')
        | cons _ _=>simp [a33]
       have hcl2:(a33 cs).length=cs.length:=List.length_map _
       obtain ⟨m,hm,hml⟩:∃ m:Nat,((number:Nat):Int) % (((a33 cs).length:Nat):Int)=(m:Int)∧m<cs.length:=⟨number % (a33 cs).length,by omega,by rw [← hcl2]; exact Nat.mod_lt _ hcne⟩
       refine i_rI (show (0:Int)<(((a33 cs).length:Nat):Int) by omega) ?_
       show rIxL K _ (.int (((number:Nat):Int) % (((a33 cs).length:Nat):Int))) _ _
       rw [hm]
       refine a61 (SqL.of (sH _ _ hcl)) (a04 (j:=m) (ap2 (List.getElem?_eq_getElem hml))) ?_
       walk_at "run"
       intro a1 J1 g1 m1 j1
       walk_at "run"
       intro a2 J2 g2 m2 j2
       exact ent (ps:=[.s "call",.s cs[m]]) sH g1 m1 j1 g2 m2 j2 (.inr (.inr (.inl ⟨_,rfl,hct _ (List.getElem_mem hml)⟩)))
     refine a43 (show ¬ (kind:Int)=7 by omega) ?_
     walk_at "run"
     by_cases k8:kind=8
     · refine a55 (show (kind:Int)=8 by omega) ?_
       walk_at "run"
       intro a1 J1 g1 m1 j1
       walk_at "run"
       intro a2 J2 g2 m2 j2
       walk_at "run"
       intro a3 J3 g3 m3 j3
       walk_at "run"
       have h01:(line:Int) % 2=0∨(line:Int) % 2=1:=by omega
       rcases h01 with h01 | h01
       · rw [h01]
         refine a61 (SqL.of j3) (a04 (j:=0) rfl) ?_
         walk_at "run"
         intro a4 J4 g4 m4 j4
         exact ent (ps:=[.s "back"]) sH g1 (m1.trans (m2.trans m3)) ((m2.trans m3) _ _ j1) g4 m4 j4 (.inr (.inr (.inr (.inr (.inr (.inl rfl))))))
       · rw [h01]
         refine a61 (SqL.of j3) (a04 (j:=1) rfl) ?_
         walk_at "run"
         intro a4 J4 g4 m4 j4
         exact ent (ps:=[.s "stop"]) (sH.trans m1) g2 (m2.trans m3) (m3 _ _ j2) g4 m4 j4 (.inr (.inr (.inr (.inr (.inr (.inr rfl))))))
     refine a43 (show ¬ (kind:Int)=8 by omega) ?_
     walk_at "run"
     by_cases k9:kind=9
     · refine a55 (show (kind:Int)=9 by omega) ?_
       walk_at "run"
       intro a1 J1 g1 m1 j1
       walk_at "run"
       intro a2 J2 g2 m2 j2
       walk_at "run"
       intro a3 J3 g3 m3 j3
       have p1:=(hp.same sH).fr g1
       have p2:=(hp.same (sH.trans m1)).fr g2
       have p3:=(hp.same (sH.trans (m1.trans m2))).fr g3
       exact q _ (.wait _ []) false false 1 J3 (sH.trans (m1.trans (m2.trans m3))) ⟨a3,.ref a2,rfl,by rw [wpG p3]; exact j3,sat_wait.mpr ⟨a2,a1,[],rfl,by rw [wpG p2]; exact m3 _ _ j2,by rw [wpG p1]; exact (m2.trans m3) _ _ j1,Each.nil⟩⟩ Sk.wait0
     refine a43 (show ¬ (kind:Int)=9 by omega) ?_
     walk_at "run"
     intro a1 J1 g1 m1 j1
     walk_at "run"
     intro a2 J2 g2 m2 j2
     exact ent (ps:=[.s "say",.s word]) sH g1 m1 j1 g2 m2 j2 (.inl ⟨_,rfl⟩)
    clear hN2
    by_cases k4':kind=4
    · rw [if_pos (decide_eq_true (by omega)),if_pos rfl]
      have hbnn:=k4 k4'
      walk_at "run"
      refine a90 (SqL.of (s1H _ _ eb)) ?_
      have hbne:0<bus.length:=by
       cases hz:bus with
       | nil=>exact absurd (hbn.mp hz) hbnn
       | cons _ _=>simp
      obtain ⟨m,hm,hml⟩:∃ m:Nat,((number:Nat):Int) % ((bus.length:Nat):Int)=(m:Int)∧m<bus.length:=⟨number % bus.length,by omega,Nat.mod_lt _ hbne⟩
      obtain ⟨bv,hbv⟩:∃ v,bus[m]?=some v:=⟨_,List.getElem?_eq_getElem hml⟩
      obtain ⟨nn,hnn⟩:∃ n,bn[m]?=some n:=⟨_,List.getElem?_eq_getElem (by rw [← hbE.1]; exact hml)⟩
      obtain ⟨ba,br,rfl,eba⟩:=hbE.2 m _ _ hbv hnn
      refine i_rI (show (0:Int)<((bus.length:Nat):Int) by omega) ?_
      show rIxL K _ (.int (((number:Nat):Int) % ((bus.length:Nat):Int))) _ _
      rw [hm]
      refine a61 (SqL.of (s1H _ _ eb)) (a04 (j:=m) hbv) ?_
      walk_at "run"
      refine a52 (SqT.of (s1H _ _ eba)) (a04 (j:=0) rfl) ?_
      walk_at "run"
      intro n1 G1 g1 m1 j1
      walk_at "run"
      have sG:=s1H.trans m1
      refine ⟨n1,bl,[d0,d1,d2,d3],bn,p,rfl,j1,rfl,fun k hk=>by cases hk; exact hd0,hb.same sG,hp.same sG,fun xv G2 m2 hx=>?_⟩
      walk_at "run"
      intro n3 G3 g3 m3 j3
      walk_at "run"
      intro n4 G4 g4 m4 j4
      obtain ⟨x,hx,hxh⟩:=hx.same (wpS (p:=p) (m3.trans m4))
      have f3:=(hp.same (sG.trans m2)).fr g3
      have f4:=(hp.same (sG.trans (m2.trans m3))).fr g4
      exact q _ (.put nn x) false false 0 G4 (sG.trans (m2.trans (m3.trans m4))) ⟨n4,.ref n3,rfl,by rw [wpG f4]; exact j4,bj5 (by rw [wpG f3]; exact m4 _ _ j3) hx⟩ (Sk.put hxh)
    rw [if_neg (by simp; omega)]
    walk_at "run"
    by_cases k10:kind=10
    · rw [if_pos (decide_eq_true (by omega))]
      walk_at "run"
      intro n0 J0 g0 m0 j0
      refine ak0 (SqL.of ((s1H.trans m0) _ _ eb)) (SqL.of j0) ?_
      by_cases hbnn:bn=[]
      · refine ⟨false,by rw [hbn.mpr hbnn]; rfl,?_⟩
        rw [if_neg Bool.false_ne_true]
        walk_at "run"
        exact rest2 (s1H.trans m0) k4'
      · refine ⟨true,by cases hz:bus with
         | nil=>exact absurd (hbn.mp hz) hbnn
         | cons _ _=>rfl,?_⟩
        rw [if_pos rfl]
        have s1H:=s1H.trans m0
        walk_at "run"
        refine a90 (SqL.of (s1H _ _ eb)) ?_
        have hbne:0<bus.length:=by
         cases hz:bus with
         | nil=>exact absurd (hbn.mp hz) hbnn
         | cons _ _=>simp
        obtain ⟨m,hm,hml⟩:∃ m:Nat,((number:Nat):Int) % ((bus.length:Nat):Int)=(m:Int)∧m<bus.length:=⟨number % bus.length,by omega,Nat.mod_lt _ hbne⟩
        obtain ⟨bv,hbv⟩:∃ v,bus[m]?=some v:=⟨_,List.getElem?_eq_getElem hml⟩
        obtain ⟨nn,hnn⟩:∃ n,bn[m]?=some n:=⟨_,List.getElem?_eq_getElem (by rw [← hbE.1]; exact hml)⟩
        obtain ⟨ba,br,rfl,eba⟩:=hbE.2 m _ _ hbv hnn
        refine i_rI (show (0:Int)<((bus.length:Nat):Int) by omega) ?_
        show rIxL K _ (.int (((number:Nat):Int) % ((bus.length:Nat):Int))) _ _
        rw [hm]
        refine a61 (SqL.of (s1H _ _ eb)) (a04 (j:=m) hbv) ?_
        walk_at "run"
        refine a52 (SqT.of (s1H _ _ eba)) (a04 (j:=0) rfl) ?_
        walk_at "run"
        intro n1 G1 g1 m1 j1
        walk_at "run"
        have sG:=s1H.trans m1
        refine ⟨n1,bl,[d0,d1,d2,d3],bn,p,rfl,j1,rfl,fun k hk=>by cases hk; exact hd0,hb.same sG,hp.same sG,fun xv G2 m2 hx=>?_⟩
        walk_at "run"
        intro n3 G3 g3 m3 j3
        walk_at "run"
        intro n4 G4 g4 m4 j4
        obtain ⟨x,hx,hxh⟩:=hx.same (wpS (p:=p) (m3.trans m4))
        have f3:=(hp.same (sG.trans m2)).fr g3
        have f4:=(hp.same (sG.trans (m2.trans m3))).fr g4
        exact q _ (.put nn x) false false 0 G4 (sG.trans (m2.trans (m3.trans m4))) ⟨n4,.ref n3,rfl,by rw [wpG f4]; exact j4,bj5 (by rw [wpG f3]; exact m4 _ _ j3) hx⟩ (Sk.put hxh)
    · rw [if_neg (by simp; omega),if_neg Bool.false_ne_true]
      walk_at "run"
      exact rest2 s1H k4'
   clear hN
   by_cases k3:kind=3
   · rw [if_pos (decide_eq_true (by omega)),if_pos rfl]
     walk_at "run"
     intro a1 J1 g1 m1 j1
     walk_at "run"
     intro a2 J2 g2 m2 j2
     exact ent (ps:=[.s "hand",.i line,.s word]) s13 g1 m1 j1 g2 m2 j2 (.inr (.inl ⟨_,_,rfl⟩))
   rw [if_neg (by simp; omega)]
   walk_at "run"
   have second:∀ {H':Hp},Same H3 H'→(kind=4→bn≠[])→True:=fun _ _=>trivial
   by_cases k4:kind=4
   · rw [if_pos (decide_eq_true (by omega))]
     walk_at "run"
     intro n1 J0 g0 m0 j0
     refine b68 (SqL.of ((s13.trans m0) _ _ eb)) (SqL.of j0) ?_
     by_cases hbnn:bn=[]
     · refine ⟨true,by rw [hbn.mpr hbnn]; rfl,?_⟩
       rw [if_pos rfl,if_pos rfl]
       walk_at "run"
       intro a1 J1 g1 m1 j1
       walk_at "run"
       intro a2 J2 g2 m2 j2
       exact ent (ps:=[.s "hand",.i line,.s word]) (s13.trans m0) g1 m1 j1 g2 m2 j2 (.inr (.inl ⟨_,_,rfl⟩))
     · refine ⟨false,by cases hz:bus with
        | nil=>exact absurd (hbn.mp hz) hbnn
        | cons _ _=>rfl,?_⟩
       rw [if_neg Bool.false_ne_true]
       walk_at "run"
       rw [if_neg (by simp; omega),if_neg Bool.false_ne_true]
       walk_at "run"
       exact rest m0 k3 (fun _=>hbnn) (fun z=>by omega)
   rw [if_neg (by simp; omega)]
   walk_at "run"
   by_cases k7:kind=7
   · rw [if_pos (decide_eq_true (by omega))]
     walk_at "run"
     intro n1 J0 g0 m0 j0
     refine b68 (SqL.of ((s13.trans m0) _ _ hcl)) (SqL.of j0) ?_
     by_cases hcc:cs=[]
     · refine ⟨true,by rw [hcc]; rfl,?_⟩
       rw [if_pos rfl]
       walk_at "run"
       intro a1 J1 g1 m1 j1
       walk_at "run"
       intro a2 J2 g2 m2 j2
       exact ent (ps:=[.s "hand",.i line,.s word]) (s13.trans m0) g1 m1 j1 g2 m2 j2 (.inr (.inl ⟨_,_,rfl⟩))
     · refine ⟨false,by cases hz:cs with
        | nil=>exact absurd hz hcc
        | cons _ _=>rfl,?_⟩
       rw [if_neg Bool.false_ne_true]
       walk_at "run"
       exact rest m0 k3 (fun z=>absurd z k4) (fun _=>hcc)
   rw [if_neg (by simp; omega),if_neg Bool.false_ne_true]
   walk_at "run"
   exact rest (Same.refl _) k3 (fun z=>absurd z k4) (fun z=>absurd z k7)
structure Ee where
 s:Stm
 g:Bool
 l:Bool
 d:Int
 m:Nat
def EeA (G:Hp) (v:V) (e:Ee):Prop:=Ent G v e.s e.g e.l e.d
theorem EeA.same {G G':Hp}{v:V}{e:Ee}(h:EeA G v e) (m:Same G G'):EeA G' v e:=Ent.same h m
def msum:List Ee→Nat
 | []=>0
 | e::es=>e.m+msum es
theorem ai9:∀ a b:List Ee,msum (a++b)=msum a+msum b
 | [],b=>by simp [msum]
 | x::a,b=>by simp only [List.cons_append,msum,ai9 a b]; omega
def EOk (tn:List Str) (es:List Ee):Prop:=∀ e∈es,Sk tn e.m e.s
theorem EOk.b {tn:List Str}:∀ {es:List Ee},EOk tn es→Bk tn (msum es) (es.map (·.s))
 | [],_=>Bk.nil
 | e::es,h=>by
   have h1:=(h e (by simp)).b.app (EOk.b (es:=es) fun x hx=>h x (by simp [hx]))
   exact h1
theorem ah3 (es:List Ee) (k:Nat):msum (es.take k)+msum (es.drop k)=msum es:=by rw [← ai9,List.take_append_drop]
theorem EOk.take {tn:List Str}{es:List Ee}(h:EOk tn es) (k:Nat):EOk tn (es.take k):=fun e he=>h e (List.mem_of_mem_take he)
theorem EOk.drop {tn:List Str}{es:List Ee}(h:EOk tn es) (k:Nat):EOk tn (es.drop k):=fun e he=>h e (List.mem_of_mem_drop he)
theorem ba6 {H:Hp}{a:Addr}{c:Cd}{x y:List Stm}{u1 u2 u3:V}(h:H a=some (.tup [.str "test",u1,u2,u3])) (h1:c.tr.At H u1 []) (h2:BAt H u2 x) (h3:BAt H u3 y):SAt H (.ref a) (.test c x y):=by
 obtain ⟨f2,h2⟩:=h2
 obtain ⟨f3,h3⟩:=h3
 refine ⟨[]++([]++(f2++(f3++[]))),?_⟩
 simp only [Stm.tr,Tr.At,Tr.Ats] at h2 h3 ⊢
 exact ⟨a,_,rfl,h,_,_,[],_,rfl,rfl,⟨rfl,rfl⟩,u1,_,[],_,rfl,rfl,h1,u2,_,f2,_,rfl,rfl,h2,u3,_,f3,[],rfl,rfl,h3,rfl,rfl⟩
structure SoA (p:Addr→Prop) (tn:List Str) (H:Hp) (so:Addr) (es:List Ee):Prop where
 ex:∃ us,H so=some (.lst us)∧Each (EeA (woP p H)) us es
 ok:EOk tn es
theorem SoA.same {p:Addr→Prop}{tn:List Str}{H H':Hp}{so:Addr}{es:List Ee}(h:SoA p tn H so es) (s:Same H H'):SoA p tn H' so es:=by
 obtain ⟨us,h1,h2⟩:=h.ex
 exact ⟨⟨us,s _ _ h1,h2.mono fun _ _ z=>z.same (wpS s)⟩,h.ok⟩
def bf9 (K:PySem.W.Frag):Sp:=fun vs H Q _=>∃ (so bl:Addr) (c:Int) (bn tn:List Str) (es:List Ee) (p:Addr→Prop),vs=[.ref so,.int c,.ref bl]∧SoA p tn H so es∧es.length≤10∧BxAt H bl bn∧Ex_ p H∧∀ v s H',Same H H'→SAt (woP p H') v s→Sk tn (msum es+1) s→Q v H'
theorem ab4 {p:Addr→Prop}{H:Hp}{us:List V}{es:List Ee}{i:Nat}{v:V}(h:Each (EeA (woP p H)) us es) (hi:us[i]?=some v):∃ e a r,es[i]?=some e∧v=.ref a∧H a=some (.tup (r::[.bl e.g,.bl e.l,.int e.d]))∧SAt (woP p H) r e.s:=by
 obtain ⟨e,he⟩:∃ e,es[i]?=some e:=⟨_,List.getElem?_eq_getElem (by rw [← h.1]; exact (List.getElem?_eq_some_iff.mp hi).1)⟩
 obtain ⟨a,sv,rfl,ea,hs⟩:=h.2 i _ _ hi he
 exact ⟨e,a,sv,he,rfl,wpL _ _ ea,hs⟩
theorem ag4 {K:PySem.W.Frag}{p:Addr→Prop}{H:Hp}{a:Addr}{us:List V}{es:List Ee}{σ:St} {Q:VK}(hz:us.length≤sizeLine) (hp:Ex_ p H) (hl:H a=some (.lst us)) (hE:Each (EeA (woP p H)) us es) (q:∀ l rs H',H l=none→Same H H'→H' l=some (.lst rs)→Each (SAt (woP p H')) rs (es.map (·.s))→Q (.ref l) H'):ac1 (Itl K a) (ae6 0) tNoIf (tOp (rIxT K) (tVar 0) (tC (V.int 0))) 1 [] σ H Q:=by
 refine a73 (xs:=us) hz (fun i acc H'=>H'=H∧acc.length≤i∧Each (SAt (woP p H)) acc ((es.take i).map (·.s))) ⟨rfl,Nat.zero_le _,Each.nil⟩ (fun i acc H' ⟨h1,h2,_⟩=>⟨h2,by rw [h1]; exact SqL.of hl⟩) ?_ ?_
 · rintro i x acc H' hx ⟨rfl,hl2,h3⟩
   obtain ⟨e,b,r,he,rfl,eb,hr⟩:=ab4 hE hx
   walk_at "run"
   refine a52 (SqT.of eb) (a04 (j:=0) rfl) ?_
   refine ⟨rfl,by rw [List.length_append]; simp; omega,?_⟩
   rw [List.take_add_one,he,List.map_append]
   exact h3.snoc hr
 · rintro acc H' ⟨rfl,_,h3⟩ l H1 f1 s1 e1
   rw [hE.1,List.take_of_length_le (Nat.le_refl _)] at h3
   exact q l acc H1 f1 s1 e1 (h3.mono fun _ _ z=>z.same (wpS s1))
theorem aa5 {G:Hp}{l:Addr}{rs:List V}{b:List Stm}(e:G l=some (.lst rs)) (h:Each (SAt G) rs b):BAt G (.ref l) b:=bat_iff.mpr ⟨l,rs,rfl,e,h⟩
theorem ax3 (T:Txt K mg t):FnOk P w K mg base CX0 4 t.a__law_test t.fd__law_test ["some","cell","boxes"] (bf9 K):=by
 have G__law_condition:=ai3 (P:=P) (w:=w) (base:=base) T
 have G__law_drawn:=a71 (P:=P) (w:=w) (base:=base) T
 refine T.f__law_test.F.ok sc_law_test (fun vs H Q E h=>?_) (fun cdv A outer s H vs Q E hr h=>?_)
 · obtain ⟨so,bl,c,bn,tn,es,p,rfl,_⟩:=h
   rfl
 · obtain ⟨so,bl,c,bn,tn,es,p,rfl,hso,hes,hb,hp,q⟩:=h
   refine ⟨_,(@a03 _ _ _ _ _ (@a27 _ _ 3 _ _ _ _ sc_law_test.nd rfl (by walk_at "o") (@a32 _ _ _ _ _ _ _ _ _ _ _ _ _ _ _ _ G__law_drawn (hr.mono (by omega)) rfl T.f__law_drawn.m T.f__law_drawn.F.kp T.f__law_drawn.b .nil a60 (@a00 _ _ _ _ _ (pv 1) (@a00 _ _ _ _ _ (@a19 _ _ _ _ (@a00 _ _ _ _ _ (@a02 _ _ _ _) (@a00 _ _ _ _ _ (@a02 _ _ _ _) (@a00 _ _ _ _ _ (@a02 _ _ _ _) (@a00 _ _ _ _ _ (@a02 _ _ _ _) (@a00 _ _ _ _ _ (@a02 _ _ _ _) (@a00 _ _ _ _ _ (@a02 _ _ _ _) (@a00 _ _ _ _ _ (@a02 _ _ _ _) (@a00 _ _ _ _ _ (@a02 _ _ _ _) (@a00 _ _ _ _ _ (@a02 _ _ _ _) (@a00 _ _ _ _ _ (@a02 _ _ _ _) (@a01 _) (by rfl)) (by rfl)) (by rfl)) (by rfl)) (by rfl)) (by rfl)) (by rfl)) (by rfl)) (by rfl)) (by rfl))) (@a01 _) (by rfl)) (by rfl)) (by decide) (by rfl) (by rfl)) (by rfl) (by walk_at "o"))
    (@a03 _ _ _ _ _ (@a27 _ _ 4 _ _ _ _ sc_law_test.nd rfl (by walk_at "o") (@a31 _ _ _ _ _ _ _ _ a62 (@a37 _ _ _ _ _ _ _ (a35 K) (pv 3) (@a02 _ _ _ _) (fun _ _=>rfl)) (@a31 _ _ _ _ _ _ _ _ a34 (@a39 _ _ _ _ _ _ _ _ _ (a65 K) (by rfl) T.z_len a80 (@a00 _ _ _ _ _ (pv 0) (@a01 _) (by rfl)) (by decide) (by decide) (by rfl) (by rfl)) (@a02 _ _ _ _))) (by rfl) (by walk_at "o"))
    (@a03 _ _ _ _ _ (@a27 _ _ 5 _ _ _ _ sc_law_test.nd rfl (by walk_at "o") (@a19 _ _ _ _ (@a00 _ _ _ _ _ (a98 (Nt:=["entry"]) (Nf:=[]) (caps:=[]) rfl (a45 (sc:=a06 ae0) rfl rfl (by decide +kernel) (by decide +kernel) (by decide +kernel) rfl (by decide +kernel)) (a36 K (@a44 _ _ _ _ _ _ _ _ _ _ (a47 K) (pv 0) (@a59 _) (@a51 _ _ _ (pv 4)))) (fun _ _ _ _ _=>(a09 (i:=0) (show (["entry"]:List Str).Nodup by decide +kernel) rfl (by walk_at "o"))) (fun _ _ _ _ _=>(@a64 _)) (fun _ _ _ _ _=>(@a37 _ _ _ _ _ _ _ (a38 K) (pv 0) (@a02 _ _ _ _) (fun _ _=>rfl)))) (@a00 _ _ _ _ _ (a98 (Nt:=["entry"]) (Nf:=[]) (caps:=[]) rfl (a45 (sc:=a06 ae0) rfl rfl (by decide +kernel) (by decide +kernel) (by decide +kernel) rfl (by decide +kernel)) (a36 K (@a44 _ _ _ _ _ _ _ _ _ _ (a47 K) (pv 0) (@a51 _ _ _ (pv 4)) (@a59 _))) (fun _ _ _ _ _=>(a09 (i:=0) (show (["entry"]:List Str).Nodup by decide +kernel) rfl (by walk_at "o"))) (fun _ _ _ _ _=>(@a64 _)) (fun _ _ _ _ _=>(@a37 _ _ _ _ _ _ _ (a38 K) (pv 0) (@a02 _ _ _ _) (fun _ _=>rfl)))) (@a01 _) (by rfl)) (by rfl))) (by rfl) (by walk_at "o"))
    (@a08 _ _ _ (@a40 _ _ _ _ (@a05 _ _ _ _ _ (@a00 _ _ _ _ _ (@a07 _ _ _ _) (@a00 _ _ _ _ _ (@a32 _ _ _ _ _ _ _ _ _ _ _ _ _ _ _ _ G__law_condition (hr.mono (by omega)) rfl T.f__law_condition.m T.f__law_condition.F.kp T.f__law_condition.b .nil a60 (@a00 _ _ _ _ _ (@a44 _ _ _ _ _ _ _ _ _ _ (a47 K) (pv 3) (@a59 _) (@a51 _ _ _ (@a02 _ _ _ _))) (@a00 _ _ _ _ _ (pv 2) (@a01 _) (by rfl)) (by rfl)) (by decide) (by rfl) (by rfl)) (@a00 _ _ _ _ _ (@a37 _ _ _ _ _ _ _ (a35 K) (pv 5) (@a02 _ _ _ _) (fun _ _=>rfl)) (@a00 _ _ _ _ _ (@a37 _ _ _ _ _ _ _ (a35 K) (pv 5) (@a02 _ _ _ _) (fun _ _=>rfl)) (@a01 _) (by rfl)) (by rfl)) (by rfl)) (by rfl)))))))),?_⟩
   have sl:(1000000:Nat)≤sizeLine:=le_line (Nat.le_refl _)
   obtain ⟨us,e0,hE⟩:=hso.ex
   have hul:=hE.1
   walk_at "go"
   intro l1 H1 f1 s1 e1
   walk_at "run"
   refine ⟨c,l1,[4,5,10,2,10,5,10,2,10,4],rfl,e1,fun s hs=>?_,by decide,fun l2 ds H2 f2 s2 e2 hdl hdd=>?_⟩
   · simp only [List.mem_cons,List.not_mem_nil,or_false] at hs
     omega
   obtain ⟨c0,c1,c2,c3,c4,c5,c6,c7,c8,d9,rfl⟩:∃ a b c e f g h i j k,ds=[a,b,c,e,f,g,h,i,j,k]:=by
    match ds,hdl with
    | [a,b,c,e,f,g,h,i,j,k],_=>exact ⟨a,b,c,e,f,g,h,i,j,k,rfl⟩
   have hd0:c0<4:=hdd 0 _ _ rfl rfl
   have hd1:c1<5:=hdd 1 _ _ rfl rfl
   have hd5:c5<5:=hdd 5 _ _ rfl rfl
   clear hdd
   walk_at "run"
   have s12:=s1.trans s2
   refine a61 (SqL.of e2) (a04 (j:=9) rfl) ?_
   walk_at "run"
   refine a90 (SqL.of (s12 _ _ e0)) ?_
   walk_at "run"
   obtain ⟨m,hm,hml⟩:∃ m:Nat,((d9:Nat):Int) % (((us.length:Nat):Int)+1)=(m:Int)∧m≤us.length:=⟨d9 % (us.length+1),by push_cast; rfl,by have:=Nat.mod_lt d9 (show 0<us.length+1 by omega); omega⟩
   rw [hm]
   refine aa2 (SqL.of (s12 _ _ e0)) ?_
   rw [a92]
   intro l3 H3 f3 s3 e3
   have s13:=s12.trans s3
   refine ⟨l3,rfl,⟨_,SqL.of e3⟩,ag4 (p:=p) (es:=es.take m) (by rw [List.length_take]; omega) (hp.same s13) e3 ((hE.mono fun _ _ z=>z.same (wpS s13)).take m) fun l4 r4 H4 f4 s4 e4 h4=>?_⟩
   walk_at "run"
   have s14:=s13.trans s4
   refine aa2 (SqL.of (s14 _ _ e0)) ?_
   rw [aa0]
   intro l5 H5 f5 s5 e5
   have s15:=s14.trans s5
   refine ⟨l5,rfl,⟨_,SqL.of e5⟩,ag4 (p:=p) (es:=es.drop m) (by rw [List.length_drop]; omega) (hp.same s15) e5 (ab2 (hE.mono fun _ _ z=>z.same (wpS s15)) m) fun l6 r6 H6 f6 s6 e6 h6=>?_⟩
   walk_at "run"
   intro b7 H7 f7 s7 e7
   walk_at "run"
   have s17:=s15.trans (s6.trans s7)
   have s27:Same H2 H7:=s3.trans (s4.trans (s5.trans (s6.trans s7)))
   refine aa2 (SqL.of (s27 _ _ e2)) ?_
   rw [c53]
   intro l8 H8 f8 s8 e8
   walk_at "run"
   have s18:=s17.trans s8
   refine ⟨l8,bl,[c0,c1,c2,c3,c4,c5,c6,c7,c8],bn,p,rfl,e8,rfl,fun k hk=>by cases hk; exact hd0,fun k hk=>by cases hk; exact hd1,fun k hk=>by cases hk; exact hd5,hb.same s18,hp.same s18,fun v9 H9 s9 hc9=>?_⟩
   walk_at "run"
   have s79:=s8.trans s9
   have s19:=s17.trans s79
   refine a61 (SqL.of (s79 _ _ e7)) (a04 (j:=0) rfl) ?_
   walk_at "run"
   refine a61 (SqL.of (s79 _ _ e7)) (a04 (j:=1) rfl) ?_
   walk_at "run"
   intro a10 H10 f10 s10 e10
   walk_at "run"
   have s1x:=s19.trans s10
   have w:∀ {Hk Hm:Hp}{a:Addr}{o:HO},Same H Hk→Hk a=none→Hm a=some o→woP p Hm a=some o:=fun s f e=>by rw [wpG ((hp.same s).fr f)]; exact e
   obtain ⟨cd,hc,hch⟩:=hc9
   have s410:=s5.trans (s6.trans (s7.trans (s79.trans s10)))
   have s610:=s7.trans (s79.trans s10)
   refine q _ (.test cd ((es.take m).map (·.s)) ((es.drop m).map (·.s))) H10 s1x (ba6 (w s19 f10 e10) (atS hc (wpS s10)) (aa5 (w s13 f4 (s410 _ _ e4)) (h4.mono fun _ _ z=>z.same (wpS s410))) (aa5 (w s15 f6 (s610 _ _ e6)) (h6.mono fun _ _ z=>z.same (wpS s610)))) ?_
   have:=Sk.test (hso.ok.take m).b (hso.ok.drop m).b hch
   rwa [ah3] at this
theorem wpQ {p:Addr→Prop}{H H':Hp}{b:Addr}(s:Same H H') (f:H b=none):Same (woP p H) (woP (fun a=>p a∨a=b) H'):=fun a o e=>by
 obtain ⟨h1,h2⟩:=wpT e
 rw [wpG (fun z=>z.elim h1 fun z=>by rw [z,f] at h2; cases h2)]
 exact s _ _ h2
theorem bg0 {H:Hp}{a:Addr}{u v:V}{p:List Pt}{b:List Stm}(h:H a=some (.tup [u,v])) (hp:PAt H u p) (hb:BAt H v b):BrAt H (.ref a) (.mk p b):=⟨a,u,v,rfl,h,hp,hb⟩
theorem af3 {H H':Hp}{v:V}{x:Br}(h:BrAt H v x) (s:Same H H'):BrAt H' v x:=by
 cases x with
 | mk p b =>
   obtain ⟨q,pv,bv,rfl,e,h1,h2⟩:=h
   exact ⟨q,pv,bv,rfl,s _ _ e,h1.same s,h2.same s⟩
theorem ap4 {H:Hp}{a:Addr}{k z:Str}(h:H a=some (.tup [.str k,.str z])):PAt H (.ref a) [.s k,.s z]:=by
 unfold PAt
 exact ao2 h ag9 ag9
theorem ap5 {H:Hp}{a:Addr}{k:Str}{z:Int}(h:H a=some (.tup [.str k,.int z])):PAt H (.ref a) [.s k,.i z]:=by
 unfold PAt
 exact ao2 h ag9 bi3
theorem ba7 {H:Hp}{a:Addr}{k:Str}(h:H a=some (.tup [.str k])):PAt H (.ref a) [.s k]:=by
 unfold PAt
 simp only [List.map_cons,List.map_nil,Pt.tr,Tr.At,Tr.Ats]
 exact ⟨a,_,rfl,h,_,_,[],[],rfl,rfl,⟨rfl,rfl⟩,rfl,rfl⟩
def psR (bs:List Br):List (List Pt):=(allR bs).flatMap a30
def ptsR (bs:List Br):List (List Pt):=bs.map fun | .mk p _=>p
structure Wk (tn:List Str) (m:Nat) (bs:List Br):Prop where
 k:∀ x∈allR bs,x.kd tn
 p:∀ q∈psR bs,PatK q
 l:(allR bs).length≤6*m
 h:Tr.hs (Br.trs bs)≤22+10*m
 w:(L2.wordsOf (psR bs)).length≤m
 n:(psR bs).length≤6*m
theorem Wk.nil {tn:List Str}:Wk tn 0 []:=⟨fun x h=>(by cases h),fun q h=>(by cases h),Nat.zero_le _,Nat.zero_le _,Nat.zero_le _,Nat.zero_le _⟩
theorem ak8 (bs:List Br) (p:List Pt) (b:List Stm):allR (bs++[.mk p b])=allR bs++allB b:=by
 induction bs with
 | nil=>simp [allR]
 | cons x bs ih=>cases x; simp only [List.cons_append,allR,ih,List.append_assoc]
theorem bg1 (bs:List Br) (p:List Pt) (b:List Stm):Tr.hs (Br.trs (bs++[.mk p b]))=max (Tr.hs (Br.trs bs)) (Br.mk p b).tr.h:=by
 induction bs with
 | nil=>simp [Br.trs,Tr.hs]
 | cons x bs ih=>simp only [List.cons_append,Br.trs,Tr.hs,ih]; omega
theorem Wk.snoc {tn:List Str}{m n:Nat}{bs:List Br}{p:List Pt}{b:List Stm}(h:Wk tn m bs) (g:Bk tn n b):Wk tn (m+n) (bs++[.mk p b]):=by
 have h1:=h.l; have h2:=g.l; have h3:=h.h; have h4:=g.h; have h5:=h.w; have h6:=g.w; have h7:=h.n; have h8:=g.n
 have e:psR (bs++[.mk p b])=psR bs++psB b:=by unfold psR psB; rw [ak8,List.flatMap_append]
 refine ⟨fun x hx=>?_,fun q hq=>?_,?_,?_,?_,?_⟩
 · rw [ak8] at hx
   exact (List.mem_append.mp hx).elim (h.k x) (g.k x)
 · rw [e] at hq
   exact (List.mem_append.mp hq).elim (h.p q) (g.p q)
 · rw [ak8,List.length_append]; omega
 · rw [bg1]
   have:=b27 p
   simp only [Br.tr,Tr.h,Tr.hs]
   omega
 · rw [e,a72,List.length_append]; omega
 · rw [e,List.length_append]; omega
theorem Sk.wait {tn:List Str}{m:Nat}{n:Int}{bs:List Br}(h:Wk tn m bs) (hl:bs.length≤4) (hp:∀ q∈ptsR bs,PatK q) (hw:(L2.wordsOf (ptsR bs)).length≤1):Sk tn (m+1) (.wait n bs):=by
 have h1:=h.l; have h3:=h.h; have h5:=h.w; have h7:=h.n
 have e:allS (.wait n bs)=.wait n bs::allR bs:=rfl
 have e2:psS (.wait n bs)=ptsR bs++psR bs:=by unfold psS psR ptsR; rw [e,List.flatMap_cons]; rfl
 refine ⟨fun z hz=>?_,fun q hq=>?_,?_,?_,?_,?_⟩
 · rw [e] at hz
   rcases List.mem_cons.mp hz with rfl | hz
   · exact Nat.le_trans hl (by decide)
   · exact h.k z hz
 · rw [e2] at hq
   exact (List.mem_append.mp hq).elim (hp q) (h.p q)
 · rw [e,List.length_cons]; omega
 · simp only [Stm.tr,Tr.h,Tr.hs]; omega
 · rw [e2,a72,List.length_append]; omega
 · have:(ptsR bs).length=bs.length:=List.length_map _
   rw [e2,List.length_append]; omega
theorem ak9 {a b:List (List Pt)}(h:List.Sublist a b):(L2.wordsOf a).length≤(L2.wordsOf b).length:=(h.filterMap _).length_le
def pick (f:Nat→Bool):Nat→List Ee→List Ee
 | _,[]=>[]
 | j,e::es=>if f j=true then e::pick f (j+1) es else pick f (j+1) es
theorem pick_snoc (f:Nat→Bool):∀ (j:Nat) (es:List Ee) (e:Ee),pick f j (es++[e])=pick f j es++if f (j+es.length)=true then [e] else []
 | j,[],e=>by simp only [List.nil_append,pick,List.length_nil,Nat.add_zero]
 | j,x::es,e=>by
   simp only [List.cons_append,pick,pick_snoc f (j+1) es e,List.length_cons]
   rw [show j+1+es.length=j+(es.length+1) by omega]
   split <;> simp
theorem ap6 {f:Nat→Bool}:∀ {j:Nat}{es:List Ee}{e:Ee},e∈pick f j es→e∈es
 | j,x::es,e,h=>by
   simp only [pick] at h
   split at h
   · rcases List.mem_cons.mp h with rfl | h
     · exact List.mem_cons_self ..
     · exact List.mem_cons_of_mem _ (ap6 h)
   · exact List.mem_cons_of_mem _ (ap6 h)
theorem b06 (n k:Nat):∀ (j:Nat) (es:List Ee),msum (pick (fun j=>decide (j % n<k)) j es)+msum (pick (fun j=>decide (j % n=k)) j es)=msum (pick (fun j=>decide (j % n<k+1)) j es)
 | j,[]=>rfl
 | j,e::es=>by
   have ih:=b06 n k (j+1) es
   simp only [pick,decide_eq_true_eq]
   by_cases h1:j % n<k
   · rw [if_pos h1,if_neg (show ¬ j % n=k by omega),if_pos (show j % n<k+1 by omega)]
     simp only [msum]; omega
   · by_cases h2:j % n=k
     · rw [if_neg h1,if_pos h2,if_pos (show j % n<k+1 by omega)]
       simp only [msum]; omega
     · rw [if_neg h1,if_neg h2,if_neg (show ¬ j % n<k+1 by omega)]
       exact ih
theorem ba8 (f:Nat→Bool):∀ (j:Nat) (es:List Ee),msum (pick f j es)≤msum es
 | j,[]=>Nat.le_refl _
 | j,e::es=>by
   have ih:=ba8 f (j+1) es
   simp only [pick]
   split <;> simp only [msum] <;> omega
theorem au1 (f:Nat→Bool) (h:∀ j,f j=false):∀ (j:Nat) (es:List Ee),pick f j es=[]
 | j,[]=>rfl
 | j,e::es=>by simp only [pick,h,au1 f h (j+1) es]; simp
def bg2 (K:PySem.W.Frag):Sp:=fun vs H Q _=>∃ (so:Addr) (c:Int) (most:Nat) (tn:List Str) (es:List Ee) (p:Addr→Prop),vs=[.ref so,.int c,.int (most:Nat)]∧SoA p tn H so es∧es.length≤10∧most≤8∧Ex_ p H∧∀ v s H',Same H H'→SAt (woP p H') v s→Sk tn (msum es+1) s→Q v H'
theorem ax4 (T:Txt K mg t):FnOk P w K mg base CX0 4 t.a__law_wait t.fd__law_wait ["some","cell","most"] (bg2 K):=by
 have G__law_drawn:=a71 (P:=P) (w:=w) (base:=base) T
 have G__law_word:=af2 (P:=P) (w:=w) (base:=base) T
 refine T.f__law_wait.F.ok sc_law_wait (fun vs H Q E h=>?_) (fun cdv A outer s H vs Q E hr h=>?_)
 · obtain ⟨so,c,most,tn,es,p,rfl,_⟩:=h
   rfl
 · obtain ⟨so,c,most,tn,es,p,rfl,hso,hes,hmo,hp,q⟩:=h
   refine ⟨_,(@a03 _ _ _ _ _ (@aj0 _ _ _ _ _ _ (@a32 _ _ _ _ _ _ _ _ _ _ _ _ _ _ _ _ G__law_drawn (hr.mono (by omega)) rfl T.f__law_drawn.m T.f__law_drawn.F.kp T.f__law_drawn.b .nil a60 (@a00 _ _ _ _ _ (pv 1) (@a00 _ _ _ _ _ (@a19 _ _ _ _ (@a00 _ _ _ _ _ (@a31 _ _ _ _ _ _ _ _ a34 (pv 2) (@a02 _ _ _ _)) (@a00 _ _ _ _ _ (@a02 _ _ _ _) (@a00 _ _ _ _ _ (@a02 _ _ _ _) (@a00 _ _ _ _ _ (@a02 _ _ _ _) (@a00 _ _ _ _ _ (@a02 _ _ _ _) (@a01 _) (by rfl)) (by rfl)) (by rfl)) (by rfl)) (by rfl))) (@a01 _) (by rfl)) (by rfl)) (by decide) (by rfl) (by rfl)) (ag8 K (n:=5) rfl (a20 (a09 (i:=3) sc_law_wait.nd rfl (by walk_at "o")) (a20 (a09 (i:=4) sc_law_wait.nd rfl (by walk_at "o")) (a20 (a09 (i:=5) sc_law_wait.nd rfl (by walk_at "o")) (a20 (a09 (i:=6) sc_law_wait.nd rfl (by walk_at "o")) (a20 (a09 (i:=7) sc_law_wait.nd rfl (by walk_at "o")) (@a85 _))))))) (by rfl) (by rfl) (by rfl))
    (@a03 _ _ _ _ _ (@a27 _ _ 8 _ _ _ _ sc_law_wait.nd rfl (by walk_at "o") (@a19 _ _ _ _ (@a00 _ _ _ _ _ (@a05 _ _ _ _ _ (@a00 _ _ _ _ _ (@a07 _ _ _ _) (@a00 _ _ _ _ _ (pv 6) (@a01 _) (by rfl)) (by rfl))) (@a00 _ _ _ _ _ (@a05 _ _ _ _ _ (@a00 _ _ _ _ _ (@a07 _ _ _ _) (@a00 _ _ _ _ _ (@a32 _ _ _ _ _ _ _ _ _ _ _ _ _ _ _ _ G__law_word (hr.mono (by omega)) rfl T.f__law_word.m T.f__law_word.F.kp T.f__law_word.b .nil a60 (@a00 _ _ _ _ _ (pv 7) (@a01 _) (by rfl)) (by decide) (by rfl) (by rfl)) (@a01 _) (by rfl)) (by rfl))) (@a00 _ _ _ _ _ (@a05 _ _ _ _ _ (@a00 _ _ _ _ _ (@a07 _ _ _ _) (@a01 _) (by rfl))) (@a00 _ _ _ _ _ (@a05 _ _ _ _ _ (@a00 _ _ _ _ _ (@a07 _ _ _ _) (@a00 _ _ _ _ _ (@a31 _ _ _ _ _ _ _ _ a34 (pv 6) (@a02 _ _ _ _)) (@a01 _) (by rfl)) (by rfl))) (@a00 _ _ _ _ _ (@a05 _ _ _ _ _ (@a00 _ _ _ _ _ (@a07 _ _ _ _) (@a01 _) (by rfl))) (@a01 _) (by rfl)) (by rfl)) (by rfl)) (by rfl)) (by rfl))) (by rfl) (by walk_at "o"))
    (@a91 _ _ _ _ _ (@a67 _ _ _ _ _ _ _ _ (@a29 _ _ _ _ _ _ _ _ a68 (pv 3) (@a02 _ _ _ _) (nomark _)) (@a08 _ _ _ (@a27 _ _ 8 _ _ _ _ sc_law_wait.nd rfl (by walk_at "o") (@a44 _ _ _ _ _ _ _ _ _ _ (a47 K) (pv 8) (@a59 _) (@a51 _ _ _ (@a02 _ _ _ _))) (by rfl) (by walk_at "o"))) (@a42 _))
    (@a03 _ _ _ _ _ (@a27 _ _ 4 _ _ _ _ sc_law_wait.nd rfl (by walk_at "o") (@a31 _ _ _ _ _ _ _ _ a62 (pv 4) (@a39 _ _ _ _ _ _ _ _ _ (a65 K) (by rfl) T.z_len a80 (@a00 _ _ _ _ _ (pv 8) (@a01 _) (by rfl)) (by decide) (by decide) (by rfl) (by rfl))) (by rfl) (by walk_at "o"))
    (@a03 _ _ _ _ _ (@a27 _ _ 8 _ _ _ _ sc_law_wait.nd rfl (by walk_at "o") (@a44 _ _ _ _ _ _ _ _ _ _ (a47 K) (@a31 _ _ _ _ _ _ _ _ a34 (@a44 _ _ _ _ _ _ _ _ _ _ (a47 K) (pv 8) (@a51 _ _ _ (pv 4)) (@a59 _)) (@a44 _ _ _ _ _ _ _ _ _ _ (a47 K) (pv 8) (@a59 _) (@a51 _ _ _ (pv 4)))) (@a59 _) (@a51 _ _ _ (@a31 _ _ _ _ _ _ _ _ a34 (@a02 _ _ _ _) (pv 5)))) (by rfl) (by walk_at "o"))
    (@a03 _ _ _ _ _ (@a27 _ _ 9 _ _ _ _ sc_law_wait.nd rfl (by walk_at "o") (@a19 _ _ _ _ (@a01 _)) (by rfl) (by walk_at "o"))
    (@a03 _ _ _ _ _ (@aa7 _ _ _ _ _ _ _ _ PassesOwn.never rfl (a88 rfl T.z_range (@a00 _ _ _ _ _ (@a39 _ _ _ _ _ _ _ _ _ (a65 K) (by rfl) T.z_len a80 (@a00 _ _ _ _ _ (pv 8) (@a01 _) (by rfl)) (by decide) (by decide) (by rfl) (by rfl)) (@a01 _) (by rfl))) (a09 (i:=10) sc_law_wait.nd rfl (by walk_at "o")) (@a08 _ _ _ (@a75 _ _ _ _ (@a89 _ K _ _ _ _ _ _ _ _ _ _ _ PySem.F.plainAttrs_list PySem.F.slot_list_append PySem.F.type_list_append a66 (pv 9) (@a00 _ _ _ _ _ (@a05 _ _ _ _ _ (@a00 _ _ _ _ _ (@a37 _ _ _ _ _ _ _ (a35 K) (pv 8) (pv 10) (fun _ _=>rfl)) (@a00 _ _ _ _ _ (a98 (Nt:=["j"]) (Nf:=["some","menu","k"]) (caps:=[0,8,10]) rfl (a45 (sc:=a06 ag5) rfl rfl (by decide +kernel) (by decide +kernel) (by decide +kernel) rfl (by decide +kernel)) (a88 rfl T.z_range (@a00 _ _ _ _ _ (@a39 _ _ _ _ _ _ _ _ _ (a65 K) (by rfl) T.z_len a80 (@a00 _ _ _ _ _ (pv 0) (@a01 _) (by rfl)) (by decide) (by decide) (by rfl) (by rfl)) (@a01 _) (by rfl))) (fun _ _ _ _ _=>(a09 (i:=0) (show (["j","some","menu","k"]:List Str).Nodup by decide +kernel) rfl (by walk_at "o"))) (fun _ _ _ _ _=>(@a97 _ _ _ (@a29 _ _ _ _ _ _ _ _ a68 (@a31 _ _ _ _ _ _ _ _ a62 (pv 0) (@a39 _ _ _ _ _ _ _ _ _ (a65 K) (by rfl) T.z_len a80 (@a00 _ _ _ _ _ (pv 2) (@a01 _) (by rfl)) (by decide) (by decide) (by rfl) (by rfl))) (pv 3) (nomark _)))) (fun _ _ _ _ _=>(@a37 _ _ _ _ _ _ _ (a38 K) (@a37 _ _ _ _ _ _ _ (a35 K) (pv 1) (pv 0) (fun _ _=>rfl)) (@a02 _ _ _ _) (fun _ _=>rfl)))) (@a01 _) (by rfl)) (by rfl))) (@a01 _) (by rfl)) (by rfl) (by rfl) (by rfl) (by rfl) (by rfl) (by rfl)) (by rfl))) (by intro _; rfl))
    (@a08 _ _ _ (@a40 _ _ _ _ (@a05 _ _ _ _ _ (@a00 _ _ _ _ _ (@a07 _ _ _ _) (@a00 _ _ _ _ _ (pv 3) (@a00 _ _ _ _ _ (pv 9) (@a01 _) (by rfl)) (by rfl)) (by rfl)))))))))))),?_⟩
   have sl:(1000000:Nat)≤sizeLine:=le_line (Nat.le_refl _)
   obtain ⟨us,e0,hE⟩:=hso.ex
   have hul:=hE.1
   walk_at "go"
   intro l1 H1 f1 s1 e1
   walk_at "run"
   refine ⟨c,l1,[most+1,5,4,9,1352],rfl,e1,fun s hs=>?_,by simp,fun l2 ds H2 f2 s2 e2 hdl hdd=>?_⟩
   · simp only [List.mem_cons,List.not_mem_nil,or_false] at hs
     omega
   obtain ⟨limit,start,more,key,number,rfl⟩:∃ a b c e f,ds=[a,b,c,e,f]:=by
    match ds,hdl with
    | [a,b,c,e,f],_=>exact ⟨a,b,c,e,f,rfl⟩
   have hd1:start<5:=hdd 1 _ _ rfl rfl
   have hd2:more<4:=hdd 2 _ _ rfl rfl
   have hd3:key<9:=hdd 3 _ _ rfl rfl
   clear hdd
   walk_at "run"
   have e2:H2 l2=some (.lst [.int (limit:Nat),.int (start:Nat),.int (more:Nat),.int (key:Nat),.int (number:Nat)]):=e2
   refine am4 (SqL.of e2) rfl ?_
   walk_at "run"
   intro a3 H3 f3 s3 e3
   walk_at "run"
   refine ⟨number,rfl,fun z H4 s4=>?_⟩
   walk_at "run"
   intro a5 H5 f5 s5 e5
   walk_at "run"
   intro a6 H6 f6 s6 e6
   walk_at "run"
   intro a7 H7 f7 s7 e7
   walk_at "run"
   intro a8 H8 f8 s8 e8
   walk_at "run"
   intro a9 H9 f9 s9 e9
   walk_at "run"
   have s19:Same H H9:=s1.trans (s2.trans (s3.trans (s4.trans (s5.trans (s6.trans (s7.trans (s8.trans s9)))))))
   have w:∀ {Hk Hm:Hp}{a:Addr}{o:HO},Same H Hk→Hk a=none→Hm a=some o→woP p Hm a=some o:=fun s f e=>by rw [wpG ((hp.same s).fr f)]; exact e
   have s12:=s1.trans s2
   have s14:=s12.trans (s3.trans s4)
   have s15:=s14.trans s5
   have s16:=s15.trans s6
   have s17:=s16.trans s7
   have hM:Each (PAt (woP p H9)) [.ref a3,.ref a5,.ref a6,.ref a7,.ref a8] [keyP key,ab1 z,[.s "other"],keyP ((key:Int)+1),[.s "none"]]:=⟨rfl,fun j v x h1 h2=>by
    match j,h1,h2 with
    | 0,h1,h2=>cases h1; cases h2; exact ap5 (w s12 f3 ((s4.trans (s5.trans (s6.trans (s7.trans (s8.trans s9))))) _ _ e3))
    | 1,h1,h2=>cases h1; cases h2; exact ap4 (w s14 f5 ((s6.trans (s7.trans (s8.trans s9))) _ _ e5))
    | 2,h1,h2=>cases h1; cases h2; exact ba7 (w s15 f6 ((s7.trans (s8.trans s9)) _ _ e6))
    | 3,h1,h2=>cases h1; cases h2; exact ap5 (w s16 f7 ((s8.trans s9) _ _ e7))
    | 4,h1,h2=>cases h1; cases h2; exact ba7 (w s17 f8 (s9 _ _ e8))⟩
   have hK:∀ q∈[keyP key,ab1 z,[.s "other"],keyP ((key:Int)+1),[.s "none"]],PatK q:=fun q hq=>by
    simp only [List.mem_cons,List.not_mem_nil,or_false] at hq
    rcases hq with rfl | rfl | rfl | rfl | rfl
    · exact .key _ (by omega) (by omega)
    · exact .word _
    · exact .other
    · exact .key _ (by omega) (by omega)
    · exact .non
   have hW:(L2.wordsOf [keyP key,ab1 z,[.s "other"],keyP ((key:Int)+1),[.s "none"]]).length≤1:=by
    simp only [L2.wordsOf,keyP,ab1,List.filterMap_cons,List.filterMap_nil,if_pos]
    simp
   clear e3 e5 e6 e7 e8
   refine ah6 (fun σ' H'=>∃ (a:Addr) (vs:List V) (ps:List (List Pt)),σ'=[some (.ref so),some (.int c),some (.int (most:Nat)),some (.int (limit:Nat)),some (.int (start:Nat)),some (.int (more:Nat)),some (.int (key:Nat)),some (.int (number:Nat)),some (.ref a),none,none]∧Same H9 H'∧H' a=some (.lst vs)∧Each (PAt (woP p H')) vs ps∧(∀ q∈ps,PatK q)∧(L2.wordsOf ps).length≤1∧0<ps.length∧ps.length≤5) ?_ ?_
   · walk_at "run"
     by_cases h0:(limit:Int)=0
     · refine a55 h0 ?_
       walk_at "run"
       refine aa2 (SqL.of e9) ?_
       rw [show (4:Int)=((4:Nat):Int) from rfl,a92]
       intro a10 H10 f10 s10 e10
       walk_at "run"
       exact ⟨a10,_,_,rfl,s10,e10,(hM.mono fun _ _ z=>z.same (wpS s10)).take 4,fun q hq=>hK q (List.mem_of_mem_take hq),Nat.le_trans (ak9 (List.take_sublist _ _)) hW,by simp,by simp⟩
     · refine a43 h0 ?_
       walk_at "run"
       exact ⟨a9,_,_,rfl,Same.refl _,e9,hM,hK,hW,by simp,by simp⟩
   rintro σ' H10 ⟨a10,vs,ps,rfl,s10,e10,hM',hK',hW',hn0,hn5⟩
   clear hM hK hW
   have hvl:=hM'.1
   walk_at "run"
   refine a90 (SqL.of e10) ?_
   obtain ⟨m,hm,hml⟩:∃ m:Nat,((start:Nat):Int) % ((vs.length:Nat):Int)=(m:Int)∧m≤vs.length:=⟨start % vs.length,by omega,Nat.le_of_lt (Nat.mod_lt _ (by omega))⟩
   refine i_rI (show (0:Int)<((vs.length:Nat):Int) by omega) ?_
   rw [hm]
   walk_at "run"
   refine aa2 (SqL.of e10) ?_
   rw [aa0]
   intro a11 H11 f11 s11 e11
   walk_at "run"
   refine aa2 (SqL.of (s11 _ _ e10)) ?_
   rw [a92]
   intro a12 H12 f12 s12' e12
   walk_at "run"
   refine a69 (s12' _ _ e11) e12 (by rw [List.length_drop,List.length_take]; omega) ?_
   intro a13 H13 f13 s13 e13
   walk_at "run"
   refine aa2 (SqL.of e13) ?_
   rw [show (1+(more:Nat):Int)=((1+more:Nat):Int) by omega,a92]
   intro a14 H14 f14 s14' e14
   walk_at "run"
   have t14:Same H10 H14:=s11.trans (s12'.trans (s13.trans s14'))
   have hE14:Each (PAt (woP p H14)) ((vs.drop m++vs.take m).take (1+more)) ((ps.drop m++ps.take m).take (1+more)):=((ab2 (hM'.mono fun _ _ z=>z.same (wpS t14)) m).append ((hM'.mono fun _ _ z=>z.same (wpS t14)).take m)).take _
   have hK14:∀ q∈(ps.drop m++ps.take m).take (1+more),PatK q:=fun q hq=>by
    rcases List.mem_append.mp (List.mem_of_mem_take hq) with h | h
    · exact hK' q (List.mem_of_mem_drop h)
    · exact hK' q (List.mem_of_mem_take h)
   have hW14:(L2.wordsOf ((ps.drop m++ps.take m).take (1+more))).length≤1:=by
    refine Nat.le_trans (ak9 (List.take_sublist _ _)) ?_
    have h1:(L2.wordsOf (ps.take m++ps.drop m)).length≤1:=by rw [List.take_append_drop]; exact hW'
    rw [a72,List.length_append] at h1 ⊢
    omega
   have hl14:0<((ps.drop m++ps.take m).take (1+more)).length∧((ps.drop m++ps.take m).take (1+more)).length≤4:=by
    rw [List.length_take,List.length_append,List.length_drop,List.length_take]
    omega
   generalize (vs.drop m++vs.take m).take (1+more)=vs' at *
   generalize (ps.drop m++ps.take m).take (1+more)=ps' at *
   have s1e:=s19.trans (s10.trans t14)
   clear hM' hK' hW' hvl e10 e11 e12 e13
   have hvl:=hE14.1
   intro bl H15 f15 s15' e15
   walk_at "run"
   refine a90 (SqL.of (s15' _ _ e14)) ?_
   walk_at "run"
   rw [Int.toNat_natCast]
   have nb:H bl=none:=by
    cases h:H bl with
    | none=>rfl
    | some o=>rw [s1e _ _ h] at f15; cases f15
   have nbp:¬ p bl:=fun z=>hp _ z nb
   refine aj1 (lo:=0) (n:=vs'.length) (fun i σ' H'=>i≤vs'.length∧∃ (ws:List V) (bs:List Br) (y:Option V),σ'=[some (.ref so),some (.int c),some (.int (most:Nat)),some (.int (limit:Nat)),some (.int (m:Nat)),some (.int (more:Nat)),some (.int (key:Nat)),some (.int (number:Nat)),some (.ref a14),some (.ref bl),y]∧Same H14 H'∧H' bl=some (.lst ws)∧Each (BrAt (woP (fun a=>p a∨a=bl) H')) ws bs∧bs.length=i∧ptsR bs=ps'.take i∧Wk tn (msum (pick (fun j=>decide (j % vs'.length<i)) 0 es)) bs) ⟨Nat.zero_le _,[],[],_,rfl,s15',e15,Each.nil,rfl,rfl,by rw [au1 _ (fun j=>by simp)]; exact Wk.nil⟩ ?_ ?_
   · rintro i σ' H16 hi ⟨_,ws,bs,y,rfl,s16,e16,hB,hbl,hpt,hwk⟩
     walk_at "run"
     obtain ⟨mv,hmv⟩:∃ v,vs'[i]?=some v:=⟨_,List.getElem?_eq_getElem hi⟩
     obtain ⟨mp,hmp⟩:∃ v,ps'[i]?=some v:=⟨_,List.getElem?_eq_getElem (by rw [← hvl]; exact hi)⟩
     have sH:=s1e.trans s16
     refine ae3 (SqL.of e16) ?_
     walk_at "run"
     rw [Int.zero_add]
     refine a61 (SqL.of (s16 _ _ e14)) (a04 (j:=i) hmv) ?_
     walk_at "run"
     refine a90 (SqL.of (sH _ _ e0)) ?_
     walk_at "run"
     rw [Int.toNat_natCast]
     have hEq:Each (EeA (woP (fun a=>p a∨a=bl) H16)) us es:=hE.mono fun _ _ z=>z.same (wpQ sH nb)
     refine af8 (lo:=0) (n:=us.length) (by omega) (fun j acc H'=>H'=H16∧acc.length≤j∧Each (SAt (woP (fun a=>p a∨a=bl) H16)) acc ((pick (fun j=>decide (j % vs'.length=i)) 0 (es.take j)).map (·.s))) ⟨rfl,Nat.zero_le _,Each.nil⟩ (fun j acc H' ⟨_,h,_⟩=>h) ?_ ?_
     · rintro j acc H' hj ⟨rfl,hal,hA⟩
       obtain ⟨ev,hev⟩:∃ v,us[j]?=some v:=⟨_,List.getElem?_eq_getElem hj⟩
       obtain ⟨e,ea,er,he,rfl,eb,hr⟩:=ab4 hEq hev
       have hjl:(es.take j).length=j:=by rw [List.length_take]; omega
       rw [Int.zero_add]
       walk_at "run"
       refine a90 (SqL.of (s16 _ _ e14)) ?_
       refine i_rI (show (0:Int)<((vs'.length:Nat):Int) by omega) ?_
       walk_at "run"
       by_cases hji:j % vs'.length=i
       · refine a55 (show ((j:Nat):Int) % ((vs'.length:Nat):Int)=(i:Int) by rw [← hji]; push_cast; rfl) ?_
         walk_at "run"
         refine a61 (SqL.of (sH _ _ e0)) (a04 (j:=j) hev) ?_
         walk_at "run"
         refine a52 (SqT.of eb) (a04 (j:=0) rfl) ?_
         refine ⟨rfl,by simp; omega,?_⟩
         rw [List.take_add_one,he]
         show Each _ _ (List.map _ (pick _ 0 (es.take j++[e])))
         rw [pick_snoc,hjl,Nat.zero_add,if_pos (by simp [hji]),List.map_append]
         exact hA.snoc hr
       · refine a43 (show ¬ ((j:Nat):Int) % ((vs'.length:Nat):Int)=(i:Int) by rw [← Int.natCast_emod]; omega) ?_
         refine ⟨rfl,by omega,?_⟩
         rw [List.take_add_one,he]
         show Each _ acc (List.map _ (pick _ 0 (es.take j++[e])))
         rw [pick_snoc,hjl,Nat.zero_add,if_neg (by simp [hji]),List.append_nil]
         exact hA
     · rintro acc H' ⟨rfl,hal,hA⟩ l17 H17 f17 s17 e17
       rw [hul,List.take_of_length_le (Nat.le_refl _)] at hA
       walk_at "run"
       intro a18 H18 f18 s18 e18
       walk_at "run"
       have s68:=s17.trans s18
       refine a74 (s68 _ _ e16) (by rw [hB.1]; omega) ?_
       have qq:∀ {Hk:Hp}{a:Addr},Same H' Hk→Hk a=none→¬ (p a∨a=bl):=fun s f z=>z.elim (fun z=>(hp.same (sH.trans s)).fr f z) fun z=>by
        rw [z,s _ _ e16] at f
        cases f
       refine ⟨by omega,ws++[.ref a18],bs++[.mk mp ((pick (fun j=>decide (j % vs'.length=i)) 0 es).map (·.s))],_,rfl,(s16.trans s68).updNew f15,a46,?_,by simp [hbl],?_,?_⟩
       · rw [wpU (.inr rfl)]
         refine (hB.mono fun _ _ z=>af3 z (wpS s68)).snoc (bg0 (by rw [wpG (qq s17 f18)]; exact e18) ((hE14.2 i _ _ hmv hmp).same (wpQ (s16.trans s68) f15)) (aa5 (by rw [wpG (qq (Same.refl _) f17)]; exact s18 _ _ e17) (hA.mono fun _ _ z=>z.same (wpS s68))))
       · unfold ptsR at hpt ⊢
         rw [List.map_append,hpt,List.take_add_one,hmp]
         rfl
       · rw [← b06]
         exact hwk.snoc (EOk.b (es:=pick (fun j=>decide (j % vs'.length=i)) 0 es) fun e he=>hso.ok e (ap6 he))
   · rintro σ' H16 ⟨_,ws,bs,y,rfl,s16,e16,hB,hbl,hpt,hwk⟩
     walk_at "run"
     intro a17 H17 f17 s17 e17
     have sH:=(s1e.trans s16).trans s17
     refine q _ (.wait limit bs) H17 sH ?_ (Sk.mono (Sk.wait hwk (by omega) ?_ ?_) (Nat.succ_le_succ (ba8 _ _ _)))
     · exact sat_wait.mpr ⟨a17,bl,ws,rfl,w (s1e.trans s16) f17 e17,by rw [wpG nbp]; exact s17 _ _ e16,hB.mono fun _ _ z=>af3 z ((wpS s17).trans (wpB fun a h=>.inl h))⟩
     · intro q hq
       rw [hpt] at hq
       exact hK14 q (List.mem_of_mem_take hq)
     · rw [hpt]
       exact Nat.le_trans (ak9 (List.take_sublist _ _)) hW14
structure Hk (tn:List Str) (s:Stm):Prop where
 k:Sk tn 1 s
 l:(allS s).length≤4
 h:s.tr.h≤20
theorem bp2 {tn:List Str}{es:List Ee}{h:Stm}(m:Nat) (ho:EOk tn es) (hh:Hk tn h):Sk tn (msum es+1) (.loop (((es.take m).map (·.s)++[h])++(es.drop m).map (·.s))):=by
 have b1:=(ho.take m).b
 have b2:=(ho.drop m).b
 have e:=ah3 es m
 have x:=(b1.app hh.k.b).app b2
 have x:=x.mono (show msum (es.take m)+1+msum (es.drop m)≤msum es+1 by omega)
 have h1:=b1.l; have h2:=b2.l; have h3:=hh.l; have h4:=b1.h; have h5:=b2.h; have h6:=hh.h
 refine Sk.loop x ?_ (Nat.le_refl _) ?_
 · rw [a93,a93,List.length_append,List.length_append]
   have:(allB [h]).length=(allS h).length:=by simp [allB]
   omega
 · rw [b05,b05]
   have:Tr.hs (Stm.trs [h])=h.tr.h:=by simp [Stm.trs,Tr.hs]
   omega
theorem Hk.wait {tn:List Str}{n:Int}{bs:List Br}{p:List Pt}{ps:List Pt}(hb:bs=[.mk p [.plain ps]]) (hk:(Stm.plain ps).kd tn) (hp:PatK p) (hw:(L2.wordsOf [p]).length≤1):Hk tn (.wait n bs):=by
 subst hb
 have h1:=b27 ps
 have h2:=b27 p
 refine ⟨⟨fun x hx=>?_,fun q hq=>?_,by simp [allS,allR,allB],?_,?_,by simp [psS,allS,allR,allB,a30]⟩,by simp [allS,allR,allB],?_⟩
 · simp only [allS,allR,allB,List.append_nil,List.mem_cons,List.not_mem_nil,or_false] at hx
   rcases hx with rfl | rfl
   · exact show 1≤1000 by decide
   · exact hk
 · simp [psS,allS,allR,allB,a30] at hq
   rw [hq]; exact hp
 · simp only [Stm.tr,Br.trs,Br.tr,Stm.trs,Tr.h,Tr.hs]; omega
 · simpa [psS,allS,allR,allB,a30] using hw
 · simp only [Stm.tr,Br.trs,Br.tr,Stm.trs,Tr.h,Tr.hs]; omega
theorem Hk.test {tn:List Str}{c:Cd}{n m:Int}(hc:c.tr.h≤6):Hk tn (.test c [.wait n []] [.wait m []]):=by
 refine ⟨⟨fun x hx=>?_,fun q hq=>?_,by simp [allS,allR,allB],?_,by simp [psS,allS,allR,allB,a30,L2.wordsOf],by simp [psS,allS,allR,allB,a30]⟩,by simp [allS,allR,allB],?_⟩
 · simp only [allS,allR,allB,List.append_nil,List.mem_append,List.mem_cons,List.not_mem_nil,or_false] at hx
   rcases hx with rfl | rfl | rfl
   · trivial
   · exact Nat.zero_le _
   · exact Nat.zero_le _
 · simp [psS,allS,allR,allB,a30] at hq
 · simp only [Stm.tr,Br.trs,Stm.trs,Tr.h,Tr.hs]; omega
 · simp only [Stm.tr,Br.trs,Stm.trs,Tr.h,Tr.hs]; omega
theorem Hk.loop {tn:List Str}{n:Int}:Hk tn (.loop [.wait n [],.plain [.s "leave"]]):=by
 refine ⟨⟨fun x hx=>?_,fun q hq=>?_,by simp [allS,allR,allB],?_,by simp [psS,allS,allR,allB,a30,L2.wordsOf],by simp [psS,allS,allR,allB,a30]⟩,by simp [allS,allR,allB],?_⟩
 · simp only [allS,allR,allB,List.append_nil,List.cons_append,List.nil_append,List.mem_cons,List.not_mem_nil,or_false] at hx
   rcases hx with rfl | rfl | rfl
   · trivial
   · exact Nat.zero_le _
   · exact .inr (.inr (.inr (.inr (.inl rfl))))
 · simp [psS,allS,allR,allB,a30] at hq
 · simp [Stm.tr,Br.trs,Stm.trs,Tr.h,Tr.hs,Pt.tr]
 · simp [Stm.tr,Br.trs,Stm.trs,Tr.h,Tr.hs,Pt.tr]
theorem Hk.call {tn:List Str}{n:Str}(h:n∈tn):Hk tn (.plain [.s "call",.s n]) :=
 ⟨Sk.plain (.inr (.inr (.inl ⟨n,rfl,h⟩))),by simp [allS],by simp [Stm.tr,Tr.h,Tr.hs,Pt.tr]⟩
def bg3 (K:PySem.W.Frag):Sp:=fun vs H Q _=>∃ (so:Addr) (c:Int) (most:Nat) (tn:List Str) (es:List Ee) (p:Addr→Prop),vs=[.ref so,.int c,.int (most:Nat)]∧SoA p tn H so es∧es.length≤10∧most≤8∧Str.ofString "held"∈tn∧Ex_ p H∧∀ v s H',Same H H'→SAt (woP p H') v s→Sk tn (msum es+1) s→Q v H'
theorem al0 (T:Txt K mg t):FnOk P w K mg base CX0 4 t.a__law_loop t.fd__law_loop ["some","cell","most"] (bg3 K):=by
 have G__law_drawn:=a71 (P:=P) (w:=w) (base:=base) T
 have G__law_word:=af2 (P:=P) (w:=w) (base:=base) T
 refine T.f__law_loop.F.ok sc_law_loop (fun vs H Q E h=>?_) (fun cdv A outer s H vs Q E hr h=>?_)
 · obtain ⟨so,c,most,tn,es,p,rfl,_⟩:=h
   rfl
 · obtain ⟨so,c,most,tn,es,p,rfl,hso,hes,hmo,hht,hp,q⟩:=h
   refine ⟨_,(@a03 _ _ _ _ _ (@aj0 _ _ _ _ _ _ (@a32 _ _ _ _ _ _ _ _ _ _ _ _ _ _ _ _ G__law_drawn (hr.mono (by omega)) rfl T.f__law_drawn.m T.f__law_drawn.F.kp T.f__law_drawn.b .nil a60 (@a00 _ _ _ _ _ (pv 1) (@a00 _ _ _ _ _ (@a19 _ _ _ _ (@a00 _ _ _ _ _ (@a31 _ _ _ _ _ _ _ _ a34 (pv 2) (@a02 _ _ _ _)) (@a00 _ _ _ _ _ (@a02 _ _ _ _) (@a00 _ _ _ _ _ (@a02 _ _ _ _) (@a00 _ _ _ _ _ (@a02 _ _ _ _) (@a00 _ _ _ _ _ (@a02 _ _ _ _) (@a00 _ _ _ _ _ (@a02 _ _ _ _) (@a01 _) (by rfl)) (by rfl)) (by rfl)) (by rfl)) (by rfl)) (by rfl))) (@a01 _) (by rfl)) (by rfl)) (by decide) (by rfl) (by rfl)) (ag8 K (n:=6) rfl (a20 (a09 (i:=3) sc_law_loop.nd rfl (by walk_at "o")) (a20 (a09 (i:=4) sc_law_loop.nd rfl (by walk_at "o")) (a20 (a09 (i:=5) sc_law_loop.nd rfl (by walk_at "o")) (a20 (a09 (i:=6) sc_law_loop.nd rfl (by walk_at "o")) (a20 (a09 (i:=7) sc_law_loop.nd rfl (by walk_at "o")) (a20 (a09 (i:=8) sc_law_loop.nd rfl (by walk_at "o")) (@a85 _)))))))) (by rfl) (by rfl) (by rfl))
    (@a03 _ _ _ _ _ (@a27 _ _ 9 _ _ _ _ sc_law_loop.nd rfl (by walk_at "o") (@a39 _ _ _ _ _ _ _ _ _ (a65 K) (by rfl) T.z_len a80 (@a00 _ _ _ _ _ (pv 0) (@a01 _) (by rfl)) (by decide) (by decide) (by rfl) (by rfl)) (by rfl) (by walk_at "o"))
    (@a03 _ _ _ _ _ (@aa7 _ _ _ _ _ _ _ _ PassesOwn.never rfl (a88 rfl T.z_range (@a00 _ _ _ _ _ (@a39 _ _ _ _ _ _ _ _ _ (a65 K) (by rfl) T.z_len a80 (@a00 _ _ _ _ _ (pv 0) (@a01 _) (by rfl)) (by decide) (by decide) (by rfl) (by rfl)) (@a01 _) (by rfl))) (a09 (i:=10) sc_law_loop.nd rfl (by walk_at "o")) (@a08 _ _ _ (@a67 _ _ _ _ _ _ _ _ (aj7 K (@a37 _ _ _ _ _ _ _ (a38 K) (@a37 _ _ _ _ _ _ _ (a35 K) (pv 0) (pv 10) (fun _ _=>rfl)) (@a02 _ _ _ _) (fun _ _=>rfl)) (fun _=>rfl)) (@a08 _ _ _ (@a27 _ _ 9 _ _ _ _ sc_law_loop.nd rfl (by walk_at "o") (@a39 _ _ _ _ _ _ _ _ _ am5 (by rfl) T.z_min bh9 (@a00 _ _ _ _ _ (pv 9) (@a00 _ _ _ _ _ (pv 10) (@a01 _) (by rfl)) (by rfl)) (by decide) (by decide) (by rfl) (by rfl)) (by rfl) (by walk_at "o"))) (@a42 _))) (by intro _; rfl))
    (@a03 _ _ _ _ _ (@a27 _ _ 11 _ _ _ _ sc_law_loop.nd rfl (by walk_at "o") (@a31 _ _ _ _ _ _ _ _ a62 (pv 4) (@a31 _ _ _ _ _ _ _ _ a34 (pv 9) (@a02 _ _ _ _))) (by rfl) (by walk_at "o"))
    (@a03 _ _ _ _ _ (@a27 _ _ 12 _ _ _ _ sc_law_loop.nd rfl (by walk_at "o") (@a44 _ _ _ _ _ _ _ _ _ _ (a47 K) (@a44 _ _ _ _ _ _ _ _ _ _ (a47 K) (@a19 _ _ _ _ (@a00 _ _ _ _ _ (@a05 _ _ _ _ _ (@a00 _ _ _ _ _ (@a05 _ _ _ _ _ (@a00 _ _ _ _ _ (@a07 _ _ _ _) (@a00 _ _ _ _ _ (pv 5) (@a01 _) (by rfl)) (by rfl))) (@a00 _ _ _ _ _ (@a19 _ _ _ _ (@a00 _ _ _ _ _ (@a05 _ _ _ _ _ (@a00 _ _ _ _ _ (@a07 _ _ _ _) (@a01 _) (by rfl))) (@a01 _) (by rfl))) (@a01 _) (by rfl)) (by rfl))) (@a00 _ _ _ _ _ (@a05 _ _ _ _ _ (@a00 _ _ _ _ _ (@a05 _ _ _ _ _ (@a00 _ _ _ _ _ (@a07 _ _ _ _) (@a00 _ _ _ _ _ (@a32 _ _ _ _ _ _ _ _ _ _ _ _ _ _ _ _ G__law_word (hr.mono (by omega)) rfl T.f__law_word.m T.f__law_word.F.kp T.f__law_word.b .nil a60 (@a00 _ _ _ _ _ (pv 6) (@a01 _) (by rfl)) (by decide) (by rfl) (by rfl)) (@a01 _) (by rfl)) (by rfl))) (@a00 _ _ _ _ _ (@a19 _ _ _ _ (@a00 _ _ _ _ _ (@a05 _ _ _ _ _ (@a00 _ _ _ _ _ (@a07 _ _ _ _) (@a00 _ _ _ _ _ (@a07 _ _ _ _) (@a01 _) (by rfl)) (by rfl))) (@a01 _) (by rfl))) (@a01 _) (by rfl)) (by rfl))) (@a01 _) (by rfl)) (by rfl))) (@a51 _ _ _ (@a31 _ _ _ _ _ _ _ _ a62 (pv 7) (@a02 _ _ _ _))) (@a59 _)) (@a59 _) (@a51 _ _ _ (@a02 _ _ _ _))) (by rfl) (by walk_at "o"))
    (@a03 _ _ _ _ _ (@a27 _ _ 13 _ _ _ _ sc_law_loop.nd rfl (by walk_at "o") (@a05 _ _ _ _ _ (@a00 _ _ _ _ _ (@a07 _ _ _ _) (@a00 _ _ _ _ _ (pv 3) (@a00 _ _ _ _ _ (pv 12) (@a01 _) (by rfl)) (by rfl)) (by rfl))) (by rfl) (by walk_at "o"))
    (@a91 _ _ _ _ _ (@a67 _ _ _ _ _ _ _ _ (@a29 _ _ _ _ _ _ _ _ a68 (pv 8) (@a02 _ _ _ _) (nomark _)) (@a08 _ _ _ (@a27 _ _ 13 _ _ _ _ sc_law_loop.nd rfl (by walk_at "o") (@a05 _ _ _ _ _ (@a00 _ _ _ _ _ (@a07 _ _ _ _) (@a00 _ _ _ _ _ (@a05 _ _ _ _ _ (@a00 _ _ _ _ _ (@a07 _ _ _ _) (@a00 _ _ _ _ _ (@a05 _ _ _ _ _ (@a00 _ _ _ _ _ (@a07 _ _ _ _) (@a00 _ _ _ _ _ (pv 5) (@a01 _) (by rfl)) (by rfl))) (@a00 _ _ _ _ _ (@a05 _ _ _ _ _ (@a00 _ _ _ _ _ (@a07 _ _ _ _) (@a00 _ _ _ _ _ (@a02 _ _ _ _) (@a01 _) (by rfl)) (by rfl))) (@a01 _) (by rfl)) (by rfl)) (by rfl))) (@a00 _ _ _ _ _ (@a19 _ _ _ _ (@a00 _ _ _ _ _ (@a05 _ _ _ _ _ (@a00 _ _ _ _ _ (@a07 _ _ _ _) (@a00 _ _ _ _ _ (pv 3) (@a00 _ _ _ _ _ (@a19 _ _ _ _ (@a01 _)) (@a01 _) (by rfl)) (by rfl)) (by rfl))) (@a01 _) (by rfl))) (@a00 _ _ _ _ _ (@a19 _ _ _ _ (@a00 _ _ _ _ _ (@a05 _ _ _ _ _ (@a00 _ _ _ _ _ (@a07 _ _ _ _) (@a00 _ _ _ _ _ (pv 2) (@a00 _ _ _ _ _ (@a19 _ _ _ _ (@a01 _)) (@a01 _) (by rfl)) (by rfl)) (by rfl))) (@a01 _) (by rfl))) (@a01 _) (by rfl)) (by rfl)) (by rfl)) (by rfl))) (by rfl) (by walk_at "o"))) (@a42 _))
    (@a91 _ _ _ _ _ (@a67 _ _ _ _ _ _ _ _ (@a29 _ _ _ _ _ _ _ _ a68 (pv 8) (@a02 _ _ _ _) (nomark _)) (@a08 _ _ _ (@a27 _ _ 13 _ _ _ _ sc_law_loop.nd rfl (by walk_at "o") (@a05 _ _ _ _ _ (@a00 _ _ _ _ _ (@a07 _ _ _ _) (@a00 _ _ _ _ _ (@a19 _ _ _ _ (@a00 _ _ _ _ _ (@a05 _ _ _ _ _ (@a00 _ _ _ _ _ (@a07 _ _ _ _) (@a00 _ _ _ _ _ (pv 3) (@a00 _ _ _ _ _ (@a19 _ _ _ _ (@a01 _)) (@a01 _) (by rfl)) (by rfl)) (by rfl))) (@a00 _ _ _ _ _ (@a05 _ _ _ _ _ (@a00 _ _ _ _ _ (@a07 _ _ _ _) (@a01 _) (by rfl))) (@a01 _) (by rfl)) (by rfl))) (@a01 _) (by rfl)) (by rfl))) (by rfl) (by walk_at "o"))) (@a42 _))
    (@a91 _ _ _ _ _ (@a67 _ _ _ _ _ _ _ _ (@a29 _ _ _ _ _ _ _ _ a68 (pv 8) (@a02 _ _ _ _) (nomark _)) (@a08 _ _ _ (@a27 _ _ 13 _ _ _ _ sc_law_loop.nd rfl (by walk_at "o") (@a05 _ _ _ _ _ (@a00 _ _ _ _ _ (@a07 _ _ _ _) (@a00 _ _ _ _ _ (@a07 _ _ _ _) (@a01 _) (by rfl)) (by rfl))) (by rfl) (by walk_at "o"))) (@a42 _))
    (@a03 _ _ _ _ _ (av7 (i:=14) (Nt:=["entry"]) (Nf:=[]) (caps:=[]) rfl (a45 (sc:=a06 ag6) rfl rfl (by decide +kernel) (by decide +kernel) (by decide +kernel) rfl (by decide +kernel)) (a36 K (pv 0)) (fun _ _ _ _ _=>(a09 (i:=0) (show (["entry"]:List Str).Nodup by decide +kernel) rfl (by walk_at "o"))) (fun _ _ _ _ _=>(@a64 _)) (fun _ _ _ _ _=>(@a37 _ _ _ _ _ _ _ (a38 K) (pv 0) (@a02 _ _ _ _) (fun _ _=>rfl))) sc_law_loop.nd rfl (by walk_at "o") rfl)
    (@a08 _ _ _ (@a40 _ _ _ _ (@a05 _ _ _ _ _ (@a00 _ _ _ _ _ (@a07 _ _ _ _) (@a00 _ _ _ _ _ (@a31 _ _ _ _ _ _ _ _ a34 (@a31 _ _ _ _ _ _ _ _ a34 (@a44 _ _ _ _ _ _ _ _ _ _ (a47 K) (pv 14) (@a59 _) (@a51 _ _ _ (pv 11))) (@a19 _ _ _ _ (@a00 _ _ _ _ _ (pv 13) (@a01 _) (by rfl)))) (@a44 _ _ _ _ _ _ _ _ _ _ (a47 K) (pv 14) (@a51 _ _ _ (pv 11)) (@a59 _))) (@a01 _) (by rfl)) (by rfl))))))))))))))),?_⟩
   have sl:(1000000:Nat)≤sizeLine:=le_line (Nat.le_refl _)
   obtain ⟨us,e0,hE⟩:=hso.ex
   have hul:=hE.1
   walk_at "go"
   intro l1 H1 f1 s1 e1
   walk_at "run"
   refine ⟨c,l1,[most+1,4,10,1352,4,6],rfl,e1,fun s hs=>?_,by simp,fun l2 ds H2 f2 s2 e2 hdl hdd=>?_⟩
   · simp only [List.mem_cons,List.not_mem_nil,or_false] at hs
     omega
   obtain ⟨limit,place,key,number,leaves,form,rfl⟩:∃ a b c e f g,ds=[a,b,c,e,f,g]:=by
    match ds,hdl with
    | [a,b,c,e,f,g],_=>exact ⟨a,b,c,e,f,g,rfl⟩
   have hd2:key<10:=hdd 2 _ _ rfl rfl
   clear hdd
   walk_at "run"
   have e2:H2 l2=some (.lst [.int (limit:Nat),.int (place:Nat),.int (key:Nat),.int (number:Nat),.int (leaves:Nat),.int (form:Nat)]):=e2
   refine am4 (SqL.of e2) rfl ?_
   walk_at "run"
   have s12:=s1.trans s2
   refine a90 (SqL.of (s12 _ _ e0)) ?_
   walk_at "run"
   refine a90 (SqL.of (s12 _ _ e0)) ?_
   walk_at "run"
   rw [Int.toNat_natCast]
   refine aj1 (lo:=0) (n:=us.length) (fun i σ' H'=>H'=H2∧∃ (f:Nat) (y:Option V),f≤us.length∧σ'=[some (.ref so),some (.int c),some (.int (most:Nat)),some (.int (limit:Nat)),some (.int (place:Nat)),some (.int (key:Nat)),some (.int (number:Nat)),some (.int (leaves:Nat)),some (.int (form:Nat)),some (.int (f:Nat)),y,none,none,none,none]) ⟨rfl,us.length,_,Nat.le_refl _,rfl⟩ ?_ ?_
   · rintro i σ' H' hi ⟨rfl,f,y,hf,rfl⟩
     obtain ⟨ev,hev⟩:∃ v,us[i]?=some v:=⟨_,List.getElem?_eq_getElem hi⟩
     obtain ⟨e,ea,er,he,rfl,eb,hr⟩:=ab4 (hE.mono fun _ _ z=>z.same (wpS s12)) hev
     walk_at "run"
     rw [Int.zero_add]
     refine a61 (SqL.of (s12 _ _ e0)) (a04 (j:=i) hev) ?_
     walk_at "run"
     refine a52 (SqT.of eb) (a04 (j:=1) rfl) ?_
     walk_at "run"
     cases hg:e.g with
     | true =>
       rw [if_pos rfl]
       walk_at "run"
       exact ⟨rfl,min f i,some (.int (i:Nat)),by omega,by rw [show ((min f i:Nat):Int)=min (f:Int) (i:Int) by omega]⟩
     | false =>
       rw [if_neg Bool.false_ne_true]
       walk_at "run"
       exact ⟨rfl,f,_,hf,rfl⟩
   rintro σ' H3 ⟨rfl,f,y,hf,rfl⟩
   walk_at "run"
   obtain ⟨m,hm,hml⟩:∃ m:Nat,((place:Nat):Int) % (((f:Nat):Int)+1)=(m:Int)∧m≤us.length:=⟨place % (f+1),by push_cast; rfl,by have:=Nat.mod_lt place (show 0<f+1 by omega); omega⟩
   rw [hm]
   intro a4 H4 f4 s4 e4
   walk_at "run"
   intro a5 H5 f5 s5 e5
   walk_at "run"
   intro a6 H6 f6 s6 e6
   walk_at "run"
   intro a7 H7 f7 s7 e7
   walk_at "run"
   refine ⟨number,rfl,fun z H8 s8=>?_⟩
   walk_at "run"
   intro a9 H9 f9 s9 e9
   walk_at "run"
   intro a10 H10 f10 s10 e10
   walk_at "run"
   intro a11 H11 f11 s11 e11
   walk_at "run"
   intro a12 H12 f12 s12' e12
   walk_at "run"
   intro a13 H13 f13 s13 e13
   walk_at "run"
   have w:∀ {Hk Hm:Hp}{a:Addr}{o:HO},Same H Hk→Hk a=none→Hm a=some o→woP p Hm a=some o:=fun s f e=>by rw [wpG ((hp.same s).fr f)]; exact e
   have r4:=s12.trans s4
   have r5:=r4.trans s5
   have r6:=r5.trans s6
   have r8:=r6.trans (s7.trans s8)
   have r9:=r8.trans s9
   have r10:=r9.trans s10
   have r11:=r10.trans s11
   have r13:=r11.trans (s12'.trans s13)
   have q11:=s12'.trans s13
   have q10:=s11.trans q11
   have q9:=s10.trans q10
   have q7:=s8.trans (s9.trans q9)
   have q6:=s7.trans q7
   have q5:=s6.trans q6
   have q4:=s5.trans q5
   have b0:BrAt (woP p H13) (.ref a7) (.mk (keyP key) [.plain [.s "leave"]]):=bg0 (w r6 f7 (q7 _ _ e7)) (ap5 (w s12 f4 (q4 _ _ e4))) (aa5 (w r5 f6 (q6 _ _ e6)) (Each.nil.snoc (au0 (w r4 f5 (q5 _ _ e5)))))
   have b1:BrAt (woP p H13) (.ref a12) (.mk (ab1 z) [.plain [.s "say",.s "b"]]):=bg0 (w r11 f12 (s13 _ _ e12)) (ap4 (w r8 f9 (q9 _ _ e9))) (aa5 (w r10 f11 (q11 _ _ e11)) (Each.nil.snoc (au0 (w r9 f10 (q10 _ _ e10)))))
   obtain ⟨k,hk,hk2⟩:∃ k:Nat,((leaves:Nat):Int) % 2=(k:Int)∧(k=0∨k=1):=⟨leaves % 2,by omega,by omega⟩
   have hsel:∃ bs:List Br,Each (BrAt (woP p H13)) (([.ref a7,.ref a12]:List V).drop k |>.take 1) bs∧∀ n,Hk tn (.wait n bs):=by
    rcases hk2 with rfl | rfl
    · exact ⟨_,Each.nil.snoc b0,fun n=>Hk.wait rfl (.inr (.inr (.inr (.inr (.inl rfl))))) (.key _ (by omega) (by omega)) (by simp [L2.wordsOf,keyP])⟩
    · exact ⟨_,Each.nil.snoc b1,fun n=>Hk.wait rfl (.inl ⟨_,rfl⟩) (.word _) (by simp [L2.wordsOf,ab1])⟩
   clear e4 e5 e6 e7 e9 e10 e11 e12
   rw [hk]
   refine aa2 (SqL.of e13) ?_
   rw [aa0]
   intro a14 H14 f14 s14 e14
   walk_at "run"
   refine aa2 (SqL.of e14) ?_
   rw [show (1:Int)=((1:Nat):Int) from rfl,a92]
   intro a15 H15 f15 s15 e15
   walk_at "run"
   obtain ⟨bs,hbs,hbk⟩:=hsel
   have s1315:=s14.trans s15
   have hbs:=hbs.mono fun _ _ z=>af3 z (wpS (p:=p) s1315)
   generalize (([.ref a7,.ref a12]:List V).drop k |>.take 1)=bv at *
   have r15:=r13.trans s1315
   have nf:¬ p a15:=(hp.same (r13.trans s14)).fr f15
   have e15:woP p H15 a15=some (.lst bv):=by rw [wpG nf]; exact e15
   clear e13 e14 b0 b1
   intro a16 H16 f16 s16 e16
   walk_at "run"
   have h16:SAt (woP p H16) (.ref a16) (.wait limit bs):=sat_wait.mpr ⟨a16,a15,bv,rfl,w r15 f16 e16,wpS s16 _ _ e15,hbs.mono fun _ _ z=>af3 z (wpS s16)⟩
   have r16:=r15.trans s16
   refine ah6 (fun σ' H'=>∃ (v:V) (s:Stm),σ'=[some (.ref so),some (.int c),some (.int (most:Nat)),some (.int (limit:Nat)),some (.int (place:Nat)),some (.int (key:Nat)),some (.int (number:Nat)),some (.int (leaves:Nat)),some (.int (form:Nat)),some (.int (f:Nat)),y,some (.int (m:Nat)),some (.ref a15),some v,none]∧Same H H'∧SAt (woP p H') v s∧Hk tn s) ?_ ?_
   · walk_at "run"
     by_cases hf1:(form:Int)=1
     · refine a55 hf1 ?_
       walk_at "run"
       intro b1 J1 g1 t1 d1
       walk_at "run"
       intro b2 J2 g2 t2 d2
       walk_at "run"
       intro b3 J3 g3 t3 d3
       walk_at "run"
       intro b4 J4 g4 t4 d4
       walk_at "run"
       intro b5 J5 g5 t5 d5
       walk_at "run"
       intro b6 J6 g6 t6 d6
       walk_at "run"
       intro b7 J7 g7 t7 d7
       walk_at "run"
       intro b8 J8 g8 t8 d8
       walk_at "run"
       intro b9 J9 g9 t9 d9
       walk_at "run"
       intro b10 J10 g10 t10 d10
       walk_at "run"
       have u2:=r16.trans t1
       have u3:=u2.trans t2
       have u4:=u3.trans t3
       have u5:=u4.trans t4
       have u6:=u5.trans t5
       have u7:=u6.trans t6
       have u8:=u7.trans t7
       have u9:=u8.trans t8
       have u10:=u9.trans t9
       have v8:=t9.trans t10
       have v7:=t8.trans v8
       have v6:=t7.trans v7
       have v5:=t6.trans v6
       have v4:=t5.trans v5
       have v3:=t4.trans v4
       have v2:=t3.trans v3
       have v1:=t2.trans v2
       refine ⟨_,.test (.cmp false (.num key) (.num 5)) [.wait limit []] [.wait most []],rfl,u10.trans t10,ba6 (w u10 g10 d10) (cpA (w u3 g3 (v3 _ _ d3)) (nmA (w r16 g1 (v1 _ _ d1))) (nmA (w u2 g2 (v2 _ _ d2)))) (aa5 (w u6 g6 (v6 _ _ d6)) (Each.nil.snoc (sat_wait.mpr ⟨b5,b4,[],rfl,w u5 g5 (v5 _ _ d5),w u4 g4 (v4 _ _ d4),Each.nil⟩))) (aa5 (w u9 g9 (t10 _ _ d9)) (Each.nil.snoc (sat_wait.mpr ⟨b8,b7,[],rfl,w u8 g8 (v8 _ _ d8),w u7 g7 (v7 _ _ d7),Each.nil⟩))),Hk.test (by simp [Cd.tr,Ex.tr,Tr.h,Tr.hs])⟩
     · refine a43 hf1 ?_
       walk_at "run"
       exact ⟨_,_,rfl,r16,h16,hbk _⟩
   rintro σ' H17 ⟨v17,s17,rfl,r17,h17,k17⟩
   refine ah6 (fun σ' H'=>∃ (v:V) (s:Stm),σ'=[some (.ref so),some (.int c),some (.int (most:Nat)),some (.int (limit:Nat)),some (.int (place:Nat)),some (.int (key:Nat)),some (.int (number:Nat)),some (.int (leaves:Nat)),some (.int (form:Nat)),some (.int (f:Nat)),y,some (.int (m:Nat)),some (.ref a15),some v,none]∧Same H H'∧SAt (woP p H') v s∧Hk tn s) ?_ ?_
   · walk_at "run"
     by_cases hf1:(form:Int)=2
     · refine a55 hf1 ?_
       walk_at "run"
       intro b1 J1 g1 t1 d1
       walk_at "run"
       intro b2 J2 g2 t2 d2
       walk_at "run"
       intro b3 J3 g3 t3 d3
       walk_at "run"
       intro b4 J4 g4 t4 d4
       walk_at "run"
       intro b5 J5 g5 t5 d5
       walk_at "run"
       have u2:=r17.trans t1
       have u3:=u2.trans t2
       have u4:=u3.trans t3
       have u5:=u4.trans t4
       have v3:=t4.trans t5
       have v2:=t3.trans v3
       have v1:=t2.trans v2
       refine ⟨_,.loop [.wait limit [],.plain [.s "leave"]],rfl,u5.trans t5,sat_loop.mpr ⟨b5,_,rfl,w u5 g5 d5,aa5 (w u4 g4 (t5 _ _ d4)) ((Each.nil.snoc (sat_wait.mpr ⟨b2,b1,[],rfl,w u2 g2 (v2 _ _ d2),w r17 g1 (v1 _ _ d1),Each.nil⟩)).snoc (au0 (w u3 g3 (v3 _ _ d3))))⟩,Hk.loop⟩
     · refine a43 hf1 ?_
       walk_at "run"
       exact ⟨_,_,rfl,r17,h17,k17⟩
   clear h16 h17 hbk hbs e15
   rintro σ' H18 ⟨v18,s18,rfl,r18,h18,k18⟩
   refine ah6 (fun σ' H'=>∃ (v:V) (s:Stm),σ'=[some (.ref so),some (.int c),some (.int (most:Nat)),some (.int (limit:Nat)),some (.int (place:Nat)),some (.int (key:Nat)),some (.int (number:Nat)),some (.int (leaves:Nat)),some (.int (form:Nat)),some (.int (f:Nat)),y,some (.int (m:Nat)),some (.ref a15),some v,none]∧Same H H'∧SAt (woP p H') v s∧Hk tn s) ?_ ?_
   · walk_at "run"
     by_cases hf1:(form:Int)=3
     · refine a55 hf1 ?_
       walk_at "run"
       intro b1 J1 g1 t1 d1
       walk_at "run"
       exact ⟨_,.plain [.s "call",.s "held"],rfl,r18.trans t1,au0 (w r18 g1 d1),Hk.call hht⟩
     · refine a43 hf1 ?_
       walk_at "run"
       exact ⟨_,_,rfl,r18,h18,k18⟩
   clear h18 k18
   rintro σ' H19 ⟨v19,s19,rfl,r19,h19,k19⟩
   walk_at "run"
   refine ⟨⟨_,SqL.of (r19 _ _ e0)⟩,ag4 (p:=p) (es:=es) (by omega) (hp.same r19) (r19 _ _ e0) (hE.mono fun _ _ z=>z.same (wpS r19)) fun l20 b20 H20 f20 s20 e20 h20=>?_⟩
   walk_at "run"
   have hbl:b20.length=us.length:=by rw [h20.1,List.length_map,hul]
   refine aa2 (SqL.of e20) ?_
   rw [a92]
   intro a21 H21 f21 s21 e21
   walk_at "run"
   intro a22 H22 f22 s22 e22
   walk_at "run"
   refine a69 (s22 _ _ e21) e22 (by simp only [List.length_take,List.length_cons,List.length_nil]; omega) ?_
   intro a23 H23 f23 s23 e23
   walk_at "run"
   have s03:=s21.trans (s22.trans s23)
   refine aa2 (SqL.of (s03 _ _ e20)) ?_
   rw [aa0]
   intro a24 H24 f24 s24 e24
   walk_at "run"
   refine a69 (s24 _ _ e23) e24 (by simp only [List.length_append,List.length_drop,List.length_take,List.length_cons,List.length_nil]; omega) ?_
   intro a25 H25 f25 s25 e25
   walk_at "run"
   intro a26 H26 f26 s26 e26
   have s06:=s03.trans (s24.trans (s25.trans s26))
   have r20:=r19.trans s20
   have r24:=(r20.trans s03).trans s24
   have r25:=r24.trans s25
   have h06:=h20.mono fun _ _ z=>z.same (wpS (p:=p) s06)
   exact q _ _ H26 (r20.trans s06) (sat_loop.mpr ⟨a26,_,rfl,w r25 f26 e26,aa5 (w r24 f25 (s26 _ _ e25)) (((h06.take m).snoc (h19.same (wpS (s20.trans s06)))).append (ab2 h06 m))⟩) (by
    have:=bp2 m hso.ok k19
    rw [List.map_take,List.map_drop] at this
    exact this)
theorem au2 {K:PySem.W.Frag}{p:Addr→Prop}{H:Hp}{a:Addr}{us:List V}{es:List Ee}{σ:St} {Q:VK}(hz:us.length≤sizeLine) (hl:H a=some (.lst us)) (hE:Each (EeA (woP p H)) us es) (q:∀ l H',H l=none→Same H H'→H' l=some (.lst ((es.map (·.d)).map V.int))→Q (.ref l) H'):ac1 (Itl K a) (ae6 0) tNoIf (tOp (rIxT K) (tVar 0) (tC (V.int 3))) 1 [] σ H Q:=by
 refine a73 (xs:=us) hz (fun i acc H'=>H'=H∧acc.length≤i∧acc=((es.take i).map (·.d)).map V.int) ⟨rfl,Nat.zero_le _,rfl⟩ (fun i acc H' ⟨h1,h2,_⟩=>⟨h2,by rw [h1]; exact SqL.of hl⟩) ?_ ?_
 · rintro i x acc H' hx ⟨rfl,hl2,h3⟩
   obtain ⟨e,b,r,he,rfl,eb,hr⟩:=ab4 hE hx
   walk_at "run"
   refine a52 (SqT.of eb) (a04 (j:=3) rfl) ?_
   refine ⟨rfl,by rw [List.length_append]; simp; omega,?_⟩
   rw [h3,List.take_add_one,he,List.map_append,List.map_append]
   rfl
 · rintro acc H' ⟨rfl,_,h3⟩ l H1 f1 s1 e1
   rw [hE.1,List.take_of_length_le (Nat.le_refl _)] at h3
   rw [h3] at e1
   exact q l H1 f1 s1 e1
theorem ba9 {K:PySem.W.Frag}{p:Addr→Prop}{H:Hp}{a:Addr}{us:List V}{es:List Ee}{σ0:St} {k:Nat}{cs:List Nat}{Q:VK}(hk:k=1∨k=2) (hσ:capV cs σ0=[some (.int (k:Nat))]) (hz:us.length≤sizeLine) (hl:H a=some (.lst us)) (hE:Each (EeA (woP p H)) us es) (q:∀ l bs H',H l=none→Same H H'→H' l=some (.lst (blsX bs))→Q (.ref l) H'):ac1 (Itl K a) (ae6 0) tNoIf (tOp (rIxT K) (tVar 0) (tVar 1)) 1 cs σ0 H Q:=by
 refine a73 (xs:=us) hz (fun i acc H'=>H'=H∧acc.length≤i∧∃ bs,acc=blsX bs) ⟨rfl,Nat.zero_le _,[],rfl⟩ (fun i acc H' ⟨h1,h2,_⟩=>⟨h2,by rw [h1]; exact SqL.of hl⟩) ?_ ?_
 · rintro i x acc H' hx ⟨rfl,hl2,bs,h3⟩
   obtain ⟨e,b,r,he,rfl,eb,hr⟩:=ab4 hE hx
   rw [hσ]
   walk_at "run"
   rcases hk with rfl | rfl
   · refine a52 (SqT.of eb) (a04 (j:=1) rfl) ?_
     exact ⟨rfl,by rw [List.length_append]; simp; omega,bs++[e.g],by rw [h3]; simp [blsX]⟩
   · refine a52 (SqT.of eb) (a04 (j:=2) rfl) ?_
     exact ⟨rfl,by rw [List.length_append]; simp; omega,bs++[e.l],by rw [h3]; simp [blsX]⟩
 · rintro acc H' ⟨rfl,_,bs,h3⟩ l H1 f1 s1 e1
   rw [h3] at e1
   exact q l bs H1 f1 s1 e1
def bb0 (K:PySem.W.Frag):Sp:=fun vs H Q _=>∃ (c way:Int) (so bl:Addr) (most:Nat) (bn tn:List Str) (es:List Ee) (p:Addr→Prop),vs=[.int c,.ref so,.ref bl,.int (most:Nat),.int way]∧SoA p tn H so es∧es.length≤10∧most≤8∧Str.ofString "held"∈tn∧BxAt H bl bn∧Ex_ p H∧∀ v s g l d H',Same H H'→Ent (woP p H') v s g l d→Sk tn (msum es+1) s→Q v H'
theorem au3 (T:Txt K mg t):FnOk P w K mg base CX0 5 t.a__law_entry t.fd__law_entry ["cell","some","boxes","most","way"] (bb0 K):=by
 have G__law_loop:=al0 (P:=P) (w:=w) (base:=base) T
 have G__law_test:=ax3 (P:=P) (w:=w) (base:=base) T
 have G__law_wait:=ax4 (P:=P) (w:=w) (base:=base) T
 refine T.f__law_entry.F.ok sc_law_entry (fun vs H Q E h=>?_) (fun cdv A outer s H vs Q E hr h=>?_)
 · obtain ⟨c,way,so,bl,most,bn,tn,es,p,rfl,_⟩:=h
   rfl
 · obtain ⟨c,way,so,bl,most,bn,tn,es,p,rfl,hso,hes,hmo,hht,hb,hp,q⟩:=h
   refine ⟨_,(@a03 _ _ _ _ _ (@a27 _ _ 5 _ _ _ _ sc_law_entry.nd rfl (by walk_at "o") (@a31 _ _ _ _ _ _ _ _ a34 (@a02 _ _ _ _) (aw8 K (by rfl) (by rfl) (by rfl) T.z_max b56 (@a00 _ _ _ _ _ (a98 (Nt:=["entry"]) (Nf:=[]) (caps:=[]) rfl (a45 (sc:=a06 a95) rfl rfl (by decide +kernel) (by decide +kernel) (by decide +kernel) rfl (by decide +kernel)) (a36 K (pv 1)) (fun _ _ _ _ _=>(a09 (i:=0) (show (["entry"]:List Str).Nodup by decide +kernel) rfl (by walk_at "o"))) (fun _ _ _ _ _=>(@a64 _)) (fun _ _ _ _ _=>(@a37 _ _ _ _ _ _ _ (a38 K) (pv 0) (@a02 _ _ _ _) (fun _ _=>rfl)))) (@a01 _) (by rfl)) (av2 (@a02 _ _ _ _) b43) (by rfl))) (by rfl) (by walk_at "o"))
    (@a03 _ _ _ _ _ (@a67 _ _ _ _ _ _ _ _ (@a29 _ _ _ _ _ _ _ _ a68 (pv 4) (@a02 _ _ _ _) (nomark _)) (@a08 _ _ _ (@a40 _ _ _ _ (@a05 _ _ _ _ _ (@a00 _ _ _ _ _ (@a32 _ _ _ _ _ _ _ _ _ _ _ _ _ _ _ _ G__law_loop (hr.mono (by omega)) rfl T.f__law_loop.m T.f__law_loop.F.kp T.f__law_loop.b .nil a60 (@a00 _ _ _ _ _ (pv 1) (@a00 _ _ _ _ _ (pv 0) (@a00 _ _ _ _ _ (pv 3) (@a01 _) (by rfl)) (by rfl)) (by rfl)) (by decide) (by rfl) (by rfl)) (@a00 _ _ _ _ _ (@aa1 _ _ _ _) (@a00 _ _ _ _ _ (@aa1 _ _ _ _) (@a00 _ _ _ _ _ (pv 5) (@a01 _) (by rfl)) (by rfl)) (by rfl)) (by rfl))))) (@a42 _))
    (@a03 _ _ _ _ _ (av7 (i:=6) (Nt:=["k"]) (Nf:=["some"]) (caps:=[1]) rfl (ay4 (sc:=a06 a95) rfl rfl (by decide +kernel) (by decide +kernel) (by decide +kernel) rfl (by decide +kernel)) (a36 K (@a19 _ _ _ _ (@a00 _ _ _ _ _ (@a02 _ _ _ _) (@a00 _ _ _ _ _ (@a02 _ _ _ _) (@a01 _) (by rfl)) (by rfl)))) (fun _ _ _ _ _=>(a09 (i:=0) (show (["k","some"]:List Str).Nodup by decide +kernel) rfl (by walk_at "o"))) (fun _ _ _ _ _=>(@a64 _)) (fun _ _ _ _ _=>(aw8 K (by rfl) (by rfl) (by rfl) T.z_max b56 (@a00 _ _ _ _ _ (a98 (Nt:=["entry"]) (Nf:=["k"]) (caps:=[0]) rfl (a45 (b69 (sc0:=a06 a95) rfl) rfl (by decide +kernel) (by decide +kernel) (by decide +kernel) rfl (by decide +kernel)) (a36 K (pv 1)) (fun _ _ _ _ _=>(a09 (i:=0) (show (["entry","k"]:List Str).Nodup by decide +kernel) rfl (by walk_at "o"))) (fun _ _ _ _ _=>(@a64 _)) (fun _ _ _ _ _=>(@a37 _ _ _ _ _ _ _ (a38 K) (pv 0) (pv 1) (fun _ _=>rfl)))) (@a01 _) (by rfl)) (av2 (@aa1 _ _ _ _) b43) (by rfl))) sc_law_entry.nd rfl (by walk_at "o") rfl)
    (@a03 _ _ _ _ _ (@a67 _ _ _ _ _ _ _ _ (@a29 _ _ _ _ _ _ _ _ a68 (pv 4) (@a02 _ _ _ _) (nomark _)) (@a08 _ _ _ (@a40 _ _ _ _ (@a05 _ _ _ _ _ (@a00 _ _ _ _ _ (@a32 _ _ _ _ _ _ _ _ _ _ _ _ _ _ _ _ G__law_wait (hr.mono (by omega)) rfl T.f__law_wait.m T.f__law_wait.F.kp T.f__law_wait.b .nil a60 (@a00 _ _ _ _ _ (pv 1) (@a00 _ _ _ _ _ (pv 0) (@a00 _ _ _ _ _ (pv 3) (@a01 _) (by rfl)) (by rfl)) (by rfl)) (by decide) (by rfl) (by rfl)) (@a00 _ _ _ _ _ (@a37 _ _ _ _ _ _ _ (a35 K) (pv 6) (@a02 _ _ _ _) (fun _ _=>rfl)) (@a00 _ _ _ _ _ (@a37 _ _ _ _ _ _ _ (a35 K) (pv 6) (@a02 _ _ _ _) (fun _ _=>rfl)) (@a00 _ _ _ _ _ (pv 5) (@a01 _) (by rfl)) (by rfl)) (by rfl)) (by rfl))))) (@a42 _))
    (@a08 _ _ _ (@a40 _ _ _ _ (@a05 _ _ _ _ _ (@a00 _ _ _ _ _ (@a32 _ _ _ _ _ _ _ _ _ _ _ _ _ _ _ _ G__law_test (hr.mono (by omega)) rfl T.f__law_test.m T.f__law_test.F.kp T.f__law_test.b .nil a60 (@a00 _ _ _ _ _ (pv 1) (@a00 _ _ _ _ _ (pv 0) (@a00 _ _ _ _ _ (pv 2) (@a01 _) (by rfl)) (by rfl)) (by rfl)) (by decide) (by rfl) (by rfl)) (@a00 _ _ _ _ _ (@a37 _ _ _ _ _ _ _ (a35 K) (pv 6) (@a02 _ _ _ _) (fun _ _=>rfl)) (@a00 _ _ _ _ _ (@a37 _ _ _ _ _ _ _ (a35 K) (pv 6) (@a02 _ _ _ _) (fun _ _=>rfl)) (@a00 _ _ _ _ _ (pv 5) (@a01 _) (by rfl)) (by rfl)) (by rfl)) (by rfl))))))))),?_⟩
   have sl:(1000000:Nat)≤sizeLine:=le_line (Nat.le_refl _)
   obtain ⟨us,e0,hE⟩:=hso.ex
   have hul:=hE.1
   have w:∀ {Hk Hm:Hp}{a:Addr}{o:HO},Same H Hk→Hk a=none→Hm a=some o→woP p Hm a=some o:=fun s f e=>by rw [wpG ((hp.same s).fr f)]; exact e
   walk_at "go"
   unfold bf3
   walk_at "run"
   refine ⟨⟨_,SqL.of e0⟩,au2 (p:=p) (by omega) e0 hE fun l1 H1 f1 s1 e1=>?_⟩
   walk_at "run"
   rename_i N hN
   have rest:∀ M:Int,N [some (.int c),some (.ref so),some (.ref bl),some (.int (most:Nat)),some (.int way),some (.int (2+M)),none] H1:=fun M=>by
    refine hN _ _ ?_
    clear hN
    walk_at "run"
    by_cases h7:way=7
    · refine a55 h7 ?_
      walk_at "run"
      refine ⟨so,c,most,tn,es,p,rfl,hso.same s1,hes,hmo,hht,hp.same s1,fun v s H2 s2 hs hk=>?_⟩
      walk_at "run"
      intro a3 H3 f3 s3 e3
      have s13:=s1.trans s2
      exact q _ _ false false (2+M) H3 (s13.trans s3) ⟨a3,v,rfl,w s13 f3 e3,hs.same (wpS s3)⟩ hk
    refine a43 h7 ?_
    walk_at "run"
    intro l2 H2 f2 s2 e2
    have s12:=s1.trans s2
    refine ⟨l2,rfl,⟨_,SqL.of e2⟩,a73 (xs:=[.int 1,.int 2]) (by simp; omega) (fun i acc H'=>Same H2 H'∧∃ bs:List Bool,acc=blsX bs∧bs.length=i) ⟨Same.refl _,[],rfl,rfl⟩ (fun i acc H' ⟨h1,bs,h2,h3⟩=>⟨by rw [h2]; simp [blsX,h3],SqL.of (h1 _ _ e2)⟩) ?_ ?_⟩
    · rintro i x acc H3 hx ⟨s3,bs,rfl,hbs⟩
      have s13:=s12.trans s3
      obtain ⟨k,rfl,hk⟩:∃ k:Nat,x=.int (k:Nat)∧(k=1∨k=2):=by
       match i,hx with
       | 0,hx=>cases hx; exact ⟨1,rfl,.inl rfl⟩
       | 1,hx=>cases hx; exact ⟨2,rfl,.inr rfl⟩
      unfold bf3
      walk_at "run"
      refine ⟨⟨_,SqL.of (s13 _ _ e0)⟩,ba9 (p:=p) hk rfl (by omega) (s13 _ _ e0) (hE.mono fun _ _ z=>z.same (wpS s13)) fun l4 b4 H4 f4 s4 e4=>?_⟩
      walk_at "run"
      have fin:∀ b:Bool,∃ bs':List Bool,blsX bs++[.bl b]=blsX bs'∧bs'.length=i+1:=fun b=>⟨bs++[b],by simp [blsX],by simp [hbs]⟩
      exact ⟨l4,.bl false,rfl,rfl,.inr ⟨b4,SqL.of e4,fun _=>⟨s3.trans s4,fin _⟩,fun M _ _=>⟨s3.trans s4,fin _⟩⟩⟩
    · rintro acc H3 ⟨s3,bs,rfl,hbs⟩
      intro a5 H5 f5 s5 e5
      walk_at "run"
      have s15:=s12.trans (s3.trans s5)
      obtain ⟨o0,o1,rfl⟩:∃ a b,bs=[a,b]:=by
       match bs,hbs with
       | [a,b],_=>exact ⟨a,b,rfl⟩
      have fin:∀ {H6 H7 H8:Hp}{v:V}{s:Stm}{a:Addr},Same H5 H6→SAt (woP p H6) v s→Sk tn (msum es+1) s→Same H6 H7→H7 a=none→Same H7 H8→H8 a=some (.tup [v,.bl o0,.bl o1,.int (2+M)])→Q (.ref a) H8:=fun {H6 H7 H8 v s a} s6 hs hk s7 f8 s8 e8=>by
       have u:=(s15.trans s6).trans s7
       exact q _ _ o0 o1 (2+M) _ (u.trans s8) ⟨a,v,rfl,w u f8 e8,hs.same (wpS (s7.trans s8))⟩ hk
      by_cases h6:way=6
      · refine a55 h6 ?_
        walk_at "run"
        refine ⟨so,c,most,tn,es,p,rfl,hso.same s15,hes,hmo,hp.same s15,fun v s H6 s6 hs hk=>?_⟩
        walk_at "run"
        refine a61 (SqL.of (s6 _ _ e5)) (a04 (j:=0) rfl) ?_
        walk_at "run"
        refine a61 (SqL.of (s6 _ _ e5)) (a04 (j:=1) rfl) ?_
        walk_at "run"
        intro a7 H7 f7 s7 e7
        exact fin s6 hs hk (Same.refl _) f7 s7 e7
      · refine a43 h6 ?_
        walk_at "run"
        refine ⟨so,bl,c,bn,tn,es,p,rfl,hso.same s15,hes,hb.same s15,hp.same s15,fun v s H6 s6 hs hk=>?_⟩
        walk_at "run"
        refine a61 (SqL.of (s6 _ _ e5)) (a04 (j:=0) rfl) ?_
        walk_at "run"
        refine a61 (SqL.of (s6 _ _ e5)) (a04 (j:=1) rfl) ?_
        walk_at "run"
        intro a7 H7 f7 s7 e7
        exact fin s6 hs hk (Same.refl _) f7 s7 e7
   clear hN
   exact ⟨l1,.int 0,rfl,rfl,.inl ⟨es.map (·.d),SqL.of e1,fun _=>by
    walk_at "run"
    exact rest 0,fun M _ _=>by
    walk_at "run"
    exact rest M⟩⟩
theorem wpR {p1 p2:Addr→Prop}{H H':Hp}{b:Addr}(s:Same H H') (f:H b=none) (h:∀ a,p2 a→p1 a∨a=b):Same (woP p1 H) (woP p2 H'):=fun a o e=>by
 obtain ⟨h1,h2⟩:=wpT e
 rw [wpG (fun z=>(h a z).elim h1 fun z=>by rw [z,f] at h2; cases h2)]
 exact s _ _ h2
theorem bp3 {c:Prop} [Decidable c] {t:TT}{σ:St} {H:Hp}{A B:Hp→Prop}(hA:∀ H',Same H H'→A H') (hB:∀ H',Same H H'→B H') (ht:∀ Q:Bool→Hp→Prop,(∀ b H',Same H H'→Q b H')→t σ H Q):if decide c=true then (if true=true then A H else B H) else t σ H fun b H1=>if b=true then A H1 else B H1:=by
 by_cases h:c
 · rw [if_pos (decide_eq_true h),if_pos rfl]
   exact hA H (Same.refl _)
 · rw [if_neg (by simp [h])]
   refine ht _ fun b H' s=>?_
   cases b with
   | true=>rw [if_pos rfl]; exact hA H' s
   | false=>rw [if_neg Bool.false_ne_true]; exact hB H' s
def bg4 (K:PySem.W.Frag):Sp:=fun vs H Q _=>∃ (xl bl cl:Addr) (cs:List Int) (most:Nat) (bn ns tn:List Str) (p:Addr→Prop),vs=[.ref xl,.ref bl,.ref cl,.int (most:Nat)]∧H xl=some (.lst (a53 cs))∧cs.length≤5∧most≤8∧BxAt H bl bn∧H cl=some (.lst (a33 ns))∧ns.length≤3∧(∀ x∈ns,x∈tn)∧Str.ofString "held"∈tn∧Ex_ p H∧∀ v b H',Same H H'→BAt (woP p H') v b→Bk tn 6 b→Q v H'
theorem ax5 (T:Txt K mg t):FnOk P w K mg base CX0 6 t.a__law_talk t.fd__law_talk ["cells","boxes","calls","most"] (bg4 K):=by
 have G__law_drawn:=a71 (P:=P) (w:=w) (base:=base) T
 have G__law_entry:=au3 (P:=P) (w:=w) (base:=base) T
 have G__law_loop:=al0 (P:=P) (w:=w) (base:=base) T
 have G__law_simple:=ap3 (P:=P) (w:=w) (base:=base) T
 refine T.f__law_talk.F.ok sc_law_talk (fun vs H Q E h=>?_) (fun cdv A outer s H vs Q E hr h=>?_)
 · obtain ⟨xl,bl,cl,cs,most,bn,ns,tn,p,rfl,_⟩:=h
   rfl
 · obtain ⟨xl,bl,cl,cs,most,bn,ns,tn,p,rfl,hx,hcs,hmo,hb,hcl,hns,hnt,hht,hp,q⟩:=h
   refine ⟨_,(@a03 _ _ _ _ _ (@a27 _ _ 4 _ _ _ _ sc_law_talk.nd rfl (by walk_at "o") (@a19 _ _ _ _ (@a01 _)) (by rfl) (by walk_at "o"))
    (@a03 _ _ _ _ _ (@aa7 _ _ _ _ _ _ _ _ PassesOwn.never rfl (a36 K (pv 0)) (a09 (i:=5) sc_law_talk.nd rfl (by walk_at "o")) (@a03 _ _ _ _ _ (@aj0 _ _ _ _ _ _ (@a32 _ _ _ _ _ _ _ _ _ _ _ _ _ _ _ _ G__law_drawn (hr.mono (by omega)) rfl T.f__law_drawn.m T.f__law_drawn.F.kp T.f__law_drawn.b .nil a60 (@a00 _ _ _ _ _ (pv 5) (@a00 _ _ _ _ _ (@a19 _ _ _ _ (@a00 _ _ _ _ _ (@a02 _ _ _ _) (@a00 _ _ _ _ _ (@a02 _ _ _ _) (@a01 _) (by rfl)) (by rfl))) (@a01 _) (by rfl)) (by rfl)) (by decide) (by rfl) (by rfl)) (ag8 K (n:=2) rfl (a20 (a09 (i:=6) sc_law_talk.nd rfl (by walk_at "o")) (a20 (a09 (i:=7) sc_law_talk.nd rfl (by walk_at "o")) (@a85 _)))) (by rfl) (by rfl) (by rfl))
     (@a03 _ _ _ _ _ (@a27 _ _ 8 _ _ _ _ sc_law_talk.nd rfl (by walk_at "o") (@a31 _ _ _ _ _ _ _ _ a34 (@a31 _ _ _ _ _ _ _ _ ac0 (@a31 _ _ _ _ _ _ _ _ ae7 (pv 5) (@a02 _ _ _ _)) (@a02 _ _ _ _)) (@a31 _ _ _ _ _ _ _ _ a62 (pv 5) (@a02 _ _ _ _))) (by rfl) (by walk_at "o"))
     (@a03 _ _ _ _ _ (@a27 _ _ 9 _ _ _ _ sc_law_talk.nd rfl (by walk_at "o") (@a44 _ _ _ _ _ _ _ _ _ _ (a47 K) (pv 4) (@a51 _ _ _ (@a31 _ _ _ _ _ _ _ _ ay1 (@a39 _ _ _ _ _ _ _ _ _ (a65 K) (by rfl) T.z_len a80 (@a00 _ _ _ _ _ (pv 4) (@a01 _) (by rfl)) (by decide) (by decide) (by rfl) (by rfl)) (@a39 _ _ _ _ _ _ _ _ _ am5 (by rfl) T.z_min bh9 (@a00 _ _ _ _ _ (pv 7) (@a00 _ _ _ _ _ (@a39 _ _ _ _ _ _ _ _ _ (a65 K) (by rfl) T.z_len a80 (@a00 _ _ _ _ _ (pv 4) (@a01 _) (by rfl)) (by decide) (by decide) (by rfl) (by rfl)) (@a01 _) (by rfl)) (by rfl)) (by decide) (by decide) (by rfl) (by rfl)))) (@a59 _)) (by rfl) (by walk_at "o"))
     (@a08 _ _ _ (@a67 _ _ _ _ _ _ _ _ (@PW.pt _ _ _ (@av1 _ _ _ _ _ _ _ (@a29 _ _ _ _ _ _ _ _ br7 (pv 6) (@a02 _ _ _ _) (nomark _)) (@aq3 _ _ _ _ (@a29 _ _ _ _ _ _ _ _ br8 (aw8 K (by rfl) (by rfl) (by rfl) T.z_max b56 (@a00 _ _ _ _ _ (a98 (Nt:=["entry"]) (Nf:=[]) (caps:=[]) rfl (a45 (sc:=a06 aa8) rfl rfl (by decide +kernel) (by decide +kernel) (by decide +kernel) rfl (by decide +kernel)) (a36 K (pv 9)) (fun _ _ _ _ _=>(a09 (i:=0) (show (["entry"]:List Str).Nodup by decide +kernel) rfl (by walk_at "o"))) (fun _ _ _ _ _=>(@a64 _)) (fun _ _ _ _ _=>(@a37 _ _ _ _ _ _ _ (a38 K) (pv 0) (@a02 _ _ _ _) (fun _ _=>rfl)))) (@a01 _) (by rfl)) (av2 (@a02 _ _ _ _) b43) (by rfl)) (@a02 _ _ _ _) (nomark _))))) (@a08 _ _ _ (@a75 _ _ _ _ (@a89 _ K _ _ _ _ _ _ _ _ _ _ _ PySem.F.plainAttrs_list PySem.F.slot_list_append PySem.F.type_list_append a66 (pv 4) (@a00 _ _ _ _ _ (@a32 _ _ _ _ _ _ _ _ _ _ _ _ _ _ _ _ G__law_simple (hr.mono (by omega)) rfl T.f__law_simple.m T.f__law_simple.F.kp T.f__law_simple.b .nil a60 (@a00 _ _ _ _ _ (pv 8) (@a00 _ _ _ _ _ (pv 1) (@a00 _ _ _ _ _ (pv 2) (@a00 _ _ _ _ _ (pv 3) (@a01 _) (by rfl)) (by rfl)) (by rfl)) (by rfl)) (by decide) (by rfl) (by rfl)) (@a01 _) (by rfl)) (by rfl) (by rfl) (by rfl) (by rfl) (by rfl) (by rfl)) (by rfl))) (@a08 _ _ _ (@a27 _ _ 4 _ _ _ _ sc_law_talk.nd rfl (by walk_at "o") (@a31 _ _ _ _ _ _ _ _ a34 (@a44 _ _ _ _ _ _ _ _ _ _ (a47 K) (pv 4) (@a59 _) (@a51 _ _ _ (@a31 _ _ _ _ _ _ _ _ ay1 (@a39 _ _ _ _ _ _ _ _ _ (a65 K) (by rfl) T.z_len a80 (@a00 _ _ _ _ _ (pv 4) (@a01 _) (by rfl)) (by decide) (by decide) (by rfl) (by rfl)) (@a39 _ _ _ _ _ _ _ _ _ (a65 K) (by rfl) T.z_len a80 (@a00 _ _ _ _ _ (pv 9) (@a01 _) (by rfl)) (by decide) (by decide) (by rfl) (by rfl))))) (@a19 _ _ _ _ (@a00 _ _ _ _ _ (@a32 _ _ _ _ _ _ _ _ _ _ _ _ _ _ _ _ G__law_entry (hr.mono (by omega)) rfl T.f__law_entry.m T.f__law_entry.F.kp T.f__law_entry.b .nil a60 (@a00 _ _ _ _ _ (pv 8) (@a00 _ _ _ _ _ (pv 9) (@a00 _ _ _ _ _ (pv 1) (@a00 _ _ _ _ _ (pv 3) (@a00 _ _ _ _ _ (pv 6) (@a01 _) (by rfl)) (by rfl)) (by rfl)) (by rfl)) (by rfl)) (by decide) (by rfl) (by rfl)) (@a01 _) (by rfl)))) (by rfl) (by walk_at "o")))))))) (by intro _; rfl))
    (@a03 _ _ _ _ _ (@a67 _ _ _ _ _ _ _ _ (@a29 _ _ _ _ _ _ _ _ (ad5 K (by exact hr.units)) (a98 (Nt:=["entry"]) (Nf:=[]) (caps:=[]) rfl (a45 (sc:=a06 aa8) rfl rfl (by decide +kernel) (by decide +kernel) (by decide +kernel) rfl (by decide +kernel)) (a36 K (pv 4)) (fun _ _ _ _ _=>(a09 (i:=0) (show (["entry"]:List Str).Nodup by decide +kernel) rfl (by walk_at "o"))) (fun _ _ _ _ _=>(@a97 _ _ _ (aj7 K (@a37 _ _ _ _ _ _ _ (a38 K) (pv 0) (@a02 _ _ _ _) (fun _ _=>rfl)) (fun _=>rfl)))) (fun _ _ _ _ _=>(pv 0))) (@a19 _ _ _ _ (@a01 _)) (nomark _)) (@a08 _ _ _ (@a40 _ _ _ _ (@a19 _ _ _ _ (@a00 _ _ _ _ _ (@a32 _ _ _ _ _ _ _ _ _ _ _ _ _ _ _ _ G__law_loop (hr.mono (by omega)) rfl T.f__law_loop.m T.f__law_loop.F.kp T.f__law_loop.b .nil a60 (@a00 _ _ _ _ _ (pv 4) (@a00 _ _ _ _ _ (@a39 _ _ _ _ _ _ _ _ _ (bn1 K) (by rfl) T.z_sum bu5 (@a00 _ _ _ _ _ (pv 0) (@a01 _) (by rfl)) (by decide) (by decide) (by rfl) (by rfl)) (@a00 _ _ _ _ _ (pv 3) (@a01 _) (by rfl)) (by rfl)) (by rfl)) (by decide) (by rfl) (by rfl)) (@a01 _) (by rfl))))) (@a42 _))
    (@a08 _ _ _ (@a40 _ _ _ _ (a98 (Nt:=["entry"]) (Nf:=[]) (caps:=[]) rfl (a45 (sc:=a06 aa8) rfl rfl (by decide +kernel) (by decide +kernel) (by decide +kernel) rfl (by decide +kernel)) (a36 K (pv 4)) (fun _ _ _ _ _=>(a09 (i:=0) (show (["entry"]:List Str).Nodup by decide +kernel) rfl (by walk_at "o"))) (fun _ _ _ _ _=>(@a64 _)) (fun _ _ _ _ _=>(@a37 _ _ _ _ _ _ _ (a38 K) (pv 0) (@a02 _ _ _ _) (fun _ _=>rfl))))))))),?_⟩
   have sl:(1000000:Nat)≤sizeLine:=le_line (Nat.le_refl _)
   walk_at "go"
   intro pl0 H1 f1 s1 e1
   walk_at "run"
   refine ⟨⟨_,SqL.of (s1 _ _ hx)⟩,aa4 (K:=K) (a:=xl) (xs:=a53 cs) (fun i σ' H'=>i≤cs.length∧∃ (pl:Addr) (us:List V) (es:List Ee) (y5 y6 y7 y8 y9:Option V),σ'=[some (.ref xl),some (.ref bl),some (.ref cl),some (.int (most:Nat)),some (.ref pl),y5,y6,y7,y8,y9]∧Same H H'∧H pl=none∧H' pl=some (.lst us)∧Each (EeA (woP (fun a=>p a∨a=pl) H')) us es∧EOk tn es∧msum es≤i∧es.length≤i) ⟨Nat.zero_le _,pl0,[],[],_,_,_,_,_,rfl,s1,f1,e1,Each.nil,fun e h=>(by cases h),Nat.le_refl _,Nat.le_refl _⟩ (fun i σ H' _ zz=>by obtain ⟨_,_,_,_,_,_,_,_,_,_,s',_⟩:=zz; exact SqL.of (s' _ _ hx)) ?_ ?_⟩
   · rintro i v σ' H2 hv ⟨_,pl,us,es,y5,y6,y7,y8,y9,rfl,s2,npl,e2,hE,hok,hm,hl⟩
     obtain ⟨c,hc,rfl⟩:∃ c,cs[i]?=some c∧v=.int c:=by
      unfold a53 at hv
      rw [List.getElem?_map] at hv
      cases h:cs[i]? with
      | none=>rw [h] at hv; cases hv
      | some c=>rw [h] at hv; exact ⟨c,rfl,(Option.some.inj hv).symm⟩
     have hil:=(List.getElem?_eq_some_iff.mp hc).1
     have hul:=hE.1
     walk_at "run"
     intro l3 H3 f3 s3 e3
     walk_at "run"
     refine ⟨c,l3,[8,4],rfl,e3,fun s hs=>?_,by simp,fun l4 ds H4 f4 s4 e4 hdl hdd=>?_⟩
     · simp only [List.mem_cons,List.not_mem_nil,or_false] at hs
       omega
     obtain ⟨way,many,rfl⟩:∃ a b,ds=[a,b]:=by
      match ds,hdl with
      | [a,b],_=>exact ⟨a,b,rfl⟩
     have hd0:way<8:=hdd 0 _ _ rfl rfl
     have hd1:many<4:=hdd 1 _ _ rfl rfl
     clear hdd
     walk_at "run"
     have e4:H4 l4=some (.lst [.int (way:Nat),.int (many:Nat)]):=e4
     refine am4 (SqL.of e4) rfl ?_
     walk_at "run"
     have s34:=s3.trans s4
     refine a90 (SqL.of (s34 _ _ e2)) ?_
     walk_at "run"
     refine a90 (SqL.of (s34 _ _ e2)) ?_
     walk_at "run"
     obtain ⟨k,hk,hkl⟩:∃ k:Nat,((us.length:Nat):Int) - min ((many:Nat):Int) ((us.length:Nat):Int)=(k:Int)∧k≤us.length:=⟨us.length - min many us.length,by omega,by omega⟩
     rw [hk]
     refine aa2 (SqL.of (s34 _ _ e2)) ?_
     rw [aa0]
     intro l5 H5 f5 s5 e5
     have s35:=s34.trans s5
     have s15:=s2.trans s35
     have e25:=s35 _ _ e2
     have hE5:Each (EeA (woP (fun a=>p a∨a=pl) H5)) us es:=hE.mono fun _ _ z=>z.same (wpS s35)
     have hE5k:=ab2 hE5 k
     generalize hp1:(fun a=>p a∨a=pl)=p1 at *
     have p1p:∀ a,p a→p1 a:=fun a h=>by rw [← hp1]; exact .inl h
     have p1l:p1 pl:=by rw [← hp1]; exact .inr rfl
     have hp5:Ex_ p1 H5:=fun a ha=>by
      rw [← hp1] at ha
      rcases ha with ha | rfl
      · exact hp.same s15 a ha
      · rw [e25]; exact fun z=>by cases z
     walk_at "run"
     refine bp3 ?_ ?_ ?_
     · intro H6 s6
       walk_at "run"
       refine ae3 (SqL.of (s6 _ _ e25)) ?_
       walk_at "run"
       have s16:=s15.trans s6
       refine ⟨_,bl,cl,bn,ns,most,tn,p1,rfl,hb.same s16,s16 _ _ hcl,hns,hnt,hp5.same s6,fun v s g l d H7 s7 hent hsk=>?_⟩
       walk_at "run"
       have s57:=s6.trans s7
       refine a74 (s57 _ _ e25) (by omega) ?_
       refine ⟨by omega,pl,us++[v],es++[⟨s,g,l,d,1⟩],_,_,_,_,_,rfl,(s15.trans s57).updNew npl,npl,a46,?_,?_,?_,?_⟩
       · rw [hp1,wpU p1l]
         exact (hE5.mono fun _ _ z=>z.same (wpS s57)).snoc hent
       · intro e he
         rcases List.mem_append.mp he with he | he
         · exact hok e he
         · rw [List.mem_singleton.mp he]; exact hsk
       · rw [ai9]; simp only [msum]; omega
       · rw [List.length_append]; simp only [List.length_cons,List.length_nil]; omega
     · intro H6 s6
       walk_at "run"
       refine a90 (SqL.of (s6 _ _ e25)) ?_
       walk_at "run"
       refine a90 (SqL.of (s6 _ _ e5)) ?_
       walk_at "run"
       rw [List.length_drop,show ((us.length:Nat):Int) - ((us.length - k:Nat):Int)=(k:Int) by omega]
       refine aa2 (SqL.of (s6 _ _ e25)) ?_
       rw [a92]
       intro l7 H7 f7 s7 e7
       walk_at "run"
       have s57:=s6.trans s7
       have s17:=s15.trans s57
       refine ⟨_,_,l5,bl,most,bn,tn,es.drop k,p1,rfl,⟨⟨_,s57 _ _ e5,hE5k.mono fun _ _ z=>z.same (wpS s57)⟩,hok.drop k⟩,by rw [List.length_drop]; omega,hmo,hht,hb.same s17,hp5.same s57,fun v s g l d H8 s8 hent hsk=>?_⟩
       walk_at "run"
       intro l9 H9 f9 s9 e9
       walk_at "run"
       refine a69 (s9 _ _ (s8 _ _ e7)) e9 (by simp only [List.length_take,List.length_cons,List.length_nil]; omega) ?_
       intro l10 H10 f10 s10 e10
       walk_at "run"
       have s910:=s9.trans s10
       have s5x:=s57.trans (s8.trans s910)
       have n10:H l10=none:=by
        cases h:H l10 with
        | none=>rfl
        | some o=>rw [(s17.trans (s8.trans s9)) _ _ h] at f10; cases f10
       have wr:∀ {Hk:Hp},Same Hk H10→Hk l10=none→Same (woP p1 Hk) (woP (fun a=>p a∨a=l10) H10):=fun s f=>wpR s f fun a h=>h.imp (p1p a) id
       have n8:∀ {Hk:Hp},Same Hk H9→Hk l10=none:=fun {Hk} s=>by
        cases h:Hk l10 with
        | none=>rfl
        | some o=>rw [s _ _ h] at f10; cases f10
       refine ⟨by omega,l10,_,es.take k++[⟨s,g,l,d,msum (es.drop k)+1⟩],_,_,_,_,_,rfl,s15.trans s5x,n10,e10,?_,?_,?_,?_⟩
       · exact ((hE5.mono fun _ _ z=>z.same (wr s5x (n8 (s57.trans (s8.trans s9))))).take k).snoc (hent.same (wr s910 (n8 s9)))
       · intro e he
         rcases List.mem_append.mp he with he | he
         · exact hok.take k e he
         · rw [List.mem_singleton.mp he]; exact hsk
       · have:=ah3 es k
         rw [ai9]; simp only [msum]; omega
       · rw [List.length_append,List.length_take]; simp only [List.length_cons,List.length_nil]; omega
     · intro Q' hQ'
       unfold bc1 bf3
       walk_at "run"
       refine ⟨⟨_,SqL.of e5⟩,au2 (p:=p1) (by rw [List.length_drop]; omega) e5 hE5k fun l6 H6 f6 s6 e6=>?_⟩
       walk_at "run"
       exact ⟨l6,.int 0,rfl,rfl,.inl ⟨(es.drop k).map (·.d),SqL.of e6,fun _=>by
        walk_at "run"
        exact hQ' _ _ s6,fun M _ _=>by
        walk_at "run"
        exact hQ' _ _ s6⟩⟩
   rintro σ' H2 ⟨_,pl,us,es,y5,y6,y7,y8,y9,rfl,s2,npl,e2,hE,hok,hm,hl⟩
   walk_at "run"
   have hcl5:(a53 cs).length=cs.length:=List.length_map _
   rw [hcl5] at hm hl
   have hul:=hE.1
   generalize hp1:(fun a=>p a∨a=pl)=p1 at *
   have p1p:∀ a,p a→p1 a:=fun a h=>by rw [← hp1]; exact .inl h
   have hp2:Ex_ p1 H2:=fun a ha=>by
    rw [← hp1] at ha
    rcases ha with ha | rfl
    · exact hp.same s2 a ha
    · rw [e2]; exact fun z=>by cases z
   refine ⟨⟨_,SqL.of e2⟩,a73 (xs:=us) (by omega) (fun i acc H'=>H'=H2∧acc.length≤i) ⟨rfl,Nat.zero_le _⟩ (fun i acc H' ⟨h1,h2⟩=>⟨h2,by rw [h1]; exact SqL.of e2⟩) ?_ ?_⟩
   · rintro i x acc H' hx ⟨rfl,hl2⟩
     obtain ⟨e,b,r,he,rfl,eb,hr⟩:=ab4 hE hx
     walk_at "run"
     refine a52 (SqT.of eb) (a04 (j:=2) rfl) ?_
     walk_at "run"
     cases e.l with
     | true =>
       rw [if_pos rfl]
       walk_at "run"
       exact ⟨rfl,by rw [List.length_append]; simp; omega⟩
     | false =>
       rw [if_neg Bool.false_ne_true]
       exact ⟨rfl,by omega⟩
   · rintro acc H3 ⟨rfl,_⟩ l4 H4 f4 s4 e4
     walk_at "run"
     intro l5 H5 f5 s5 e5
     refine ak0 (SqL.of (s5 _ _ e4)) (SqL.of e5) ?_
     have s25:=s4.trans s5
     have sH:=s2.trans s25
     have hE5:Each (EeA (woP p1 H5)) us es:=hE.mono fun _ _ z=>z.same (wpS s25)
     cases acc with
     | nil =>
       refine ⟨false,rfl,?_⟩
       rw [if_neg Bool.false_ne_true]
       walk_at "run"
       refine ⟨⟨_,SqL.of (s25 _ _ e2)⟩,ag4 (p:=p1) (es:=es) (by omega) (hp2.same s25) (s25 _ _ e2) hE5 fun l6 r6 H6 f6 s6 e6 h6=>?_⟩
       exact q _ _ H6 (sH.trans s6) (aa5 (by rw [wpG (fun z=>(hp.same sH).fr f6 z)]; exact e6) (h6.mono fun _ _ z=>z.same (wpB p1p))) ((EOk.b hok).mono (by omega))
     | cons x0 acc =>
       refine ⟨true,rfl,?_⟩
       rw [if_pos rfl]
       walk_at "run"
       refine c38 (ns:=cs) (SqL.of (sH _ _ hx)) ?_
       walk_at "run"
       refine ⟨pl,cs.sum,most,tn,es,p1,rfl,⟨⟨us,s25 _ _ e2,hE5⟩,hok⟩,by omega,hmo,hht,hp2.same s25,fun v s H6 s6 hs hk=>?_⟩
       walk_at "run"
       intro l7 H7 f7 s7 e7
       exact q _ [s] H7 (sH.trans (s6.trans s7)) (aa5 (by rw [wpG (fun z=>(hp.same (sH.trans s6)).fr f7 z)]; exact e7) (Each.nil.snoc (hs.same ((wpS s7).trans (wpB p1p))))) (hk.mono (show msum es+1≤6 by omega)).b
theorem TkAt.same {H H':Hp}{w:V}{b:List Stm}(h:TkAt H w b) (s:Same H H'):TkAt H' w b:=by
 obtain ⟨q,nm,bv,rfl,e,hb⟩:=h
 exact ⟨q,nm,bv,rfl,s _ _ e,hb.same s⟩
theorem bg5:∀ {i:Nat},i<3→∃ c:Nat,([.int 5,.int 4,.int 4]:List V)[i]?=some (.int (c:Nat))∧c≤5
 | 0,_=>⟨5,rfl,by decide⟩
 | 1,_=>⟨4,rfl,by decide⟩
 | 2,_=>⟨4,rfl,by decide⟩
theorem au4 {tn:List Str}:∀ {tks:List (List Stm)},(∀ b∈tks,Bk tn 6 b)→(L2.wordsOf (tks.flatMap psB)).length≤6*tks.length
 | [],_=>Nat.zero_le _
 | b::tks,h=>by
   have h1:=(h b (by simp)).w
   have h2:=au4 (tks:=tks) fun x hx=>h x (by simp [hx])
   rw [List.flatMap_cons,a72,List.length_append,List.length_cons]
   omega
theorem bb1 {α:Type}(l:List α):(l.take 1++(l.drop 1).reverse).Perm l:=by
 have:=(List.reverse_perm (l.drop 1)).append_left (l.take 1)
 rwa [List.take_append_drop] at this
structure ScS (H:Hp) (sp:Addr) (tn:List Str) (tks:List (List Stm)):Prop where
 ex:∃ (bl tl:Addr) (ms:List Addr) (us:List V),H sp=some (.tup [.ref bl,.ref tl])∧H bl=some (.lst (ms.map V.ref))∧H tl=some (.lst us)∧Each (TkAt H) us tks
 n:tks.length≤4
 w:(L2.wordsOf (tks.flatMap psB)).length≤18
 k:∀ b∈tks,Bk tn 6 b
def bb2 (K:PySem.W.Frag):Sp:=fun vs H Q _=>∃ (a:Addr) (ns:List Int),vs=[.ref a]∧SqL K H a (ns.map V.int)∧∀ sp tn tks H',Same H H'→ScS H' sp tn tks→Q (.ref sp) H'
theorem ap7 (T:Txt K mg t):FnOk P w K mg base CX0 7 t.a__law_script t.fd__law_script ["script"] (bb2 K):=by
 have G__law_cell:=ak7 (P:=P) (w:=w) (base:=base) T
 have G__law_drawn:=a71 (P:=P) (w:=w) (base:=base) T
 have G__law_talk:=ax5 (P:=P) (w:=w) (base:=base) T
 refine T.f__law_script.F.ok sc_law_script (fun vs H Q E h=>?_) (fun cdv A outer s H vs Q E hr h=>?_)
 · obtain ⟨a,ns,rfl,_⟩:=h
   rfl
 · obtain ⟨a,ns,rfl,hS,q⟩:=h
   refine ⟨_,(@a03 _ _ _ _ _ (@aj0 _ _ _ _ _ _ (@a32 _ _ _ _ _ _ _ _ _ _ _ _ _ _ _ _ G__law_drawn (hr.mono (by omega)) rfl T.f__law_drawn.m T.f__law_drawn.F.kp T.f__law_drawn.b .nil a60 (@a00 _ _ _ _ _ (@a32 _ _ _ _ _ _ _ _ _ _ _ _ _ _ _ _ G__law_cell (hr.mono (by omega)) rfl T.f__law_cell.m T.f__law_cell.F.kp T.f__law_cell.b .nil a60 (@a00 _ _ _ _ _ (pv 0) (@a00 _ _ _ _ _ (@a02 _ _ _ _) (@a01 _) (by rfl)) (by rfl)) (by decide) (by rfl) (by rfl)) (@a00 _ _ _ _ _ (@a19 _ _ _ _ (@a00 _ _ _ _ _ (@a02 _ _ _ _) (@a00 _ _ _ _ _ (@a02 _ _ _ _) (@a00 _ _ _ _ _ (@a02 _ _ _ _) (@a00 _ _ _ _ _ (@a02 _ _ _ _) (@a01 _) (by rfl)) (by rfl)) (by rfl)) (by rfl))) (@a01 _) (by rfl)) (by rfl)) (by decide) (by rfl) (by rfl)) (ag8 K (n:=4) rfl (a20 (a09 (i:=1) sc_law_script.nd rfl (by walk_at "o")) (a20 (a09 (i:=2) sc_law_script.nd rfl (by walk_at "o")) (a20 (a09 (i:=3) sc_law_script.nd rfl (by walk_at "o")) (a20 (a09 (i:=4) sc_law_script.nd rfl (by walk_at "o")) (@a85 _)))))) (by rfl) (by rfl) (by rfl))
    (@a03 _ _ _ _ _ (@a27 _ _ 5 _ _ _ _ sc_law_script.nd rfl (by walk_at "o") (@a19 _ _ _ _ (@a00 _ _ _ _ _ (@a05 _ _ _ _ _ (@a00 _ _ _ _ _ (@a07 _ _ _ _) (@a00 _ _ _ _ _ (@a02 _ _ _ _) (@a01 _) (by rfl)) (by rfl))) (@a00 _ _ _ _ _ (@a05 _ _ _ _ _ (@a00 _ _ _ _ _ (@a07 _ _ _ _) (@a00 _ _ _ _ _ (@a02 _ _ _ _) (@a01 _) (by rfl)) (by rfl))) (@a01 _) (by rfl)) (by rfl))) (by rfl) (by walk_at "o"))
    (@a03 _ _ _ _ _ (@a27 _ _ 6 _ _ _ _ sc_law_script.nd rfl (by walk_at "o") (@a19 _ _ _ _ (@a00 _ _ _ _ _ (@a05 _ _ _ _ _ (@a00 _ _ _ _ _ (@a07 _ _ _ _) (@a00 _ _ _ _ _ (@a02 _ _ _ _) (@a01 _) (by rfl)) (by rfl))) (@a00 _ _ _ _ _ (@a05 _ _ _ _ _ (@a00 _ _ _ _ _ (@a07 _ _ _ _) (@a00 _ _ _ _ _ (@a02 _ _ _ _) (@a01 _) (by rfl)) (by rfl))) (@a00 _ _ _ _ _ (@a05 _ _ _ _ _ (@a00 _ _ _ _ _ (@a07 _ _ _ _) (@a00 _ _ _ _ _ (@a02 _ _ _ _) (@a01 _) (by rfl)) (by rfl))) (@a01 _) (by rfl)) (by rfl)) (by rfl))) (by rfl) (by walk_at "o"))
    (@a03 _ _ _ _ _ (@a27 _ _ 7 _ _ _ _ sc_law_script.nd rfl (by walk_at "o") (@a37 _ _ _ _ _ _ _ (a35 K) (@a19 _ _ _ _ (@a00 _ _ _ _ _ (@a19 _ _ _ _ (@a01 _)) (@a00 _ _ _ _ _ (@a19 _ _ _ _ (@a00 _ _ _ _ _ (@a05 _ _ _ _ _ (@a00 _ _ _ _ _ (@a07 _ _ _ _) (@a00 _ _ _ _ _ (@a02 _ _ _ _) (@a01 _) (by rfl)) (by rfl))) (@a01 _) (by rfl))) (@a00 _ _ _ _ _ (@a19 _ _ _ _ (@a00 _ _ _ _ _ (@a05 _ _ _ _ _ (@a00 _ _ _ _ _ (@a07 _ _ _ _) (@a00 _ _ _ _ _ (@a02 _ _ _ _) (@a01 _) (by rfl)) (by rfl))) (@a01 _) (by rfl))) (@a00 _ _ _ _ _ (@a19 _ _ _ _ (@a00 _ _ _ _ _ (@a05 _ _ _ _ _ (@a00 _ _ _ _ _ (@a07 _ _ _ _) (@a00 _ _ _ _ _ (@a02 _ _ _ _) (@a01 _) (by rfl)) (by rfl))) (@a01 _) (by rfl))) (@a00 _ _ _ _ _ (pv 5) (@a00 _ _ _ _ _ (pv 6) (@a01 _) (by rfl)) (by rfl)) (by rfl)) (by rfl)) (by rfl)) (by rfl))) (pv 1) (fun _ _=>rfl)) (by rfl) (by walk_at "o"))
    (@a03 _ _ _ _ _ (@a27 _ _ 8 _ _ _ _ sc_law_script.nd rfl (by walk_at "o") (@a37 _ _ _ _ _ _ _ (a35 K) (@a19 _ _ _ _ (@a00 _ _ _ _ _ (@a02 _ _ _ _) (@a00 _ _ _ _ _ (@a02 _ _ _ _) (@a00 _ _ _ _ _ (@a02 _ _ _ _) (@a00 _ _ _ _ _ (@a02 _ _ _ _) (@a00 _ _ _ _ _ (@a02 _ _ _ _) (@a00 _ _ _ _ _ (@a02 _ _ _ _) (@a01 _) (by rfl)) (by rfl)) (by rfl)) (by rfl)) (by rfl)) (by rfl))) (pv 1) (fun _ _=>rfl)) (by rfl) (by walk_at "o"))
    (@a03 _ _ _ _ _ (@a27 _ _ 9 _ _ _ _ sc_law_script.nd rfl (by walk_at "o") (@a19 _ _ _ _ (@a00 _ _ _ _ _ (@a19 _ _ _ _ (@a00 _ _ _ _ _ (@a07 _ _ _ _) (@a00 _ _ _ _ _ (@a07 _ _ _ _) (@a00 _ _ _ _ _ (@a07 _ _ _ _) (@a01 _) (by rfl)) (by rfl)) (by rfl))) (@a00 _ _ _ _ _ (@a19 _ _ _ _ (@a00 _ _ _ _ _ (@a07 _ _ _ _) (@a00 _ _ _ _ _ (@a07 _ _ _ _) (@a00 _ _ _ _ _ (@a07 _ _ _ _) (@a01 _) (by rfl)) (by rfl)) (by rfl))) (@a00 _ _ _ _ _ (@a19 _ _ _ _ (@a00 _ _ _ _ _ (@a07 _ _ _ _) (@a00 _ _ _ _ _ (@a07 _ _ _ _) (@a00 _ _ _ _ _ (@a07 _ _ _ _) (@a01 _) (by rfl)) (by rfl)) (by rfl))) (@a00 _ _ _ _ _ (@a19 _ _ _ _ (@a00 _ _ _ _ _ (@a07 _ _ _ _) (@a00 _ _ _ _ _ (@a07 _ _ _ _) (@a00 _ _ _ _ _ (@a07 _ _ _ _) (@a01 _) (by rfl)) (by rfl)) (by rfl))) (@a01 _) (by rfl)) (by rfl)) (by rfl)) (by rfl))) (by rfl) (by walk_at "o"))
    (@a03 _ _ _ _ _ (@a27 _ _ 10 _ _ _ _ sc_law_script.nd rfl (by walk_at "o") (@a44 _ _ _ _ _ _ _ _ _ _ (a47 K) (@a37 _ _ _ _ _ _ _ (a35 K) (pv 9) (pv 3) (fun _ _=>rfl)) (@a59 _) (@a51 _ _ _ (@a31 _ _ _ _ _ _ _ _ a34 (@a02 _ _ _ _) (pv 2)))) (by rfl) (by walk_at "o"))
    (@a03 _ _ _ _ _ (@a27 _ _ 11 _ _ _ _ sc_law_script.nd rfl (by walk_at "o") (@a19 _ _ _ _ (@a01 _)) (by rfl) (by walk_at "o"))
    (@a03 _ _ _ _ _ (@aa7 _ _ _ _ _ _ _ _ PassesOwn.never rfl (a88 rfl T.z_range (@a00 _ _ _ _ _ (@a39 _ _ _ _ _ _ _ _ _ (a65 K) (by rfl) T.z_len a80 (@a00 _ _ _ _ _ (pv 10) (@a01 _) (by rfl)) (by decide) (by decide) (by rfl) (by rfl)) (@a01 _) (by rfl))) (a09 (i:=12) sc_law_script.nd rfl (by walk_at "o")) (@a03 _ _ _ _ _ (av7 (i:=13) (Nt:=["j"]) (Nf:=["script","k"]) (caps:=[0,12]) rfl (a45 (sc:=a06 ad3) rfl rfl (by decide +kernel) (by decide +kernel) (by decide +kernel) rfl (by decide +kernel)) (a88 rfl T.z_range (@a00 _ _ _ _ _ (@a37 _ _ _ _ _ _ _ (a35 K) (@a19 _ _ _ _ (@a00 _ _ _ _ _ (@a02 _ _ _ _) (@a00 _ _ _ _ _ (@a02 _ _ _ _) (@a00 _ _ _ _ _ (@a02 _ _ _ _) (@a01 _) (by rfl)) (by rfl)) (by rfl))) (pv 12) (fun _ _=>rfl)) (@a01 _) (by rfl))) (fun _ _ _ _ _=>(a09 (i:=0) (show (["j","script","k"]:List Str).Nodup by decide +kernel) rfl (by walk_at "o"))) (fun _ _ _ _ _=>(@a64 _)) (fun _ _ _ _ _=>(@a32 _ _ _ _ _ _ _ _ _ _ _ _ _ _ _ _ G__law_cell (hr.mono (by omega)) rfl T.f__law_cell.m T.f__law_cell.F.kp T.f__law_cell.b .nil a60 (@a00 _ _ _ _ _ (pv 1) (@a00 _ _ _ _ _ (@a31 _ _ _ _ _ _ _ _ a34 (@a31 _ _ _ _ _ _ _ _ a34 (@a02 _ _ _ _) (@a31 _ _ _ _ _ _ _ _ ac0 (@a02 _ _ _ _) (pv 2))) (pv 0)) (@a01 _) (by rfl)) (by rfl)) (by decide) (by rfl) (by rfl))) sc_law_script.nd rfl (by walk_at "o") rfl)
     (@a08 _ _ _ (@a75 _ _ _ _ (@a89 _ K _ _ _ _ _ _ _ _ _ _ _ PySem.F.plainAttrs_list PySem.F.slot_list_append PySem.F.type_list_append a66 (pv 11) (@a00 _ _ _ _ _ (@a05 _ _ _ _ _ (@a00 _ _ _ _ _ (@a37 _ _ _ _ _ _ _ (a35 K) (pv 10) (pv 12) (fun _ _=>rfl)) (@a00 _ _ _ _ _ (@a32 _ _ _ _ _ _ _ _ _ _ _ _ _ _ _ _ G__law_talk (hr.mono (by omega)) rfl T.f__law_talk.m T.f__law_talk.F.kp T.f__law_talk.b .nil a60 (@a00 _ _ _ _ _ (pv 13) (@a00 _ _ _ _ _ (pv 7) (@a00 _ _ _ _ _ (@a44 _ _ _ _ _ _ _ _ _ _ (a47 K) (pv 10) (@a51 _ _ _ (@a31 _ _ _ _ _ _ _ _ a34 (pv 12) (@a02 _ _ _ _))) (@a59 _)) (@a00 _ _ _ _ _ (pv 8) (@a01 _) (by rfl)) (by rfl)) (by rfl)) (by rfl)) (by decide) (by rfl) (by rfl)) (@a01 _) (by rfl)) (by rfl))) (@a01 _) (by rfl)) (by rfl) (by rfl) (by rfl) (by rfl) (by rfl) (by rfl)) (by rfl)))) (by intro _; rfl))
    (@a03 _ _ _ _ _ (@a75 _ _ _ _ (@a89 _ K _ _ _ _ _ _ _ _ _ _ _ PySem.F.plainAttrs_list PySem.F.slot_list_append PySem.F.type_list_append a66 (pv 11) (@a00 _ _ _ _ _ (@a05 _ _ _ _ _ (@a00 _ _ _ _ _ (@a07 _ _ _ _) (@a00 _ _ _ _ _ (@a19 _ _ _ _ (@a00 _ _ _ _ _ (@a05 _ _ _ _ _ (@a00 _ _ _ _ _ (@a07 _ _ _ _) (@a00 _ _ _ _ _ (pv 8) (@a00 _ _ _ _ _ (@a19 _ _ _ _ (@a01 _)) (@a01 _) (by rfl)) (by rfl)) (by rfl))) (@a01 _) (by rfl))) (@a01 _) (by rfl)) (by rfl))) (@a01 _) (by rfl)) (by rfl) (by rfl) (by rfl) (by rfl) (by rfl) (by rfl)) (by rfl))
    (@a91 _ _ _ _ _ (@a67 _ _ _ _ _ _ _ _ (@a29 _ _ _ _ _ _ _ _ a68 (pv 4) (@a02 _ _ _ _) (nomark _)) (@a08 _ _ _ (@a27 _ _ 11 _ _ _ _ sc_law_script.nd rfl (by walk_at "o") (@a31 _ _ _ _ _ _ _ _ a34 (@a44 _ _ _ _ _ _ _ _ _ _ (a47 K) (pv 11) (@a59 _) (@a51 _ _ _ (@a02 _ _ _ _))) (bn8 K (pv 11) (@a02 _ _ _ _) (@b36 _ _ _ _ _ _ aq5 (@a02 _ _ _ _)))) (by rfl) (by walk_at "o"))) (@a42 _))
    (@a08 _ _ _ (@a40 _ _ _ _ (@a05 _ _ _ _ _ (@a00 _ _ _ _ _ (pv 7) (@a00 _ _ _ _ _ (pv 11) (@a01 _) (by rfl)) (by rfl)))))))))))))))),?_⟩
   have sl:(1000000:Nat)≤sizeLine:=le_line (Nat.le_refl _)
   walk_at "go"
   refine ⟨a,ns,0,rfl,hS,fun z0=>?_⟩
   walk_at "run"
   intro l1 H1 f1 s1 e1
   walk_at "run"
   refine ⟨z0,l1,[6,3,4,2],rfl,e1,by decide,by decide,fun l2 ds H2 f2 s2 e2 hdl hdd=>?_⟩
   obtain ⟨way,many,named,turned,rfl⟩:∃ a b c e,ds=[a,b,c,e]:=by
    match ds,hdl with
    | [a,b,c,e],_=>exact ⟨a,b,c,e,rfl⟩
   have hd0:way<6:=hdd 0 _ _ rfl rfl
   have hd1:many<3:=hdd 1 _ _ rfl rfl
   have hd2:named<4:=hdd 2 _ _ rfl rfl
   clear hdd
   walk_at "run"
   have e2:H2 l2=some (.lst [.int (way:Nat),.int (many:Nat),.int (named:Nat),.int (turned:Nat)]):=e2
   refine am4 (SqL.of e2) rfl ?_
   walk_at "run"
   have s02:=s1.trans s2
   intro two1 G1 f_two1 s_two1 e_two1
   walk_at "run"
   intro two2 G2 f_two2 s_two2 e_two2
   walk_at "run"
   intro two G3 f_two s_two e_two
   walk_at "run"
   intro th1 G4 f_th1 s_th1 e_th1
   walk_at "run"
   intro th2 G5 f_th2 s_th2 e_th2
   walk_at "run"
   intro th3 G6 f_th3 s_th3 e_th3
   walk_at "run"
   intro three G7 f_three s_three e_three
   walk_at "run"
   intro c1 G8 f_c1 s_c1 e_c1
   walk_at "run"
   intro c2 G9 f_c2 s_c2 e_c2
   walk_at "run"
   intro c3 G10 f_c3 s_c3 e_c3
   walk_at "run"
   intro c4 G11 f_c4 s_c4 e_c4
   walk_at "run"
   intro c5 G12 f_c5 s_c5 e_c5
   walk_at "run"
   intro c6 G13 f_c6 s_c6 e_c6
   walk_at "run"
   intro c7 G14 f_c7 s_c7 e_c7
   walk_at "run"
   intro c8 G15 f_c8 s_c8 e_c8
   walk_at "run"
   have T14:Same G14 G15:=s_c8
   have T13:Same G13 G15:=s_c7.trans T14
   have T12:Same G12 G15:=s_c6.trans T13
   have T11:Same G11 G15:=s_c5.trans T12
   have T10:Same G10 G15:=s_c4.trans T11
   have T9:Same G9 G15:=s_c3.trans T10
   have T8:Same G8 G15:=s_c2.trans T9
   have T7:Same G7 G15:=s_c1.trans T8
   have T6:Same G6 G15:=s_three.trans T7
   have T5:Same G5 G15:=s_th3.trans T6
   have T4:Same G4 G15:=s_th2.trans T5
   have T3:Same G3 G15:=s_th1.trans T4
   have T2:Same G2 G15:=s_two.trans T3
   have T1:Same G1 G15:=s_two2.trans T2
   have T0:Same H2 G15:=s_two1.trans T1
   have r15:=s02.trans T0
   have nm2:∀ {x:Addr}{n:Str}{k:Int},G15 x=some (.tup [.str n,.int k])→Nmd G15 (.ref x) n:=fun h=>⟨_,_,rfl,h⟩
   obtain ⟨bl,ms,bn,hbl,ebl,hbn⟩:∃ (bl:Addr) (ms:List Addr) (bn:List Str),([.ref c1,.ref c3,.ref c5,.ref c7,.ref two,.ref three]:List V)[way]?=some (.ref bl)∧G15 bl=some (.lst (ms.map V.ref))∧BxAt G15 bl bn:=by
    match way,hd0 with
    | 0,_=>exact ⟨c1,[],[],rfl,T8 _ _ e_c1,_,T8 _ _ e_c1,Each.nil,by decide⟩
    | 1,_=>exact ⟨c3,[c2],[_],rfl,T10 _ _ e_c3,_,T10 _ _ e_c3,Each.nil.snoc (nm2 (T9 _ _ e_c2)),by decide⟩
    | 2,_=>exact ⟨c5,[c4],[_],rfl,T12 _ _ e_c5,_,T12 _ _ e_c5,Each.nil.snoc (nm2 (T11 _ _ e_c4)),by decide⟩
    | 3,_=>exact ⟨c7,[c6],[_],rfl,T14 _ _ e_c7,_,T14 _ _ e_c7,Each.nil.snoc (nm2 (T13 _ _ e_c6)),by decide⟩
    | 4,_=>exact ⟨two,[two1,two2],[_,_],rfl,T3 _ _ e_two,_,T3 _ _ e_two,(Each.nil.snoc (nm2 (T1 _ _ e_two1))).snoc (nm2 (T2 _ _ e_two2)),by decide⟩
    | 5,_=>exact ⟨three,[th1,th2,th3],[_,_,_],rfl,T7 _ _ e_three,_,T7 _ _ e_three,((Each.nil.snoc (nm2 (T4 _ _ e_th1))).snoc (nm2 (T5 _ _ e_th2))).snoc (nm2 (T6 _ _ e_th3)),by decide⟩
   refine a61 (SqL.of e_c8) (a04 (j:=way) hbl) ?_
   walk_at "run"
   clear nm2 e_two1 e_two2 e_two e_th1 e_th2 e_th3 e_three e_c1 e_c2 e_c3 e_c4 e_c5 e_c6 e_c7 e_c8
   clear T1 T2 T3 T4 T5 T6 T7 T8 T9 T10 T11 T12 T13 T14
   intro d1 G16 f_d1 s_d1 e_d1
   walk_at "run"
   obtain ⟨most,hmost,hmo⟩:∃ m:Nat,([.int 8,.int 4,.int 2,.int 2,.int 2,.int 1]:List V)[way]?=some (.int (m:Nat))∧m≤8:=by
    match way,hd0 with
    | 0,_=>exact ⟨8,rfl,by decide⟩
    | 1,_=>exact ⟨4,rfl,by decide⟩
    | 2,_=>exact ⟨2,rfl,by decide⟩
    | 3,_=>exact ⟨2,rfl,by decide⟩
    | 4,_=>exact ⟨2,rfl,by decide⟩
    | 5,_=>exact ⟨1,rfl,by decide⟩
   refine a61 (SqL.of e_d1) (a04 (j:=way) hmost) ?_
   walk_at "run"
   intro m1 G17 f_m1 s_m1 e_m1
   walk_at "run"
   intro m2 G18 f_m2 s_m2 e_m2
   walk_at "run"
   intro m3 G19 f_m3 s_m3 e_m3
   walk_at "run"
   intro m4 G20 f_m4 s_m4 e_m4
   walk_at "run"
   intro m5 G21 f_m5 s_m5 e_m5
   walk_at "run"
   have r21:Same G15 G21:=s_d1.trans (s_m1.trans (s_m2.trans (s_m3.trans (s_m4.trans s_m5))))
   obtain ⟨ml,nm,hml,eml,hnm3⟩:∃ (ml:Addr) (nm:List Str),([.ref m1,.ref m2,.ref m3,.ref m4]:List V)[named]?=some (.ref ml)∧G21 ml=some (.lst (a33 nm))∧nm.length=3:=by
    match named,hd2 with
    | 0,_=>exact ⟨m1,[_,_,_],rfl,(s_m2.trans (s_m3.trans (s_m4.trans s_m5))) _ _ e_m1,rfl⟩
    | 1,_=>exact ⟨m2,[_,_,_],rfl,(s_m3.trans (s_m4.trans s_m5)) _ _ e_m2,rfl⟩
    | 2,_=>exact ⟨m3,[_,_,_],rfl,(s_m4.trans s_m5) _ _ e_m3,rfl⟩
    | 3,_=>exact ⟨m4,[_,_,_],rfl,s_m5 _ _ e_m4,rfl⟩
   refine a61 (SqL.of e_m5) (a04 (j:=named) hml) ?_
   walk_at "run"
   refine aa2 (SqL.of eml) ?_
   rw [show (1+(many:Nat):Int)=((1+many:Nat):Int) by omega,a92,show (a33 nm).take (1+many)=a33 (nm.take (1+many)) from List.map_take.symm]
   intro nl G22 f_nl s_nl e_nl
   walk_at "run"
   intro tl0 G23 f_tl s_tl e_tl
   walk_at "run"
   clear e_d1 e_m1 e_m2 e_m3 e_m4 e_m5 eml
   obtain ⟨nms,hnms,hnl,hn1⟩:∃ nms:List Str,nm.take (1+many)=nms∧nms.length≤3∧0<nms.length:=⟨_,rfl,by rw [List.length_take]; omega,by rw [List.length_take]; omega⟩
   rw [hnms] at e_nl
   have hsl:(a33 nms).length=nms.length:=List.length_map _
   refine a90 (SqL.of (s_tl _ _ e_nl)) ?_
   walk_at "run"
   rw [hsl,Int.toNat_natCast]
   have r22:Same H G22:=r15.trans (r21.trans s_nl)
   have ebl22:=(r21.trans s_nl) _ _ ebl
   have hbn22:=hbn.same (r21.trans s_nl)
   have hS22:=r22.seq hS
   have tln:G22 tl0=none:=f_tl
   clear hbn ebl hS
   have hheld:Str.ofString "held"∈nms++[Str.ofString "held"]:=by simp
   refine aj1 (lo:=0) (n:=nms.length) (fun i σ' H'=>i≤nms.length∧∃ (us:List V) (tks:List (List Stm)) (y12 y13:Option V),σ'=[some (.ref a),some (.int (way:Nat)),some (.int (many:Nat)),some (.int (named:Nat)),some (.int (turned:Nat)),some (.ref two),some (.ref three),some (.ref bl),some (.int (most:Nat)),some (.ref m5),some (.ref nl),some (.ref tl0),y12,y13]∧Same G22 H'∧H' tl0=some (.lst us)∧Each (TkAt (woP (fun a=>a=tl0) H')) us tks∧(∀ b∈tks,Bk (nms++[Str.ofString "held"]) 6 b)∧tks.length=i) ⟨Nat.zero_le _,[],[],_,_,rfl,s_tl,e_tl,Each.nil,fun b h=>(by cases h),rfl⟩ ?_ ?_
   · rintro i σ' H1 hi ⟨_,us,tks,y12,y13,rfl,s1,e1,hT,hB,htl⟩
     walk_at "run"
     rw [Int.zero_add]
     intro g1 H2 f2 s2 e2
     walk_at "run"
     have hi3:i<3:=Nat.lt_of_lt_of_le hi hnl
     obtain ⟨c,hc,hc5⟩:=bg5 hi3
     refine a61 (SqL.of e2) (a04 (j:=i) hc) ?_
     walk_at "run"
     rw [Int.toNat_natCast]
     have s22:=s1.trans s2
     refine af8 (lo:=0) (n:=c) (by omega) (fun j acc H'=>H'=H2∧acc.length≤j∧∃ zs:List Int,acc=a53 zs) ⟨rfl,Nat.zero_le _,[],rfl⟩ (fun j acc H' ⟨_,h,_⟩=>h) ?_ ?_
     · rintro j acc H' hj ⟨rfl,hal,zs,hz⟩
       rw [Int.zero_add]
       walk_at "run"
       refine ⟨a,ns,1+6*i+j,by rw [show ((1+6*i+j:Nat):Int)=1+6*(i:Int)+(j:Int) by omega]; rfl,s22.seq hS22,fun z=>?_⟩
       exact ⟨rfl,by rw [List.length_append]; simp; omega,zs++[z],by rw [hz]; simp [a53]⟩
     · rintro acc H' ⟨rfl,hal,zs,rfl⟩ xl H3 f3 s3 e3
       walk_at "run"
       have s13:=s2.trans s3
       have s23:=s1.trans s13
       have zl:zs.length≤5:=by
        have:(a53 zs).length=zs.length:=List.length_map _
        omega
       refine ae3 (SqL.of (s13 _ _ e1)) ?_
       walk_at "run"
       obtain ⟨nn,hnn⟩:∃ n,nms[i]?=some n:=⟨_,List.getElem?_eq_getElem hi⟩
       refine a61 (SqL.of (s23 _ _ e_nl)) (a04 (j:=i) (ap2 hnn)) ?_
       walk_at "run"
       refine aa2 (SqL.of (s23 _ _ e_nl)) ?_
       rw [show ((i:Nat):Int)+1=((i+1:Nat):Int) by omega,aa0,show (a33 nms).drop (i+1)=a33 (nms.drop (i+1)) from List.map_drop.symm]
       intro cl H4 f4 s4 e4
       walk_at "run"
       have s14:=s13.trans s4
       have s24:=s1.trans s14
       have e14:=s14 _ _ e1
       have hp4:Ex_ (fun a=>a=tl0) H4:=fun a ha=>by
        subst ha
        rw [e14]
        exact fun z=>by cases z
       refine ⟨xl,bl,cl,zs,most,bn,nms.drop (i+1),nms++[Str.ofString "held"],fun a=>a=tl0,rfl,s4 _ _ e3,zl,hmo,hbn22.same s24,e4,by rw [List.length_drop]; omega,fun x hx=>List.mem_append_left _ (List.mem_of_mem_drop hx),hheld,hp4,fun v b H5 s5 hb hk=>?_⟩
       walk_at "run"
       intro a6 H6 f6 s6 e6
       walk_at "run"
       have s46:=s5.trans s6
       have s16:=s14.trans s46
       have hul:us.length≤3:=by rw [hT.1]; omega
       refine a74 (s16 _ _ e1) (by omega) ?_
       refine ⟨by omega,us++[.ref a6],tks++[b],_,_,rfl,(s1.trans s16).updNew tln,a46,?_,?_,by simp [htl]⟩
       · rw [wpU (p:=fun a=>a=tl0) rfl]
         have n6:¬ a6=tl0:=fun z=>by
          rw [z,s5 _ _ e14] at f6
          cases f6
         exact (hT.mono fun _ _ z=>z.same (wpS s16)).snoc ⟨a6,_,v,rfl,by rw [wpG (p:=fun a=>a=tl0) n6]; exact e6,hb.same (wpS s6)⟩
       · intro b' hb'
         rcases List.mem_append.mp hb' with h | h
         · exact hB b' h
         · rw [List.mem_singleton.mp h]; exact hk
   rintro σ' H1 ⟨_,us,tks,y12,y13,rfl,s1,e1,hT,hB,htl⟩
   walk_at "run"
   refine ae3 (SqL.of e1) ?_
   walk_at "run"
   intro w1 H2 f2 s2 e2
   walk_at "run"
   intro w2 H3 f3 s3 e3
   walk_at "run"
   intro w3 H4 f4 s4 e4
   walk_at "run"
   intro w4 H5 f5 s5 e5
   walk_at "run"
   have s15:=s2.trans (s3.trans (s4.trans s5))
   have hul:=hT.1
   have e15:=s15 _ _ e1
   refine a74 e15 (by omega) ?_
   have n1:∀ {Hk:Hp}{x:Addr},Same H1 Hk→Hk x=none→¬ x=tl0:=fun s f z=>by
    rw [z,s _ _ e1] at f
    cases f
   have wt:∀ {Hk Hm:Hp}{x:Addr}{o:HO},Same H1 Hk→Hk x=none→Hm x=some o→woP (fun a=>a=tl0) Hm x=some o:=fun s f e=>by rw [wpG (p:=fun a=>a=tl0) (n1 s f)]; exact e
   have hT6:Each (TkAt (woP (fun a=>a=tl0) (upd H5 tl0 (.lst (us++[.ref w4]))))) (us++[.ref w4]) (tks++[[Stm.wait (most:Nat) []]]):=by
    rw [wpU (p:=fun a=>a=tl0) rfl]
    exact (hT.mono fun _ _ z=>z.same (wpS s15)).snoc ⟨w4,_,_,rfl,wt (s2.trans (s3.trans s4)) f5 e5,aa5 (wt (s2.trans s3) f4 (s5 _ _ e4)) (Each.nil.snoc (sat_wait.mpr ⟨w2,w1,[],rfl,wt s2 f3 ((s4.trans s5) _ _ e3),wt (Same.refl _) f2 ((s3.trans (s4.trans s5)) _ _ e2),Each.nil⟩))⟩
   have hB6:∀ b∈tks++[[Stm.wait (most:Nat) []]],Bk (nms++[Str.ofString "held"]) 6 b:=fun b hb=>by
    rcases List.mem_append.mp hb with h | h
    · exact hB b h
    · rw [List.mem_singleton.mp h]; exact Sk.wait0.b.mono (by decide)
   have hW6:(L2.wordsOf ((tks++[[Stm.wait (most:Nat) []]]).flatMap psB)).length≤18:=by
    have:=au4 hB
    rw [List.flatMap_append,a72,List.length_append]
    have h0:(L2.wordsOf (List.flatMap psB [[Stm.wait (most:Nat) []]])).length=0:=by simp [psB,allB,allS,allR,a30,L2.wordsOf]
    omega
   have e6:(upd H5 tl0 (.lst (us++[.ref w4]))) tl0=some (.lst (us++[.ref w4])):=a46
   have r6:Same H (upd H5 tl0 (.lst (us++[.ref w4]))):=r22.trans ((s1.trans s15).updNew tln)
   have b6:(upd H5 tl0 (.lst (us++[.ref w4]))) bl=some (.lst (ms.map V.ref)):=((s1.trans s15).updNew tln) _ _ ebl22
   have hl6:(tks++[[Stm.wait (most:Nat) []]]).length≤4:=by rw [List.length_append]; simp; omega
   have hu6:(us++[V.ref w4]).length≤4:=by rw [hT6.1]; exact hl6
   have hT6:=hT6.mono fun _ _ z=>z.same wpL
   generalize us++[V.ref w4]=us' at *
   generalize tks++[[Stm.wait (most:Nat) []]]=tks' at *
   generalize upd H5 tl0 (.lst us')=H6 at *
   clear e15 e1 e2 e3 e4 e5 hT hB
   walk_at "run"
   refine ah6 (fun σ' H'=>∃ (tl:Addr) (us2:List V) (tk2:List (List Stm)),σ'=[some (.ref a),some (.int (way:Nat)),some (.int (many:Nat)),some (.int (named:Nat)),some (.int (turned:Nat)),some (.ref two),some (.ref three),some (.ref bl),some (.int (most:Nat)),some (.ref m5),some (.ref nl),some (.ref tl),y12,y13]∧Same H6 H'∧H' tl=some (.lst us2)∧Each (TkAt H') us2 tk2∧tk2.Perm tks') ?_ ?_
   · walk_at "run"
     by_cases ht:(turned:Int)=1
     · refine a55 ht ?_
       walk_at "run"
       refine aa2 (SqL.of e6) ?_
       rw [show (1:Int)=((1:Nat):Int) from rfl,a92]
       intro x7 H7 f7 s7 e7
       walk_at "run"
       refine ⟨rfl,rfl,tl0,_,rfl,SqL.of (s7 _ _ e6),?_⟩
       intro x8 H8 f8 s8 e8
       walk_at "run"
       refine a69 (s8 _ _ e7) e8 (by rw [List.length_reverse,List.length_drop,List.length_take]; omega) ?_
       intro x9 H9 f9 s9 e9
       walk_at "run"
       have s69:=s7.trans (s8.trans s9)
       have hT9:=hT6.mono fun _ _ z=>z.same s69
       exact ⟨x9,_,tks'.take 1++(tks'.drop 1).reverse,rfl,s69,e9,(hT9.take 1).append (bf7 (ab2 hT9 1)),bb1 _⟩
     · refine a43 ht ?_
       walk_at "run"
       exact ⟨tl0,_,tks',rfl,Same.refl _,e6,hT6,List.Perm.refl _⟩
   rintro σ' H7 ⟨tl,us2,tk2,rfl,s7,e7,hT7,hpm⟩
   walk_at "run"
   intro sp H8 f8 s8 e8
   refine q sp (nms++[Str.ofString "held"]) tk2 H8 (r6.trans (s7.trans s8)) ⟨⟨bl,tl,ms,us2,e8,(s7.trans s8) _ _ b6,s8 _ _ e7,hT7.mono fun _ _ z=>z.same s8⟩,by rw [hpm.length_eq]; exact hl6,?_,fun b hb=>hB6 b (hpm.mem_iff.mp hb)⟩
   have:(L2.wordsOf (tk2.flatMap psB)).length=(L2.wordsOf (tks'.flatMap psB)).length:=((hpm.flatMap_right psB).filterMap _).length_eq
   rw [this]; exact hW6
theorem bp4 {z:Str}{g:TG}{tb:TS}{D:Ends}{σ:St} {H:Hp}(Pv:Nat→St→Hp→Prop) (h0:Pv 0 σ H)
 (hs:∀ i c σ H,z.cps.toList[i]?=some c→Pv i σ H→g (.str ⟨#[c]⟩) σ H fun σ2 H2=>tb { D with nx:=Pv (i+1),ct:=Pv (i+1),bk:=D.nx } σ2 H2) (hd:∀ σ H,Pv z.cps.size σ H→D.nx σ H):b54 (Its z) g tb D σ H:=by
 refine ⟨fun i m σ H=>m=z.cps.size - i∧i≤z.cps.size∧Pv i σ H,⟨z.cps.size,by simp,Nat.zero_le _,h0⟩,?_⟩
 rintro i m σ H ⟨rfl,hi,p⟩
 by_cases hlt:i<z.cps.size
 · refine .inr ⟨hlt,Pv (i+1),fun σ' H' p'=>⟨z.cps.size - (i+1),by omega,rfl,hlt,p'⟩,fun x H' y=>?_⟩
   obtain ⟨e,c,hc,rfl⟩:=y
   subst e
   exact hs i c σ _ (by simpa using hc) p
 · have e:i=z.cps.size:=by omega
   subst e
   exact .inl ⟨Nat.le_refl _,hd σ H p⟩
abbrev LTS:Str:=Str.ofString "abcdefghijklmnopqrstuvwxyz"
def LS1:List Str:=LTS.cps.toList.map fun c=>⟨#[c]⟩
def OS1:List Str:=Str.ofString ""::LS1
theorem ae2:LTS.cps.size=26:=by decide +kernel
theorem bz5:OS1.length=27:=by decide +kernel
theorem c54:∀ i,i<3→∀ j,j<26→OS1.getD i ""++LS1.getD j ""=WL.getD (26*i+j) "":=by decide +kernel
theorem bg6:∀ i,i<3→(OS1.getD i "").length≤1:=by decide +kernel
theorem c55 {j:Nat}{c:Nat}(h:LTS.cps.toList[j]?=some c):LS1.getD j ""=⟨#[c]⟩:=by
 unfold LS1
 rw [List.getD_eq_getElem?_getD,List.getElem?_map,h]
 rfl
theorem c56 {i:Nat}{x:V}(h:(OS1.map V.str)[i]?=some x):x=.str (OS1.getD i ""):=by
 rw [List.getElem?_map] at h
 cases e:OS1[i]? with
 | none=>rw [e] at h; cases h
 | some o=>rw [e] at h; rw [List.getD_eq_getElem?_getD,e]; exact (Option.some.inj h).symm
theorem bp5 {ws:List Str}{i:Nat}(h1:∀ j,j<i→WL.getD j ""∈ws) (h2:WL.getD i ""∉ws) (hi:i<702):a99 ws=WL.getD i "":=by
 have wl:=b03
 have hfree:ba0 ws=i:=by
  unfold ba0
  rw [List.findIdx_eq (by omega)]
  refine ⟨?_,fun j hj=>?_⟩
  · have:WL.getD i ""=WL[i]'(by omega):=by simp [List.getD,List.getElem?_eq_getElem (show i<WL.length by omega)]
    rw [this] at h2
    simpa using h2
  · have h3:=h1 j hj
    have:WL.getD j ""=WL[j]'(by omega):=by simp [List.getD,List.getElem?_eq_getElem (show j<WL.length by omega)]
    rw [this] at h3
    simpa using h3
 unfold a99
 rw [hfree]
theorem bb3 {K:PySem.W.Frag}{H:Hp}{Q:VK}{p:Addr}{ys:List Str}{w:Str}(h1:SqL K H p (a33 ys)) (h:Q (.bl (!decide (w∈ys))) H):rIn K true (.str w) (.ref p) H Q:=⟨p,a33 ys,rfl,.inl h1,rfl,b60 ys,by rw [bd8]; exact h⟩
theorem ax6 (T:Txt K mg t):FnOk P w K mg base CX0 1 t.a__law_free t.fd__law_free ["words"] (ba1 K):=by
 refine T.f__law_free.F.ok sc_law_free (fun vs H Q E h=>?_) (fun cdv A outer s H vs Q E hr h=>?_)
 · obtain ⟨a,ws,rfl,_⟩:=h
   rfl
 · obtain ⟨a,ws,rfl,ha,hl,q⟩:=h
   refine ⟨_,(@a03 _ _ _ _ _ (@a27 _ _ 1 _ _ _ _ sc_law_free.nd rfl (by walk_at "o") (@a07 _ _ _ _) (by rfl) (by walk_at "o"))
    (@a03 _ _ _ _ _ (@aa7 _ _ _ _ _ _ _ _ PassesOwn.never rfl (a36 K (@a31 _ _ _ _ _ _ _ _ a34 (@a19 _ _ _ _ (@a00 _ _ _ _ _ (@a07 _ _ _ _) (@a01 _) (by rfl))) (@a77 _ _ _ _ _ _ _ _ _ at3 (by rfl) T.z_list aj8 (@a00 _ _ _ _ _ (pv 1) (@a01 _) (by rfl)) (by decide) (by decide) (by rfl) (by rfl)))) (a09 (i:=2) sc_law_free.nd rfl (by walk_at "o")) (@a08 _ _ _ (@aa7 _ _ _ _ _ _ _ _ PassesOwn.never rfl (bh7 (pv 1)) (a09 (i:=3) sc_law_free.nd rfl (by walk_at "o")) (@a08 _ _ _ (@a67 _ _ _ _ _ _ _ _ (@a29 _ _ _ _ _ _ _ _ (aj6 K) (@a31 _ _ _ _ _ _ _ _ a34 (pv 2) (pv 3)) (pv 0) (by with_unfolding_all rfl)) (@a08 _ _ _ (@a40 _ _ _ _ (@a31 _ _ _ _ _ _ _ _ a34 (pv 2) (pv 3)))) (@a42 _))) (by intro _; rfl))) (by intro _; rfl))
    (@a08 _ _ _ (@a40 _ _ _ _ (@a07 _ _ _ _))))),?_⟩
   have sl:(1000000:Nat)≤sizeLine:=le_line (Nat.le_refl _)
   walk_at "go"
   intro l1 H1 f1 s1 e1
   walk_at "run"
   refine b96 (by rw [ae2]; omega) ?_
   intro l2 H2 f2 s2 e2
   walk_at "run"
   have ol:(OS1.map V.str).length=27:=by rw [List.length_map,bz5]
   refine a69 (s2 _ _ e1) e2 (show ([V.str (Str.ofString "")]++chrs LTS).length≤_ from by rw [show [V.str (Str.ofString "")]++chrs LTS=OS1.map V.str from (by unfold chrs OS1 LS1; rw [List.map_cons,List.map_map]; rfl),ol]; omega) ?_
   rw [show [V.str (Str.ofString "")]++chrs (Str.ofString "abcdefghijklmnopqrstuvwxyz")=OS1.map V.str from (by unfold chrs OS1 LS1; rw [List.map_cons,List.map_map]; rfl)]
   intro l3 H3 f3 s3 e3
   have s03:=s1.trans (s2.trans s3)
   walk_at "run"
   have few:∀ {n:Nat},(∀ j,j<n→WL.getD j ""∈ws)→n≤63:=fun {n} h=>by
    rcases Nat.lt_or_ge n 64 with z | z
    · omega
    · have:=full (i:=64) (by decide) (fun j hj=>h j (by omega)); omega
   refine ⟨⟨_,SqL.of e3⟩,aa4 (K:=K) (a:=l3) (xs:=OS1.map V.str) (fun i σ' H'=>H'=H3∧(∀ j,j<26*i→WL.getD j ""∈ws)∧∃ y2 y3,σ'=[some (.ref a),some (.str LTS),y2,y3]) ⟨rfl,fun j h=>by omega,_,_,rfl⟩ (fun i σ H' _ zz=>by rw [zz.1]; exact SqL.of e3) ?_ ?_⟩
   · rintro i x σ' H' hx ⟨rfl,hall,y2,y3,rfl⟩
     have hi:=few hall
     have hi3:i<3:=by omega
     obtain rfl:=c56 hx
     walk_at "run"
     refine bp4 (z:=LTS) (fun j σ' H''=>H''=H'∧(∀ k,k<26*i+j→WL.getD k ""∈ws)∧∃ y3,σ'=[some (.ref a),some (.str LTS),some (.str (OS1.getD i "")),y3]) ⟨rfl,hall,_,rfl⟩ ?_ ?_
     · rintro j c σ'' H'' hc ⟨rfl,hall2,y3,rfl⟩
       have hj:j<26:=by
        have:=(List.getElem?_eq_some_iff.mp hc).1
        rw [Array.length_toList,ae2] at this
        exact this
       have hw:=c54 i hi3 j hj
       rw [c55 hc] at hw
       walk_at "run"
       have hsz:(OS1.getD i (Str.ofString "")).length+(⟨#[c]⟩:Str).length≤sizeLine:=by
        have h1:(⟨#[c]⟩:Str).length=1:=rfl
        have h2:=bg6 i hi3
        rw [h1]; omega
       refine ⟨hsz,?_⟩
       walk_at "run"
       rw [hw]
       refine bb3 (SqL.of (s03 _ _ ha)) ?_
       by_cases hm:WL.getD (26*i+j) (Str.ofString "")∈ws
       · refine ⟨false,by rw [decide_eq_true hm]; rfl,?_⟩
         rw [if_neg Bool.false_ne_true]
         walk_at "run"
         refine ⟨rfl,fun k hk=>?_,_,rfl⟩
         by_cases e:k=26*i+j
         · rw [e]; exact hm
         · exact hall2 k (by omega)
       · refine ⟨true,by rw [decide_eq_false hm]; rfl,?_⟩
         rw [if_pos rfl]
         walk_at "run"
         refine ⟨hsz,?_⟩
         rw [hw,←bp5 hall2 hm (by omega)]
         exact q _ s03
     · rintro σ'' H'' ⟨rfl,hall2,y3,rfl⟩
       walk_at "run"
       rw [ae2] at hall2
       exact ⟨rfl,fun j hj=>hall2 j (by omega),_,_,rfl⟩
   · rintro σ' H' ⟨rfl,hall,y2,y3,rfl⟩
     rw [ol] at hall
     have:=few hall
     omega
def nb (b:List Stm):Nat:=1+((allB b).map fun x=>(a28 x).length).sum
def nbs (bs:List (List Stm)):Nat:=(bs.map nb).sum
theorem bb4 (a b:List (List Stm)):nbs (a++b)=nbs a+nbs b:=by unfold nbs; rw [List.map_append,List.sum_append]
theorem b07 (bs:List (List Stm)):((a87 bs).map fun x=>(a28 x).length).sum+bs.length=nbs bs:=by
 induction bs with
 | nil=>rfl
 | cons b bs ih =>
   unfold nbs at ih ⊢
   simp only [a87,List.map_append,List.sum_append,List.map_cons,List.sum_cons,List.length_cons]
   unfold nb at ih ⊢
   omega
theorem bp6 (b:List Stm) (s:Stm):nb (b++[s])=nb b+nbs (a28 s):=by
 unfold nb
 rw [a93,List.map_append,List.sum_append]
 have:allB [s]=s::a87 (a28 s):=by simp only [allB,List.append_nil]; exact ah7 s
 rw [this,List.map_cons,List.sum_cons]
 have:=b07 (a28 s)
 omega
theorem c57 (s:Stm):psS s=a30 s++(a28 s).flatMap psB:=by
 unfold psS
 rw [ah7,List.flatMap_cons]
 congr 1
 generalize a28 s=bs
 induction bs with
 | nil=>rfl
 | cons b bs ih=>simp only [a87,List.flatMap_append,List.flatMap_cons,ih]; rfl
theorem ap8 (tks:List (List Stm)):a49 tks=tks.flatMap psB:=by
 unfold a49
 induction tks with
 | nil=>rfl
 | cons b bs ih=>rw [List.flatMap_cons,List.flatMap_append,ih,List.flatMap_cons]; rfl
theorem ap9 {α β:Type}{R:α→β→Prop}{us:List α}{xs:List β}{x:β}(h:Each R us (xs++[x])):∃ us' v,us=us'++[v]∧Each R us' xs∧R v x:=by
 have hl:us.length=xs.length+1:=by rw [h.1,List.length_append]; rfl
 have e:us=us.take xs.length++us.drop xs.length:=(List.take_append_drop _ _).symm
 obtain ⟨v,hv⟩:∃ v,us.drop xs.length=[v]:=List.length_eq_one_iff.mp (by rw [List.length_drop]; omega)
 rw [hv] at e
 refine ⟨_,v,e,⟨by rw [List.length_take]; omega,fun j u y h1 h2=>?_⟩,h.2 xs.length v x (by rw [e,List.getElem?_append_right (by rw [List.length_take]; omega)]; simp [show xs.length - min xs.length us.length=0 by omega]) (by simp)⟩
 rw [List.getElem?_take] at h1
 split at h1
 · exact h.2 j u y h1 (by rw [List.getElem?_append_left (List.getElem?_eq_some_iff.mp h2).1]; exact h2)
 · cases h1
theorem bp7 (b:List Stm) (i:Nat):nb (b.take i)≤nb b:=by
 have e:b=b.take i++b.drop i:=(List.take_append_drop i b).symm
 have:nb b=nb (b.take i++b.drop i):=by rw [← e]
 rw [this]
 unfold nb
 rw [a93,List.map_append,List.sum_append]
 omega
theorem b08 {x:List Stm}{s:Stm}:∀ {bs:List (List Stm)},x∈bs→s∈allB x→s∈a87 bs
 | b::bs,h,hs=>by
   simp only [a87]
   rcases List.mem_cons.mp h with rfl | h
   · exact List.mem_append_left _ hs
   · exact List.mem_append_right _ (b08 h hs)
theorem aq0 {s x:Stm}:∀ {b:List Stm},s∈b→x∈allS s→x∈allB b
 | y::b,h,hx=>by
   simp only [allB]
   rcases List.mem_cons.mp h with rfl | h
   · exact List.mem_append_left _ hx
   · exact List.mem_append_right _ (aq0 h hx)
theorem KdB.st {tn:List Str}{b:List Stm}{s:Stm}(h:KdB tn b) (hs:s∈b):s.kd tn∧∀ x∈a28 s,KdB tn x:=by
 refine ⟨h s (aq0 hs (by rw [ah7]; exact List.mem_cons_self ..)),fun x hx y hy=>h y (aq0 hs ?_)⟩
 rw [ah7]
 exact List.mem_cons_of_mem _ (b08 hx hy)
structure LpS (tn:List Str) (H H':Hp) (pf pb:Addr) (ps:List (List Pt)) (bs:List (List Stm)):Prop where
 s:Same H H'
 nf:H pf=none
 nb:H pb=none
 ne:pf≠pb
 f:∃ fv,H' pf=some (.lst fv)∧Each (PAt H) fv ps
 b:∃ bv,H' pb=some (.lst bv)∧Each (BAt H) bv bs
 k:∀ b∈bs,KdB tn b
theorem LpS.pushB {tn:List Str}{H H':Hp}{pf pb:Addr}{ps:List (List Pt)}{bs:List (List Stm)}{bv:List V}{v:V}{b:List Stm}(h:LpS tn H H' pf pb ps bs) (e:H' pb=some (.lst bv)) (hE:Each (BAt H) bv bs) (hv:BAt H v b) (hk:KdB tn b):LpS tn H (upd H' pb (.lst (bv++[v]))) pf pb ps (bs++[b]):=by
 obtain ⟨fv,f1,f2⟩:=h.f
 exact ⟨h.s.updNew h.nb,h.nf,h.nb,h.ne,⟨fv,by rw [a48 h.ne]; exact f1,f2⟩,⟨_,a46,hE.snoc hv⟩,fun x hx=>(List.mem_append.mp hx).elim (h.k x) fun z=>by rw [List.mem_singleton.mp z]; exact hk⟩
theorem LpS.pushF {tn:List Str}{H H':Hp}{pf pb:Addr}{ps:List (List Pt)}{bs:List (List Stm)}{fv:List V}{v:V}{p:List Pt}(h:LpS tn H H' pf pb ps bs) (e:H' pf=some (.lst fv)) (hE:Each (PAt H) fv ps) (hv:PAt H v p):LpS tn H (upd H' pf (.lst (fv++[v]))) pf pb (ps++[p]) bs:=by
 obtain ⟨bv,f1,f2⟩:=h.b
 exact ⟨h.s.updNew h.nf,h.nf,h.nb,h.ne,⟨_,a46,hE.snoc hv⟩,⟨bv,by rw [a48 h.ne.symm]; exact f1,f2⟩,h.k⟩
theorem LpS.same {tn:List Str}{H H' H2:Hp}{pf pb:Addr}{ps:List (List Pt)}{bs:List (List Stm)}(h:LpS tn H H' pf pb ps bs) (s:Same H' H2):LpS tn H H2 pf pb ps bs:=by
 obtain ⟨fv,f1,f2⟩:=h.f
 obtain ⟨bv,f3,f4⟩:=h.b
 exact ⟨h.s.trans s,h.nf,h.nb,h.ne,⟨fv,s _ _ f1,f2⟩,⟨bv,s _ _ f3,f4⟩,h.k⟩
theorem bp8 {ps P:List (List Pt)}{bs B:List (List Stm)}{r:List Stm}{st:Stm}(hp:a30 st=P) (hB:a28 st=B):((ps++P)++(bs++B).flatMap psB++psB r).Perm (ps++bs.flatMap psB++psB (st::r)):=by
 have e:psB (st::r)=P++(B.flatMap psB++psB r):=by
  have h1:psB (st::r)=psS st++psB r:=by unfold psB psS; simp only [allB,List.flatMap_append]
  rw [h1,c57,hp,hB,List.append_assoc]
 rw [e,List.flatMap_append]
 simp only [List.append_assoc]
 exact List.Perm.append_left ps (List.perm_append_comm_assoc _ _ _)
def bg7 (K:PySem.W.Frag):Sp:=fun vs H Q _=>∃ (tt lt:Addr) (x:V) (ws:List V) (tks:List (List Stm)) (tn:List Str),vs=[.ref tt]∧H tt=some (.tup [x,.ref lt])∧H lt=some (.lst ws)∧Each (TkAt H) ws tks∧(∀ b∈tks,KdB tn b)∧nbs tks≤10000∧(a49 tks).length≤10000∧∀ l us ps H',H l=none→Same H H'→H' l=some (.lst us)→Each (PAt H') us ps→ps.Perm (a49 tks)→Q (.ref l) H'
theorem al1 (T:Txt K mg t):FnOk P w K mg base CX0 1 t.a__law_patterns t.fd__law_patterns ["script"] (bg7 K):=by
 refine T.f__law_patterns.F.ok sc_law_patterns (fun vs H Q E h=>?_) (fun cdv A outer s H vs Q E hr h=>?_)
 · obtain ⟨tt,lt,x,ws,tks,tn,rfl,_⟩:=h
   rfl
 · obtain ⟨tt,lt,x,ws,tks,tn,rfl,e1,e2,hT,hK,hn,hl,q⟩:=h
   refine ⟨_,(@a03 _ _ _ _ _ (@a27 _ _ 1 _ _ _ _ sc_law_patterns.nd rfl (by walk_at "o") (@a19 _ _ _ _ (@a01 _)) (by rfl) (by walk_at "o"))
    (@a03 _ _ _ _ _ (av7 (i:=2) (Nt:=["name","body"]) (Nf:=[]) (caps:=[]) rfl (a45 (sc:=a06 aa6) rfl rfl (by decide +kernel) (by decide +kernel) (by decide +kernel) rfl (by decide +kernel)) (a36 K (@a37 _ _ _ _ _ _ _ (a38 K) (pv 0) (@a02 _ _ _ _) (fun _ _=>rfl))) (fun _ _ _ _ _=>(af1 K (n:=2) rfl (a20 (a09 (i:=0) (show (["name","body"]:List Str).Nodup by decide +kernel) rfl (by walk_at "o")) (a20 (a09 (i:=1) (show (["name","body"]:List Str).Nodup by decide +kernel) rfl (by walk_at "o")) (@a85 _))))) (fun _ _ _ _ _=>(@a64 _)) (fun _ _ _ _ _=>(pv 1)) sc_law_patterns.nd rfl (by walk_at "o") rfl)
    (@a03 _ _ _ _ _ (@ay0 _ _ _ _ _ _ PassesOwn.never (@a29 _ _ _ _ _ _ _ _ (ad5 K (by exact hr.units)) (pv 2) (@a19 _ _ _ _ (@a01 _)) (nomark _)) (@a08 _ _ _ (@aa7 _ _ _ _ _ _ _ _ PassesOwn.never rfl (a36 K (bm0 K PySem.F.plainAttrs_list PySem.F.slot_list_pop PySem.F.type_list_pop bs9 (pv 2))) (a09 (i:=3) sc_law_patterns.nd rfl (by walk_at "o")) (@a08 _ _ _ (@a67 _ _ _ _ _ _ _ _ (@a29 _ _ _ _ _ _ _ _ a68 (@a37 _ _ _ _ _ _ _ (a38 K) (pv 3) (@a02 _ _ _ _) (fun _ _=>rfl)) (@a07 _ _ _ _) (nomark _)) (@a08 _ _ _ (@a27 _ _ 2 _ _ _ _ sc_law_patterns.nd rfl (by walk_at "o") (@a31 _ _ _ _ _ _ _ _ a34 (pv 2) (@a19 _ _ _ _ (@a00 _ _ _ _ _ (@a37 _ _ _ _ _ _ _ (a38 K) (pv 3) (@a02 _ _ _ _) (fun _ _=>rfl)) (@a00 _ _ _ _ _ (@a37 _ _ _ _ _ _ _ (a38 K) (pv 3) (@a02 _ _ _ _) (fun _ _=>rfl)) (@a01 _) (by rfl)) (by rfl)))) (by rfl) (by walk_at "o"))) (@a08 _ _ _ (@a67 _ _ _ _ _ _ _ _ (@a29 _ _ _ _ _ _ _ _ a68 (@a37 _ _ _ _ _ _ _ (a38 K) (pv 3) (@a02 _ _ _ _) (fun _ _=>rfl)) (@a07 _ _ _ _) (nomark _)) (@a08 _ _ _ (@a75 _ _ _ _ (@a89 _ K _ _ _ _ _ _ _ _ _ _ _ PySem.F.plainAttrs_list PySem.F.slot_list_append PySem.F.type_list_append a66 (pv 2) (@a00 _ _ _ _ _ (@a37 _ _ _ _ _ _ _ (a38 K) (pv 3) (@a02 _ _ _ _) (fun _ _=>rfl)) (@a01 _) (by rfl)) (by rfl) (by rfl) (by rfl) (by rfl) (by rfl) (by rfl)) (by rfl))) (@a08 _ _ _ (@a67 _ _ _ _ _ _ _ _ (@a29 _ _ _ _ _ _ _ _ a68 (@a37 _ _ _ _ _ _ _ (a38 K) (pv 3) (@a02 _ _ _ _) (fun _ _=>rfl)) (@a07 _ _ _ _) (nomark _)) (@a08 _ _ _ (@aa7 _ _ _ _ _ _ _ _ PassesOwn.never rfl (a36 K (@a37 _ _ _ _ _ _ _ (a38 K) (pv 3) (@a02 _ _ _ _) (fun _ _=>rfl))) (af1 K (n:=2) rfl (a20 (a09 (i:=4) sc_law_patterns.nd rfl (by walk_at "o")) (a20 (a09 (i:=5) sc_law_patterns.nd rfl (by walk_at "o")) (@a85 _)))) (@a03 _ _ _ _ _ (@a75 _ _ _ _ (@a89 _ K _ _ _ _ _ _ _ _ _ _ _ PySem.F.plainAttrs_list PySem.F.slot_list_append PySem.F.type_list_append a66 (pv 1) (@a00 _ _ _ _ _ (pv 4) (@a01 _) (by rfl)) (by rfl) (by rfl) (by rfl) (by rfl) (by rfl) (by rfl)) (by rfl))
     (@a08 _ _ _ (@a75 _ _ _ _ (@a89 _ K _ _ _ _ _ _ _ _ _ _ _ PySem.F.plainAttrs_list PySem.F.slot_list_append PySem.F.type_list_append a66 (pv 2) (@a00 _ _ _ _ _ (pv 5) (@a01 _) (by rfl)) (by rfl) (by rfl) (by rfl) (by rfl) (by rfl) (by rfl)) (by rfl)))) (by intro _; rfl))) (@a42 _))))))) (by intro _; rfl))))
    (@a08 _ _ _ (@a40 _ _ _ _ (pv 1)))))),?_⟩
   have sl:(1000000:Nat)≤sizeLine:=le_line (Nat.le_refl _)
   walk_at "go"
   intro pf H1 f1 s1 e3
   walk_at "run"
   refine a52 (SqT.of (s1 _ _ e1)) (a04 (j:=1) rfl) ?_
   walk_at "run"
   have wl:ws.length=tks.length:=hT.1
   have tl:tks.length≤10000:=by
    have:=b07 tks
    omega
   refine ⟨⟨ws,SqL.of (s1 _ _ e2)⟩,ao0 (xs:=ws) (by omega) (fun i acc H'=>H'=H1∧Each (BAt H) acc (tks.take i)) ⟨rfl,Each.nil⟩ (fun i acc H' ⟨h1,h2⟩=>⟨by rw [h2.1,List.length_take]; exact Nat.min_le_left _ _,by rw [h1]; exact SqL.of (s1 _ _ e2)⟩) ?_ ?_⟩
   · rintro i x acc H' hx ⟨rfl,hA⟩
     obtain ⟨b,hb⟩:∃ b,tks[i]?=some b:=⟨_,List.getElem?_eq_getElem (by rw [← wl]; exact (List.getElem?_eq_some_iff.mp hx).1)⟩
     obtain ⟨q',nm,bv,rfl,eq',hbv⟩:=hT.2 i _ _ hx hb
     refine ⟨q',nm,bv,rfl,SqT.of (s1 _ _ eq'),?_⟩
     walk_at "run"
     refine ⟨rfl,?_⟩
     rw [List.take_add_one,hb]
     exact hA.snoc hbv
   · rintro acc H' ⟨rfl,hA⟩ pb H2 f2 s2 e4
     rw [wl,List.take_of_length_le (Nat.le_refl _)] at hA
     walk_at "run"
     have s12:=s1.trans s2
     have npb:H pb=none:=by
      cases h:H pb with
      | none=>rfl
      | some o=>rw [s1 _ _ h] at f2; cases f2
     have hne:pf≠pb:=fun z=>by rw [← z,e3] at f2; cases f2
     have L0:LpS tn H H2 pf pb [] tks:=⟨s12,f1,npb,hne,⟨[],s2 _ _ e3,Each.nil⟩,⟨acc,e4,hA⟩,hK⟩
     have P0:(([]:List (List Pt))++tks.flatMap psB).Perm (a49 tks):=by rw [ap8]; exact List.Perm.refl _
     refine b64 (fun n σ' H'=>n≤10000∧∃ (pb:Addr) (ps:List (List Pt)) (bs:List (List Stm)) (y3 y4 y5:Option V),n=nbs bs∧σ'=[some (.ref tt),some (.ref pf),some (.ref pb),y3,y4,y5]∧LpS tn H H' pf pb ps bs∧(ps++bs.flatMap psB).Perm (a49 tks)) _ ⟨hn,pb,[],tks,_,_,_,rfl,rfl,L0,P0⟩ ?_
     clear L0 P0 hA e4 f2 s12 npb hne s2 e3
     rintro n σ' H3 ⟨hn0,pb,ps,bs,y3,y4,y5,rfl,rfl,L,hP⟩
     obtain ⟨bv,eb,hB⟩:=L.b
     have hbl:bv.length=bs.length:=hB.1
     have hbn:=b07 bs
     walk_at "run"
     intro x4 H4 f4 s4 e4
     refine ak0 (SqL.of (s4 _ _ eb)) (SqL.of e4) ?_
     have L4:=L.same s4
     rcases List.eq_nil_or_concat bs with rfl | ⟨bs',b,hbs⟩
     · have:bv=[]:=List.eq_nil_of_length_eq_zero hbl
       subst this
       refine ⟨false,rfl,?_⟩
       rw [if_neg Bool.false_ne_true]
       walk_at "run"
       obtain ⟨fv,ef,hF⟩:=L4.f
       exact q pf fv ps H4 L.nf L4.s ef (hF.mono fun _ _ z=>z.same L4.s) (by simpa using hP)
     · rw [List.concat_eq_append] at hbs
       subst hbs
       obtain ⟨bv,v,rfl,hB,hv⟩:=ap9 hB
       obtain ⟨bl,us,rfl,ebl,hU⟩:=bat_iff.mp hv
       have hkb:KdB tn b:=L.k b (by simp)
       refine ⟨true,by simp,?_⟩
       rw [if_pos rfl]
       have hnb:nbs (bs'++[b])=nbs bs'+nb b:=by rw [bb4]; simp [nbs]
       refine ⟨fun σ' H'=>∃ (pb:Addr) (ps:List (List Pt)) (bs2:List (List Stm)) (y3 y4 y5:Option V),nbs bs2+1=nbs bs'+nb b∧σ'=[some (.ref tt),some (.ref pf),some (.ref pb),y3,y4,y5]∧LpS tn H H' pf pb ps bs2∧(ps++bs2.flatMap psB).Perm (a49 tks),fun σ' H' ⟨pb,ps,bs2,y3,y4,y5,h1,h2,h3,h4⟩=>⟨nbs bs2,by omega,by omega,pb,ps,bs2,y3,y4,y5,rfl,h2,h3,h4⟩,?_⟩
       have eb4:=s4 _ _ eb
       walk_at "run"
       refine ae3 (SqL.of eb4) ?_
       walk_at "run"
       refine c35 eb4 ?_
       have L5:LpS tn H (upd H4 pb (.lst bv)) pf pb ps bs':=by
        obtain ⟨fv,h1,h2⟩:=L4.f
        exact ⟨L4.s.updNew L.nb,L.nf,L.nb,L.ne,⟨fv,by rw [a48 L.ne]; exact h1,h2⟩,⟨bv,a46,by assumption⟩,fun x hx=>L.k x (List.mem_append_left _ hx)⟩
       have P5:(ps++bs'.flatMap psB++psB (b.drop 0)).Perm (a49 tks):=by
        rw [List.flatMap_append] at hP
        simpa [List.append_assoc] using hP
       clear hB eb eb4 hbl hP L4 L s4 e4
       refine ⟨_,rfl,⟨_,SqL.of (L5.s _ _ ebl)⟩,aa4 (K:=K) (a:=bl) (xs:=us) (fun i σ' H'=>∃ (pb:Addr) (ps:List (List Pt)) (bs2:List (List Stm)) (y3 y4 y5:Option V),nbs bs2+1=nbs bs'+nb (b.take i)∧σ'=[some (.ref tt),some (.ref pf),some (.ref pb),y3,y4,y5]∧LpS tn H H' pf pb ps bs2∧(ps++bs2.flatMap psB++psB (b.drop i)).Perm (a49 tks)) ⟨pb,ps,bs',_,_,_,rfl,rfl,L5,P5⟩ (fun i σ H' _ ⟨_,_,_,_,_,_,_,_,L,_⟩=>SqL.of (L.s _ _ ebl)) ?_ ?_⟩
       · clear L5 P5
         rintro i sv σ' H5 hi ⟨pb,ps,bs2,y3,y4,y5,hn5,rfl,L,hP⟩
         obtain ⟨st,hst⟩:∃ st,b[i]?=some st:=⟨_,List.getElem?_eq_getElem (by rw [← hU.1]; exact (List.getElem?_eq_some_iff.mp hi).1)⟩
         have hsv:=hU.2 i _ _ hi hst
         obtain ⟨hkd,hkx⟩:=hkb.st (List.mem_of_getElem? hst)
         have hil:=(List.getElem?_eq_some_iff.mp hst).1
         have dr:b.drop i=st::b.drop (i+1):=by
          rw [List.drop_eq_getElem_cons hil]
          congr 1
          exact (List.getElem?_eq_some_iff.mp hst).2
         have tk:b.take (i+1)=b.take i++[st]:=by rw [List.take_add_one,hst]; rfl
         have hb2:bs2.length≤10001:=by
          have h1:=b07 bs2
          have h2:=bp7 b i
          omega
         have hp2:ps.length≤10000:=by
          have:=hP.length_eq
          rw [List.length_append,List.length_append] at this
          omega
         rw [dr] at hP
         have fin:∀ {H':Hp}{pb':Addr}{P:List (List Pt)}{B:List (List Stm)}{y3 y4 y5:Option V},a30 st=P→a28 st=B→LpS tn H H' pf pb' (ps++P) (bs2++B)→∃ (pb0:Addr) (ps0:List (List Pt)) (bs0:List (List Stm)) (z3 z4 z5:Option V),nbs bs0+1=nbs bs'+nb (b.take (i+1))∧[some (.ref tt),some (.ref pf),some (.ref pb'),y3,y4,y5]=[some (.ref tt),some (.ref pf),some (.ref pb0),z3,z4,z5]∧LpS tn H H' pf pb0 ps0 bs0∧(ps0++bs0.flatMap psB++psB (b.drop (i+1))).Perm (a49 tks):=fun {H' pb' P B y3 y4 y5} h1 h2 h3=>⟨pb',_,_,y3,y4,y5,by rw [tk,bp6,bb4,h2]; omega,rfl,h3,(bp8 h1 h2).trans hP⟩
         obtain ⟨sa,su,rfl,ha⟩:=bj2 hsv hkd
         obtain ⟨fv,ef,hF⟩:=L.f
         obtain ⟨bv2,eb,hB⟩:=L.b
         have hbl:=hB.1
         have hfl:=hF.1
         walk_at "run"
         refine a52 (SqT.of (L.s _ _ ha)) (a04 (j:=0) rfl) ?_
         walk_at "run"
         by_cases w1:st.wd=Str.ofString "test"
         · refine a55 w1 ?_
           walk_at "run"
           obtain ⟨c,y,z,rfl⟩:=b87 hkd w1
           obtain ⟨a2,u1,u2,u3,hz,e,h2,h3⟩:=ai6 hsv
           cases hz
           refine a52 (SqT.of (L.s _ _ e)) (a04 (j:=2) rfl) ?_
           walk_at "run"
           refine a52 (SqT.of (L.s _ _ e)) (a04 (j:=3) rfl) ?_
           walk_at "run"
           intro x6 H6 f6 s6 e6
           walk_at "run"
           refine a69 (s6 _ _ eb) e6 (by simp only [List.length_cons,List.length_nil]; omega) ?_
           intro x7 H7 f7 s7 e7
           have s57:=s6.trans s7
           have n7:H x7=none:=by
            cases h:H x7 with
            | none=>rfl
            | some o=>rw [(L.s.trans s6) _ _ h] at f7; cases f7
           refine fin (P:=[]) (B:=[y,z]) rfl rfl ⟨L.s.trans s57,L.nf,n7,(fun z=>by rw [← z,s6 _ _ ef] at f7; cases f7),⟨fv,s57 _ _ ef,by rw [List.append_nil]; exact hF⟩,⟨_,e7,hB.append ((Each.nil.snoc h2).snoc h3)⟩,fun x hx=>(List.mem_append.mp hx).elim (L.k x) (hkx x)⟩
         refine a43 w1 ?_
         walk_at "run"
         refine a52 (SqT.of (L.s _ _ ha)) (a04 (j:=0) rfl) ?_
         walk_at "run"
         by_cases w3:st.wd=Str.ofString "loop"
         · refine a55 w3 ?_
           walk_at "run"
           obtain ⟨x,rfl⟩:=b89 hkd w3
           obtain ⟨a2,u,hz,e,hb⟩:=sat_loop.mp hsv
           cases hz
           refine ae3 (SqL.of eb) ?_
           walk_at "run"
           refine a52 (SqT.of (L.s _ _ e)) (a04 (j:=1) rfl) ?_
           walk_at "run"
           refine a74 eb (by omega) ?_
           have:=L.pushB eb hB hb (hkx x (by simp [a28]))
           exact fin (P:=[]) rfl rfl (by rw [List.append_nil]; exact this)
         refine a43 w3 ?_
         walk_at "run"
         refine a52 (SqT.of (L.s _ _ ha)) (a04 (j:=0) rfl) ?_
         walk_at "run"
         by_cases w2:st.wd=Str.ofString "wait"
         · refine a55 w2 ?_
           walk_at "run"
           obtain ⟨n,brs,rfl⟩:=b88 hkd w2
           obtain ⟨a2,l,ws2,hz,e,el,hw⟩:=sat_wait.mp hsv
           cases hz
           have wl2:ws2.length=brs.length:=hw.1
           have bl2:brs.length≤1000:=hkd
           refine a52 (SqT.of (L.s _ _ e)) (a04 (j:=2) rfl) ?_
           walk_at "run"
           have pt:∀ (j:Nat) (p:List Pt) (x:List Stm),brs[j]?=some (.mk p x)→(a30 (.wait n brs))[j]?=some p∧(a28 (.wait n brs))[j]?=some x:=fun j p x h=>⟨by unfold a30; rw [List.getElem?_map,h]; rfl,by unfold a28; rw [List.getElem?_map,h]; rfl⟩
           have lp:(a30 (.wait n brs)).length=brs.length:=List.length_map _
           have lb:(a28 (.wait n brs)).length=brs.length:=by unfold a28; exact List.length_map _
           refine ⟨⟨_,SqL.of (L.s _ _ el)⟩,aa4 (K:=K) (a:=l) (xs:=ws2) (fun j σ' H'=>j≤ws2.length∧∃ y4 y5,σ'=[some (.ref tt),some (.ref pf),some (.ref pb),some (.ref sa),y4,y5]∧LpS tn H H' pf pb (ps++(a30 (.wait n brs)).take j) (bs2++(a28 (.wait n brs)).take j)) ⟨Nat.zero_le _,_,_,rfl,by rw [List.take_zero,List.take_zero,List.append_nil,List.append_nil]; exact L⟩ (fun j σ H' _ ⟨_,_,_,_,L⟩=>SqL.of (L.s _ _ el)) ?_ ?_⟩
           · rintro j w σ' H6 hw' ⟨_,y4,y5,rfl,L6⟩
             have hj:=(List.getElem?_eq_some_iff.mp hw').1
             obtain ⟨br,hbr⟩:∃ br,brs[j]?=some br:=⟨_,List.getElem?_eq_getElem (by omega)⟩
             have hBr:=hw.2 j w br hw' hbr
             obtain ⟨pp,bb⟩:=br
             obtain ⟨qv,pv,bv3,rfl,eq,hp1,hb1⟩:=hBr
             obtain ⟨pt1,pt2⟩:=pt j pp bb hbr
             refine b57 (SqT.of (L6.s _ _ eq)) rfl ?_
             walk_at "run"
             obtain ⟨fv6,ef6,hF6⟩:=L6.f
             have l1:fv6.length≤20000:=by
              have:=hF6.1
              rw [List.length_append,List.length_take] at this
              omega
             refine ae3 (SqL.of ef6) ?_
             walk_at "run"
             refine a74 ef6 (by omega) ?_
             have L7:=L6.pushF ef6 hF6 hp1
             generalize upd H6 pf (.lst (fv6++[pv]))=H7 at L7 ⊢
             obtain ⟨bv7,eb7,hB7⟩:=L7.b
             have l2:bv7.length≤20000:=by
              have:=hB7.1
              rw [List.length_append,List.length_take] at this
              omega
             walk_at "run"
             refine ae3 (SqL.of eb7) ?_
             walk_at "run"
             refine a74 eb7 (by omega) ?_
             have L8:=L7.pushB eb7 hB7 hb1 (hkx bb (List.mem_of_getElem? pt2))
             refine ⟨hj,_,_,rfl,?_⟩
             rw [List.take_add_one,pt1,List.take_add_one,pt2]
             simpa [List.append_assoc] using L8
           · rintro σ' H6 ⟨_,y4,y5,rfl,L6⟩
             rw [List.take_of_length_le (by omega),List.take_of_length_le (by omega)] at L6
             exact fin rfl rfl L6
         refine a43 w2 ?_
         walk_at "run"
         refine fin (P:=[]) (B:=[]) ?_ (b90 w1 w2 w3) (by rw [List.append_nil,List.append_nil]; exact L)
         cases st with
         | wait n brs=>exact absurd rfl w2
         | plain _=>rfl
         | put _ _=>rfl
         | loop _=>rfl
         | test _ _ _=>rfl
       · rintro σ' H5 ⟨pb,ps,bs2,y3,y4,y5,hn5,rfl,L,hP⟩
         rw [hU.1,List.take_of_length_le (Nat.le_refl _)] at hn5
         rw [hU.1,List.drop_of_length_le (Nat.le_refl _)] at hP
         exact ⟨pb,ps,bs2,y3,y4,y5,hn5,rfl,L,by simpa [psB,allB] using hP⟩
theorem IsE.perm {ps qs:List (List Pt)}{ks:List Int}{ws:List Str}(h:IsE ps ks ws) (p:ps.Perm qs):IsE qs ks ws :=
 ⟨h.k1,h.k2,fun x=>(h.k3 x).trans p.mem_iff,h.w1,h.w2,fun x=>(h.w3 x).trans p.mem_iff⟩
def bz6 (K:PySem.W.Frag):Sp:=fun vs H Q _=>∃ (tt lt:Addr) (x:V) (ws:List V) (tks:List (List Stm)) (tn:List Str),vs=[.ref tt]∧H tt=some (.tup [x,.ref lt])∧H lt=some (.lst ws)∧Each (TkAt H) ws tks∧(∀ b∈tks,KdB tn b)∧nbs tks≤10000∧(a49 tks).length≤1000∧(∀ p∈a49 tks,PatK p)∧(L2.wordsOf (a49 tks)).length≤63∧∀ l vs ks ws H',H l=none→Same H H'→H' l=some (.lst vs)→Tr.AtsK K H' (evT ks ws) vs→IsE (a49 tks) ks ws→Q (.ref l) H'
theorem b28 (T:Txt K mg t):FnOk P w K mg base CX0 2 t.a__law_due t.fd__law_due ["script"] (bz6 K):=by
 have G__law_free:=ax6 (P:=P) (w:=w) (base:=base) T
 have G__law_patterns:=al1 (P:=P) (w:=w) (base:=base) T
 refine T.f__law_due.F.ok sc_law_due (fun vs H Q E h=>?_) (fun cdv A outer s H vs Q E hr h=>?_)
 · obtain ⟨tt,lt,x,ws,tks,tn,rfl,_⟩:=h
   rfl
 · obtain ⟨tt,lt,x0,ws9,tks,tn,rfl,e91,e92,hT,hK,hn,hl9,hok9,hw9,q⟩:=h
   refine ⟨_,(@a03 _ _ _ _ _ (@a27 _ _ 1 _ _ _ _ sc_law_due.nd rfl (by walk_at "o") (@a32 _ _ _ _ _ _ _ _ _ _ _ _ _ _ _ _ G__law_patterns (hr.mono (by omega)) rfl T.f__law_patterns.m T.f__law_patterns.F.kp T.f__law_patterns.b .nil a60 (@a00 _ _ _ _ _ (pv 0) (@a01 _) (by rfl)) (by decide) (by rfl) (by rfl)) (by rfl) (by walk_at "o"))
    (@a03 _ _ _ _ _ (@a27 _ _ 2 _ _ _ _ sc_law_due.nd rfl (by walk_at "o") (@a39 _ _ _ _ _ _ _ _ _ (az8 (P:=P) (w:=w) rfl rfl rfl) (by rfl) T.z_sorted af9 (@a00 _ _ _ _ _ (@a77 _ _ _ _ _ _ _ _ _ (b83 (P:=P) (w:=w) K rfl rfl rfl) (by rfl) T.z_set ay7 (@a00 _ _ _ _ _ (a98 (Nt:=["pattern"]) (Nf:=[]) (caps:=[]) rfl (a45 (sc:=a06 a96) rfl rfl (by decide +kernel) (by decide +kernel) (by decide +kernel) rfl (by decide +kernel)) (a36 K (pv 1)) (fun _ _ _ _ _=>(a09 (i:=0) (show (["pattern"]:List Str).Nodup by decide +kernel) rfl (by walk_at "o"))) (fun _ _ _ _ _=>(@a97 _ _ _ (@a29 _ _ _ _ _ _ _ _ a68 (@a37 _ _ _ _ _ _ _ (a38 K) (pv 0) (@a02 _ _ _ _) (fun _ _=>rfl)) (@a07 _ _ _ _) (nomark _)))) (fun _ _ _ _ _=>(@a37 _ _ _ _ _ _ _ (a38 K) (pv 0) (@a02 _ _ _ _) (fun _ _=>rfl)))) (@a01 _) (by rfl)) (by decide) (by decide) (by rfl) (by rfl)) (@a01 _) (by rfl)) (by decide) (by decide) (by rfl) (by rfl)) (by rfl) (by walk_at "o"))
    (@a03 _ _ _ _ _ (@a27 _ _ 3 _ _ _ _ sc_law_due.nd rfl (by walk_at "o") (@a39 _ _ _ _ _ _ _ _ _ (az4 (P:=P) (w:=w) rfl rfl rfl) (by rfl) T.z_sorted af9 (@a00 _ _ _ _ _ (@a77 _ _ _ _ _ _ _ _ _ (b78 (P:=P) (w:=w) K rfl rfl rfl) (by rfl) T.z_set ay7 (@a00 _ _ _ _ _ (a98 (Nt:=["pattern"]) (Nf:=[]) (caps:=[]) rfl (a45 (sc:=a06 a96) rfl rfl (by decide +kernel) (by decide +kernel) (by decide +kernel) rfl (by decide +kernel)) (a36 K (pv 1)) (fun _ _ _ _ _=>(a09 (i:=0) (show (["pattern"]:List Str).Nodup by decide +kernel) rfl (by walk_at "o"))) (fun _ _ _ _ _=>(@a97 _ _ _ (@a29 _ _ _ _ _ _ _ _ a68 (@a37 _ _ _ _ _ _ _ (a38 K) (pv 0) (@a02 _ _ _ _) (fun _ _=>rfl)) (@a07 _ _ _ _) (nomark _)))) (fun _ _ _ _ _=>(@a37 _ _ _ _ _ _ _ (a38 K) (pv 0) (@a02 _ _ _ _) (fun _ _=>rfl)))) (@a01 _) (by rfl)) (by decide) (by decide) (by rfl) (by rfl)) (@a01 _) (by rfl)) (by decide) (by decide) (by rfl) (by rfl)) (by rfl) (by walk_at "o"))
    (@a03 _ _ _ _ _ (av7 (i:=4) (Nt:=["key"]) (Nf:=["keys"]) (caps:=[2]) rfl (a45 (sc:=a06 a96) rfl rfl (by decide +kernel) (by decide +kernel) (by decide +kernel) rfl (by decide +kernel)) (a88 rfl T.z_range (@a00 _ _ _ _ _ (@a02 _ _ _ _) (@a01 _) (by rfl))) (fun _ _ _ _ _=>(a09 (i:=0) (show (["key","keys"]:List Str).Nodup by decide +kernel) rfl (by walk_at "o"))) (fun _ _ _ _ _=>(@a97 _ _ _ (@a29 _ _ _ _ _ _ _ _ (aj6 K) (pv 0) (pv 1) (by with_unfolding_all rfl)))) (fun _ _ _ _ _=>(pv 0)) sc_law_due.nd rfl (by walk_at "o") rfl)
    (@a03 _ _ _ _ _ (@a27 _ _ 5 _ _ _ _ sc_law_due.nd rfl (by walk_at "o") (@a31 _ _ _ _ _ _ _ _ a34 (@a19 _ _ _ _ (@a00 _ _ _ _ _ (@a05 _ _ _ _ _ (@a00 _ _ _ _ _ (@a07 _ _ _ _) (@a01 _) (by rfl))) (@a01 _) (by rfl))) (a98 (Nt:=["key"]) (Nf:=[]) (caps:=[]) rfl (a45 (sc:=a06 a96) rfl rfl (by decide +kernel) (by decide +kernel) (by decide +kernel) rfl (by decide +kernel)) (a36 K (@a31 _ _ _ _ _ _ _ _ a34 (pv 2) (@a44 _ _ _ _ _ _ _ _ _ _ (a47 K) (pv 4) (@a59 _) (@a51 _ _ _ (@a02 _ _ _ _))))) (fun _ _ _ _ _=>(a09 (i:=0) (show (["key"]:List Str).Nodup by decide +kernel) rfl (by walk_at "o"))) (fun _ _ _ _ _=>(@a64 _)) (fun _ _ _ _ _=>(@a05 _ _ _ _ _ (@a00 _ _ _ _ _ (@a07 _ _ _ _) (@a00 _ _ _ _ _ (pv 0) (@a01 _) (by rfl)) (by rfl)))))) (by rfl) (by walk_at "o"))
    (@a08 _ _ _ (@a40 _ _ _ _ (@a31 _ _ _ _ _ _ _ _ a34 (pv 5) (a98 (Nt:=["word"]) (Nf:=[]) (caps:=[]) rfl (a45 (sc:=a06 a96) rfl rfl (by decide +kernel) (by decide +kernel) (by decide +kernel) rfl (by decide +kernel)) (a36 K (@a31 _ _ _ _ _ _ _ _ a34 (pv 3) (@a19 _ _ _ _ (@a00 _ _ _ _ _ (@a32 _ _ _ _ _ _ _ _ _ _ _ _ _ _ _ _ G__law_free (hr.mono (by omega)) rfl T.f__law_free.m T.f__law_free.F.kp T.f__law_free.b .nil a60 (@a00 _ _ _ _ _ (pv 3) (@a01 _) (by rfl)) (by decide) (by rfl) (by rfl)) (@a01 _) (by rfl))))) (fun _ _ _ _ _=>(a09 (i:=0) (show (["word"]:List Str).Nodup by decide +kernel) rfl (by walk_at "o"))) (fun _ _ _ _ _=>(@a64 _)) (fun _ _ _ _ _=>(@a05 _ _ _ _ _ (@a00 _ _ _ _ _ (@a07 _ _ _ _) (@a00 _ _ _ _ _ (pv 0) (@a01 _) (by rfl)) (by rfl))))))))))))),?_⟩
   have sl:(1000000:Nat)≤sizeLine:=le_line (Nat.le_refl _)
   have n1:Str.ofString "word"≠Str.ofString "key":=by decide +kernel
   have n2:Str.ofString "other"≠Str.ofString "key":=by decide +kernel
   have n3:Str.ofString "none"≠Str.ofString "key":=by decide +kernel
   have m1:Str.ofString "key"≠Str.ofString "word":=by decide +kernel
   have m2:Str.ofString "other"≠Str.ofString "word":=by decide +kernel
   have m3:Str.ofString "none"≠Str.ofString "word":=by decide +kernel
   walk_at "go"
   refine ⟨tt,lt,x0,ws9,tks,tn,rfl,e91,e92,hT,hK,hn,by omega,fun a us ps H0 f00 s00 ha hE hpm=>?_⟩
   walk_at "run"
   have ul:us.length=ps.length:=hE.1
   have hl:ps.length≤1000:=by rw [hpm.length_eq]; exact hl9
   have hok:∀ p∈ps,PatK p:=fun p hp=>hok9 p (hpm.mem_iff.mp hp)
   have hw63:(L2.wordsOf ps).length≤63:=by have h:(L2.wordsOf ps).length=(L2.wordsOf (a49 tks)).length:=(hpm.filterMap _).length_eq; omega
   refine ⟨⟨_,SqL.of ha⟩,a73 (xs:=us) (by omega) (fun i acc H'=>H'=H0∧i≤us.length∧acc.length≤i∧acc=a53 (keysOf (ps.take i))) ⟨rfl,Nat.zero_le _,Nat.le_refl _,rfl⟩ (fun i acc H' ⟨e,_,ea,_⟩=>⟨ea,e ▸ SqL.of ha⟩) ?_ ?_⟩
   · rintro i v acc H' hv ⟨rfl,hi,ea,rfl⟩
     have hi':=(List.getElem?_eq_some_iff.mp hv).1
     obtain ⟨p,hp⟩:∃ p,ps[i]?=some p:=⟨_,List.getElem?_eq_getElem (by omega)⟩
     have hvp:=hE.2 i v p hv hp
     have hpk:=hok p (List.mem_of_getElem? hp)
     rw [List.take_add_one,hp,Option.toList_some]
     cases hpk with
     | key k h0 h1 =>
       obtain ⟨b,rfl,e⟩:=ap1 hvp
       walk_at "run"
       refine a52 (SqT.of e) (a04 (j:=0) rfl) ?_
       walk_at "run"
       refine a55 rfl ?_
       walk_at "run"
       refine a52 (SqT.of e) (a04 (j:=1) rfl) ?_
       refine ⟨rfl,hi',by simp; omega,?_⟩
       simp [keysOf,keyP,a53,List.filterMap_append]
     | word x =>
       obtain ⟨b,rfl,e⟩:=ai8 hvp
       walk_at "run"
       refine a52 (SqT.of e) (a04 (j:=0) rfl) ?_
       walk_at "run"
       refine a43 n1 ?_
       refine ⟨rfl,hi',by omega,?_⟩
       simp [keysOf,ab1,a53,List.filterMap_append]
     | other =>
       obtain ⟨b,rfl,e⟩:=ad7 hvp
       walk_at "run"
       refine a52 (SqT.of e) (a04 (j:=0) rfl) ?_
       walk_at "run"
       refine a43 n2 ?_
       refine ⟨rfl,hi',by omega,?_⟩
       simp [keysOf,a53,List.filterMap_append]
     | non =>
       obtain ⟨b,rfl,e⟩:=ad7 hvp
       walk_at "run"
       refine a52 (SqT.of e) (a04 (j:=0) rfl) ?_
       walk_at "run"
       refine a43 n3 ?_
       refine ⟨rfl,hi',by omega,?_⟩
       simp [keysOf,a53,List.filterMap_append]
   · rintro acc H' ⟨rfl,_,ea,rfl⟩ p1 H1 f1 s1 e1
     rw [ul,List.take_length] at e1 ea
     walk_at "run"
     refine ⟨p1,keysOf ps,rfl,SqL.of e1,by simp [a53] at ea; omega,fun p2 H2 ks0 f2 s2 h2 nd2 mem2=>?_⟩
     walk_at "run"
     have hk10:∀ x∈ks0,0≤x∧x<10:=fun x hx=>by
      have:=hok _ (keysOf_mem.mp ((mem2 x).mp hx))
      generalize he:keyP x=pp at this
      cases this with
      | key k h0 h1=>simp only [keyP,List.cons.injEq,Pt.i.injEq,and_true,true_and] at he; subst he; exact ⟨h0,h1⟩
      | word y=>simp [keyP,ab1] at he
      | other=>simp [keyP] at he
      | non=>simp [keyP] at he
     have kl:=b00 nd2 hk10
     refine ⟨p2,ks0,rfl,h2,by omega,fun pk ks H3 f3 s3 e3 pm3 so3=>?_⟩
     walk_at "run"
     have s03:=s1.trans (s2.trans s3)
     have kl3:ks.length≤10:=by rw [pm3.length_eq]; exact kl
     refine ⟨⟨_,SqL.of (s03 _ _ ha)⟩,a73 (xs:=us) (by omega) (fun i acc H'=>H'=H3∧i≤us.length∧acc.length≤i∧acc=a33 (wordsOf (ps.take i))) ⟨rfl,Nat.zero_le _,Nat.le_refl _,rfl⟩ (fun i acc H' ⟨e,_,ea,_⟩=>⟨ea,e ▸ SqL.of (s03 _ _ ha)⟩) ?_ ?_⟩
     · rintro i v acc Hz hv ⟨rfl,hi,ea,rfl⟩
       have hi':=(List.getElem?_eq_some_iff.mp hv).1
       obtain ⟨p,hp⟩:∃ p,ps[i]?=some p:=⟨_,List.getElem?_eq_getElem (by omega)⟩
       have hvp:=(hE.2 i v p hv hp).same s03
       have hpk:=hok p (List.mem_of_getElem? hp)
       rw [List.take_add_one,hp,Option.toList_some]
       cases hpk with
       | key k h0 h1 =>
         obtain ⟨b,rfl,e⟩:=ap1 hvp
         walk_at "run"
         refine a52 (SqT.of e) (a04 (j:=0) rfl) ?_
         walk_at "run"
         refine a43 m1 ?_
         refine ⟨rfl,hi',by omega,?_⟩
         simp [L2.wordsOf,keyP,a33,List.filterMap_append]
       | word x =>
         obtain ⟨b,rfl,e⟩:=ai8 hvp
         walk_at "run"
         refine a52 (SqT.of e) (a04 (j:=0) rfl) ?_
         walk_at "run"
         refine a55 rfl ?_
         walk_at "run"
         refine a52 (SqT.of e) (a04 (j:=1) rfl) ?_
         refine ⟨rfl,hi',by simp; omega,?_⟩
         simp [L2.wordsOf,ab1,a33,List.filterMap_append]
       | other =>
         obtain ⟨b,rfl,e⟩:=ad7 hvp
         walk_at "run"
         refine a52 (SqT.of e) (a04 (j:=0) rfl) ?_
         walk_at "run"
         refine a43 m2 ?_
         refine ⟨rfl,hi',by omega,?_⟩
         simp [L2.wordsOf,a33,List.filterMap_append]
       | non =>
         obtain ⟨b,rfl,e⟩:=ad7 hvp
         walk_at "run"
         refine a52 (SqT.of e) (a04 (j:=0) rfl) ?_
         walk_at "run"
         refine a43 m3 ?_
         refine ⟨rfl,hi',by omega,?_⟩
         simp [L2.wordsOf,a33,List.filterMap_append]
     rintro acc Hz ⟨rfl,_,eb,rfl⟩ p5 H5 f5 s5 e5
     rw [ul,List.take_length] at e5 eb
     walk_at "run"
     refine ⟨p5,wordsOf ps,rfl,SqL.of e5,by simp [a33] at eb; omega,fun p6 H6 ws0 f6 s6 h5 nd5 mem5=>?_⟩
     walk_at "run"
     have wl:ws0.length≤63:=Nat.le_trans (List.Nodup.length_le_of_subset nd5 fun x hx=>(mem5 x).mp hx) hw63
     refine ⟨p6,ws0,rfl,h5,by omega,fun pw ws H7 f7 s7 e7 pm7 so7=>?_⟩
     walk_at "run"
     have s47:=s5.trans (s6.trans s7)
     have wl3:ws.length≤63:=by rw [pm7.length_eq]; exact wl
     have isE:IsE (a49 tks) ks ws:=IsE.perm ⟨so3,pm3.nodup_iff.mpr nd2,fun x=>pm3.mem_iff.trans ((mem2 x).trans keysOf_mem),so7,pm7.nodup_iff.mpr nd5,fun x=>pm7.mem_iff.trans ((mem5 x).trans wordsOf_mem)⟩ hpm
     have ek7:=s47 _ _ e3
     refine af8 (n:=10) (by omega) (fun i acc H'=>H'=H7∧i≤10∧acc.length≤i∧acc=((allK.take i).filter fun k=>decide (k∉ks)).map V.int) ⟨rfl,Nat.zero_le _,Nat.le_refl _,rfl⟩ (fun i acc H' ⟨_,_,e,_⟩=>e) ?_ ?_
     · rintro i acc H8 hi ⟨rfl,_,ea,rfl⟩
       walk_at "run"
       refine ay9 (SqL.of ek7) ?_
       walk_at "run"
       have hk:allK[i]?=some (0+(i:Int)):=by
        unfold allK
        rw [List.getElem?_map,List.getElem?_range hi]
        simp
       rw [List.take_add_one,hk,Option.toList_some,List.filter_append]
       by_cases hin:(0+(i:Int))∈ks
       · refine bi1 hin ?_
         refine ⟨rfl,hi,by omega,?_⟩
         simp only [List.filter_cons,List.filter_nil,decide_not,decide_eq_true hin,Bool.not_true,Bool.false_eq_true,if_false,List.append_nil]
       · refine bi0 hin ?_
         walk_at "run"
         refine ⟨rfl,hi,by rw [List.length_append,List.length_singleton]; omega,?_⟩
         simp only [List.filter_cons,List.filter_nil,decide_not,decide_eq_false hin,Bool.not_false,if_true,List.map_append,List.map_cons,List.map_nil]
     rintro acc H8 ⟨rfl,_,ec,rfl⟩ p4 H4 f4 s4 e4
     rw [show allK.take 10=allK from rfl] at e4
     walk_at "run"
     have s07:=s00.trans (s03.trans s47)
     intro q0 H13 g0 t0 d0
     walk_at "run"
     intro q1 H14 g1 t1 d1
     walk_at "run"
     have t714:=s4.trans (t0.trans t1)
     refine aa2 (SqL.of ((t0.trans t1) _ _ e4)) ?_
     intro q2 H15 g2 t2 d2
     rw [show (1:Int)=((1:Nat):Int) from rfl,a92,←List.map_take] at d2
     walk_at "run"
     have fkl:(a81 ks).length≤1:=by unfold a81; rw [List.length_take]; omega
     refine a69 ((t714.trans t2) _ _ ek7) d2 (by rw [show (a53 ks).length=ks.length by simp [a53],List.length_map]; have:=fkl; unfold a81 at this; omega) ?_
     intro q3 H16 g3 t3 d3
     have ek16:H16 q3=some (.lst (a53 (ks++a81 ks))):=by
      rw [d3]
      unfold a81 a53
      rw [List.map_append]
     walk_at "run"
     refine ⟨⟨_,SqL.of ek16⟩,a73 (xs:=a53 (ks++a81 ks)) (by simp [a53]; omega) (fun i acc H'=>i≤(ks++a81 ks).length∧Same H16 H'∧acc.length=i∧Tr.AtsK K H' (((ks++a81 ks).take i).map keyE) acc) ⟨Nat.zero_le _,Same.refl _,rfl,rfl⟩ (fun i acc H' ⟨_,s',e,_⟩=>⟨by omega,SqL.of (s' _ _ ek16)⟩) ?_ ?_⟩
     · rintro i v acc H17 hv ⟨hi,u2,el,hat⟩
       unfold a53 at hv
       rw [List.getElem?_map] at hv
       obtain ⟨x,hx,rfl⟩:=Option.map_eq_some_iff.mp hv
       walk_at "run"
       intro q4 H18 g4 t4 d4
       refine ⟨(List.getElem?_eq_some_iff.mp hx).1,u2.trans t4,by simp [el],?_⟩
       rw [List.take_add_one,hx,Option.toList_some,List.map_append]
       exact ag3 (a58 t4.tups hat) (bz3 d4)
     rintro acc H17 ⟨_,u2,el,hat⟩ q4 H18 g4 t4 d4
     rw [show (a53 (ks++a81 ks)).length=(ks++a81 ks).length by simp [a53],List.take_length] at hat
     rw [show (a53 (ks++a81 ks)).length=(ks++a81 ks).length by simp [a53]] at el
     walk_at "run"
     have t1418:=t2.trans (t3.trans (u2.trans t4))
     refine a69 (t1418 _ _ d1) d4 (by rw [el]; simp; omega) ?_
     intro q5 H19 g5 t5 d5
     walk_at "run"
     have hk19:=a58 (t4.trans t5).tups hat
     have t1419:=t1418.trans t5
     have ew19:=(t714.trans t1419) _ _ e7
     refine ⟨pw,ws,rfl,ew19,wl3,fun H19b s19b=>?_⟩
     walk_at "run"
     intro q6 H20 g6 t6 d6
     walk_at "run"
     refine a69 ((s19b.trans t6) _ _ ew19) d6 (by simp [a33]; omega) ?_
     intro q7 H21 g7 t7 d7
     have ew21:H21 q7=some (.lst (a33 (ws++[a99 ws]))):=by rw [d7]; simp [a33]
     walk_at "run"
     refine ⟨⟨_,SqL.of ew21⟩,a73 (xs:=a33 (ws++[a99 ws])) (by simp [a33]; omega) (fun i acc H'=>i≤(ws++[a99 ws]).length∧Same H21 H'∧acc.length=i∧Tr.AtsK K H' (((ws++[a99 ws]).take i).map at8) acc) ⟨Nat.zero_le _,Same.refl _,rfl,rfl⟩ (fun i acc H' ⟨_,s',e,_⟩=>⟨by omega,SqL.of (s' _ _ ew21)⟩) ?_ ?_⟩
     · rintro i v acc H22 hv ⟨hi,u5,el5,hat5⟩
       unfold a33 at hv
       rw [List.getElem?_map] at hv
       obtain ⟨x,hx,rfl⟩:=Option.map_eq_some_iff.mp hv
       walk_at "run"
       intro q8 H23 g8 t8 d8
       refine ⟨(List.getElem?_eq_some_iff.mp hx).1,u5.trans t8,by simp [el5],?_⟩
       rw [List.take_add_one,hx,Option.toList_some,List.map_append]
       exact ag3 (a58 t8.tups hat5) (bj4 d8)
     rintro acc5 H22 ⟨_,u5,el5,hat5⟩ q8 H23 g8 t8 d8
     rw [show (a33 (ws++[a99 ws])).length=(ws++[a99 ws]).length by simp [a33],List.take_length] at hat5
     rw [show (a33 (ws++[a99 ws])).length=(ws++[a99 ws]).length by simp [a33]] at el5
     walk_at "run"
     have t1923:=s19b.trans (t6.trans (t7.trans (u5.trans t8)))
     refine a69 (t1923 _ _ d5) d8 (by rw [el5]; simp only [List.length_append,List.length_singleton,List.length_cons,List.length_nil,el]; omega) ?_
     intro q9 H24 g9 t9 d9
     walk_at "run"
     have sB:=s07.trans (t714.trans (t1419.trans t1923))
     refine q q9 _ ks ws H24 (sB.free g9) (sB.trans t9) d9 ?_ isE
     have hk24:=a58 (t1923.trans t9).tups hk19
     have hw24:=a58 (t8.trans t9).tups hat5
     have hq:quietT.AtK K H24 (.ref q0):=by
      simp only [quietT,Tr.AtK,Tr.AtsK]
      exact ⟨_,_,rfl,.inl ((t1.trans (t1419.trans (t1923.trans t9))) _ _ d0),_,_,rfl,rfl,rfl⟩
     unfold evT
     simp only [List.cons_append,List.nil_append,Tr.AtsK]
     exact ⟨_,_,rfl,hq,ai7 hk24 hw24⟩
structure EvS (H:Hp) (tt:Addr) (tks:List (List Stm)) (tn:List Str):Prop where
 ex:∃ lt x ws,H tt=some (.tup [x,.ref lt])∧H lt=some (.lst ws)∧Each (TkAt H) ws tks
 ok:∀ b∈tks,Tr.hs (Stm.trs b)<100∧(allB b).length≤1000∧KdB tn b
 n:(a49 tks).length≤1000
 m:nbs tks≤10000
 p:∀ p∈a49 tks,PatK p
 w:(L2.wordsOf (a49 tks)).length≤63
def bb5 (K:PySem.W.Frag):Sp:=fun vs H Q _=>∃ (tt:Addr) (tks:List (List Stm)) (tn:List Str),vs=[.ref tt]∧EvS H tt tks tn∧∀ l vs ks ws H',H l=none→Same H H'→H' l=some (.lst vs)→Tr.AtsK K H' (evT ks ws) vs→IsE (a49 tks) ks ws→Q (.ref l) H'
theorem au5 (T:Txt K mg t):FnOk P w K mg base CX0 110 t.a_events_of t.fd_events_of ["script"] (bb5 K):=by
 have G_events_of_patterns:=ad8 (P:=P) (w:=w) (base:=base) T
 have G_patterns_of:=al4 (P:=P) (w:=w) (base:=base) T
 refine T.f_events_of.F.ok at4 (fun vs H Q E h=>?_) (fun cdv A outer s H vs Q E hr h=>?_)
 · obtain ⟨tt,tks,tn,rfl,_⟩:=h
   rfl
 · obtain ⟨tt,tks,tn,rfl,hS,q⟩:=h
   obtain ⟨lt,x,ws,e1,e2,hT⟩:=hS.ex
   have hn:=hS.n
   refine ⟨_,(@a08 _ _ _ (@a40 _ _ _ _ (@a32 _ _ _ _ _ _ _ _ _ _ _ _ _ _ _ _ G_events_of_patterns (hr.mono (by omega)) rfl T.f_events_of_patterns.m T.f_events_of_patterns.F.kp T.f_events_of_patterns.b .nil a60 (@a00 _ _ _ _ _ (@a32 _ _ _ _ _ _ _ _ _ _ _ _ _ _ _ _ G_patterns_of (hr.mono (by omega)) rfl T.f_patterns_of.m T.f_patterns_of.F.kp T.f_patterns_of.b .nil a60 (@a00 _ _ _ _ _ (pv 0) (@a01 _) (by rfl)) (by decide) (by rfl) (by rfl)) (@a01 _) (by rfl)) (by decide) (by rfl) (by rfl)))),?_⟩
   have sl:(1000000:Nat)≤sizeLine:=le_line (Nat.le_refl _)
   walk_at "go"
   refine ⟨tt,lt,x,ws,tks,rfl,e1,e2,hT,⟨tn,fun b hb=>⟨(hS.ok b hb).1,by have:=(hS.ok b hb).2.1; omega,(hS.ok b hb).2.2⟩⟩,by omega,fun p us H1 f1 s1 d1 hu=>?_⟩
   walk_at "run"
   refine ⟨p,us,a49 tks,rfl,d1,hu.mono fun _ _ z=>z.same s1,hS.p,hS.w,hn,fun l vs ks ws' H4 k4 s4 d4 ha hE=>?_⟩
   walk_at "run"
   exact q l vs ks ws' H4 (s1.free k4) (s1.trans s4) d4 ha hE
structure BrsK (H:Hp) (v:V) (bs:List Br):Prop where
 ex:∃ l us,v=.ref l∧H l=some (.lst us)∧Each (BrAt H) us bs
 n:bs.length≤60
 e:∀ b∈bs,∃ p,b=.mk p []∧PatK p
 w:(L2.wordsOf (ptsR bs)).length≤41
theorem bb6:∀ m,m<10→0≤(1023:Int) - 1*2 ^ ((m:Nat):Int).toNat:=by decide +kernel
theorem an6:∀ {ps:List (List Pt)},(∀ q∈ps,∃ k:Int,q=keyP k∧0≤k∧k<10)→L2.wordsOf ps=[]
 | [],_=>rfl
 | p::ps,h=>by
   obtain ⟨k,rfl,_⟩:=h p (by simp)
   have:=an6 (ps:=ps) fun q hq=>h q (by simp [hq])
   unfold L2.wordsOf at this ⊢
   rw [List.filterMap_cons,this]
   rfl
def bp9 (K:PySem.W.Frag):Sp:=fun vs H Q _=>∃ (c:Int),vs=[.int c]∧∀ v bs H',Same H H'→BrsK H' v bs→Q v H'
theorem ax7 (T:Txt K mg t):FnOk P w K mg base CX0 3 t.a__law_more t.fd__law_more ["cell"] (bp9 K):=by
 have G__law_drawn:=a71 (P:=P) (w:=w) (base:=base) T
 refine T.f__law_more.F.ok sc_law_more (fun vs H Q E h=>?_) (fun cdv A outer s H vs Q E hr h=>?_)
 · obtain ⟨c,rfl,_⟩:=h
   rfl
 · obtain ⟨c,rfl,q⟩:=h
   refine ⟨_,(@a03 _ _ _ _ _ (@aj0 _ _ _ _ _ _ (@a32 _ _ _ _ _ _ _ _ _ _ _ _ _ _ _ _ G__law_drawn (hr.mono (by omega)) rfl T.f__law_drawn.m T.f__law_drawn.F.kp T.f__law_drawn.b .nil a60 (@a00 _ _ _ _ _ (pv 0) (@a00 _ _ _ _ _ (@a19 _ _ _ _ (@a00 _ _ _ _ _ (@a02 _ _ _ _) (@a00 _ _ _ _ _ (@a02 _ _ _ _) (@a00 _ _ _ _ _ (@a02 _ _ _ _) (@a00 _ _ _ _ _ (@a02 _ _ _ _) (@a01 _) (by rfl)) (by rfl)) (by rfl)) (by rfl))) (@a01 _) (by rfl)) (by rfl)) (by decide) (by rfl) (by rfl)) (ag8 K (n:=4) rfl (a20 (a09 (i:=1) sc_law_more.nd rfl (by walk_at "o")) (a20 (a09 (i:=2) sc_law_more.nd rfl (by walk_at "o")) (a20 (a09 (i:=3) sc_law_more.nd rfl (by walk_at "o")) (a20 (a09 (i:=4) sc_law_more.nd rfl (by walk_at "o")) (@a85 _)))))) (by rfl) (by rfl) (by rfl))
    (@a03 _ _ _ _ _ (@a27 _ _ 1 _ _ _ _ sc_law_more.nd rfl (by walk_at "o") (@a37 _ _ _ _ _ _ _ (a35 K) (@a19 _ _ _ _ (@a00 _ _ _ _ _ (pv 1) (@a00 _ _ _ _ _ (pv 1) (@a00 _ _ _ _ _ (pv 1) (@a00 _ _ _ _ _ (pv 1) (@a00 _ _ _ _ _ (@a02 _ _ _ _) (@a00 _ _ _ _ _ (@a31 _ _ _ _ _ _ _ _ ay1 (@a02 _ _ _ _) (@a31 _ _ _ _ _ _ _ _ br4 (@a02 _ _ _ _) (@a31 _ _ _ _ _ _ _ _ a62 (pv 3) (@a02 _ _ _ _)))) (@a00 _ _ _ _ _ (@a02 _ _ _ _) (@a00 _ _ _ _ _ (pv 1) (@a01 _) (by rfl)) (by rfl)) (by rfl)) (by rfl)) (by rfl)) (by rfl)) (by rfl)) (by rfl))) (pv 2) (fun _ _=>rfl)) (by rfl) (by walk_at "o"))
    (@a03 _ _ _ _ _ (av7 (i:=5) (Nt:=["k"]) (Nf:=["mask"]) (caps:=[1]) rfl (a45 (sc:=a06 a94) rfl rfl (by decide +kernel) (by decide +kernel) (by decide +kernel) rfl (by decide +kernel)) (bn9 rfl T.z_reversed rfl T.z_range (@a00 _ _ _ _ _ (@a02 _ _ _ _) (@a01 _) (by rfl))) (fun _ _ _ _ _=>(a09 (i:=0) (show (["k","mask"]:List Str).Nodup by decide +kernel) rfl (by walk_at "o"))) (fun _ _ _ _ _=>(@a97 _ _ _ (@a29 _ _ _ _ _ _ _ _ a68 (@a31 _ _ _ _ _ _ _ _ br6 (@a31 _ _ _ _ _ _ _ _ br5 (pv 1) (pv 0)) (@a02 _ _ _ _)) (@a02 _ _ _ _) (nomark _)))) (fun _ _ _ _ _=>(@a05 _ _ _ _ _ (@a00 _ _ _ _ _ (@a07 _ _ _ _) (@a00 _ _ _ _ _ (pv 0) (@a01 _) (by rfl)) (by rfl)))) sc_law_more.nd rfl (by walk_at "o") rfl)
    (@a03 _ _ _ _ _ (@a27 _ _ 6 _ _ _ _ sc_law_more.nd rfl (by walk_at "o") (@a07 _ _ _ _) (by rfl) (by walk_at "o"))
    (@a03 _ _ _ _ _ (@a27 _ _ 7 _ _ _ _ sc_law_more.nd rfl (by walk_at "o") (@a31 _ _ _ _ _ _ _ _ a34 (@a77 _ _ _ _ _ _ _ _ _ at3 (by rfl) T.z_list aj8 (@a00 _ _ _ _ _ (pv 6) (@a01 _) (by rfl)) (by decide) (by decide) (by rfl) (by rfl)) (a98 (Nt:=["letter"]) (Nf:=[]) (caps:=[]) rfl (a45 (sc:=a06 a94) rfl rfl (by decide +kernel) (by decide +kernel) (by decide +kernel) rfl (by decide +kernel)) (bh7 (pv 6)) (fun _ _ _ _ _=>(a09 (i:=0) (show (["letter"]:List Str).Nodup by decide +kernel) rfl (by walk_at "o"))) (fun _ _ _ _ _=>(@a64 _)) (fun _ _ _ _ _=>(@a31 _ _ _ _ _ _ _ _ a34 (@a07 _ _ _ _) (pv 0))))) (by rfl) (by walk_at "o"))
    (@a03 _ _ _ _ _ (av7 (i:=8) (Nt:=["k"]) (Nf:=["words","without"]) (caps:=[7,4]) rfl (a45 (sc:=a06 a94) rfl rfl (by decide +kernel) (by decide +kernel) (by decide +kernel) rfl (by decide +kernel)) (a88 rfl T.z_range (@a00 _ _ _ _ _ (pv 3) (@a01 _) (by rfl))) (fun _ _ _ _ _=>(a09 (i:=0) (show (["k","words","without"]:List Str).Nodup by decide +kernel) rfl (by walk_at "o"))) (fun _ _ _ _ _=>(@a97 _ _ _ (@a29 _ _ _ _ _ _ _ _ c00 (pv 0) (pv 2) (nomark _)))) (fun _ _ _ _ _=>(@a05 _ _ _ _ _ (@a00 _ _ _ _ _ (@a07 _ _ _ _) (@a00 _ _ _ _ _ (@a37 _ _ _ _ _ _ _ (a35 K) (pv 1) (pv 0) (fun _ _=>rfl)) (@a01 _) (by rfl)) (by rfl)))) sc_law_more.nd rfl (by walk_at "o") rfl)
    (@a08 _ _ _ (@a40 _ _ _ _ (a98 (Nt:=["pattern"]) (Nf:=[]) (caps:=[]) rfl (a45 (sc:=a06 a94) rfl rfl (by decide +kernel) (by decide +kernel) (by decide +kernel) rfl (by decide +kernel)) (a36 K (@a31 _ _ _ _ _ _ _ _ a34 (@a31 _ _ _ _ _ _ _ _ a34 (@a44 _ _ _ _ _ _ _ _ _ _ (a47 K) (pv 8) (@a59 _) (@a51 _ _ _ (@a02 _ _ _ _))) (pv 5)) (@a44 _ _ _ _ _ _ _ _ _ _ (a47 K) (pv 8) (@a51 _ _ _ (@a02 _ _ _ _)) (@a59 _)))) (fun _ _ _ _ _=>(a09 (i:=0) (show (["pattern"]:List Str).Nodup by decide +kernel) rfl (by walk_at "o"))) (fun _ _ _ _ _=>(@a64 _)) (fun _ _ _ _ _=>(@a05 _ _ _ _ _ (@a00 _ _ _ _ _ (pv 0) (@a00 _ _ _ _ _ (@a19 _ _ _ _ (@a01 _)) (@a01 _) (by rfl)) (by rfl))))))))))))),?_⟩
   have sl:(1000000:Nat)≤sizeLine:=le_line (Nat.le_refl _)
   walk_at "go"
   intro l1 H1 f1 s1 e1
   walk_at "run"
   refine ⟨c,l1,[1024,8,41,60],rfl,e1,by decide,by decide,fun l2 ds H2 f2 s2 e2 hdl hdd=>?_⟩
   obtain ⟨mask,way,many,without,rfl⟩:∃ a b c e,ds=[a,b,c,e]:=by
    match ds,hdl with
    | [a,b,c,e],_=>exact ⟨a,b,c,e,rfl⟩
   have hd0:mask<1024:=hdd 0 _ _ rfl rfl
   have hd1:way<8:=hdd 1 _ _ rfl rfl
   have hd2:many<41:=hdd 2 _ _ rfl rfl
   clear hdd
   walk_at "run"
   have e2:H2 l2=some (.lst [.int (mask:Nat),.int (way:Nat),.int (many:Nat),.int (without:Nat)]):=e2
   refine am4 (SqL.of e2) rfl ?_
   walk_at "run"
   obtain ⟨m,hm,hm9⟩:∃ m:Nat,((many:Nat):Int) % 10=(m:Int)∧m<10:=⟨many % 10,by omega,by omega⟩
   rw [hm]
   refine i_rI (by unfold CPow; omega) ?_
   walk_at "run"
   intro l3 H3 f3 s3 e3
   walk_at "run"
   obtain ⟨M,hM⟩:∃ M:Nat,([.int (mask:Nat),.int (mask:Nat),.int (mask:Nat),.int (mask:Nat),.int 1023,.int (1023 - 1*2 ^ ((m:Nat):Int).toNat),.int 0,.int (mask:Nat)]:List V)[way]?=some (.int (M:Nat)):=by
    match way,hd1 with
    | 0,_ | 1,_ | 2,_ | 3,_ | 7,_=>exact ⟨mask,rfl⟩
    | 4,_=>exact ⟨1023,rfl⟩
    | 5,_=>exact ⟨(1023 - 1*2 ^ ((m:Nat):Int).toNat:Int).toNat,by rw [Int.toNat_of_nonneg (bb6 m hm9)]; rfl⟩
    | 6,_=>exact ⟨0,rfl⟩
   refine a61 (SqL.of e3) (a04 (j:=way) hM) ?_
   walk_at "run"
   refine ⟨10,rfl,by decide,b97 (n:=10) (by omega) (fun i acc H'=>Same H3 H'∧acc.length≤i∧∃ ps:List (List Pt),Each (PAt H') acc ps∧∀ q∈ps,∃ k:Int,q=keyP k∧0≤k∧k<10) ⟨Same.refl _,Nat.zero_le _,[],Each.nil,fun q h=>(by cases h)⟩ (fun i acc H' zz=>zz.2.1) ?_ ?_⟩
   · rintro i acc H4 hi ⟨s4,hal,ps,hE,hK⟩
     rw [show (((10:Nat):Int) - 1+(i:Int)*(-1))=((9 - i:Nat):Int) by omega]
     walk_at "run"
     by_cases hb:Builtin.bitAnd ((M:Int) / 2 ^ (((9 - i:Nat):Int)).toNat) 1=1
     · refine a55 hb ?_
       walk_at "run"
       intro a5 H5 f5 s5 e5
       refine ⟨s4.trans s5,by rw [List.length_append]; simp; omega,ps++[keyP ((9 - i:Nat):Int)],(hE.mono fun _ _ z=>z.same s5).snoc (ap5 e5),fun q hq=>?_⟩
       rcases List.mem_append.mp hq with h | h
       · exact hK q h
       · exact ⟨_,List.mem_singleton.mp h,by omega,by omega⟩
     · refine a43 hb ?_
       exact ⟨s4,by omega,ps,hE,hK⟩
   · rintro acc H4 ⟨s4,hal,ps,hE,hK⟩ l5 H5 f5 s5 e5
     walk_at "run"
     refine b96 (by rw [ae2]; omega) ?_
     intro l6 H6 f6 s6 e6
     walk_at "run"
     refine bu4 (z:=LTS) (by rw [ae2]; omega) (fun i acc H'=>H'=H6∧acc.length=i∧∃ zs:List Str,acc=a33 zs) ⟨rfl,rfl,[],rfl⟩ (fun i acc H' ⟨_,h,_⟩=>by omega) ?_ ?_
     · rintro i c acc' H7 hc ⟨rfl,hal2,zs,rfl⟩
       walk_at "run"
       refine ⟨by have h1:(⟨#[c]⟩:Str).length=1:=rfl; have h2:(Str.ofString "a").length=1:=rfl; rw [h1,h2]; omega,?_⟩
       exact ⟨rfl,by simp [hal2],zs++[Str.ofString "a"++⟨#[c]⟩],by simp [a33]⟩
     rintro acc' H7 ⟨rfl,hal2,zs,rfl⟩ l8 H8 f8 s8 e8
     walk_at "run"
     rw [ae2] at hal2
     have hz:zs.length=26:=by rw [← hal2]; exact (List.length_map _).symm
     have hch:chrs (Str.ofString "abcdefghijklmnopqrstuvwxyz")=a33 LS1:=by unfold chrs LS1 a33; rw [List.map_map]; rfl
     have h26:LS1.length=26:=by decide +kernel
     rw [hch] at e6
     refine a69 (s8 _ _ e6) e8 (by unfold a33; rw [List.length_map,List.length_map]; omega) ?_
     rw [show a33 LS1++a33 zs=a33 (LS1++zs) from (by unfold a33; rw [List.map_append])]
     intro l9 H9 f9 s9 e9
     walk_at "run"
     have hw52:(LS1++zs).length=52:=by rw [List.length_append,h26,hz]
     generalize LS1++zs=wds at *
     rw [Int.toNat_natCast]
     refine af8 (lo:=0) (n:=many) (by omega) (fun i acc H'=>Same H9 H'∧acc.length≤i∧∃ ps:List (List Pt),Each (PAt H') acc ps∧∀ q∈ps,∃ z,q=ab1 z) ⟨Same.refl _,Nat.zero_le _,[],Each.nil,fun q h=>(by cases h)⟩ (fun i acc H' zz=>zz.2.1) ?_ ?_
     · rintro i acc2 H10 hi ⟨s10,hal3,ps2,hE2,hK2⟩
       rw [Int.zero_add]
       walk_at "run"
       by_cases hb:((i:Nat):Int)=(without:Int)
       · rw [if_neg (by simp [hb])]
         exact ⟨s10,by omega,ps2,hE2,hK2⟩
       · rw [if_pos (by simp [hb])]
         obtain ⟨z,hz2⟩:∃ z,wds[i]?=some z:=⟨_,List.getElem?_eq_getElem (by omega)⟩
         walk_at "run"
         refine a61 (SqL.of (s10 _ _ e9)) (a04 (j:=i) (ap2 hz2)) ?_
         walk_at "run"
         intro a11 H11 f11 s11 e11
         refine ⟨s10.trans s11,by rw [List.length_append]; simp; omega,ps2++[ab1 z],(hE2.mono fun _ _ z=>z.same s11).snoc (ap4 e11),fun q hq=>?_⟩
         rcases List.mem_append.mp hq with h | h
         · exact hK2 q h
         · exact ⟨_,List.mem_singleton.mp h⟩
     · rintro acc2 H10 ⟨s10,hal3,ps2,hE2,hK2⟩ l11 H11 f11 s11 e11
       walk_at "run"
       have kE:=hE.1
       have wE:=hE2.1
       have hk10:acc.length≤10:=hal
       have s5b:Same H5 H11:=s6.trans (s8.trans (s9.trans (s10.trans s11)))
       refine aa2 (SqL.of e11) ?_
       rw [show (7:Int)=((7:Nat):Int) from rfl,a92]
       intro l12 H12 f12 s12 e12
       walk_at "run"
       refine a69 e12 ((s5b.trans s12) _ _ e5) (by rw [List.length_take]; omega) ?_
       intro l13 H13 f13 s13 e13
       walk_at "run"
       refine aa2 (SqL.of ((s12.trans s13) _ _ e11)) ?_
       rw [aa0]
       intro l14 H14 f14 s14 e14
       walk_at "run"
       refine a69 (s14 _ _ e13) e14 (by simp only [List.length_append,List.length_take,List.length_drop]; omega) ?_
       intro l15 H15 f15 s15 e15
       have s1115:Same H11 H15:=s12.trans (s13.trans (s14.trans s15))
       have hE15:Each (PAt H15) (acc2.take 7++acc++acc2.drop 7) (ps2.take 7++ps++ps2.drop 7):=((((hE2.mono fun _ _ z=>z.same (s11.trans s1115)).take 7).append (hE.mono fun _ _ z=>z.same (s5.trans (s5b.trans s1115)))).append (ab2 (hE2.mono fun _ _ z=>z.same (s11.trans s1115)) 7))
       have hlen:(acc2.take 7++acc++acc2.drop 7).length≤60:=by simp only [List.length_append,List.length_take,List.length_drop]; omega
       have hKK:∀ q∈ps2.take 7++ps++ps2.drop 7,PatK q:=fun q hq=>by
        rcases List.mem_append.mp hq with h | h
        · rcases List.mem_append.mp h with h | h
          · obtain ⟨z,rfl⟩:=hK2 q (List.mem_of_mem_take h); exact .word z
          · obtain ⟨k,rfl,k0,k1⟩:=hK q h; exact .key k k0 k1
        · obtain ⟨z,rfl⟩:=hK2 q (List.mem_of_mem_drop h); exact .word z
       have hWW:(L2.wordsOf (ps2.take 7++ps++ps2.drop 7)).length≤41:=by
        rw [a72,a72,an6 hK,List.append_nil,←a72,List.take_append_drop]
        refine Nat.le_trans (List.length_filterMap_le _ _) ?_
        omega
       generalize acc2.take 7++acc++acc2.drop 7=vs at *
       generalize ps2.take 7++ps++ps2.drop 7=pp at *
       have hvp:=hE15.1
       walk_at "run"
       refine ⟨⟨_,SqL.of e15⟩,a73 (xs:=vs) (by omega) (fun i acc H'=>Same H15 H'∧acc.length≤i∧Each (BrAt H') acc ((pp.take i).map fun p=>Br.mk p [])) ⟨Same.refl _,Nat.zero_le _,Each.nil⟩ (fun i acc H' zz=>⟨zz.2.1,SqL.of (zz.1 _ _ e15)⟩) ?_ ?_⟩
       · rintro i x acc3 H16 hx ⟨s16,hal4,hE16⟩
         obtain ⟨p,hp⟩:∃ p,pp[i]?=some p:=⟨_,List.getElem?_eq_getElem (by rw [← hvp]; exact (List.getElem?_eq_some_iff.mp hx).1)⟩
         have hxp:=hE15.2 i _ _ hx hp
         walk_at "run"
         intro a17 H17 f17 s17 e17
         walk_at "run"
         intro a18 H18 f18 s18 e18
         have s68:=s17.trans s18
         refine ⟨s16.trans s68,by rw [List.length_append]; simp; omega,?_⟩
         rw [List.take_add_one,hp,List.map_append]
         exact (hE16.mono fun _ _ z=>af3 z s68).snoc (bg0 e18 (hxp.same (s16.trans s68)) (aa5 (s18 _ _ e17) Each.nil))
       · rintro acc3 H16 ⟨s16,hal4,hE16⟩ l17 H17 f17 s17 e17
         rw [hvp,List.take_of_length_le (Nat.le_refl _)] at hE16
         have hsr:Same H H5:=s1.trans (s2.trans (s3.trans (s4.trans s5)))
         refine q _ (pp.map fun p=>Br.mk p []) H17 (hsr.trans (s5b.trans (s1115.trans (s16.trans s17)))) ⟨⟨l17,acc3,rfl,e17,hE16.mono fun _ _ z=>af3 z s17⟩,by rw [List.length_map,←hvp]; exact hlen,fun b hb=>?_,?_⟩
         · obtain ⟨p,hp,rfl⟩:=List.mem_map.mp hb
           exact ⟨p,rfl,hKK p hp⟩
         · have:ptsR (pp.map fun p=>Br.mk p [])=pp:=by unfold ptsR; rw [List.map_map]; exact List.map_id _
           rw [this]; exact hWW
theorem bq0 (x:Stm):(a28 x).length≤2+(a30 x).length:=by
 cases x with
 | wait n bs=>simp [a28,a30]
 | plain _=>simp [a28]
 | put _ _=>simp [a28]
 | loop _=>simp [a28]; omega
 | test _ _ _=>simp [a28]
theorem c58 (b:List Stm):nb b≤1+2*(allB b).length+(psB b).length:=by
 have:∀ l:List Stm,(l.map fun x=>(a28 x).length).sum≤2*l.length+(l.flatMap a30).length:=fun l=>by
  induction l with
  | nil=>exact Nat.le_refl _
  | cons x l ih =>
    have:=bq0 x
    rw [List.map_cons,List.sum_cons,List.length_cons,List.flatMap_cons,List.length_append]
    omega
 have:=this (allB b)
 unfold nb psB
 omega
theorem bj6 {k:Nat}:∀ {bs:List (List Stm)},(∀ b∈bs,nb b≤k)→nbs bs≤k*bs.length
 | [],_=>Nat.zero_le _
 | b::bs,h=>by
   have h1:=h b (by simp)
   have h2:=bj6 (bs:=bs) fun x hx=>h x (by simp [hx])
   unfold nbs at h2 ⊢
   rw [List.map_cons,List.sum_cons,List.length_cons,Nat.mul_succ]
   omega
theorem bj7 {k:Nat}:∀ {bs:List (List Stm)},(∀ b∈bs,(psB b).length≤k)→(bs.flatMap psB).length≤k*bs.length
 | [],_=>Nat.zero_le _
 | b::bs,h=>by
   have h1:=h b (by simp)
   have h2:=bj7 (bs:=bs) fun x hx=>h x (by simp [hx])
   rw [List.flatMap_cons,List.length_append,List.length_cons,Nat.mul_succ]
   omega
structure TkB (tn:List Str) (b:List Stm):Prop where
 k:KdB tn b
 p:∀ q∈psB b,PatK q
 l:(allB b).length≤100
 h:Tr.hs (Stm.trs b)<100
 n:(psB b).length≤100
theorem Bk.tk {tn:List Str}{b:List Stm}(h:Bk tn 6 b):TkB tn b:=by
 have h1:=h.l; have h2:=h.h; have h3:=h.n
 exact ⟨h.k,h.p,by omega,by omega,by omega⟩
theorem bz7 {H:Hp}{tt lt:Addr}{x:V}{ws:List V}{tks:List (List Stm)}{tn:List Str}(e1:H tt=some (.tup [x,.ref lt])) (e2:H lt=some (.lst ws)) (hT:Each (TkAt H) ws tks) (hn:tks.length≤5) (hb:∀ b∈tks,TkB tn b) (hw:(L2.wordsOf (tks.flatMap psB)).length≤63):EvS H tt tks tn:=by
 have h1:=bj7 (k:=100) fun b h=>(hb b h).n
 have h2:=bj6 (k:=400) (bs:=tks) fun b h=>by
  have z1:=(hb b h).l; have z2:=(hb b h).n; have z3:=c58 b; omega
 refine ⟨⟨lt,x,ws,e1,e2,hT⟩,fun b h=>⟨(hb b h).h,by have:=(hb b h).l; omega,(hb b h).k⟩,by rw [ap8]; omega,by omega,fun p hp=>?_,by rw [ap8]; exact hw⟩
 rw [ap8] at hp
 obtain ⟨b,hb1,hb2⟩:=List.mem_flatMap.mp hp
 exact (hb b hb1).p p hb2
theorem bq1 {tn:List Str}{bs:List Br}(hn:bs.length≤60) (he:∀ b∈bs,∃ p,b=.mk p []∧PatK p):TkB tn [.wait 0 bs]∧psB [.wait 0 bs]=ptsR bs:=by
 have ha:∀ {bs:List Br},(∀ b∈bs,∃ p,b=.mk p []∧PatK p)→allR bs=[]∧Tr.hs (Br.trs bs)≤3:=fun {bs}=>by
  induction bs with
  | nil=>exact fun _=>⟨rfl,Nat.zero_le _⟩
  | cons b bs ih =>
    intro h
    obtain ⟨p,rfl,_⟩:=h b (by simp)
    obtain ⟨i1,i2⟩:=ih fun x hx=>h x (by simp [hx])
    have hp:=b27 p
    refine ⟨by simp only [allR,allB,i1]; rfl,?_⟩
    simp only [Br.trs,Br.tr,Stm.trs,Tr.hs,Tr.h] at *
    omega
 obtain ⟨a1,a2⟩:=ha he
 have aB:allB [.wait 0 bs]=[.wait 0 bs]:=by simp only [allB,allS,a1]; rfl
 have pB:psB [.wait 0 bs]=ptsR bs:=by unfold psB; rw [aB]; simp only [List.flatMap_cons,List.flatMap_nil,List.append_nil]; rfl
 refine ⟨⟨fun s hs=>?_,fun q hq=>?_,by rw [aB]; simp,?_,by rw [pB]; unfold ptsR; rw [List.length_map]; omega⟩,pB⟩
 · rw [aB] at hs
   rw [List.mem_singleton.mp hs]
   exact Nat.le_trans hn (by decide)
 · rw [pB] at hq
   unfold ptsR at hq
   obtain ⟨b,hb,rfl⟩:=List.mem_map.mp hq
   obtain ⟨p,rfl,hp⟩:=he b hb
   exact hp
 · simp only [Stm.trs,Stm.tr,Tr.hs,Tr.h]
   omega
theorem au6 {β:Type}{R:V→β→Prop}(hR:∀ v n,R v n→∃ a,v=.ref a):∀ {vs:List V}{ns:List β},Each R vs ns→∃ ms:List Addr,vs=ms.map V.ref
 | [],_,_=>⟨[],rfl⟩
 | v::vs,n::ns,h=>by
   obtain ⟨a,rfl⟩:=hR v n (h.2 0 _ _ rfl rfl)
   obtain ⟨ms,rfl⟩:=au6 hR (vs:=vs) (ns:=ns) ⟨by simpa using h.1,fun j a b e1 e2=>h.2 (j+1) a b (by simpa using e1) (by simpa using e2)⟩
   exact ⟨a::ms,rfl⟩
 | v::vs,[],h=>absurd h.1 (by simp)
theorem bj8 {ps:List (List Pt)}{ks:List Int}{ws:List Str}(h:IsE ps ks ws) (hn:ps.length≤1000):(evT ks ws).length≤2003:=by
 have h1:=List.Nodup.length_le_of_subset h.k2 fun x hx=>keysOf_mem.mpr ((h.k3 x).mp hx)
 have h2:=List.Nodup.length_le_of_subset h.w2 fun x hx=>L2.wordsOf_mem.mpr ((h.w3 x).mp hx)
 have h3:(keysOf ps).length≤ps.length:=List.length_filterMap_le _ _
 have h4:(L2.wordsOf ps).length≤ps.length:=List.length_filterMap_le _ _
 have h5:(a81 ks).length≤1:=by unfold a81; rw [List.length_take]; omega
 unfold evT
 simp only [List.length_cons,List.length_append,List.length_map,List.length_nil]
 omega
theorem aq1 {K:PySem.W.Frag}{H:Hp}:∀ {ts:List Tr}{vs:List V},Tr.AtsK K H ts vs→ts.length=vs.length∧∀ (i:Nat) (v:V),vs[i]?=some v→∃ t∈ts,t.AtK K H v
 | [],vs,h=>by
   simp only [Tr.AtsK] at h
   subst h
   exact ⟨rfl,fun i v e=>by simp at e⟩
 | x::ts,vs,h=>by
   simp only [Tr.AtsK] at h
   obtain ⟨v,r,rfl,h1,h2⟩:=h
   obtain ⟨h3,h4⟩:=aq1 h2
   refine ⟨by simp [h3],fun i w e=>?_⟩
   cases i with
   | zero=>simp only [List.getElem?_cons_zero,Option.some.injEq] at e; subst e; exact ⟨x,List.mem_cons_self ..,h1⟩
   | succ i=>obtain ⟨t,ht,h5⟩:=h4 i w (by simpa using e); exact ⟨t,List.mem_cons_of_mem _ ht,h5⟩
theorem bz8 {K:PySem.W.Frag}{H:Hp}{ks:List Int}{ws:List Str}{vs:List V}(h:Tr.AtsK K H (evT ks ws) vs) {i:Nat}{v:V}(hv:vs[i]?=some v):∃ (a:Addr) (xs:List V) (x:V),v=.ref a∧SqT K H a (xs++[x])∧((∃ s,x=.str s)∨∃ n,x=.int n):=by
 obtain ⟨t,ht,hat⟩:=(aq1 h).2 i v hv
 unfold evT at ht
 rcases List.mem_cons.mp ht with rfl | ht
 · simp only [quietT,Tr.AtK,Tr.AtsK] at hat
   obtain ⟨a,us,rfl,hs,x,r,rfl,rfl,rfl⟩:=hat
   exact ⟨a,[],_,rfl,hs.elim SqT.of fun z=>z.sq H,.inl ⟨_,rfl⟩⟩
 rcases List.mem_append.mp ht with h | h
 · obtain ⟨k,_,rfl⟩:=List.mem_map.mp h
   simp only [keyE,Tr.AtK,Tr.AtsK] at hat
   obtain ⟨a,us,rfl,hs,x,r,rfl,rfl,y,r2,rfl,rfl,rfl⟩:=hat
   exact ⟨a,[_],_,rfl,hs.elim SqT.of fun z=>z.sq H,.inr ⟨_,rfl⟩⟩
 · obtain ⟨k,_,rfl⟩:=List.mem_map.mp h
   simp only [at8,Tr.AtK,Tr.AtsK] at hat
   obtain ⟨a,us,rfl,hs,x,r,rfl,rfl,y,r2,rfl,rfl,rfl⟩:=hat
   exact ⟨a,[_],_,rfl,hs.elim SqT.of fun z=>z.sq H,.inl ⟨_,rfl⟩⟩
theorem bz9 (T:Txt K mg t):FnOk P w K mg base CX0 120 t.a_law t.fd_law ["script"] (ar6 K):=by
 have G__law_cell:=ak7 (P:=P) (w:=w) (base:=base) T
 have G__law_due:=b28 (P:=P) (w:=w) (base:=base) T
 have G__law_more:=ax7 (P:=P) (w:=w) (base:=base) T
 have G__law_script:=ap7 (P:=P) (w:=w) (base:=base) T
 have G_events_of:=au5 (P:=P) (w:=w) (base:=base) T
 refine T.f_law.F.ok sc_law (fun vs H Q E h=>?_) (fun cdv A outer s H vs Q E hr h=>?_)
 · obtain ⟨a,ns,rfl,_⟩:=h
   rfl
 · obtain ⟨a,ns,rfl,hS,hn,q⟩:=h
   refine ⟨_,(@a03 _ _ _ _ _ (@aj0 _ _ _ _ _ _ (@a32 _ _ _ _ _ _ _ _ _ _ _ _ _ _ _ _ G__law_script (hr.mono (by omega)) rfl T.f__law_script.m T.f__law_script.F.kp T.f__law_script.b .nil a60 (@a00 _ _ _ _ _ (pv 0) (@a01 _) (by rfl)) (by decide) (by rfl) (by rfl)) (af1 K (n:=2) rfl (a20 (a09 (i:=1) sc_law.nd rfl (by walk_at "o")) (a20 (a09 (i:=2) sc_law.nd rfl (by walk_at "o")) (@a85 _)))) (by rfl) (by rfl) (by rfl))
    (@a91 _ _ _ _ _ (@a67 _ _ _ _ _ _ _ _ (@a29 _ _ _ _ _ _ _ _ br8 (@a31 _ _ _ _ _ _ _ _ a62 (@a32 _ _ _ _ _ _ _ _ _ _ _ _ _ _ _ _ G__law_cell (hr.mono (by omega)) rfl T.f__law_cell.m T.f__law_cell.F.kp T.f__law_cell.b .nil a60 (@a00 _ _ _ _ _ (pv 0) (@a00 _ _ _ _ _ (@a02 _ _ _ _) (@a01 _) (by rfl)) (by rfl)) (by decide) (by rfl) (by rfl)) (@a02 _ _ _ _)) (@a02 _ _ _ _) (nomark _)) (@a08 _ _ _ (@a27 _ _ 2 _ _ _ _ sc_law.nd rfl (by walk_at "o") (@a31 _ _ _ _ _ _ _ _ a34 (pv 2) (@a19 _ _ _ _ (@a00 _ _ _ _ _ (@a05 _ _ _ _ _ (@a00 _ _ _ _ _ (@a07 _ _ _ _) (@a00 _ _ _ _ _ (@a19 _ _ _ _ (@a00 _ _ _ _ _ (@a05 _ _ _ _ _ (@a00 _ _ _ _ _ (@a07 _ _ _ _) (@a00 _ _ _ _ _ (@a02 _ _ _ _) (@a00 _ _ _ _ _ (@a32 _ _ _ _ _ _ _ _ _ _ _ _ _ _ _ _ G__law_more (hr.mono (by omega)) rfl T.f__law_more.m T.f__law_more.F.kp T.f__law_more.b .nil a60 (@a00 _ _ _ _ _ (@a32 _ _ _ _ _ _ _ _ _ _ _ _ _ _ _ _ G__law_cell (hr.mono (by omega)) rfl T.f__law_cell.m T.f__law_cell.F.kp T.f__law_cell.b .nil a60 (@a00 _ _ _ _ _ (pv 0) (@a00 _ _ _ _ _ (@a02 _ _ _ _) (@a01 _) (by rfl)) (by rfl)) (by decide) (by rfl) (by rfl)) (@a01 _) (by rfl)) (by decide) (by rfl) (by rfl)) (@a01 _) (by rfl)) (by rfl)) (by rfl))) (@a01 _) (by rfl))) (@a01 _) (by rfl)) (by rfl))) (@a01 _) (by rfl)))) (by rfl) (by walk_at "o"))) (@a42 _))
    (@a03 _ _ _ _ _ (@a27 _ _ 3 _ _ _ _ sc_law.nd rfl (by walk_at "o") (@a32 _ _ _ _ _ _ _ _ _ _ _ _ _ _ _ _ G__law_due (hr.mono (by omega)) rfl T.f__law_due.m T.f__law_due.F.kp T.f__law_due.b .nil a60 (@a00 _ _ _ _ _ (@a05 _ _ _ _ _ (@a00 _ _ _ _ _ (pv 1) (@a00 _ _ _ _ _ (pv 2) (@a01 _) (by rfl)) (by rfl))) (@a01 _) (by rfl)) (by decide) (by rfl) (by rfl)) (by rfl) (by walk_at "o"))
    (@a03 _ _ _ _ _ (@a27 _ _ 4 _ _ _ _ sc_law.nd rfl (by walk_at "o") (@a05 _ _ _ _ _ (@a00 _ _ _ _ _ (@a77 _ _ _ _ _ _ _ _ _ (ay6 K) (by rfl) T.z_list aj8 (@a00 _ _ _ _ _ (pv 1) (@a01 _) (by rfl)) (by decide) (by decide) (by rfl) (by rfl)) (@a00 _ _ _ _ _ (@a77 _ _ _ _ _ _ _ _ _ (ay6 K) (by rfl) T.z_list aj8 (@a00 _ _ _ _ _ (pv 2) (@a01 _) (by rfl)) (by decide) (by decide) (by rfl) (by rfl)) (@a01 _) (by rfl)) (by rfl))) (by rfl) (by walk_at "o"))
    (@a03 _ _ _ _ _ (@a27 _ _ 5 _ _ _ _ sc_law.nd rfl (by walk_at "o") (@a32 _ _ _ _ _ _ _ _ _ _ _ _ _ _ _ _ G_events_of (hr.mono (by omega)) rfl T.f_events_of.m T.f_events_of.F.kp T.f_events_of.b .nil a60 (@a00 _ _ _ _ _ (pv 4) (@a01 _) (by rfl)) (by decide) (by rfl) (by rfl)) (by rfl) (by walk_at "o"))
    (@a03 _ _ _ _ _ (@a67 _ _ _ _ _ _ _ _ (@PW.pt _ _ _ (@av1 _ _ _ _ _ _ _ (@bg8 _ _ _ _ (aj7 K (@a39 _ _ _ _ _ _ _ _ _ (b55 K) (by rfl) T.z_isinstance ac2 (@a00 _ _ _ _ _ (pv 5) (@a00 _ _ _ _ _ (au9 (v:=.ty "list") (by rfl) T.z_list aj8 rfl) (@a01 _) (by rfl)) (by rfl)) (by decide) (by decide) (by rfl) (by rfl)) (fun _=>rfl))) (@av1 _ _ _ _ _ _ _ (@a29 _ _ _ _ _ _ _ _ (bf1 K (by exact hr.units)) (pv 5) (pv 3) (nomark _)) (@aq3 _ _ _ _ (@a29 _ _ _ _ _ _ _ _ (bf2 (by exact hr.units)) (pv 4) (@a05 _ _ _ _ _ (@a00 _ _ _ _ _ (pv 1) (@a00 _ _ _ _ _ (pv 2) (@a01 _) (by rfl)) (by rfl))) (nomark _)))))) (@a08 _ _ _ (@a40 _ _ _ _ (@aa1 _ _ _ _))) (@a42 _))
    (@a03 _ _ _ _ _ (@a67 _ _ _ _ _ _ _ _ (@a29 _ _ _ _ _ _ _ _ (ad5 K (by exact hr.units)) (a98 (Nt:=["event"]) (Nf:=[]) (caps:=[]) rfl (a45 (sc:=a06 bk9) rfl rfl (by decide +kernel) (by decide +kernel) (by decide +kernel) rfl (by decide +kernel)) (a36 K (pv 5)) (fun _ _ _ _ _=>(a09 (i:=0) (show (["event"]:List Str).Nodup by decide +kernel) rfl (by walk_at "o"))) (fun _ _ _ _ _=>(@a97 _ _ _ (@PW.pt _ _ _ (@av1 _ _ _ _ _ _ _ (@bg8 _ _ _ _ (aj7 K (@a39 _ _ _ _ _ _ _ _ _ (bf5 K) (by rfl) T.z_isinstance ac2 (@a00 _ _ _ _ _ (pv 0) (@a00 _ _ _ _ _ (au9 (v:=.ty "tuple") (by rfl) T.z_tuple bd6 rfl) (@a01 _) (by rfl)) (by rfl)) (by decide) (by decide) (by rfl) (by rfl)) (fun _=>rfl))) (@aq3 _ _ _ _ (aj7 K (@a39 _ _ _ _ _ _ _ _ _ (b55 K) (by rfl) T.z_isinstance ac2 (@a00 _ _ _ _ _ (@a37 _ _ _ _ _ _ _ (a38 K) (pv 0) (@b36 _ _ _ _ _ _ aq5 (@a02 _ _ _ _)) (fun _ _=>rfl)) (@a00 _ _ _ _ _ (au9 (v:=.ty "bool") (by rfl) T.z_bool bm1 rfl) (@a01 _) (by rfl)) (by rfl)) (by decide) (by decide) (by rfl) (by rfl)) (fun _=>rfl))))))) (fun _ _ _ _ _=>(pv 0))) (@a19 _ _ _ _ (@a01 _)) (nomark _)) (@a08 _ _ _ (@a40 _ _ _ _ (@aa1 _ _ _ _))) (@a42 _))
    (@a03 _ _ _ _ _ (@a75 _ _ _ _ (@a89 _ K _ _ _ _ _ _ _ _ _ _ _ PySem.F.plainAttrs_list PySem.F.slot_list_append PySem.F.type_list_append a66 (pv 5) (@a00 _ _ _ _ _ (@a05 _ _ _ _ _ (@a00 _ _ _ _ _ (@a07 _ _ _ _) (@a01 _) (by rfl))) (@a01 _) (by rfl)) (by rfl) (by rfl) (by rfl) (by rfl) (by rfl) (by rfl)) (by rfl))
    (@a08 _ _ _ (@a40 _ _ _ _ (@bk3 _ _ _ _ _ _ _ _ (bf0 K (by exact hr.units)) (@a32 _ _ _ _ _ _ _ _ _ _ _ _ _ _ _ _ G_events_of (hr.mono (by omega)) rfl T.f_events_of.m T.f_events_of.F.kp T.f_events_of.b .nil a60 (@a00 _ _ _ _ _ (pv 4) (@a01 _) (by rfl)) (by decide) (by rfl) (by rfl)) (pv 3) (nomark _)))))))))))),?_⟩
   have sl:(1000000:Nat)≤sizeLine:=le_line (Nat.le_refl _)
   walk_at "go"
   refine ⟨a,ns,rfl,hS,fun sp tn tks H1 s1 hSc=>?_⟩
   obtain ⟨bl,tl,ms,us,e0,eb,et,hT⟩:=hSc.ex
   walk_at "run"
   refine b57 (SqT.of e0) rfl ?_
   walk_at "run"
   have hw0:=hSc.w
   have hn0:=hSc.n
   have hk0:=hSc.k
   refine ah6 (fun σ' H'=>∃ (tl:Addr) (us:List V) (tks:List (List Stm)),σ'=[some (.ref a),some (.ref bl),some (.ref tl),none,none,none]∧Same H1 H'∧H' tl=some (.lst us)∧Each (TkAt H') us tks∧tks.length≤5∧(∀ b∈tks,TkB tn b)∧(L2.wordsOf (tks.flatMap psB)).length≤63) ?_ ?_
   · walk_at "run"
     refine ⟨a,ns,20,rfl,s1.seq hS,fun z=>?_⟩
     walk_at "run"
     by_cases hz:0<z % 4
     · refine a55 hz ?_
       walk_at "run"
       refine ⟨a,ns,19,rfl,s1.seq hS,fun z2=>?_⟩
       walk_at "run"
       refine ⟨z2,rfl,fun v bs H2 s2 hbs=>?_⟩
       walk_at "run"
       obtain ⟨bl3,us3,rfl,e3,hE3⟩:=hbs.ex
       intro a4 H4 f4 s4 e4
       walk_at "run"
       intro a5 H5 f5 s5 e5
       walk_at "run"
       intro a6 H6 f6 s6 e6
       walk_at "run"
       intro a7 H7 f7 s7 e7
       walk_at "run"
       have s27:=s4.trans (s5.trans (s6.trans s7))
       have s17:=s2.trans s27
       have hul:us.length=tks.length:=hT.1
       refine a69 (s17 _ _ et) e7 (by simp only [List.length_cons,List.length_nil]; omega) ?_
       intro a8 H8 f8 s8 e8
       walk_at "run"
       have s28:=s27.trans s8
       obtain ⟨mk,mp⟩:=bq1 (tn:=tn) hbs.n hbs.e
       refine ⟨a8,_,tks++[[.wait 0 bs]],rfl,s17.trans s8,e8,(hT.mono fun _ _ z=>z.same (s17.trans s8)).snoc ⟨a6,_,_,rfl,(s7.trans s8) _ _ e6,aa5 ((s6.trans (s7.trans s8)) _ _ e5) (Each.nil.snoc (sat_wait.mpr ⟨a4,bl3,us3,rfl,(s5.trans (s6.trans (s7.trans s8))) _ _ e4,s28 _ _ e3,hE3.mono fun _ _ z=>af3 z s28⟩))⟩,by rw [List.length_append]; simp; omega,fun b hb=>?_,?_⟩
       · rcases List.mem_append.mp hb with h | h
         · exact (hk0 b h).tk
         · rw [List.mem_singleton.mp h]; exact mk
       · have:=hbs.w
         rw [List.flatMap_append,a72,List.length_append]
         have e:List.flatMap psB [[Stm.wait 0 bs]]=ptsR bs:=by rw [← mp]; simp
         rw [e]
         omega
     · refine a43 hz ?_
       walk_at "run"
       exact ⟨tl,us,tks,rfl,Same.refl _,et,hT,by omega,fun b h=>(hk0 b h).tk,by omega⟩
   clear hT et
   rintro σ' H2 ⟨tl,us,tks,rfl,s2,et,hT,hn2,hk2,hw2⟩
   walk_at "run"
   have hpair:∀ {H':Hp}{x:Addr}{y z:Addr},Same H2 H'→H' x=some (.tup [.ref y,.ref z])→H' z=some (.lst us)→EvS H' x tks tn:=fun s h1 h2=>bz7 h1 h2 (hT.mono fun _ _ z=>z.same s) hn2 hk2 hw2
   intro x3 H3 f3 s3 e3
   walk_at "run"
   have hE3:=hpair s3 e3 (s3 _ _ et)
   refine ⟨x3,tl,.ref bl,us,tks,tn,rfl,e3,s3 _ _ et,hT.mono fun _ _ z=>z.same s3,fun b h=>(hk2 b h).k,hE3.m,hE3.n,hE3.p,hE3.w,fun l4 vs ks ws H4 f4 s4 e4 hat hIs=>?_⟩
   walk_at "run"
   obtain ⟨nss,rfl⟩:∃ nss:List Addr,us=nss.map V.ref:=au6 (R:=TkAt H2) (fun v x h=>by
    obtain ⟨q,_,_,z,_⟩:=h
    exact ⟨q,z⟩) hT
   have s24:=s3.trans s4
   refine b59 (SqL.of ((s2.trans s24) _ _ eb)) ?_
   intro l5 H5 f5 s5 e5
   walk_at "run"
   refine b59 (SqL.of ((s24.trans s5) _ _ et)) ?_
   intro l6 H6 f6 s6 e6
   walk_at "run"
   intro l7 H7 f7 s7 e7
   walk_at "run"
   have s47:=s5.trans (s6.trans s7)
   have s27:=s24.trans s47
   refine ⟨l7,tks,tn,rfl,hpair s27 e7 (s7 _ _ e6),fun l8 vs8 ks8 ws8 H8 f8 s8 e8 hat8 hIs8=>?_⟩
   obtain ⟨rfl,rfl⟩:=IsE.one hIs hIs8 fun p=>Iff.rfl
   walk_at "run"
   refine bw4 e8 ?_
   walk_at "run"
   have hev:Tr.hs (evT ks ws)≤20:=c50
   have hat8':Tr.AtsK K H8 (evT ks ws) vs:=a58 (s47.trans s8).tups hat
   refine ⟨evT ks ws,l8,l4,vs8,vs,rfl,rfl,e8,(s47.trans s8) _ _ e4,hat8,hat8',hev,?_⟩
   walk_at "run"
   intro l9 H9 f9 s9 e9
   walk_at "run"
   have s79:=s8.trans s9
   refine by7 (s79 _ _ e7) e9 ((s6.trans (s7.trans s79)) _ _ e5) ((s2.trans (s27.trans s79)) _ _ eb) ((s7.trans s79) _ _ e6) ((s27.trans s79) _ _ et) ?_
   walk_at "run"
   refine ⟨⟨_,SqL.of (s9 _ _ e8)⟩,a73 (xs:=vs8) (by have h1:=(aq1 hat8).1; have h2:=bj8 hIs8 hE3.n; omega) (fun i acc H'=>H'=H9∧acc=[]) ⟨rfl,rfl⟩ (fun i acc H' ⟨h1,h2⟩=>⟨by rw [h2]; exact Nat.zero_le _,by rw [h1]; exact SqL.of (s9 _ _ e8)⟩) ?_ ?_⟩
   · rintro i v acc H' hv ⟨rfl,rfl⟩
     obtain ⟨pe,xs,x,rfl,hs,hx⟩:=bz8 (a58 s9.tups hat8) hv
     walk_at "run"
     refine bz0 hs ?_
     walk_at "run"
     refine a52 hs (bc6 xs x) ?_
     rcases hx with ⟨z,rfl⟩ | ⟨z,rfl⟩
     · walk_at "run"
       refine bo2 ?_
       walk_at "run"
       exact ⟨rfl,rfl⟩
     · walk_at "run"
       exact ⟨rfl,rfl⟩
   rintro acc H10 ⟨rfl,rfl⟩ p10 H11 f10 s10 e10
   walk_at "run"
   intro p12 H12 f12 s12 e12
   walk_at "run"
   refine ak0 (SqL.of (s12 _ _ e10)) (SqL.of e12) ?_
   walk_at "run"
   rw [if_neg (by decide)]
   walk_at "run"
   refine ae3 (SqL.of ((s9.trans (s10.trans s12)) _ _ e8)) ?_
   walk_at "run"
   intro p13 H13 f13 s13 e13
   walk_at "run"
   have s813:=s9.trans (s10.trans (s12.trans s13))
   refine a74 (s813 _ _ e8) (by have h1:=(aq1 hat8).1; have h2:=bj8 hIs8 hE3.n; omega) ?_
   have s714:Same H7 (upd H13 l8 (.lst (vs8++[.ref p13]))):=(s8.trans s813).updNew f8
   generalize upd H13 l8 (.lst (vs8++[.ref p13]))=H14 at s714
   walk_at "run"
   have s37:=s4.trans s47
   refine ⟨l7,tks,tn,rfl,hpair (s27.trans s714) (s714 _ _ e7) ((s7.trans s714) _ _ e6),fun l15 vs15 ks15 ws15 H15 f15 s15 e15 hat15 hIs15=>?_⟩
   obtain ⟨rfl,rfl⟩:=IsE.one hIs hIs15 fun p=>Iff.rfl
   walk_at "run"
   have s415:=s47.trans (s714.trans s15)
   refine ⟨evT ks ws,l15,l4,vs15,vs,rfl,rfl,e15,s415 _ _ e4,hat15,a58 s415.tups hat,hev,?_⟩
   walk_at "run"
   exact q _
end
theorem all_mk {l:PySem.W.OpenLaw}{w:World}{K:PySem.W.Frag}{h:Heap}{mg:Str→Option Value}{fa:Addr}(X:K.In h) (G:h.Ns mainGlobals mg) (hfa:mg "law"=some (.ref fa)) (hF:HF w.params K):∃ fd:FuncData,(∀ (s:Shared) (v:Value),BindsTo s fd ⟨[v],[]⟩ [("script",v)])∧∀ base:Heap,K.In base→base.Ns mainGlobals mg→FnOk l.prog w K mg base CX0 120 fa fd ["script"] (ar6 K):=by
 obtain ⟨t,T⟩:=hF
 have T:=T mg h X G
 have e:=hfa.symm.trans T.f_law.m
 cases e
 obtain ⟨_,_,_,_,_,_,_,_,_,e,_⟩:=T.f_law.F.ex
 exact ⟨_,fun s v=>by rw [e]; exact .of_eq rfl,fun base _ _=>bz9 T⟩
end K19
theorem PySem.Challenge.cw_callmill_k19_events_of_scripts_holds : PySem.Challenge.rw_callmill_k19_events_of_scripts.Holds := by
  exact K19.head fun K hF w mg fa h KX G hmg => K19.all_mk KX G hmg (hF w.params)
