import PyProof.Rows.All
import Wide.All
import OpenK.KLine
import KE.KItem
import KE.KIsAll
import Wide.FinOn
import Lean
import PyProof.EqAt
import PyProof.EqKinds
import PyProof.TupleCall
import PyProof.NeKinds
import PyProof.DictUpdate
import PyProof.AttrMissHeap
import KE.KDictOf
import PyProof.TupleIter
import PyProof.WalksEnum
import PyProof.EnumMake
import PyProof.Rows.EnumRows
import PyProof.Rows.MaxTwoN
import PyProof.ZipIter
import PyProof.IsRules
import PyProof.DictRoadsH
import Wide.Seal
import PyProof.MeetsDict
import PyProof.DictIter
import PyProof.DictWalks
import KE.KDictList
import PyProof.Rows.SumAny
import PyProof.ListRange
import PyProof.AutoSeq1
import PyProof.WalkInts
import PyProof.SeqI3
import KE.KTextTable
import PyProof.MeetsStr
import PyProof.StrCalls5
import PyProof.Rows.TupDisplay
import PyProof.Rows.TupAdd
import PyProof.Rows.StrNews2
import PyProof.StrBlockI
import PyProof.DictTruth
import PyProof.Rows.SortShell
import PyProof.DictValues
import PyProof.ConsumeS
import PyProof.Draws
import PyProof.Rows.SetFrom
import PyProof.FactsAll.set_1
import KE.KDictSum
import PyProof.Rows.SortStr
import PyProof.Rows.SortWalk
import PyProof.Rows.TmSorted
import PyProof.Rows.CallKwBuiltin
import KE.KTryDeep
import PyProof.Rows.CatchBare
import PyProof.Rows.TopTwo
import OpenK.KOwn
import KE.KRevIter
import PyProof.Rows.FactsT2
import PyProof.NeData
import PyProof.ListNew
import PySem.Challenge.RW_callmill_k16_whole_sound_scripts_rest
set_option Elab.async false
set_option linter.all false
set_option maxRecDepth 100000
set_option maxHeartbeats 4000000
namespace L2
open PySem PySem.Spec PyProof.Rows
abbrev Key:=Sum Int Str
def b35:Key→Value→Bool
 | .inl k,v=>Value.isInt k v
 | .inr x,v=>Value.isStrOf x v
def keyH (w:World):Key→Int
 | .inl k=>hashInt k
 | .inr x=>hashStr w x
theorem a43:∀ {k:Key}{v:Value},b35 k v=true→(∃ i t,k=Sum.inl i∧v=Value.int i t)∨(∃ x t,k=Sum.inr x∧v=Value.str x t)
 | .inl i,v,h=>by
   obtain ⟨t,e⟩:=Value.isInt_shape (k:=i) (v:=v) h
   exact .inl ⟨i,t,rfl,e⟩
 | .inr x,v,h=>by
   obtain ⟨t,e⟩:=Value.isStrOf_shape (x:=x) (v:=v) h
   exact .inr ⟨x,t,rfl,e⟩
theorem b61 (i:Int) (t:Tok):b35 (.inl i) (.int i t)=true:=by simp [b35,Value.isInt]
theorem b62 (x:Str) (t:Tok):b35 (.inr x) (.str x t)=true:=by simp [b35,Value.isStrOf]
theorem bx6 (a b:Int):decide ((Sum.inl a:Key)=Sum.inl b)=(a == b):=by
 by_cases e:a=b
 · subst e; simp
 · have h:¬ (Sum.inl a:Key)=Sum.inl b:=fun q=>e (Sum.inl.inj q)
   rw [decide_eq_false h]
   exact (beq_eq_false_iff_ne.mpr e).symm
theorem bx7 (a b:Str):decide ((Sum.inr a:Key)=Sum.inr b)=decide (a=b):=by
 by_cases e:a=b
 · subst e; simp
 · have h:¬ (Sum.inr a:Key)=Sum.inr b:=fun q=>e (Sum.inr.inj q)
   rw [decide_eq_false h,decide_eq_false e]
theorem bx8 (a:Int) (b:Str):decide ((Sum.inl a:Key)=Sum.inr b)=false:=decide_eq_false (fun q=>nomatch q)
theorem bx9 (a:Str) (b:Int):decide ((Sum.inr a:Key)=Sum.inl b)=false:=decide_eq_false (fun q=>nomatch q)
def a52 (prog:Program) (w:World):PySem.KeyKind prog w Key where
 is:=b35
 hash:=keyH w
 inj:=fun v a b ha hb=>by
  rcases a43 ha with ⟨i,t,rfl,rfl⟩ | ⟨x,t,rfl,rfl⟩
  · rcases a43 hb with ⟨j,u,rfl,e⟩ | ⟨y,u,rfl,e⟩
    · injection e with e1 _; rw [e1]
    · exact nomatch e
  · rcases a43 hb with ⟨j,u,rfl,e⟩ | ⟨y,u,rfl,e⟩
    · exact nomatch e
    · injection e with e1 _; rw [e1]
 byValue:=fun k v h=>by
  rcases a43 h with ⟨i,t,rfl,rfl⟩ | ⟨x,t,rfl,rfl⟩ <;> rfl
 pyHash:=fun hv h=>by
  rcases a43 hv with ⟨i,t,rfl,rfl⟩ | ⟨x,t,rfl,rfl⟩
  · exact wpAny_pyHash_int h
  · exact wpAny_pyHash_str h
 eqBool:=fun hu hv h=>by
  rcases a43 hu with ⟨i,t,rfl,rfl⟩ | ⟨x,t,rfl,rfl⟩
  · rcases a43 hv with ⟨j,u,rfl,rfl⟩ | ⟨y,u,rfl,rfl⟩
    · rw [bx6] at h; exact wpAny_eqBool_int h
    · rw [bx8] at h; exact SeqAt.EqAt.int_str i t y u _ _ _ _ h
  · rcases a43 hv with ⟨j,u,rfl,rfl⟩ | ⟨y,u,rfl,rfl⟩
    · rw [bx9] at h; exact SeqAt.EqAt.str_int x t j u _ _ _ _ h
    · rw [bx7] at h; exact wpAny_eqBool_str h
 «strs»:=fun k x t v h=>by
  rcases a43 h with ⟨i,u,rfl,e⟩ | ⟨y,u,rfl,e⟩
  · exact nomatch e
  · injection e with e1 _
    subst e1
    cases v <;> rfl
theorem av7 (prog:Program) (w:World) (i:Int) (t:Tok):(a52 prog w).is (.inl i) (.int i t)=true:=b61 i t
theorem av8 (prog:Program) (w:World) (x:Str) (t:Tok):(a52 prog w).is (.inr x) (.str x t)=true:=b62 x t
inductive V where
 | non | bl (b:Bool) | int (i:Int) | str (x:Str) | byt (b:Array UInt8) | flt (b:UInt64) | ref (a:Addr) | ty (n:String)
 deriving DecidableEq
def RelV:V→Value→Prop
 | .non,u=>u=Value.none
 | .bl b,u=>u=Value.bool b
 | .int i,u=>∃ t,u=Value.int i t
 | .str x,u=>∃ t,u=Value.str x t
 | .byt b,u=>∃ t,u=Value.bytes b t
 | .flt b,u=>∃ t,u=Value.float b t
 | .ref a,u=>u=Value.ref a
 | .ty n,u=>u=Value.type n
abbrev Vals:List V→List Value→Prop:=Paired RelV
theorem Vals.length {xs:List V}{us:List Value}(r:Vals xs us):xs.length=us.length:=Paired.length r
theorem Vals.get:∀ {xs:List V}{us:List Value}{i:Nat}{x:V},Vals xs us→xs[i]?=some x→∃ u,us[i]?=some u∧RelV x u
 | _,_,_,_,.nil,e=>by simp at e
 | _,_,0,_,.cons r _,e=>by simp at e; subst e; exact ⟨_,rfl,r⟩
 | _,_,i+1,x,.cons _ t,e=>by
   obtain ⟨u,h1,h2⟩:=Vals.get (i:=i) (x:=x) t (by simpa using e)
   exact ⟨u,by simpa using h1,h2⟩
theorem Vals.set {x:V}{u:Value}(r:RelV x u):∀ {xs:List V}{us:List Value}(i:Nat),Vals xs us→Vals (xs.set i x) (us.set i u)
 | _,_,_,.nil=>.nil
 | _,_,0,.cons _ t=>.cons r t
 | _,_,i+1,.cons q t=>.cons q (Vals.set r i t)
theorem Vals.append:∀ {xs ys:List V}{us ws:List Value},Vals xs us→Vals ys ws→Vals (xs++ys) (us++ws)
 | _,_,_,_,.nil,s=>s
 | _,_,_,_,.cons r t,s=>.cons r (Vals.append t s)
theorem Vals.take:∀ {xs:List V}{us:List Value}(n:Nat),Vals xs us→Vals (xs.take n) (us.take n)
 | _,_,0,_=>.nil
 | _,_,_+1,.nil=>.nil
 | _,_,n+1,.cons r t=>.cons r (Vals.take n t)
theorem Vals.drop:∀ {xs:List V}{us:List Value}(n:Nat),Vals xs us→Vals (xs.drop n) (us.drop n)
 | _,_,0,r=>r
 | _,_,_+1,.nil=>.nil
 | _,_,n+1,.cons _ t=>Vals.drop n t
def RelO:Option V→Option Value→Prop
 | some v,some u=>RelV v u
 | none,none=>True
 | _,_=>False
def KV {κ:Type}:List (κ×V)→List (κ×Value)→Prop:=Paired fun (p:κ×V) (q:κ×Value)=>p.1=q.1∧RelV p.2 q.2
def kV:Key→V
 | .inl i=>.int i
 | .inr x=>.str x
inductive HO where
 | lst (xs:List V)
 | tup (xs:List V)
 | dK (kvs:List (Key×V)) | dT (kvs:List (List Key×V))
 | set (S:Int→Bool) (n:Nat)
 | ins (C dx:Addr) (fs:List (Str×V))
 | own (x:Addr)
 | xd (fs:List (Str×V))
 | met (f x:Addr)
 | rng (lo hi:Int)
 | frz (o:Obj) (u:HO)
 | tbl (ps:Array Value)
 | ext (φ:Heap→Prop)
abbrev Hp:=Addr→Option HO
def upd (H:Hp) (a:Addr) (o:HO):Hp:=fun b=>if b=a then some o else H b
theorem a17 {H:Hp}{a:Addr}{o:HO}:upd H a o a=some o:=by unfold upd; rw [if_pos rfl]
theorem a12 {H:Hp}{a b:Addr}{o:HO}(h:b≠a):upd H a o b=H b:=by unfold upd; rw [if_neg h]
theorem aj6 {H:Hp}{a b:Addr}{o u:HO}(h:H a=some o) (h':H b=some u) (d:o≠u):a≠b:=by
 intro e; subst e; rw [h] at h'; exact d (Option.some.inj h')
theorem a38 {H:Hp}{a b:Addr}{o:HO}(h:H a=some o) (h':H b=none):a≠b:=by
 intro e; subst e; rw [h] at h'; cases h'
section
variable (P:Program) (w:World)
def ObjOk (H:Hp) (h:Heap) (a:Addr):HO→Prop
 | .lst xs=>xs.length≤sizeLine∧∃ (its:List Value) (n:Nat),Vals xs its∧h.get? a=some { cls:=.type "list",data:=.seq its.toArray n }
 | .tup xs=>xs.length≤sizeLine∧∃ its:List Value,Vals xs its∧IsTup h a its.toArray
 | .dK kvs=>kvs.length≤sizeLine∧(a == sysModules)=false∧∃ vs,KV kvs vs∧h.DictOf (a52 P w) a vs
 | .dT kvs=>kvs.length≤sizeLine∧(a == sysModules)=false∧∃ xs:List (List Key×Addr×Value),
  Paired (fun (p:List Key×V) (q:List Key×Addr×Value)=>p.1=q.1∧H q.2.1=some (.tup (p.1.map kV))∧RelV p.2 q.2.2) kvs xs ∧
  ∃ o es ep,h.get? a=some o∧o.ExactDict∧o.data=.dict es ep∧es.toList=xs.map (entryOfKey (tupleKind (a52 P w)))∧(xs.map (·.1)).Nodup
 | .set S n=>h.SetOf (intKind P w) a S n
 | .ins C dx fs=>H dx=some (.own a)∧fs.length≤1000∧dx≠a∧h.get? a=some (PySem.W.instObj C dx) ∧
  ∃ mA,h.Ns1 dx mA∧(∀ f,RelO (fs.lookup f) (mA f))∧PySem.Within mA (fs.map (·.1))
 | .own _=>∃ o,h.get? a=some o
 | .xd fs=>∃ mA,h.Ns1 a mA∧∀ f,RelO (fs.lookup f) (mA f)
 | .rng lo hi=>∃ t u v,h.get? a=some { cls:=.type "range",data:=.fields #[.int lo t,.int hi u,.int 1 v] }
 | .frz o u=>h.get? a=some o∧ObjOk H h a u
 | .tbl ps=>h.get? a=some { cls:=.none,data:=.fields ps }
 | .met f x=>h.get? a=some (PySem.W.methodObj (.ref f) (.ref x))
 | .ext φ=>φ h∧(∃ o,h.get? a=some o)∧∀ h1 h2:Heap,φ h1→(∀ o,h1.get? a=some o→h2.get? a=some o)→φ h2
def HOk (H:Hp) (h:Heap):Prop:=∀ a o,H a=some o→ObjOk P w H h a o
end
section
variable {P:Program}{w:World}{H H':Hp}{h h':Heap}{a:Addr}{o:HO}
theorem ObjOk.lt (x:ObjOk P w H h a o):a<h.objs.size:=by
 cases o with
 | lst xs=>obtain ⟨_,_,_,_,e⟩:=x; exact Heap.lt_size e
 | tup xs=>obtain ⟨_,_,_,p⟩:=x; exact p.lt
 | dK kvs=>obtain ⟨_,_,_,_,o,_,_,e,_⟩:=x; exact Heap.lt_size e
 | dT kvs=>obtain ⟨_,_,_,_,o,_,_,e,_⟩:=x; exact Heap.lt_size e
 | set S n=>obtain ⟨o,_,_,_,e,_⟩:=x; exact Heap.lt_size e
 | ins C dx fs=>obtain ⟨_,_,_,e,_⟩:=x; exact Heap.lt_size e
 | own y=>obtain ⟨_,e⟩:=x; exact Heap.lt_size e
 | xd fs=>obtain ⟨_,⟨_,_,_,e,_⟩,_⟩:=x; exact Heap.lt_size e
 | rng lo hi=>obtain ⟨_,_,_,e⟩:=x; exact Heap.lt_size e
 | frz ob u=>obtain ⟨e,_⟩:=x; exact Heap.lt_size e
 | tbl ps=>exact Heap.lt_size (show h.get? a=some _ from x)
 | met f y=>exact Heap.lt_size (show h.get? a=some _ from x)
 | ext φ=>obtain ⟨_,⟨_,e⟩,_⟩:=x; exact Heap.lt_size e
theorem Paired.mapP {α β:Type}{F G:α→β→Prop}:∀ {l₁:List α}{l₂:List β},Paired F l₁ l₂→(∀ a b,F a b→G a b)→Paired G l₁ l₂
 | _,_,.nil,_=>.nil
 | _,_,.cons r t,f=>.cons (f _ _ r) (Paired.mapP t f)
theorem ObjOk.stay (x:ObjOk P w H h a o) (k:∀ b u,(b=a∨H b=some (.own a))→h.get? b=some u→h'.get? b=some u)
 (ho:∀ b,H b=some (.own a)→H' b=some (.own a)) (ht:∀ b xs,H b=some (.tup xs)→H' b=some (.tup xs)):ObjOk P w H' h' a o:=by
 induction o with
 | lst xs=>obtain ⟨z,its,n,r,e⟩:=x; exact ⟨z,its,n,r,k _ _ (.inl rfl) e⟩
 | tup xs=>obtain ⟨z,its,r,ob,e,c⟩:=x; exact ⟨z,its,r,ob,k _ _ (.inl rfl) e,c⟩
 | dK kvs=>obtain ⟨z,y,vs,r,ob,es,ep,e,c⟩:=x; exact ⟨z,y,vs,r,ob,es,ep,k _ _ (.inl rfl) e,c⟩
 | dT kvs =>
   obtain ⟨z,y,xs,r,ob,es,ep,e,c⟩:=x
   exact ⟨z,y,xs,Paired.mapP r fun p q z=>⟨z.1,ht _ _ z.2.1,z.2.2⟩,ob,es,ep,k _ _ (.inl rfl) e,c⟩
 | set S n=>obtain ⟨ob,es,ep,t,e,c⟩:=x; exact ⟨ob,es,ep,t,k _ _ (.inl rfl) e,c⟩
 | ins C dx fs =>
   obtain ⟨d,z,ne,e,mA,⟨od,es,ep,e2,c⟩,r⟩:=x
   exact ⟨ho _ d,z,ne,k _ _ (.inl rfl) e,mA,⟨od,es,ep,k _ _ (.inr d) e2,c⟩,r⟩
 | own y=>obtain ⟨ob,e⟩:=x; exact ⟨ob,k _ _ (.inl rfl) e⟩
 | xd fs=>obtain ⟨mA,⟨od,es,ep,e,c⟩,r⟩:=x; exact ⟨mA,⟨od,es,ep,k _ _ (.inl rfl) e,c⟩,r⟩
 | rng lo hi=>obtain ⟨t,u,v,e⟩:=x; exact ⟨t,u,v,k _ _ (.inl rfl) e⟩
 | frz ob u ih=>obtain ⟨e,q⟩:=x; exact ⟨k _ _ (.inl rfl) e,ih q⟩
 | tbl ps =>
   have e:h.get? a=some { cls:=.none,data:=.fields ps }:=x
   show h'.get? a=some { cls:=.none,data:=.fields ps }
   exact k a _ (.inl rfl) e
 | met f y =>
   have e:h.get? a=some (PySem.W.methodObj (.ref f) (.ref y)):=x
   show h'.get? a=some (PySem.W.methodObj (.ref f) (.ref y))
   exact k a _ (.inl rfl) e
 | ext φ=>obtain ⟨p,⟨o,e⟩,st⟩:=x; exact ⟨st _ _ p fun o q=>k _ _ (.inl rfl) q,⟨o,k _ _ (.inl rfl) e⟩,st⟩
theorem HOk.lt (x:HOk P w H h) (e:H a=some o):a<h.objs.size:=(x a o e).lt
theorem HOk.fresh (x:HOk P w H h) (e:h.objs.size≤a):H a=none:=by
 cases q:H a with
 | none=>rfl
 | some u=>exact absurd (Nat.lt_of_lt_of_le (x.lt q) e) (Nat.lt_irrefl _)
theorem HOk.kept (x:HOk P w H h) (k:∀ b u,h.get? b=some u→h'.get? b=some u):HOk P w H h':=fun a o e =>
 (x a o e).stay (fun b u _ q=>k b u q) (fun _ q=>q) fun _ _ q=>q
theorem HOk.laid (x:HOk P w H h) (k:∀ b u,h.get? b=some u→h'.get? b=some u) (hp:h.objs.size≤a) (new:ObjOk P w (upd H a o) h' a o):HOk P w (upd H a o) h':=fun b u e=>by
 have hn:=x.fresh hp
 by_cases hb:b=a
 · subst hb; rw [a17] at e; cases e; exact new
 · rw [a12 hb] at e
   exact (x b u e).stay (fun c v _ q=>k c v q) (fun c q=>by rw [a12 (a38 q hn)]; exact q) fun c xs q=>by rw [a12 (a38 q hn)]; exact q
end
def Rd (H:Hp) (a:Addr) (u:HO):Prop:=H a=some u∨∃ o,H a=some (.frz o u)
theorem Rd.ok {P:Program}{w:World}{H:Hp}{h:Heap}{a:Addr}{u:HO}(r:Rd H a u) (x:HOk P w H h):ObjOk P w H h a u:=by
 rcases r with r | ⟨o,r⟩
 · exact x a u r
 · obtain ⟨_,q⟩:=x a _ r
   exact q
def Mut:Option HO→Prop
 | some (.lst _)=>True
 | some (.dK _)=>True
 | some (.dT _)=>True
 | some (.set _ _)=>True
 | some (.ins _ _ _)=>True
 | some (.ext _)=>True
 | _=>False
section
variable {P:Program}{w:World}{H:Hp}{h h':Heap}{x e:Addr}{o':HO}
theorem HOk.write (ok:HOk P w H h) (mu:Mut (H x)) (he:e=x∨H e=some (.own x)) (k:∀ b u,b≠e→h.get? b=some u→h'.get? b=some u) (heo:∃ u,h'.get? e=some u)
 (new:ObjOk P w (upd H x o') h' x o'):HOk P w (upd H x o') h':=fun b u q=>by
 have nown:∀ c y,H c=some (.own y)→c≠x:=fun c y r z=>by subst z; rw [r] at mu; exact mu
 have ntup:∀ c xs,H c=some (.tup xs)→c≠x:=fun c xs r z=>by subst z; rw [r] at mu; exact mu
 by_cases hb:b=x
 · subst hb; rw [a17] at q; cases q; exact new
 · rw [a12 hb] at q
   by_cases hbe:b=e
   · have q':H b=some (.own x):=by
      rcases he with z | z
      · exact absurd (hbe.trans z) hb
      · rw [hbe]; exact z
     rw [q] at q'; cases q'
     obtain ⟨v,hv⟩:=heo
     exact ⟨v,by rw [hbe]; exact hv⟩
   · refine (ok b u q).stay (fun c v hc r=>k c v ?_ r) (fun c r=>by rw [a12 (nown c b r)]; exact r) fun c xs r=>by rw [a12 (ntup c xs r)]; exact r
     rcases hc with rfl | hc
     · exact hbe
     · rintro rfl
       rcases he with z | z
       · exact nown c b hc z
       · rw [hc] at z; cases z; exact hb rfl
end
structure Un (fs ex:List Addr) (H H':Hp) (h h':Heap):Prop where
 keep:∀ b o,h.get? b=some o→H b=none→b∉fs→b∉ex→h'.get? b=some o
 slot:∀ b o,h.get? b=some o→H b=none→b∈fs→b∉ex→∃ sl,h'.get? b=some { o with slots:=sl }
 free:∀ b o,h.get? b=some o→H b=none→b∉ex→H' b=none
 there:∀ b o,h.get? b=some o→b∉ex→∃ o',h'.get? b=some o'
 tups:∀ b xs,H b=some (.tup xs)→H' b=some (.tup xs)
 frzs:∀ b o u,H b=some (.frz o u)→H' b=some (.frz o u)
 tbls:∀ b ps,H b=some (.tbl ps)→∃ more,H' b=some (.tbl (ps++more))
section
variable {fs fs' ex ex':List Addr}{H H1 H2:Hp}{h h1 h2 h':Heap}{a x e:Addr}{o:HO}
theorem Un.any (u:Un fs ex H H1 h h1) {b:Addr}{ob:Obj}(q:h.get? b=some ob) (n:H b=none) (hx:b∉ex):∃ sl,h1.get? b=some { ob with slots:=sl }:=by
 by_cases hb:b∈fs
 · exact u.slot b ob q n hb hx
 · exact ⟨ob.slots,u.keep b ob q n hb hx⟩
theorem Un.kept (k:∀ b u,h.get? b=some u→h'.get? b=some u):Un fs ex H H h h' :=
 ⟨fun b ob q _ _ _=>k b ob q,fun b ob q _ _ _=>⟨ob.slots,k b ob q⟩,fun _ _ _ n _=>n,fun b ob q _=>⟨ob,k b ob q⟩,fun _ _ q=>q,fun _ _ _ q=>q,fun _ ps q=>⟨#[],by rw [q]; simp⟩⟩
theorem Un.refl:Un fs ex H H h h:=Un.kept fun _ _ q=>q
theorem Un.laid (k:∀ b u,h.get? b=some u→h'.get? b=some u) (hp:h.objs.size≤a) (hn:H a=none):Un fs ex H (upd H a o) h h' where
 keep:=fun b u q _ _ _=>k b u q
 slot:=fun b u q _ _ _=>⟨u.slots,k b u q⟩
 free:=fun b u q n _=>by rw [a12 (Nat.ne_of_lt (Nat.lt_of_lt_of_le (Heap.lt_size q) hp))]; exact n
 there:=fun b u q _=>⟨u,k b u q⟩
 tups:=fun b xs q=>by rw [a12 (a38 q hn)]; exact q
 frzs:=fun b u xs q=>by rw [a12 (a38 q hn)]; exact q
 tbls:=fun b ps q=>⟨#[],by rw [a12 (a38 q hn),q]; simp⟩
theorem Un.write (mu:Mut (H x)) (he:e=x∨H e=some (.own x)) (k:∀ b u,b≠e→h.get? b=some u→h'.get? b=some u) (heo:∃ u,h'.get? e=some u):Un fs ex H (upd H x o) h h':=by
 have hx:∀ b,H b=none→b≠x:=fun b n z=>by subst z; rw [n] at mu; exact mu
 have hb:∀ b,H b=none→b≠e:=fun b n z=>by
  subst z
  rcases he with r | r
  · exact hx b n r
  · rw [n] at r; cases r
 have hm:∀ b u,H b=some u→¬ Mut (some u)→b≠x:=fun b u q nm z=>by subst z; rw [q] at mu; exact nm mu
 refine ⟨fun b u q n _ _=>k b u (hb b n) q,fun b u q n _ _=>⟨u.slots,k b u (hb b n) q⟩,fun b u q n _=>by rw [a12 (hx b n)]; exact n,fun b u q _=>?_,
  fun b xs q=>by rw [a12 (hm b _ q fun z=>z)]; exact q,fun b u xs q=>by rw [a12 (hm b _ q fun z=>z)]; exact q,fun b ps q=>⟨#[],by rw [a12 (hm b _ q fun z=>z),q]; simp⟩⟩
 by_cases hbe:b=e
 · subst hbe; exact heo
 · exact ⟨u,k b u hbe q⟩
end
def trk (h:Heap) (H:Hp):List Addr:=(List.range h.objs.size).filter fun a=>(H a).isSome
def hidT (h:Heap) (H:Hp):Heap:=PySem.W.hideAll h (trk h H)
theorem b63 (h:Heap) (H:Hp):(hidT h H).objs.size=h.objs.size:=PySem.W.hideAll_size _ _
theorem bg3 {h:Heap}{H:Hp}{b:Addr}{o:Obj}(e:h.get? b=some o) (n:H b=none):(hidT h H).get? b=some o :=
 PySem.W.hideAll_get _ e fun hm=>by
  have q:(H b).isSome=true:=(List.mem_filter.mp hm).2
  rw [n] at q; simp at q
theorem bq0 {h:Heap}{H:Hp}{b:Addr}{o:Obj}(e:(hidT h H).get? b=some o):h.get? b=some o∧H b=none:=by
 have e':h.get? b=some o:=PySem.W.of_hideAll (trk h H) e
 refine ⟨e',?_⟩
 cases q:H b with
 | none=>rfl
 | some x =>
   have hm:b∈trk h H:=List.mem_filter.mpr ⟨List.mem_range.mpr (Heap.lt_size e'),by simp [q]⟩
   have z:(hidT h H).get? b=none:=PySem.W.hideAll_none (trk h H) hm
   rw [z] at e; cases e
def bq1 (g h:Heap) (L:Addr):List (Addr×Obj):=(List.range h.objs.size).filterMap fun a=>if a=L∨(g.get? a).isSome=true then none else (h.get? a).map fun o=>(a,o)
def rest (g h:Heap) (L d:Addr):List (Addr×Obj):=(bq1 g h L).filter fun p=>decide (p.1≠d)
structure Mod (K:PySem.W.Frag) (mg:Str→Option Value) (base:Heap):Prop where
 kin:K.In base
 glob:base.Ns mainGlobals mg
 blt:∃ mb,base.Ns builtinsNs mb∧∀ x:Str,x≠"__name__"→mb x=bootBuiltins x
 nolimit:base.NoLimit
structure Cx where
 prog:Program
 w:World
 K:PySem.W.Frag
 mg:Str→Option Value
 base:Heap
 A:Around
 N:List Str
 s₀:Shared
 H₀:Hp
 env:Env
 outer:List Env
 stack:List Env
 ex:List Addr
 fn:Str→Bool
 calm:Bool
 pn:List (Addr×Obj)
 xe:Value→Shared→Prop
def frs (l:List Env):List Addr:=l.filterMap (·.frame)
abbrev Cx.fs (X:Cx):List Addr:=frs X.outer
def Vis (sc:Scope) (x:Str):Prop:=sc.names.lookup x=some .local∨sc.names.lookup x=some .cell∨sc.names.lookup x=some .free
def Loc (sc:Scope) (x:Str):Prop:=sc.names.lookup x=some .local∨sc.names.lookup x=some .cell
def Look (env:Env) (h:Heap) (m:Str→Option Value) (x:Str) (u:Value):Prop :=
 (env.kindOf x=some .local∧m x=some u)∨((env.kindOf x=some .cell∨env.kindOf x=some .free)∧∃ c,env.cells.lookup x=some c∧h.IsCell c (some u))
structure Cx.Ok (X:Cx):Prop where
 mod:Mod X.K X.mg X.base
 kind:X.env.scope.kind=.function
 glob:X.env.globals=mainGlobals
 blt:X.env.builtins=builtinsNs
 above:X.s₀.heap.objs.size≤X.env.locals
 inj:∀ x y c,X.env.cells.lookup x=some c→X.env.cells.lookup y=some c→x=y
 has:∀ x,(X.env.kindOf x=some .cell∨X.env.kindOf x=some .free)→∃ c,X.env.cells.lookup x=some c
 cab:∀ x c,X.fn x=true→X.env.cells.lookup x=some c→X.s₀.heap.objs.size≤c
 hd:X.calm=true→X.A.handled=none
 frames:X.A.frames=some X.stack
 stk:X.stack=X.outer∨(X.stack=X.env::X.outer∧X.env.frame=some X.env.locals)
 exf:∀ b∈X.ex,b≠X.env.locals∧∀ x c,X.env.cells.lookup x=some c→c≠b
 bs:∀ b o,X.base.get? b=some o→X.s₀.heap.get? b=some o∧X.H₀ b=none
 bsz:X.base.objs.size≤X.s₀.heap.objs.size
 noex:∀ b o,X.base.get? b=some o→b∉X.ex
 exfs:∀ b∈X.ex,b∉X.fs
 funs:X.s₀.heap.FunFrames X.base X.outer
 frf:∀ b∈X.fs,X.H₀ b=none
structure Inv (X:Cx) (pins:List (Addr×Obj)) (σ:List (Option V)) (H:Hp) (s:Shared):Prop where
 ok:X.Ok
 os:s.os=X.s₀.os
 bare:AllBare s.gens
 base:Un X.fs X.ex X.H₀ H X.s₀.heap s.heap
 loc:∃ m,s.heap.Ns X.env.locals m∧∀ (i:Nat) (x:Str) (v:V),X.N[i]?=some x→σ[i]?=some (some v)→Vis X.env.scope x→∃ u,RelV v u∧Look X.env s.heap m x u
 cell:∀ x c,X.env.cells.lookup x=some c→∃ v,s.heap.IsCell c v
 free:H X.env.locals=none
 freeC:∀ x c,X.env.cells.lookup x=some c→H c=none
 pin:∀ p∈X.pn++pins,s.heap.get? p.1=some p.2∧H p.1=none∧p.1≠X.env.locals∧p.1∉X.fs∧∀ v,p.2.data≠.cell v
 hok:HOk X.prog X.w H s.heap
 len:σ.length=X.N.length
section
variable {X:Cx}{pins:List (Addr×Obj)}{σ:List (Option V)} {H H':Hp}{s:Shared}{h':Heap}
theorem Cx.Ok.nofr (ok:X.Ok) {b:Addr}{o:Obj}(e:X.base.get? b=some o):b∉X.fs:=fun hb=>by
 have:=(ok.funs.mem hb).1
 rw [e] at this; cases this
theorem Inv.bs (I:Inv X pins σ H s):∀ b o,X.base.get? b=some o→s.heap.get? b=some o∧H b=none:=fun b o e =>
 ⟨I.base.keep b o (I.ok.bs b o e).1 (I.ok.bs b o e).2 (I.ok.nofr e) (I.ok.noex b o e),I.base.free b o (I.ok.bs b o e).1 (I.ok.bs b o e).2 (I.ok.noex b o e)⟩
theorem Inv.bk (I:Inv X pins σ H s):∀ b o,X.base.get? b=some o→s.heap.get? b=some o:=fun b o e=>(I.bs b o e).1
theorem Inv.mod (I:Inv X pins σ H s):Mod X.K X.mg X.base:=I.ok.mod
theorem Inv.kIn (I:Inv X pins σ H s):X.K.In s.heap:=I.ok.mod.kin.keeps I.bk
theorem Inv.lt (I:Inv X pins σ H s):X.env.locals<s.heap.objs.size:=let ⟨_,hn,_⟩:=I.loc; hn.lt
theorem Inv.sz (I:Inv X pins σ H s):X.s₀.heap.objs.size≤s.heap.objs.size:=Nat.le_trans I.ok.above (Nat.le_of_lt I.lt)
theorem Inv.nofs (I:Inv X pins σ H s) {a:Addr}(h:s.heap.objs.size≤a):a∉X.fs:=fun hb=>by
 obtain ⟨_,o,ho,_⟩:=I.ok.funs.mem hb
 exact absurd (Nat.lt_of_lt_of_le (Heap.lt_size ho) (Nat.le_trans I.sz h)) (Nat.lt_irrefl _)
theorem Inv.cne (I:Inv X pins σ H s):∀ x c,X.env.cells.lookup x=some c→c≠X.env.locals:=fun x c e z=>by
 obtain ⟨v,o,ho,hd⟩:=I.cell x c e
 obtain ⟨m,⟨o',es,ep,ho',hd',_⟩,_⟩:=I.loc
 rw [z,ho'] at ho; cases ho; rw [hd'] at hd; cases hd
theorem Inv.funs (I:Inv X pins σ H s):s.heap.FunFrames X.base X.outer:=by
 have all:∀ (l:List Env),(∀ b∈frs l,b∈X.fs)→X.s₀.heap.FunFrames X.base l→s.heap.FunFrames X.base l:=by
  intro l
  induction l with
  | nil=>intro _ _; trivial
  | cons env r ih =>
    intro hs hl
    obtain ⟨hk,⟨L,o,hf,hn,ho,hd⟩,hr⟩:=hl
    have hL:L∈X.fs:=hs L (by unfold frs; rw [List.filterMap_cons,hf]; exact List.mem_cons_self)
    obtain ⟨sl,e⟩:=I.base.slot L o ho (I.ok.frf L hL) hL fun z=>I.ok.exfs L z hL
    exact ⟨hk,⟨L,_,hf,hn,e,hd⟩,ih (fun b hb=>hs b (by unfold frs; rw [List.filterMap_cons,hf]; exact List.mem_cons_of_mem _ hb)) hr⟩
 exact all X.outer (fun _ hb=>hb) I.ok.funs
theorem Inv.stack (I:Inv X pins σ H s):s.heap.FunFrames X.base X.stack:=by
 rcases I.ok.stk with e | ⟨e,hf⟩
 · rw [e]; exact I.funs
 · rw [e]
   obtain ⟨m,hn,_⟩:=I.loc
   refine .cons (by rw [I.ok.kind]; decide) hf hn ?_ I.funs
   exact Heap.get?_none_of_le (Nat.le_trans I.ok.bsz I.ok.above)
theorem Inv.stkSub (I:Inv X pins σ H s):∀ b∈frs X.stack,b∈X.env.locals::X.fs:=fun b hb=>by
 rcases I.ok.stk with e | ⟨e,hf⟩
 · rw [e] at hb; exact List.mem_cons_of_mem _ hb
 · rw [e] at hb
   unfold frs at hb
   rw [List.filterMap_cons,hf] at hb
   exact hb
theorem Inv.stkFree (I:Inv X pins σ H s):∀ b∈frs X.stack,H b=none:=fun b hb=>by
 rcases List.mem_cons.mp (I.stkSub b hb) with e | hb
 · rw [e]; exact I.free
 · obtain ⟨_,o,ho,_⟩:=I.ok.funs.mem hb
   exact I.base.free b o ho (I.ok.frf b hb) fun z=>I.ok.exfs b z hb
theorem Inv.step {g':Array GenState}{t':Nat}{d':Drawn}{ch:List Addr}(I:Inv X pins σ H s)
 (hch:∀ b∈ch,(b∈X.ex∨X.s₀.heap.objs.size≤b)∧b≠X.env.locals∧(∀ x c,X.env.cells.lookup x=some c→c≠b)∧∀ p∈X.pn++pins,p.1≠b)
 (keep:∀ b o,b≠X.env.locals→b∉X.fs→b∉ch→s.heap.get? b=some o→H b=none→h'.get? b=some o)
 (slot:∀ b o,b≠X.env.locals→b∈X.fs→b∉ch→s.heap.get? b=some o→H b=none→∃ sl,h'.get? b=some { o with slots:=sl }) (free:∀ b o,b∉ch→s.heap.get? b=some o→H b=none→H' b=none)
 (there:∀ b o,b∉ch→s.heap.get? b=some o→∃ o',h'.get? b=some o')
 (tups:∀ b xs,H b=some (.tup xs)→H' b=some (.tup xs)) (frzs:∀ b o u,H b=some (.frz o u)→H' b=some (.frz o u)) (tbls:∀ b ps,H b=some (.tbl ps)→∃ more,H' b=some (.tbl (ps++more)))
 (ns:∀ m,s.heap.Ns X.env.locals m→h'.Ns X.env.locals m) (hok:HOk X.prog X.w H' h') (hg:AllBare g') :
 Inv X pins σ H' { s with heap:=h',gens:=g',drawn:=d',toks:=t' }:=by
 have neL:∀ b o,X.s₀.heap.get? b=some o→b≠X.env.locals:=fun b o e=>Nat.ne_of_lt (Nat.lt_of_lt_of_le (Heap.lt_size e) I.ok.above)
 have neC:∀ b o,X.s₀.heap.get? b=some o→b∉X.ex→b∉ch:=fun b o e hx hb=>by
  rcases (hch b hb).1 with z | z
  · exact hx z
  · exact absurd (Nat.lt_of_lt_of_le (Heap.lt_size e) z) (Nat.lt_irrefl _)
 have cellK:∀ x c,X.env.cells.lookup x=some c→∀ v,s.heap.IsCell c v→h'.IsCell c v:=fun x c e v ⟨o,ho,hd⟩=>by
  have nch:c∉ch:=fun z=>(hch c z).2.2.1 x c e rfl
  by_cases hc:c∈X.fs
  · obtain ⟨sl,q⟩:=slot c o (I.cne x c e) hc nch ho (I.freeC x c e)
    exact ⟨_,q,hd⟩
  · exact ⟨o,keep c o (I.cne x c e) hc nch ho (I.freeC x c e),hd⟩
 refine ⟨I.ok,I.os,hg,⟨fun b o e n hb hx=>?_,fun b o e n hb hx=>?_,fun b o e n hx=>?_,fun b o e hx=>?_,fun b xs e=>tups b xs (I.base.tups b xs e),fun b o xs e=>frzs b o xs (I.base.frzs b o xs e),fun b ps e=>?_⟩,?_,fun x c e=>?_,?_,fun x c e=>?_,fun p hp=>?_,hok,I.len⟩
 · exact keep b o (neL b o e) hb (neC b o e hx) (I.base.keep b o e n hb hx) (I.base.free b o e n hx)
 · obtain ⟨sl,e1⟩:=I.base.slot b o e n hb hx
   obtain ⟨sl',e2⟩:=slot b _ (neL b o e) hb (neC b o e hx) e1 (I.base.free b o e n hx)
   exact ⟨sl',e2⟩
 · obtain ⟨o',e1⟩:=I.base.there b o e hx
   exact free b o' (neC b o e hx) e1 (I.base.free b o e n hx)
 · obtain ⟨o',e1⟩:=I.base.there b o e hx
   exact there b o' (neC b o e hx) e1
 · obtain ⟨m1,e1⟩:=I.base.tbls b ps e
   obtain ⟨m2,e2⟩:=tbls b _ e1
   exact ⟨m1++m2,by rw [e2,Array.append_assoc]⟩
 · obtain ⟨m,hn,hl⟩:=I.loc
   refine ⟨m,ns m hn,fun i x v e1 e2 e3=>?_⟩
   obtain ⟨u,r,l⟩:=hl i x v e1 e2 e3
   refine ⟨u,r,?_⟩
   rcases l with l | ⟨k,c,e,z⟩
   · exact .inl l
   · exact .inr ⟨k,c,e,cellK x c e _ z⟩
 · obtain ⟨v,z⟩:=I.cell x c e
   exact ⟨v,cellK x c e v z⟩
 · obtain ⟨m,⟨o,_,_,ho,_⟩,_⟩:=I.loc
   exact free _ o (fun z=>(hch _ z).2.1 rfl) ho I.free
 · obtain ⟨v,o,ho,hd⟩:=I.cell x c e
   exact free c o (fun z=>(hch c z).2.2.1 x c e rfl) ho (I.freeC x c e)
 · obtain ⟨e,n,ne,nf,d⟩:=I.pin p hp
   have nch:p.1∉ch:=fun z=>(hch p.1 z).2.2.2 p hp rfl
   exact ⟨keep p.1 p.2 ne nf nch e n,free p.1 p.2 nch e n,ne,nf,d⟩
theorem Inv.un {t':Nat}(I:Inv X pins σ H s) (u:Un X.fs [] H H' s.heap h') (hok:HOk X.prog X.w H' h'):Inv X pins σ H' { s with heap:=h',toks:=t' }:=by
 obtain ⟨m,⟨o,es,ep,ho,r⟩,_⟩:=id I.loc
 obtain ⟨sl,hL⟩:=u.any ho I.free (by simp)
 exact I.step (g':=s.gens) (d':=s.drawn) (ch:=[]) (fun _ z=>nomatch z) (fun b o _ hb _ e n=>u.keep b o e n hb (by simp)) (fun b o _ hb _ e n=>u.slot b o e n hb (by simp)) (fun b o _ e n=>u.free b o e n (by simp)) (fun b o _ e=>u.there b o e (by simp)) u.tups u.frzs u.tbls (fun m' hm=>by
  obtain ⟨o',es',ep',ho',r'⟩:=hm
  rw [ho] at ho'; cases ho'
  exact ⟨_,es',ep',hL,r'⟩) hok I.bare
theorem Inv.call {g':Array GenState}{t':Nat}{d':Drawn}{ch:List Addr}(I:Inv X pins σ H s) (u:Un (frs X.stack) ch H H' s.heap h') (hok:HOk X.prog X.w H' h') (hg:AllBare g')
 (hch:∀ b∈ch,(b∈X.ex∨X.s₀.heap.objs.size≤b)∧b≠X.env.locals∧(∀ x c,X.env.cells.lookup x=some c→c≠b)∧∀ p∈X.pn++pins,p.1≠b) :
 Inv X pins σ H' { s with heap:=h',gens:=g',drawn:=d',toks:=t' }:=by
 obtain ⟨m,⟨o,es,ep,ho,r⟩,_⟩:=id I.loc
 obtain ⟨sl,hL⟩:=u.any ho I.free fun z=>(hch _ z).2.1 rfl
 exact I.step (ch:=ch) hch (fun b o hL hb hc e n=>u.keep b o e n (fun z=>(List.mem_cons.mp (I.stkSub b z)).elim hL hb) hc) (fun b o _ _ hc e n=>u.any e n hc) (fun b o hc e n=>u.free b o e n hc) (fun b o hc e=>u.there b o e hc) u.tups u.frzs u.tbls (fun m' hm=>by
  obtain ⟨o',es',ep',ho',r'⟩:=hm
  rw [ho] at ho'; cases ho'
  exact ⟨_,es',ep',hL,r'⟩) hok hg
theorem Inv.turned {t':Nat}{it:Addr}(I:Inv X pins σ H s) (k:∀ b o,b≠it→s.heap.get? b=some o→h'.get? b=some o) (hn:H it=none) (hL:it≠X.env.locals)
 (h1:it∈X.ex∨X.s₀.heap.objs.size≤it) (h2:∀ x c,X.env.cells.lookup x=some c→c≠it) (h3:∀ p∈X.pn++pins,p.1≠it):Inv X pins σ H { s with heap:=h',toks:=t' }:=by
 have nit:∀ b u,H b=some u→b≠it:=fun b u e z=>by rw [z,hn] at e; cases e
 refine I.step (g':=s.gens) (d':=s.drawn) (ch:=[it]) (fun b hb=>?_) (fun b o _ _ hc e _=>k b o (fun z=>hc (by simp [z])) e) (fun b o _ _ hc e _=>⟨o.slots,k b o (fun z=>hc (by simp [z])) e⟩) (fun _ _ _ _ n=>n)
  (fun b o hc e=>⟨o,k b o (fun z=>hc (by simp [z])) e⟩) (fun _ _ e=>e) (fun _ _ _ e=>e) (fun b ps e=>⟨#[],by rw [e]; simp⟩) (fun m hm=>?_) (fun b u e=>?_) I.bare
 · have e:b=it:=by simpa using hb
   subst e
   exact ⟨h1,hL,h2,h3⟩
 · obtain ⟨o,es,ep,ho,r⟩:=hm
   exact ⟨o,es,ep,k _ o (Ne.symm hL) ho,r⟩
 · refine (I.hok b u e).stay (fun c v hc q=>k c v ?_ q) (fun _ q=>q) fun _ _ q=>q
   rcases hc with z | z
   · rw [z]; exact nit b u e
   · exact nit c _ z
theorem Inv.tok (I:Inv X pins σ H s) (t:Nat):Inv X pins σ H { s with toks:=t }:=I.un (h':=s.heap) (t':=t) Un.refl I.hok
theorem Inv.kept {t':Nat}(I:Inv X pins σ H s) (k:∀ b u,s.heap.get? b=some u→h'.get? b=some u):Inv X pins σ H { s with heap:=h',toks:=t' }:=I.un (Un.kept k) (I.hok.kept k)
theorem Inv.laid {a:Addr}{o:HO}{t':Nat}(I:Inv X pins σ H s) (k:∀ b u,s.heap.get? b=some u→h'.get? b=some u) (hp:s.heap.objs.size≤a) (new:ObjOk X.prog X.w (upd H a o) h' a o) :
 Inv X pins σ (upd H a o) { s with heap:=h',toks:=t' }:=I.un (Un.laid k hp (I.hok.fresh hp)) (I.hok.laid k hp new)
theorem Inv.write {x e:Addr}{o:HO}{t':Nat}(I:Inv X pins σ H s) (mu:Mut (H x)) (he:e=x∨H e=some (.own x)) (k:∀ b u,b≠e→s.heap.get? b=some u→h'.get? b=some u) (heo:∃ u,h'.get? e=some u)
 (new:ObjOk X.prog X.w (upd H x o) h' x o):Inv X pins σ (upd H x o) { s with heap:=h',toks:=t' }:=I.un (Un.write mu he k heo) (I.hok.write mu he k heo new)
theorem Inv.pins_of {pins':List (Addr×Obj)}(I:Inv X pins σ H s) (h:∀ p∈pins',s.heap.get? p.1=some p.2∧H p.1=none∧p.1≠X.env.locals∧p.1∉X.fs∧∀ v,p.2.data≠.cell v):Inv X pins' σ H s :=
 ⟨I.ok,I.os,I.bare,I.base,I.loc,I.cell,I.free,I.freeC,fun p hp=>(List.mem_append.mp hp).elim (fun z=>I.pin p (List.mem_append_left _ z)) (h p),I.hok,I.len⟩
theorem az2 {N:List Str}(hN:N.Nodup) {i j:Nat}{x:Str}(a:N[i]?=some x) (b:N[j]?=some x):i=j:=by
 obtain ⟨h1,e1⟩:=List.getElem?_eq_some_iff.mp a
 obtain ⟨h2,e2⟩:=List.getElem?_eq_some_iff.mp b
 exact (List.getElem_inj hN).mp (e1.trans e2.symm)
theorem ar4 {M:Model}{A:Around}{E:Value→Shared→Prop}{i:Nat}{x:Str}{v:V}{u:Value}{Q:Unit→Shared→Prop}(I:Inv X pins σ H s) (hN:X.N.Nodup) (hi:X.N[i]?=some x) (hx:Loc X.env.scope x) (r:RelV v u)
 (h:∀ s',Inv X pins (σ.set i (some v)) H s'→(∃ a,Heap.SameBut a s.heap s'.heap∧(a=X.env.locals∨X.env.cells.lookup x=some a))→Q () s') (hf:X.fn x=true∨X.env.scope.names.lookup x=some .local:=by first | exact .inl rfl | exact .inr rfl | assumption):wpAny M A (storeName X.env x u) Q E s:=by
 obtain ⟨m,hn,hl⟩:=id I.loc
 have hcls:(X.env.scope.kind == .class || (X.env.scope.kind == .module && X.env.locals != X.env.globals))=false:=by rw [I.ok.kind]; rfl
 have hiσ:i<σ.length:=by rw [I.len]; exact (List.getElem?_eq_some_iff.mp hi).1
 have cne:=I.cne
 have tracked:∀ {a:Addr}{h':Heap},(∃ o,s.heap.get? a=some o∧H a=none)→Heap.SameBut a s.heap h'→HOk X.prog X.w H h':=fun {a h'} ha hs b ob e=>by
  obtain ⟨_,_,hfree⟩:=ha
  refine (I.hok b ob e).stay (fun c w' hc q=>(hs.2 c ?_).trans q) (fun _ q=>q) fun _ _ q=>q
  rintro rfl
  rcases hc with rfl | hc
  · rw [hfree] at e; cases e
  · rw [hfree] at hc; cases hc
 rcases hx with hk | hk
 · refine wpAny_storeName_local hk hn (fun h' hn' hs=>?_) hcls
   obtain ⟨oL,_,_,hoL,_⟩:=id hn
   refine h _ ⟨I.ok,I.os,I.bare,⟨fun b o e n hb hx=>?_,fun b o e n hb hx=>?_,I.base.free,fun b o e hx=>?_,I.base.tups,I.base.frzs,I.base.tbls⟩,⟨_,hn',fun j y v' e1 e2 e3=>?_⟩,fun y c e=>?_,I.free,I.freeC,fun p hp=>?_,tracked ⟨oL,hoL,I.free⟩ hs,by simpa using I.len⟩ ⟨_,hs,.inl rfl⟩
   · exact (hs.2 b (Nat.ne_of_lt (Nat.lt_of_lt_of_le (Heap.lt_size e) I.ok.above))).trans (I.base.keep b o e n hb hx)
   · obtain ⟨sl,e1⟩:=I.base.slot b o e n hb hx
     exact ⟨sl,(hs.2 b (Nat.ne_of_lt (Nat.lt_of_lt_of_le (Heap.lt_size e) I.ok.above))).trans e1⟩
   · obtain ⟨o',e1⟩:=I.base.there b o e hx
     exact ⟨o',(hs.2 b (Nat.ne_of_lt (Nat.lt_of_lt_of_le (Heap.lt_size e) I.ok.above))).trans e1⟩
   · by_cases hj:j=i
     · subst hj
       rw [hi] at e1; cases e1
       rw [List.getElem?_set_self hiσ] at e2
       cases e2
       exact ⟨u,r,.inl ⟨hk,by simp⟩⟩
     · rw [List.getElem?_set_ne (Ne.symm hj)] at e2
       obtain ⟨u',r',q⟩:=hl j y v' e1 e2 e3
       refine ⟨u',r',?_⟩
       rcases q with ⟨k,e⟩ | ⟨k,c,e,z⟩
       · refine .inl ⟨k,?_⟩
         have:y≠x:=fun e=>hj (az2 hN e1 (e ▸ hi))
         simp [this,e]
       · exact .inr ⟨k,c,e,z.sameBut hs (cne y c e)⟩
   · obtain ⟨w',z⟩:=I.cell y c e
     exact ⟨w',z.sameBut hs (cne y c e)⟩
   · obtain ⟨e,n,ne,nf,d⟩:=I.pin p hp
     exact ⟨(hs.2 p.1 ne).trans e,n,ne,nf,d⟩
 · have hfn:X.fn x=true:=by
    rcases hf with z | z
    · exact z
    · rw [z] at hk; cases hk
   obtain ⟨c,hc⟩:=I.ok.has x (.inl hk)
   obtain ⟨w',z⟩:=I.cell x c hc
   refine wpAny_storeName_cell I.ok.kind hk hc z (fun h' hc' hs=>?_)
   obtain ⟨oc,hoc,hocd⟩:=id z
   refine h { s with heap:=h' } ⟨I.ok,I.os,I.bare,⟨fun b o e n hb hx=>?_,fun b o e n hb hx=>?_,I.base.free,fun b o e hx=>?_,I.base.tups,I.base.frzs,I.base.tbls⟩,⟨m,hn.sameBut hs (Ne.symm (cne x c hc)),fun j y v' e1 e2 e3=>?_⟩,fun y c' e=>?_,I.free,I.freeC,fun p hp=>?_,tracked ⟨oc,hoc,I.freeC x c hc⟩ hs,by simpa using I.len⟩ ⟨c,hs,.inr hc⟩
   · exact (hs.2 b (Nat.ne_of_lt (Nat.lt_of_lt_of_le (Heap.lt_size e) (I.ok.cab x c hfn hc)))).trans (I.base.keep b o e n hb hx)
   · obtain ⟨sl,e1⟩:=I.base.slot b o e n hb hx
     exact ⟨sl,(hs.2 b (Nat.ne_of_lt (Nat.lt_of_lt_of_le (Heap.lt_size e) (I.ok.cab x c hfn hc)))).trans e1⟩
   · obtain ⟨o',e1⟩:=I.base.there b o e hx
     exact ⟨o',(hs.2 b (Nat.ne_of_lt (Nat.lt_of_lt_of_le (Heap.lt_size e) (I.ok.cab x c hfn hc)))).trans e1⟩
   · by_cases hj:j=i
     · subst hj
       rw [hi] at e1; cases e1
       rw [List.getElem?_set_self hiσ] at e2
       cases e2
       exact ⟨u,r,.inr ⟨.inl hk,c,hc,hc'⟩⟩
     · rw [List.getElem?_set_ne (Ne.symm hj)] at e2
       obtain ⟨u',r',q⟩:=hl j y v' e1 e2 e3
       refine ⟨u',r',?_⟩
       rcases q with q | ⟨k,c',e,z'⟩
       · exact .inl q
       · refine .inr ⟨k,c',e,z'.sameBut hs ?_⟩
         rintro rfl
         exact hj (az2 hN e1 (I.ok.inj _ _ _ e hc ▸ hi))
   · by_cases hcc:c'=c
     · subst hcc; exact ⟨_,hc'⟩
     · obtain ⟨w2,z2⟩:=I.cell y c' e
       exact ⟨w2,z2.sameBut hs hcc⟩
   · obtain ⟨e,n,ne,nf,d⟩:=I.pin p hp
     refine ⟨(hs.2 p.1 ?_).trans e,n,ne,nf,d⟩
     intro q
     rw [q,hoc] at e
     have q':oc=p.2:=Option.some.inj e
     exact d w' (by rw [← q']; exact hocd)
theorem az3 {M:Model}{A:Around}{E:Value→Shared→Prop}{i:Nat}{x:Str}{v:V}{u:Value}{Q:Unit→Shared→Prop}(I:Inv X pins σ H s) (hN:X.N.Nodup) (hi:X.N[i]?=some x) (hx:Loc X.env.scope x) (r:RelV v u)
 (h:∀ s',Inv X pins (σ.set i (some v)) H s'→Q () s') (hf:X.fn x=true∨X.env.scope.names.lookup x=some .local:=by first | exact .inl rfl | exact .inr rfl | assumption):wpAny M A (storeName X.env x u) Q E s :=
 ar4 I hN hi hx r (fun s' I' _=>h s' I') hf
theorem Inv.call' {s':Shared}{ch:List Addr}(I:Inv X pins σ H s) (ho:s'.os=s.os) (u:Un (frs X.stack) ch H H' s.heap s'.heap) (hok:HOk X.prog X.w H' s'.heap) (hg:AllBare s'.gens)
 (hch:∀ b∈ch,(b∈X.ex∨X.s₀.heap.objs.size≤b)∧b≠X.env.locals∧(∀ x c,X.env.cells.lookup x=some c→c≠b)∧∀ p∈X.pn++pins,p.1≠b):Inv X pins σ H' s':=by
 obtain ⟨h',g',d',t',o'⟩:=s'
 have e:o'=s.os:=ho
 subst e
 exact I.call (g':=g') (t':=t') (d':=d') u hok hg hch
end
abbrev XK:=Value→Option Addr→Hp→Prop
abbrev St:=List (Option V)
abbrev VK:=V→Hp→Prop
abbrev TE:=St→Hp→VK→Prop
abbrev TT:=St→Hp→(Bool→Hp→Prop)→Prop
abbrev TA:=St→Hp→(List V→Hp→Prop)→Prop
structure Ends where
 nx:St→Hp→Prop
 rt:VK
 bk:St→Hp→Prop:=fun _ _=>False
 ct:St→Hp→Prop:=fun _ _=>False
abbrev TS:=Ends→St→Hp→Prop
def EP (X:Cx) (pins:List (Addr×Obj)) (σ:St) (Q:VK) (u:Value) (s':Shared):Prop:=∃ v H',Inv X pins σ H' s'∧RelV v u∧Q v H'
def TP (X:Cx) (pins:List (Addr×Obj)) (σ:St) (Q:Bool→Hp→Prop) (b:Bool) (s':Shared):Prop:=∃ H',Inv X pins σ H' s'∧Q b H'
def AP (X:Cx) (pins:List (Addr×Obj)) (σ:St) (Q:List V→Hp→Prop) (us:List Value) (s':Shared):Prop:=∃ vs H',Inv X pins σ H' s'∧Vals vs us∧Q vs H'
def SP (X:Cx) (pins:List (Addr×Obj)) (D:Ends) (f:Flow) (s':Shared):Prop :=
 match f with
 | .next=>∃ σ' H',Inv X pins σ' H' s'∧D.nx σ' H'
 | .brk=>∃ σ' H',Inv X pins σ' H' s'∧D.bk σ' H'
 | .cont=>∃ σ' H',Inv X pins σ' H' s'∧D.ct σ' H'
 | .ret u=>∃ v σ' H',Inv X pins σ' H' s'∧RelV v u∧D.rt v H'
def PE (X:Cx) (e:Expr) (t:TE):Prop :=
 ∀ (pins:List (Addr×Obj)) (s:Shared) (σ:St) (H:Hp) (Q:VK),Inv X pins σ H s→t σ H Q→wpAny (model X.prog X.w) X.A (eval e X.env) (EP X pins σ Q) X.xe s
def PT (X:Cx) (e:Expr) (t:TT):Prop :=
 ∀ (pins:List (Addr×Obj)) (s:Shared) (σ:St) (H:Hp) (Q:Bool→Hp→Prop),Inv X pins σ H s→t σ H Q→wpAny (model X.prog X.w) X.A (isTrue e X.env (eval e X.env)) (TP X pins σ Q) X.xe s
def PW (X:Cx) (e:Expr) (t:TT):Prop :=
 ∀ (whole:Sem Value) (pins:List (Addr×Obj)) (s:Shared) (σ:St) (H:Hp) (Q:Bool→Hp→Prop),Inv X pins σ H s→t σ H Q→wpAny (model X.prog X.w) X.A (isTrue e X.env whole) (TP X pins σ Q) X.xe s
theorem PW.pt {X:Cx}{e:Expr}{t:TT}(h:PW X e t):PT X e t:=h _
def PA (X:Cx) (es:List Expr) (t:TA):Prop :=
 ∀ (pos:Pos) (pins:List (Addr×Obj)) (s:Shared) (σ:St) (H:Hp) (Q:List V→Hp→Prop),Inv X pins σ H s→t σ H Q→wpAny (model X.prog X.w) X.A (spliced (backTo pos (starEach es X.env))) (AP X pins σ Q) X.xe s
def PS (X:Cx) (st:Stmt) (t:TS):Prop :=
 ∀ (pins:List (Addr×Obj)) (s:Shared) (σ:St) (H:Hp) (D:Ends),Inv X pins σ H s→t D σ H→wpAny (model X.prog X.w) X.A (exec st X.env) (SP X pins D) X.xe s
def PSs (X:Cx) (st:List Stmt) (t:TS):Prop :=
 ∀ (pins:List (Addr×Obj)) (s:Shared) (σ:St) (H:Hp) (D:Ends),Inv X pins σ H s→t D σ H→wpAny (model X.prog X.w) X.A (execs st X.env) (SP X pins D) X.xe s
theorem thn {α:Type}{t:Sem α}{Q Q':α→Shared→Prop}{M:Model}{A:Around}{E:Value→Shared→Prop}{s:Shared}(h:wpAny M A t Q E s) (hQ:∀ a s,Q a s→Q' a s):wpAny M A t Q' E s:=wpAny_mono h hQ fun _ _ x=>x
section
variable {X:Cx}
def tVar (i:Nat):TE:=fun σ H Q=>∃ v,σ[i]?=some (some v)∧Q v H
def tC (v:V):TE:=fun _ H Q=>Q v H
theorem by0 {i:Nat}{x:Str}{pos:Pos}(hN:X.N[i]?=some x) (hv:Vis X.env.scope x) (hd:(x == ("__debug__":Str))=false:=by decide) (hcd:(x == ("__classdict__":Str))=false:=by decide):PE X (.Name x pos) (tVar i):=by
 intro pins s σ H Q I h
 obtain ⟨v,e,h⟩:=h
 obtain ⟨m,hn,hl⟩:=I.loc
 obtain ⟨u,r,l⟩:=hl i x v hN e hv
 have fin:EP X pins σ Q u s:=⟨v,H,I,r,h⟩
 rcases l with ⟨hk,hm⟩ | ⟨hk,c,hc,hcell⟩
 · exact wpAny_Name (wpAny_loadName_local I.ok.kind hk hn hm fin) hd
 · rcases hk with hk | hk
   · exact wpAny_Name (wpAny_loadName_cell I.ok.kind hk hc hcell fin) hd
   · exact wpAny_Name (wpAny_loadName_free I.ok.kind hk hc hcell fin hcd) hd
theorem a03 {i j pos}:PE X (.Constant (.int i) j pos) (tC (.int i)):=fun _ _ _ H _ I h=>wpAny_Constant_int ⟨.int i,H,I.tok _,⟨_,rfl⟩,h⟩
theorem ah1 {b j pos}:PE X (.Constant (.bool b) j pos) (tC (.bl b)):=fun _ _ _ H _ I h=>Constant_bool ⟨.bl b,H,I,rfl,h⟩
theorem az4 {j pos}:PE X (.Constant .none j pos) (tC .non):=fun _ _ _ H _ I h=>Constant_none ⟨.non,H,I,rfl,h⟩
theorem a08 {x j pos}:PE X (.Constant (.str x) j pos) (tC (.str x)):=fun _ _ _ H _ I h=>Calls.Constant_str ⟨.str x,H,I.tok _,⟨_,rfl⟩,h⟩
def Gl (X:Cx) (x:Str):Prop:=X.env.kindOf x=some .globalImplicit
theorem av9 {E:Value→Shared→Prop}{pins:List (Addr×Obj)}{s:Shared}{σ:St} {H:Hp}{x:Str}{u:Value}{pos:Pos}{Q:Value→Shared→Prop}(I:Inv X pins σ H s) (hg:Gl X x) (hm:X.mg x=some u) (h:Q u s)
 (hd:(x == ("__debug__":Str))=false:=by decide):wpAny (model X.prog X.w) X.A (eval (.Name x pos) X.env) Q E s :=
 Calls.Name_function_global I.ok.kind hg (Calls.loadGlobal_global (by rw [I.ok.glob]; exact I.mod.glob.keeps I.bk) hm h) hd
theorem aj7 {E:Value→Shared→Prop}{pins:List (Addr×Obj)}{s:Shared}{σ:St} {H:Hp}{x:Str}{u:Value}{pos:Pos}{Q:Value→Shared→Prop}(I:Inv X pins σ H s) (hg:Gl X x) (hm:X.mg x=none) (hv:bootBuiltins x=some u) (h:Q u s)
 (hn:x≠"__name__":=by decide) (hd:(x == ("__debug__":Str))=false:=by decide):wpAny (model X.prog X.w) X.A (eval (.Name x pos) X.env) Q E s:=by
 obtain ⟨mb,h1,h2⟩:=I.mod.blt
 exact Calls.Name_function_global I.ok.kind hg (Calls.loadGlobal_builtin (by rw [I.ok.glob]; exact I.mod.glob.keeps I.bk) hm (by rw [I.ok.blt]; exact h1.keeps I.bk) ((h2 x hn).trans hv) h) hd
theorem aw0 {x:Str}{v:V}{u:Value}{pos:Pos}(hg:Gl X x) (hm:X.mg x=some u) (r:RelV v u) (hd:(x == ("__debug__":Str))=false:=by decide):PE X (.Name x pos) (tC v) :=
 fun _ _ _ H _ I h=>av9 I hg hm ⟨v,H,I,r,h⟩ hd
variable {a b:Expr}{ta tb:TE}{pos:Pos}
def PC (X:Cx) (op:CmpOp) (a b:Expr) (t:TE):Prop :=
 ∀ (pins:List (Addr×Obj)) (s:Shared) (σ:St) (H:Hp) (Q:VK),Inv X pins σ H s→t σ H Q →
  wpAny (model X.prog X.w) X.A (eval a X.env) (fun v s₁=>wpAny (model X.prog X.w) X.A (eval b X.env) (fun u s₂=>wpAny (model X.prog X.w) X.A (compareOp op v u) (EP X pins σ Q) X.xe s₂) X.xe s₁) X.xe s
theorem nobehind (b:Expr) {op:CmpOp}(h:op≠.In) (h2:op≠.NotIn):behindInMarks op b=false:=by
 have e1:(op == CmpOp.In)=false:=by cases op <;> first | rfl | exact absurd rfl h
 have e2:(op == CmpOp.NotIn)=false:=by cases op <;> first | rfl | exact absurd rfl h2
 cases b <;> simp [behindInMarks,e1,e2]
def tB (t:TE):TT:=fun σ H Q=>t σ H fun x H1=>∃ c,x=.bl c∧Q c H1
theorem by1 {op:CmpOp}{t:TE}(h:PC X op a b t) (h1:behindInMarks op b=false:=by first | exact nobehind _ (by decide) (by decide) | rfl):PT X (.Compare a [op] [b] pos) (tB t):=by
 intro pins s σ H Q I hw
 refine wpAny_isTrue_Compare1 (thn (h pins s σ H _ I hw) fun v s1 h1=>thn h1 fun u s2 h2=>thn h2 ?_) h1
 rintro c s3 ⟨x,H1,I1,r1,q1⟩
 obtain ⟨d,rfl,q⟩:=q1
 cases r1
 exact wpAny_truthy_bool ⟨H1,I1,q⟩
variable {tA tB':TT}{rest:List Expr}
def tAnd (t u:TT):TT:=fun σ H Q=>t σ H fun c H1=>if c=true then u σ H1 Q else Q false H1
def tOr (t u:TT):TT:=fun σ H Q=>t σ H fun c H1=>if c=true then Q true H1 else u σ H1 Q
def tNot (t:TT):TT:=fun σ H Q=>t σ H fun c H1=>Q (!c) H1
theorem a56 (ha:PT X a tA):PW X (.BoolOp .And [a] pos) tA:=by
 intro wh pins s σ H Q I h
 refine isTrue_and (thn (ha pins s σ H Q I h) fun c s1 e=>?_)
 cases c with
 | true=>exact isTrue_and_nil e
 | false=>exact e
theorem b64 (ha:PT X a tA):PW X (.BoolOp .Or [a] pos) tA:=by
 intro wh pins s σ H Q I h
 refine isTrue_or (thn (ha pins s σ H Q I h) fun c s1 e=>?_)
 cases c with
 | false=>exact isTrue_or_nil e
 | true=>exact e
theorem a68 (ha:PT X a tA) (hb:PW X (.BoolOp .And (b::rest) pos) tB'):PW X (.BoolOp .And (a::b::rest) pos) (tAnd tA tB'):=by
 intro wh pins s σ H Q I h
 refine isTrue_and (thn (ha pins s σ H _ I h) ?_)
 rintro c s1 ⟨H1,I1,q1⟩
 cases c with
 | true=>exact hb wh pins s1 σ H1 Q I1 q1
 | false=>exact ⟨H1,I1,q1⟩
theorem bq2 (ha:PT X a tA) (hb:PW X (.BoolOp .Or (b::rest) pos) tB'):PW X (.BoolOp .Or (a::b::rest) pos) (tOr tA tB'):=by
 intro wh pins s σ H Q I h
 refine isTrue_or (thn (ha pins s σ H _ I h) ?_)
 rintro c s1 ⟨H1,I1,q1⟩
 cases c with
 | true=>exact ⟨H1,I1,q1⟩
 | false=>exact hb wh pins s1 σ H1 Q I1 q1
theorem by2 (ha:PT X a tA):PT X (.UnaryOp .Not a pos) (tNot tA):=by
 intro pins s σ H Q I h
 exact isTrue_not (ha pins s σ H (fun c H1=>Q (!c) H1) I h)
def tOrV (ta tb:TE):TE:=fun σ H Q=>ta σ H fun x H1=>∃ c,x=.bl c∧if c=true then Q (.bl true) H1 else tb σ H1 Q
theorem bm1 {op}{t:TE}(h:PE X a t):PE X (.BoolOp op [a] pos) t:=fun pins s σ H Q I hw=>BoolOp_one (h pins s σ H Q I hw)
theorem by3 (ha:PE X a ta) (hb:PE X (.BoolOp .Or (b::rest) pos) tb):PE X (.BoolOp .Or (a::b::rest) pos) (tOrV ta tb):=by
 intro pins s σ H Q I h
 refine BoolOp_or (thn (ha pins s σ H _ I h) ?_)
 rintro v s1 ⟨x,H1,I1,r1,q1⟩
 obtain ⟨c,rfl,q1⟩:=q1
 cases r1
 refine wpAny_truthy_bool ?_
 cases c with
 | false=>exact hb pins s1 σ H1 Q I1 q1
 | true=>exact ⟨.bl true,H1,I1,rfl,q1⟩
def tIf (t:TT) (ta tb:TE):TE:=fun σ H Q=>t σ H fun c H1=>if c=true then ta σ H1 Q else tb σ H1 Q
theorem az5 {c:Expr}(hc:PT X c tA) (ha:PE X a ta) (hb:PE X b tb):PE X (.IfExp c a b pos) (tIf tA ta tb):=by
 intro pins s σ H Q I h
 refine wpAny_IfExp (thn (hc pins s σ H _ I h) ?_)
 rintro d s1 ⟨H1,I1,q1⟩
 cases d with
 | true=>exact ha pins s1 σ H1 Q I1 q1
 | false=>exact hb pins s1 σ H1 Q I1 q1
end
def SqL (K:PySem.W.Frag) (H:Hp) (a:Addr) (xs:List V):Prop :=
 Rd H a (.lst xs) ∨
  ∃ (o:Obj) (its:Array Value) (n:Nat),K.lookup a=some o∧o.cls=.type "list"∧o.dict=none∧o.data=.seq its n∧its.size≤sizeLine∧Vals xs its.toList
def SqT (K:PySem.W.Frag) (H:Hp) (a:Addr) (xs:List V):Prop :=
 Rd H a (.tup xs) ∨
  ∃ (o:Obj) (its:Array Value) (n:Nat),K.lookup a=some o∧o.cls=.type "tuple"∧o.data=.seq its n∧its.size≤sizeLine∧Vals xs its.toList
def absV:Value→Option V
 | .none=>some .non
 | .bool b=>some (.bl b)
 | .int i _=>some (.int i)
 | .str x _=>some (.str x)
 | .bytes b _=>some (.byt b)
 | .float b _=>some (.flt b)
 | .ref a=>some (.ref a)
 | .type n=>some (.ty n)
 | _=>none
theorem RelV.abs {x:V}{u:Value}(r:RelV x u):absV u=some x:=by
 cases x with
 | non=>cases r; rfl
 | bl _=>cases r; rfl
 | int _=>obtain ⟨t,rfl⟩:=r; rfl
 | str _=>obtain ⟨t,rfl⟩:=r; rfl
 | byt _=>obtain ⟨t,rfl⟩:=r; rfl
 | flt _=>obtain ⟨t,rfl⟩:=r; rfl
 | ref _=>cases r; rfl
 | ty _=>cases r; rfl
theorem RelV.inj {x y:V}{u:Value}(r:RelV x u) (q:RelV y u):x=y:=Option.some.inj (r.abs.symm.trans q.abs)
theorem Vals.inj:∀ {xs ys:List V}{us:List Value},Vals xs us→Vals ys us→xs=ys
 | _,_,_,.nil,.nil=>rfl
 | _,_,_,.cons r t,.cons r' t'=>by rw [r.inj r',Vals.inj t t']
section
variable {X:Cx}{pins:List (Addr×Obj)}{σ:St} {H:Hp}{s:Shared}{a:Addr}{xs ys:List V}
theorem SqL.of {K:PySem.W.Frag}(h:H a=some (.lst xs)):SqL K H a xs:=.inl (.inl h)
theorem SqT.of {K:PySem.W.Frag}(h:H a=some (.tup xs)):SqT K H a xs:=.inl (.inl h)
theorem Inv.list (I:Inv X pins σ H s) (h:SqL X.K H a xs):∃ its:List Value,Vals xs its∧PlainL s.heap a its.toArray∧xs.length≤sizeLine:=by
 rcases h with h | ⟨o,its,n,hk,hc,hd,hs,hz,r⟩
 · obtain ⟨z,its,n,r,e⟩:=h.ok I.hok
   exact ⟨its,r,⟨_,n,e,rfl,rfl,rfl⟩,z⟩
 · refine ⟨its.toList,r,⟨o,n,I.kIn a o hk,hc,hd,by simpa using hs⟩,?_⟩
   have e:=r.length
   simp only [Array.length_toList] at e
   omega
theorem Inv.tuple (I:Inv X pins σ H s) (h:SqT X.K H a xs):∃ its:List Value,Vals xs its∧IsTup s.heap a its.toArray∧xs.length≤sizeLine:=by
 rcases h with h | ⟨o,its,n,hk,hc,hs,hz,r⟩
 · obtain ⟨z,its,r,p⟩:=h.ok I.hok
   exact ⟨its,r,p,z⟩
 · refine ⟨its.toList,r,⟨o,I.kIn a o hk,hc,n,by simpa using hs⟩,?_⟩
   have e:=r.length
   simp only [Array.length_toList] at e
   omega
theorem Inv.list_inj (I:Inv X pins σ H s) (h:SqL X.K H a xs) (h':SqL X.K H a ys):xs=ys:=by
 obtain ⟨its,r,⟨o,n,e,_,_,d⟩,_⟩:=I.list h
 obtain ⟨its',r',⟨o',n',e',_,_,d'⟩,_⟩:=I.list h'
 rw [e] at e'; cases e'
 rw [d] at d'
 injection d' with d1 _
 have:its=its':=by simpa using congrArg Array.toList d1
 subst this
 exact r.inj r'
theorem Inv.tuple_inj (I:Inv X pins σ H s) (h:SqT X.K H a xs) (h':SqT X.K H a ys):xs=ys:=by
 obtain ⟨its,r,⟨o,e,_,n,d⟩,_⟩:=I.tuple h
 obtain ⟨its',r',⟨o',e',_,n',d'⟩,_⟩:=I.tuple h'
 rw [e] at e'; cases e'
 rw [d] at d'
 injection d' with d1 _
 have:its=its':=by simpa using congrArg Array.toList d1
 subst this
 exact r.inj r'
end
abbrev Cx.wish (X:Cx) (E:Value→Shared→Prop):Cx:={ X with xe:=E }
abbrev Cx.nox (X:Cx):Cx:=X.wish fun _ _=>False
theorem Cx.Ok.wish {X:Cx}(ok:X.Ok) (E:Value→Shared→Prop):(X.wish E).Ok :=
 ⟨ok.mod,ok.kind,ok.glob,ok.blt,ok.above,ok.inj,ok.has,ok.cab,ok.hd,ok.frames,ok.stk,ok.exf,ok.bs,ok.bsz,ok.noex,ok.exfs,ok.funs,ok.frf⟩
theorem Cx.Ok.unwish {X:Cx}{E:Value→Shared→Prop}(ok:(X.wish E).Ok):X.Ok :=
 ⟨ok.mod,ok.kind,ok.glob,ok.blt,ok.above,ok.inj,ok.has,ok.cab,ok.hd,ok.frames,ok.stk,ok.exf,ok.bs,ok.bsz,ok.noex,ok.exfs,ok.funs,ok.frf⟩
section
variable {X:Cx}{pins:List (Addr×Obj)}{σ:St} {H:Hp}{s:Shared}{E:Value→Shared→Prop}
theorem Inv.wish (I:Inv X pins σ H s) (E:Value→Shared→Prop):Inv (X.wish E) pins σ H s:=⟨I.ok.wish E,I.os,I.bare,I.base,I.loc,I.cell,I.free,I.freeC,I.pin,I.hok,I.len⟩
theorem Inv.unwish (I:Inv (X.wish E) pins σ H s):Inv X pins σ H s:=⟨I.ok.unwish,I.os,I.bare,I.base,I.loc,I.cell,I.free,I.freeC,I.pin,I.hok,I.len⟩
theorem SP.unwish {D:Ends}{f:Flow}{s':Shared}(h:SP (X.wish E) pins D f s'):SP X pins D f s':=by
 cases f with
 | next=>obtain ⟨σ',H',I,q⟩:=h; exact ⟨σ',H',I.unwish,q⟩
 | brk=>obtain ⟨σ',H',I,q⟩:=h; exact ⟨σ',H',I.unwish,q⟩
 | cont=>obtain ⟨σ',H',I,q⟩:=h; exact ⟨σ',H',I.unwish,q⟩
 | ret u=>obtain ⟨v,σ',H',I,r,q⟩:=h; exact ⟨v,σ',H',I.unwish,r,q⟩
theorem PSs.nox {st:List Stmt}{t:TS}(h:PSs X.nox st t):PSs X st t:=fun pins s σ H D I hw =>
 wpAny_mono (h pins s σ H D (I.wish _) hw) (fun _ _ q=>q.unwish) fun _ _ z=>False.elim z
end
section
variable {X:Cx}{st:Stmt}{rest:List Stmt}{t u:TS}{e:Expr}{te:TE}{pos:Pos}
def by4:TS:=fun D σ H=>D.nx σ H
def tSeq (t u:TS):TS:=fun D σ H=>t { D with nx:=u D } σ H
theorem a11:PSs X [] by4:=fun _ _ σ H _ I h=>wpAny_execs_nil ⟨σ,H,I,h⟩
theorem a02 (h1:PS X st t) (h2:PSs X rest u):PSs X (st::rest) (tSeq t u):=by
 intro pins s σ H D I h
 refine wpAny_execs_cons (thn (h1 pins s σ H { D with nx:=u D } I h) fun f s1 q=>?_)
 cases f with
 | next =>
   obtain ⟨σ',H',I',q⟩:=q
   exact h2 pins s1 σ' H' D I' q
 | ret v=>exact q
 | brk=>exact q
 | cont=>exact q
theorem a04 (h1:PS X st t):PSs X [st] t:=by
 intro pins s σ H D I h
 refine wpAny_execs_cons (thn (h1 pins s σ H D I h) fun f s1 q=>?_)
 cases f with
 | next=>exact wpAny_execs_nil q
 | ret v=>exact q
 | brk=>exact q
 | cont=>exact q
def bm2:TS:=fun D σ H=>D.bk σ H
theorem bg4:PS X (.Break pos) bm2:=fun _ _ σ H _ I h=>wpAny_Break ⟨σ,H,I,h⟩
theorem Inv.quiet {pins:List (Addr×Obj)}{σ:St} {H:Hp}{s:Shared}(I:Inv X pins σ H s):interactive X.env=false:=by simp [interactive,I.ok.kind]
def by5 (te:TE):TS:=fun D σ H=>te σ H fun _ H1=>D.nx σ H1
theorem a32 (he:PE X e te) (hs:swapsWith e none pos.line X.env=pure false:=by rfl):PS X (.Expr e pos) (by5 te):=by
 intro pins s σ H D I h
 exact wpAny_Expr_any (thn (he pins s σ H _ I h) (by rintro v s1 ⟨x,H1,I1,r1,q1⟩; exact ⟨σ,H1,I1,q1⟩)) I.quiet hs
def tRet (te:TE):TS:=fun D σ H=>te σ H D.rt
theorem a14 (he:PE X e te):PS X (.Return (some e) pos) (tRet te):=by
 intro pins s σ H D I h
 exact wpAny_Return_some (thn (he pins s σ H _ I h) (by rintro v s1 ⟨x,H1,I1,r1,q1⟩; exact ⟨x,σ,H1,I1,r1,q1⟩))
def by6:TS:=fun D _ H=>D.rt .non H
theorem bq3:PS X (.Return none pos) by6:=fun _ _ σ H _ I h=>wpAny_Return_none ⟨.non,σ,H,I,rfl,h⟩
def tIfS (c:TT) (t u:TS):TS:=fun D σ H=>c σ H fun b H1=>if b=true then t D σ H1 else u D σ H1
theorem a30 {c:Expr}{a b:List Stmt}{tc:TT}(hc:PT X c tc) (ha:PSs X a t) (hb:PSs X b u):PS X (.If c a b pos) (tIfS tc t u):=by
 intro pins s σ H D I h
 refine wpAny_If (thn (hc pins s σ H _ I h) ?_)
 rintro d s1 ⟨H1,I1,q1⟩
 cases d with
 | true=>exact ha pins s1 σ H1 D I1 q1
 | false=>exact hb pins s1 σ H1 D I1 q1
end
abbrev TG:=V→St→Hp→(St→Hp→Prop)→Prop
abbrev TGs:=List V→St→Hp→(St→Hp→Prop)→Prop
def PG (X:Cx) (target:Expr) (t:TG):Prop :=
 ∀ (pins:List (Addr×Obj)) (s:Shared) (σ:St) (H:Hp) (v:V) (u:Value) (Q:St→Hp→Prop),Inv X pins σ H s→RelV v u→t v σ H Q →
  wpAny (model X.prog X.w) X.A (assign target X.env u) (fun _ s'=>∃ σ' H',Inv X pins σ' H' s'∧Q σ' H') X.xe s
def PGs (X:Cx) (ts:List Expr) (t:TGs):Prop :=
 ∀ (pins:List (Addr×Obj)) (s:Shared) (σ:St) (H:Hp) (vs:List V) (us:List Value) (Q:St→Hp→Prop),Inv X pins σ H s→Vals vs us→t vs σ H Q →
  wpAny (model X.prog X.w) X.A (assignInOrder ((assignEach ts X.env).map (·.2)) us) (fun _ s'=>∃ σ' H',Inv X pins σ' H' s'∧Q σ' H') X.xe s
abbrev TSet:=V→V→V→Hp→(Hp→Prop)→Prop
def PSet (X:Cx) (t:TSet):Prop :=
 ∀ (pins:List (Addr×Obj)) (s:Shared) (σ:St) (H:Hp) (o i v:V) (ov iv u:Value) (Q:Hp→Prop),Inv X pins σ H s→RelV o ov→RelV i iv→RelV v u→t o i v H Q →
  wpAny (model X.prog X.w) X.A (setItem ov iv u) (fun _ s'=>∃ H',Inv X pins σ H' s'∧Q H') X.xe s
section
variable {X:Cx}{pos:Pos}
def ah2 (i:Nat):TG:=fun v σ H Q=>Q (σ.set i (some v)) H
theorem a16 {i:Nat}{x:Str}(hN:X.N.Nodup) (hi:X.N[i]?=some x) (hx:Loc X.env.scope x) (hf:X.fn x=true∨X.env.scope.names.lookup x=some .local:=by first | exact .inl rfl | exact .inr rfl | assumption):PG X (.Name x pos) (ah2 i):=by
 intro pins s σ H v u Q I r h
 exact wpAny_assign_Name (az3 I hN hi hx r (fun s' I'=>⟨_,H,I',h⟩) hf)
def gNil:TGs:=fun vs σ H Q=>vs=[]∧Q σ H
def b36 (t:TG) (u:TGs):TGs:=fun vs σ H Q=>∃ v r,vs=v::r∧t v σ H fun σ' H'=>u r σ' H' Q
theorem a91:PGs X [] gNil:=by
 intro pins s σ H vs us Q I r h
 obtain ⟨e,h⟩:=h
 subst e
 cases r
 exact assignInOrder_nil ⟨σ,H,I,h⟩
theorem a34 {e:Expr}{es:List Expr}{t:TG}{u:TGs}(h1:PG X e t) (h2:PGs X es u)
 (hs:(assignEach (e::es) X.env).map (·.2)=assign e X.env::(assignEach es X.env).map (·.2):=by rfl):PGs X (e::es) (b36 t u):=by
 intro pins s σ H vs us Q I r h
 obtain ⟨v,vr,e1,h⟩:=h
 subst e1
 cases r with
 | cons r rr =>
   rw [hs]
   refine assignInOrder_cons (thn (h1 pins s σ H _ _ _ I r h) ?_)
   rintro _ s1 ⟨σ1,H1,I1,q1⟩
   exact h2 pins s1 σ1 H1 _ _ Q I1 rr q1
def gTup (K:PySem.W.Frag) (n:Nat) (t:TGs):TG:=fun v σ H Q=>∃ a xs,v=.ref a∧SqT K H a xs∧xs.length=n∧t xs σ H Q
theorem by7 {es:List Expr}{k:Nat}{t:TGs}{n:Nat}(hc:X.calm=true) (h:PGs X es t)
 (hn:(assignEach es X.env).length=n:=by rfl) (hst:(assignEach es X.env).findIdx? (·.1)=none:=by rfl):PG X (.Tuple es k pos) (gTup X.K n t):=by
 intro pins s σ H v u Q I r hw
 obtain ⟨a,xs,e1,hq,hl,hw⟩:=hw
 subst e1
 cases r
 obtain ⟨its,rv,ht,hz⟩:=I.tuple hq
 refine assign_Tuple_tuple (I.ok.hd hc) ht (by simp [hn,←hl,rv.length]) hst fun h' hx=>?_
 have I1:Inv X pins σ H { s with heap:=h' }:=I.kept (t':=s.toks) fun b o e=>hx b o (Nat.ne_of_lt (Heap.lt_size e)) e
 exact h pins _ σ H xs _ Q I1 (by simpa using rv) hw
def gSub (to ti:TE) (t:TSet):TG:=fun v σ H Q=>to σ H fun o H1=>ti σ H1 fun i H2=>t o i v H2 fun H3=>Q σ H3
theorem ar5 {o i:Expr}{to ti:TE}{t:TSet}(ho:PE X o to) (hi:PE X i ti) (hs:PSet X t)
 (ha:∀ v,assign (.Subscript o i pos) X.env v=(do
  let ov←holding [v] (eval o X.env)
  let iv←holding [v,ov] (eval i X.env)
  standAt pos
  holding [v,ov,iv] (setItem ov iv v)
  release [v,ov,iv] []):=by intro _; rfl):PG X (.Subscript o i pos) (gSub to ti t):=by
 intro pins s σ H v u Q I r h
 rw [ha]
 refine wpAny_bind (wpAny_holding (thn (ho pins s σ H _ I h) ?_))
 rintro ov s1 ⟨x,H1,I1,r1,q1⟩
 refine wpAny_bind (wpAny_holding (thn (hi pins s1 σ H1 _ I1 q1) ?_))
 rintro iv s2 ⟨y,H2,I2,r2,q2⟩
 refine wpAny_bind (wpAny_standAt (wpAny_bind (wpAny_holding (thn (hs pins s2 σ H2 x y v ov iv u _ I2 r1 r2 r q2) ?_))))
 rintro _ s3 ⟨H3,I3,q3⟩
 exact wpAny_release ⟨σ,H3,I3,q3⟩
def tAsg (te:TE) (g:TG):TS:=fun D σ H=>te σ H fun x H1=>g x σ H1 D.nx
theorem ar6 {tg e:Expr}{te:TE}{g:TG}(he:PE X e te) (hg:PG X tg g) (hs:swapsWithSole [tg] e pos.line X.env=pure false:=by rfl) (hw:swappedStores [tg] e X.env=pure none:=by rfl)
 (h1:(assignEach [tg] X.env).map (·.2)=[assign tg X.env]:=by rfl):PS X (.Assign [tg] e pos) (tAsg te g):=by
 intro pins s σ H D I h
 refine wpAny_Assign_stores (thn (he pins s σ H _ I h) ?_) hs hw
 rintro v s1 ⟨x,H1,I1,r1,q1⟩
 rw [h1]
 exact thn (hg pins s1 σ H1 x v _ I1 r1 q1) fun _ s2 q=>q
theorem a18 {i:Nat}{x:Str}{e:Expr}{te:TE}{pos':Pos}(hN:X.N.Nodup) (hi:X.N[i]?=some x) (hx:Loc X.env.scope x) (he:PE X e te) (hs:swapsWith e (some (.Name x pos')) pos.line X.env=pure false:=by rfl) (hf:X.fn x=true∨X.env.scope.names.lookup x=some .local:=by first | exact .inl rfl | exact .inr rfl | assumption) :
 PS X (.Assign [.Name x pos'] e pos) (tAsg te (ah2 i)):=by
 intro pins s σ H D I h
 refine wpAny_Assign_Name (thn (he pins s σ H _ I h) ?_) hs
 rintro v s1 ⟨y,H1,I1,r1,q1⟩
 exact az3 I1 hN hi hx r1 (fun s2 I2=>⟨_,H1,I2,q1⟩) hf
end
section
variable {X:Cx}{pos:Pos}
def bm3 (c:TT) (tb:TS):TS:=fun D σ H=>∃ W:Nat→St→Hp→Prop,(∃ m,W m σ H)∧∀ m σ H,W m σ H →
 c σ H fun b H1=>if b=true then ∃ N:St→Hp→Prop,(∀ σ' H',N σ' H'→∃ m',m'<m∧W m' σ' H')∧tb { D with nx:=N,ct:=N,bk:=D.nx } σ H1 else D.nx σ H1
theorem ai9 {c:Expr}{body:List Stmt}{tc:TT}{tb:TS}(hp:PassesOwn (model X.prog X.w) X.A X.env X.xe) (hc:PT X c tc) (hb:PSs X body tb):PS X (.While c body [] pos) (bm3 tc tb):=by
 intro pins s σ H D I h
 obtain ⟨W,⟨m0,w0⟩,turn⟩:=h
 refine wpAny_While (codeAny_whileLoop (fun n s'=>∃ σ' H',Inv X pins σ' H' s'∧W n σ' H') ?_ m0 ⟨σ,H,I,w0⟩)
 rintro n s1 ⟨σ1,H1,I1,w1⟩
 refine wpAny_passesOwn hp (thn (hc pins s1 σ1 H1 _ I1 (turn n σ1 H1 w1)) ?_)
 rintro b s2 ⟨H2,I2,q2⟩
 cases b with
 | true =>
   obtain ⟨N,hN,q2⟩:=q2
   rw [if_pos rfl]
   refine wpAny_passesOwn hp (thn (hb pins s2 σ1 H2 _ I2 q2) fun f s3 q3=>?_)
   cases f with
   | next =>
     obtain ⟨σ3,H3,I3,n3⟩:=q3
     obtain ⟨m',hm,w3⟩:=hN σ3 H3 n3
     exact ⟨m',hm,σ3,H3,I3,w3⟩
   | cont =>
     obtain ⟨σ3,H3,I3,n3⟩:=q3
     obtain ⟨m',hm,w3⟩:=hN σ3 H3 n3
     exact ⟨m',hm,σ3,H3,I3,w3⟩
   | brk=>exact q3
   | ret v=>exact q3
 | false =>
   rw [if_neg Bool.false_ne_true]
   exact wpAny_execs_nil ⟨σ1,H2,I2,q2⟩
end
structure It where
 go:Nat→Hp→Prop
 yld:Nat→Hp→V→Hp→Prop
 stop:Nat→Hp→Prop
def FpOk (X:Cx) (pins:List (Addr×Obj)) (H:Hp) (b:Addr):Prop :=
 H b=none∧b≠X.env.locals∧b∉X.fs∧(b∈X.ex∨X.s₀.heap.objs.size≤b)∧(∀ x c,X.env.cells.lookup x=some c→c≠b)∧∀ p∈X.pn++pins,p.1≠b
theorem Inv.fpOk {X:Cx}{pins:List (Addr×Obj)}{σ:St} {H H':Hp}{s:Shared}{b:Addr}(I:Inv X pins σ H s) (hb:s.heap.objs.size≤b) (hn:H' b=none):FpOk X pins H' b:=by
 refine ⟨hn,Nat.ne_of_gt (Nat.lt_of_lt_of_le I.lt hb),I.nofs hb,.inr (Nat.le_trans I.sz hb),fun x c e z=>?_,fun p hp z=>?_⟩
 · obtain ⟨v,q⟩:=I.cell x c e
   exact absurd (Nat.lt_of_lt_of_le q.lt (by rw [z]; exact hb)) (Nat.lt_irrefl _)
 · exact absurd (Nat.lt_of_lt_of_le (Heap.lt_size (I.pin p hp).1) (by rw [z]; exact hb)) (Nat.lt_irrefl _)
structure Turn (P:Program) (w:World) (K:PySem.W.Frag) (tg:Expr) (J:It) (fp:List Addr) (it:Addr) (tn:Nat→Heap→Prop):Prop where
 mem:it∈fp
 obj:∀ i h,tn i h→∀ b∈fp,∃ o,h.get? b=some o∧∀ v,o.data≠.cell v
 keep:∀ i h h',tn i h→(∀ b∈fp,∀ o,h.get? b=some o→h'.get? b=some o)→tn i h'
 item:∀ (X:Cx),X.prog=P→X.w=w→X.K=K→X.calm=true→∀ (i:Nat) (pins:List (Addr×Obj)) (s:Shared) (σ:St) (H:Hp) (E:Value→Shared→Prop),Inv X pins σ H s→(∀ b∈fp,FpOk X pins H b)→tn i s.heap→J.go i H →
  wpAny (model P w) X.A (pyNext (.ref it)) (fun r s1=>∃ u,r=some u ∧
   wpAny (model P w) X.A (letOwnedTupleGo tg (.ref it) u) (fun _ s2=>∃ x H',Inv X pins σ H' s2∧RelV x u∧J.yld i H x H'∧tn (i+1) s2.heap∧∀ b∈fp,H' b=none) E s1) E s
 done:∀ (X:Cx),X.prog=P→X.w=w→X.K=K→X.calm=true→∀ (i:Nat) (pins:List (Addr×Obj)) (s:Shared) (σ:St) (H:Hp) (E:Value→Shared→Prop),Inv X pins σ H s→(∀ b∈fp,FpOk X pins H b)→tn i s.heap→J.stop i H →
  wpAny (model P w) X.A (pyNext (.ref it)) (fun r s1=>r=none∧Inv X pins σ H s1) E s
 self:∀ (A:Around) (i:Nat) (s:Shared) (Q:Value→Shared→Prop) (E:Value→Shared→Prop),tn i s.heap→Q (.ref it) s→wpAny (model P w) A (pyIter (.ref it)) Q E s
abbrev TI:=St→Hp→(It→Hp→Prop)→Prop
def PIE (X:Cx) (pins:List (Addr×Obj)) (σ:St) (tg:Expr) (R:It→Hp→Prop) (itv:Value) (s2:Shared):Prop :=
 ∃ (it:Addr) (fp:List Addr) (tn:Nat→Heap→Prop) (J:It) (H':Hp),itv=.ref it∧Inv X pins σ H' s2∧Turn X.prog X.w X.K tg J fp it tn∧tn 0 s2.heap∧(∀ b∈fp,FpOk X pins H' b)∧R J H'
def PI (X:Cx) (tg iter:Expr) (wi:TI):Prop :=
 ∀ (pins:List (Addr×Obj)) (s:Shared) (σ:St) (H:Hp) (R:It→Hp→Prop),Inv X pins σ H s→wi σ H R →
  wpAny (model X.prog X.w) X.A (eval iter X.env) (fun v s1=>wpAny (model X.prog X.w) X.A (pyIter v) (PIE X pins σ tg R) X.xe s1) X.xe s
theorem bg5 {M:Model}{A:Around}{E:Value→Shared→Prop}{s:Shared}{tg:Expr}{it:Addr}{u:Value}{o:Obj}{n:String}{vs:Array Value}{Q:Unit→Shared→Prop}(ho:s.heap.get? it=some o) (hc:o.cls=.type n) (hd:o.data=.fields vs)
 (hn:["enumerate","zip","dict_itemiterator","dict_reverseitemiterator","odict_iterator","itertools.zip_longest","itertools.pairwise"].contains n=false) (hQ:Q () s):wpAny M A (letOwnedTupleGo tg (.ref it) u) Q E s:=by
 unfold letOwnedTupleGo
 cases tg <;> first
  | exact wpAny_pure hQ
  | (cases u <;> first
   | exact wpAny_pure hQ
   | (refine wpAny_bind (wpAny_load ho ?_)
      rw [hc,hd]
      show wpAny M A (if (["enumerate","zip","dict_itemiterator","dict_reverseitemiterator","odict_iterator","itertools.zip_longest","itertools.pairwise"].contains n && vs[0]? == some (rawInt _))=true then _ else _) Q E s
      rw [if_neg (by intro h; rw [hn,Bool.false_and] at h; cases h)]
      exact wpAny_pure hQ))
def Itl (K:PySem.W.Frag) (a:Addr):It :=
 ⟨fun i H=>∃ xs x,SqL K H a xs∧xs[i]?=some x,fun i H x H'=>H'=H∧∀ xs,SqL K H a xs→xs[i]?=some x,fun i H=>∃ xs,SqL K H a xs∧xs.length≤i⟩
def Itt (K:PySem.W.Frag) (a:Addr):It :=
 ⟨fun i H=>∃ xs x,SqT K H a xs∧xs[i]?=some x,fun i H x H'=>H'=H∧∀ xs,SqT K H a xs→xs[i]?=some x,fun i H=>∃ xs,SqT K H a xs∧xs.length≤i⟩
def Itr (lo:Int) (n:Nat):It:=⟨fun i _=>i<n,fun i H x H'=>H'=H∧x=.int (lo+i),fun i _=>n≤i⟩
theorem b65 {P:Program}{w:World}{K:PySem.W.Frag}{tg:Expr}(a it:Addr):Turn P w K tg (Itl K a) [it] it (fun i h=>h.IsListIter it a i) where
 mem:=by simp
 obj:=fun i h st b hb=>by
  have e:b=it:=by simpa using hb
  subst e
  obtain ⟨o,e,c,d⟩:=st
  exact ⟨o,e,fun v z=>by rw [d] at z; cases z⟩
 keep:=fun i h h' st k=>st.at fun o e=>k it (by simp) o e
 item:=by
  intro X hP hw hK hc i pins s σ H E I hf st hg
  subst hP hw hK
  obtain ⟨xs,x,hq,hx⟩:=hg
  obtain ⟨its,rv,p,hz⟩:=I.list hq
  obtain ⟨u,hu,ru⟩:=rv.get hx
  obtain ⟨f0,f1,f2,f3,f4,f5⟩:=hf it (by simp)
  refine wpAny_pyNext_list_item st p.isList (x:=u) (by simpa using hu) fun h' st' sb=>?_
  have I1:Inv X pins σ H { s with heap:=h' }:=I.turned (t':=s.toks) (fun b o hb e=>(sb.2 b hb).trans e) f0 f1 f3 f4 f5
  obtain ⟨o,e,c,d⟩:=id st'
  exact ⟨u,rfl,bg5 (s:={ s with heap:=h' }) e c d (by decide) ⟨x,H,I1,ru,⟨rfl,fun ys hy=>by rw [I.list_inj hy hq]; exact hx⟩,st',fun b hb=>(hf b hb).1⟩⟩
 done:=by
  intro X hP hw hK hc i pins s σ H E I hf st hg
  subst hP hw hK
  obtain ⟨xs,hq,hx⟩:=hg
  obtain ⟨its,rv,p,hz⟩:=I.list hq
  obtain ⟨f0,f1,f2,f3,f4,f5⟩:=hf it (by simp)
  have hl:=rv.length
  exact wpAny_pyNext_list_end (I.ok.hd hc) st p.isList (by simp; omega) fun h' eb=>⟨rfl,I.turned (t':=s.toks) (fun b o hb e=>eb b o hb e) f0 f1 f3 f4 f5⟩
 self:=fun _ _ _ _ _ st h=>wpAny_pyIter_listiter st h
theorem b37 {P:Program}{w:World}{K:PySem.W.Frag}{tg:Expr}(a it:Addr):Turn P w K tg (Itt K a) [it] it (fun i h=>h.IsTupleIter it a i) where
 mem:=by simp
 obj:=fun i h st b hb=>by
  have e:b=it:=by simpa using hb
  subst e
  obtain ⟨o,e,c,d⟩:=st
  exact ⟨o,e,fun v z=>by rw [d] at z; cases z⟩
 keep:=fun i h h' st k=>st.at fun o e=>k it (by simp) o e
 item:=by
  intro X hP hw hK hc i pins s σ H E I hf st hg
  subst hP hw hK
  obtain ⟨xs,x,hq,hx⟩:=hg
  obtain ⟨its,rv,p,hz⟩:=I.tuple hq
  obtain ⟨u,hu,ru⟩:=rv.get hx
  obtain ⟨f0,f1,f2,f3,f4,f5⟩:=hf it (by simp)
  refine wpAny_pyNext_tuple_item st (show s.heap.IsTuple a its.toArray from p) (x:=u) (by simpa using hu) fun h' st' sb=>?_
  have I1:Inv X pins σ H { s with heap:=h' }:=I.turned (t':=s.toks) (fun b o hb e=>(sb.2 b hb).trans e) f0 f1 f3 f4 f5
  obtain ⟨o,e,c,d⟩:=id st'
  exact ⟨u,rfl,bg5 (s:={ s with heap:=h' }) e c d (by decide) ⟨x,H,I1,ru,⟨rfl,fun ys hy=>by rw [I.tuple_inj hy hq]; exact hx⟩,st',fun b hb=>(hf b hb).1⟩⟩
 done:=by
  intro X hP hw hK hc i pins s σ H E I hf st hg
  subst hP hw hK
  obtain ⟨xs,hq,hx⟩:=hg
  obtain ⟨its,rv,p,hz⟩:=I.tuple hq
  obtain ⟨f0,f1,f2,f3,f4,f5⟩:=hf it (by simp)
  have hl:=rv.length
  exact wpAny_pyNext_tuple_end (I.ok.hd hc) st (show s.heap.IsTuple a its.toArray from p) (by simp; omega) fun h' eb=>⟨rfl,I.turned (t':=s.toks) (fun b o hb e=>eb b o hb e) f0 f1 f3 f4 f5⟩
 self:=fun _ _ _ _ _ st h=>wpAny_pyIter_tupleiter st h
theorem b38 {P:Program}{w:World}{K:PySem.W.Frag}{tg:Expr}(it:Addr) (lo:Int) (n:Nat):Turn P w K tg (Itr lo n) [it] it (fun i h=>IsRangeIter h it (lo+(i:Nat)*1) ((n:Int) - (i:Nat)) 1) where
 mem:=by simp
 obj:=fun i h st b hb=>by
  have e:b=it:=by simpa using hb
  subst e
  exact ⟨_,st,fun v z=>by
   have z':Data.fields _=Data.cell v:=z
   cases z'⟩
 keep:=fun i h h' st k=>k it (by simp) _ st
 item:=by
  intro X hP hw hK hc i pins s σ H E I hf st hg
  subst hP hw hK
  obtain ⟨f0,f1,f2,f3,f4,f5⟩:=hf it (by simp)
  have W:=Walks.range (prog:=X.prog) (w:=X.w) (I.ok.hd hc) it lo 1 n
  refine W.item i s _ _ hg st fun v h' tk hv st' kk=>?_
  obtain ⟨t,rfl⟩:=hv
  have I1:Inv X pins σ H { s with heap:=h',toks:=tk }:=I.turned (fun b o hb e=>kk b o (by simpa using hb) e) f0 f1 f3 f4 f5
  refine ⟨_,rfl,bg5 (s:={ s with heap:=h',toks:=tk }) (n:="range_iterator") st' rfl rfl (by decide) ⟨.int (lo+i),H,I1,⟨t,?_⟩,⟨rfl,rfl⟩,st',fun b hb=>(hf b hb).1⟩⟩
  rw [Int.mul_one]
 done:=by
  intro X hP hw hK hc i pins s σ H E I hf st hg
  subst hP hw hK
  obtain ⟨f0,f1,f2,f3,f4,f5⟩:=hf it (by simp)
  exact wpAny_pyNext_range_end (I.ok.hd hc) st (by have:n≤i:=hg; omega) fun h' eb=>⟨rfl,I.turned (t':=s.toks) (fun b o hb e=>eb b o hb e) f0 f1 f3 f4 f5⟩
 self:=fun _ _ _ _ _ st h=>wpAny_pyIter_rangeiter st h
section
variable {X:Cx}{tg:Expr}
def bq4 (K:PySem.W.Frag) (tl:TE):TI:=fun σ H R=>tl σ H fun x H1=>∃ a,x=.ref a∧(∃ xs,SqL K H1 a xs)∧R (Itl K a) H1
def iTup (K:PySem.W.Frag) (tl:TE):TI:=fun σ H R=>tl σ H fun x H1=>∃ a,x=.ref a∧(∃ xs,SqT K H1 a xs)∧R (Itt K a) H1
theorem bq5 {l:Expr}{tl:TE}(hl:PE X l tl):PI X tg l (bq4 X.K tl):=by
 intro pins s σ H R I h
 refine thn (hl pins s σ H _ I h) ?_
 rintro v s1 ⟨x,H1,I1,r1,q1⟩
 obtain ⟨a,e,⟨xs,hq⟩,q⟩:=q1
 subst e
 cases r1
 obtain ⟨its,rv,p,hz⟩:=I1.list hq
 refine wpAny_pyIter_list p.isList ?_
 refine ⟨s1.heap.objs.size,[s1.heap.objs.size],_,_,H1,rfl,I1.kept (t':=s1.toks) fun b o e=>Heap.get?_push_of_some _ e,b65 a _,⟨_,Heap.get?_push_size _ rfl,rfl,rfl⟩,fun b hb=>?_,q⟩
 have e:b=s1.heap.objs.size:=by simpa using hb
 subst e
 exact I1.fpOk (Nat.le_refl _) (I1.hok.fresh (Nat.le_refl _))
theorem by8 {l:Expr}{tl:TE}(hl:PE X l tl):PI X tg l (iTup X.K tl):=by
 intro pins s σ H R I h
 refine thn (hl pins s σ H _ I h) ?_
 rintro v s1 ⟨x,H1,I1,r1,q1⟩
 obtain ⟨a,e,⟨xs,hq⟩,q⟩:=q1
 subst e
 cases r1
 obtain ⟨its,rv,p,hz⟩:=I1.tuple hq
 refine wpAny_pyIter_tuple (show s1.heap.IsTuple a its.toArray from p) ?_
 refine ⟨s1.heap.objs.size,[s1.heap.objs.size],_,_,H1,rfl,I1.kept (t':=s1.toks) fun b o e=>Heap.get?_push_of_some _ e,b37 a _,⟨_,Heap.get?_push_size _ rfl,rfl,rfl⟩,fun b hb=>?_,q⟩
 have e:b=s1.heap.objs.size:=by simpa using hb
 subst e
 exact I1.fpOk (Nat.le_refl _) (I1.hok.fresh (Nat.le_refl _))
theorem bg6 {pins:List (Addr×Obj)}{σ:St} {H:Hp}{s:Shared}{R:It→Hp→Prop}{E:Value→Shared→Prop}{lo hi:Int}{t u v:Tok}{tk:Nat}(I:Inv X pins σ H s) (h1:-(2 ^ 62)≤lo) (h2:lo<2 ^ 62) (h3:-(2 ^ 62)≤hi) (h4:hi<2 ^ 62)
 (q:R (Itr lo (hi - lo).toNat) H):wpAny (model X.prog X.w) X.A (pyIter (.ref s.heap.objs.size)) (PIE X pins σ tg R) E { s with heap:=s.heap.push { cls:=.type "range",data:=.fields #[.int lo t,.int hi u,.int 1 v] },toks:=tk }:=by
 refine wpAny_pyIter_range (IsRange.new ..) (small_one h1 h2 h3 h4) ?_
 have I1:Inv X pins σ H { s with heap:=s.heap.push { cls:=.type "range",data:=.fields #[.int lo t,.int hi u,.int 1 v] },toks:=tk }:=I.kept fun b o e=>Heap.get?_push_of_some _ e
 refine ⟨(s.heap.push { cls:=.type "range",data:=.fields #[.int lo t,.int hi u,.int 1 v] }).objs.size,[(s.heap.push { cls:=.type "range",data:=.fields #[.int lo t,.int hi u,.int 1 v] }).objs.size],_,_,H,rfl,
  I1.kept (t':=tk) fun b o e=>Heap.get?_push_of_some _ e,b38 _ lo (hi - lo).toNat,?_,fun b hb=>?_,q⟩
 · have e1:lo+((0:Nat):Int)*1=lo:=by simp
   have e2:(((hi - lo).toNat:Nat):Int) - ((0:Nat):Int)=Builtin.Range.rangeSize lo hi 1:=by rw [rangeSize_one]; split <;> omega
   show IsRangeIter _ _ (lo+((0:Nat):Int)*1) ((((hi - lo).toNat:Nat):Int) - ((0:Nat):Int)) 1
   rw [e1,e2]
   exact Heap.get?_push_size _ rfl
 · have e:b=(s.heap.push { cls:=.type "range",data:=.fields #[.int lo t,.int hi u,.int 1 v] }).objs.size:=by simpa using hb
   subst e
   exact I1.fpOk (Nat.le_refl _) (I1.hok.fresh (Nat.le_refl _))
def by9 (ta:TA):TI:=fun σ H R=>ta σ H fun vs H1=>∃ j:Int,vs=[.int j]∧-(2 ^ 62)≤j∧j<2 ^ 62∧R (Itr 0 j.toNat) H1
theorem aa8 {a:Expr}{ta:TA}{p pos:Pos}(hg:Gl X "range") (hm:X.mg "range"=none) (ha:PA X [a] ta) (hs:starEach [a] X.env=[(false,eval a X.env)]:=by rfl):PI X tg (.Call (.Name "range" p) [a] [] pos) (by9 ta):=by
 intro pins s σ H R I h
 refine Call_ (aj7 I hg hm boot_range (PyProof.Rows.callWith_type1 (thn (ha pos pins s σ H _ I h) ?_) hs rfl))
 rintro us s1 ⟨vs,H1,I1,r1,q1⟩
 obtain ⟨j,e,q1,q2,q⟩:=q1
 subst e
 cases r1 with
 | cons r rr =>
   cases rr
   obtain ⟨t,rfl⟩:=r
   exact call_range_1 (bg6 I1 (by omega) (by omega) q1 q2 (by simpa using q))
def tFor (wi:TI) (g:TG) (tb:TS):TS:=fun D σ H=>wi σ H fun J H1=>∃ W:Nat→Nat→St→Hp→Prop,(∃ m,W 0 m σ H1)∧∀ i m σ H,W i m σ H →
 (J.stop i H∧D.nx σ H)∨(J.go i H∧∃ N:St→Hp→Prop,(∀ σ' H',N σ' H'→∃ m',m'<m∧W (i+1) m' σ' H')∧∀ x H',J.yld i H x H'→g x σ H' fun σ2 H2=>tb { D with nx:=N,ct:=N,bk:=D.nx } σ2 H2)
def ar7 (fp:List Addr) (h:Heap):List (Addr×Obj):=fp.filterMap fun b=>(h.get? b).map fun o=>(b,o)
theorem ac2 {fp:List Addr}{h:Heap}{b:Addr}{o:Obj}(hb:b∈fp) (e:h.get? b=some o):(b,o)∈ar7 fp h:=List.mem_filterMap.mpr ⟨b,hb,by rw [e]; rfl⟩
theorem b66 {fp:List Addr}{h:Heap}{p:Addr×Obj}(hp:p∈ar7 fp h):p.1∈fp∧h.get? p.1=some p.2:=by
 obtain ⟨b,hb,e⟩:=List.mem_filterMap.mp hp
 cases q:h.get? b with
 | none=>rw [q] at e; cases e
 | some o =>
   rw [q] at e
   have e':(b,o)=p:=Option.some.inj e
   subst e'
   exact ⟨hb,q⟩
theorem Inv.pinned {pins:List (Addr×Obj)}{σ:St} {H:Hp}{s:Shared}{fp:List Addr}(I:Inv X pins σ H s) (hf:∀ b∈fp,FpOk X pins H b) (ho:∀ b∈fp,∃ o,s.heap.get? b=some o∧∀ v,o.data≠.cell v):Inv X (pins++ar7 fp s.heap) σ H s :=
 I.pins_of fun p hp=>(List.mem_append.mp hp).elim (fun z=>I.pin p (List.mem_append_right _ z)) fun z=>by
  obtain ⟨hb,e⟩:=b66 z
  obtain ⟨f0,f1,f2,_⟩:=hf p.1 hb
  obtain ⟨o,e',d⟩:=ho p.1 hb
  rw [e] at e'; cases e'
  exact ⟨e,f0,f1,f2,d⟩
theorem Inv.unpinned {pins pl:List (Addr×Obj)}{σ:St} {H:Hp}{s:Shared}(I:Inv X (pins++pl) σ H s):Inv X pins σ H s:=I.pins_of fun p hp=>I.pin p (List.mem_append_right _ (List.mem_append_left _ hp))
theorem a69 {iter:Expr}{body:List Stmt}{wi:TI}{g:TG}{tb:TS}{pos:Pos}(hp:PassesOwn (model X.prog X.w) X.A X.env X.xe) (hc:X.calm=true) (hi:PI X tg iter wi) (hg:PG X tg g) (hb:PSs X body tb)
 (hs:∀ x,foldedSetIterable iter X.env x=pure x:=by intro _; rfl):PS X (.For tg iter body [] pos) (tFor wi g tb):=by
 intro pins s σ H D I h
 refine wpAny_For (thn (hi pins s σ H _ I h) fun v s1 h1=>thn h1 fun itv s2 h2=>?_) hs
 obtain ⟨it,fp,tn,J,H2,e,I2,T,st2,f2,W,⟨m0,w0⟩,turn⟩:=h2
 subst e
 have stat:∀ {H':Hp},(∀ b∈fp,H' b=none)→∀ b∈fp,FpOk X pins H' b:=fun hn b hb=>⟨hn b hb,(f2 b hb).2⟩
 refine codeAny_forLoop_any (fun n s'=>∃ i σ' H',Inv X pins σ' H' s'∧tn i s'.heap∧(∀ b∈fp,H' b=none)∧W i n σ' H') ?_ m0 ⟨0,σ,H2,I2,st2,fun b hb=>(f2 b hb).1,w0⟩
 rintro n s3 ⟨i,σ3,H3,I3,st3,fr3,w3⟩
 rcases turn i n σ3 H3 w3 with ⟨stop,qn⟩ | ⟨go,N,hN,step⟩
 · refine wpAny_passesOwn hp (thn (T.done X rfl rfl rfl hc i pins s3 σ3 H3 X.xe I3 (stat fr3) st3 stop) ?_)
   rintro r s4 ⟨hr,I4⟩
   subst hr
   exact wpAny_execs_nil ⟨σ3,H3,I4,qn⟩
 · refine wpAny_passesOwn hp (thn (T.item X rfl rfl rfl hc i pins s3 σ3 H3 X.xe I3 (stat fr3) st3 go) ?_)
   rintro r s4 ⟨u,hr,h4⟩
   subst hr
   refine wpAny_passesOwn hp (thn h4 ?_)
   rintro _ s5 ⟨x,H5,I5,r5,y5,st5,fr5⟩
   have I5':=I5.pinned (stat fr5) (T.obj _ _ st5)
   refine wpAny_passesOwn hp (thn (hg _ s5 σ3 H5 x u _ I5' r5 (step x H5 y5)) ?_)
   rintro _ s6 ⟨σ6,H6,I6,q6⟩
   refine wpAny_passesOwn hp (thn (hb _ s6 σ6 H6 _ I6 q6) fun f s7 q7=>?_)
   have again:∀ {σ7:St} {H7:Hp},Inv X (pins++ar7 fp s5.heap) σ7 H7 s7→N σ7 H7→∃ m,m<n∧∃ i σ' H',Inv X pins σ' H' s7∧tn i s7.heap∧(∀ b∈fp,H' b=none)∧W i m σ' H':=fun {σ7 H7} I7 n7=>by
    obtain ⟨m',hm,w7⟩:=hN σ7 H7 n7
    refine ⟨m',hm,i+1,σ7,H7,I7.unpinned,T.keep _ _ _ st5 fun b hb o e=>(I7.pin (b,o) (List.mem_append_right _ (List.mem_append_right _ (ac2 hb e)))).1,fun b hb=>?_,w7⟩
    obtain ⟨o,e,d⟩:=T.obj _ _ st5 b hb
    exact (I7.pin (b,o) (List.mem_append_right _ (List.mem_append_right _ (ac2 hb e)))).2.1
   cases f with
   | next=>obtain ⟨σ7,H7,I7,n7⟩:=q7; exact again I7 n7
   | cont=>obtain ⟨σ7,H7,I7,n7⟩:=q7; exact again I7 n7
   | brk=>obtain ⟨σ7,H7,I7,q7⟩:=q7; exact ⟨σ7,H7,I7.unpinned,q7⟩
   | ret v=>obtain ⟨x7,σ7,H7,I7,r7,q7⟩:=q7; exact ⟨x7,σ7,H7,I7.unpinned,r7,q7⟩
end
theorem a60 {K:PySem.W.Frag}{a:Addr}{xs:List V}{g:TG}{tb:TS}{D:Ends}{σ:St} {H:Hp}(Pv:Nat→St→Hp→Prop) (h0:Pv 0 σ H) (hl:∀ i σ H,i≤xs.length→Pv i σ H→SqL K H a xs)
 (hs:∀ i x σ H,xs[i]?=some x→Pv i σ H→g x σ H fun σ2 H2=>tb { D with nx:=Pv (i+1),ct:=Pv (i+1),bk:=D.nx } σ2 H2) (hd:∀ σ H,Pv xs.length σ H→D.nx σ H) :
 ∃ W:Nat→Nat→St→Hp→Prop,(∃ m,W 0 m σ H)∧∀ i m σ H,W i m σ H →
  ((Itl K a).stop i H∧D.nx σ H)∨((Itl K a).go i H∧∃ N:St→Hp→Prop,(∀ σ' H',N σ' H'→∃ m',m'<m∧W (i+1) m' σ' H')∧∀ x H',(Itl K a).yld i H x H'→g x σ H' fun σ2 H2=>tb { D with nx:=N,ct:=N,bk:=D.nx } σ2 H2):=by
 refine ⟨fun i m σ H=>m=xs.length - i∧i≤xs.length∧Pv i σ H,⟨xs.length,by simp,Nat.zero_le _,h0⟩,?_⟩
 rintro i m σ H ⟨rfl,hi,p⟩
 have q:=hl i σ H hi p
 by_cases hlt:i<xs.length
 · refine .inr ⟨⟨xs,xs[i],q,by simp [hlt]⟩,Pv (i+1),fun σ' H' p'=>⟨xs.length - (i+1),by omega,rfl,hlt,p'⟩,fun x H' y=>?_⟩
   obtain ⟨e,y⟩:=y
   subst e
   exact hs i x σ _ (y xs q) p
 · have e:i=xs.length:=by omega
   subst e
   exact .inl ⟨⟨xs,q,Nat.le_refl _⟩,hd σ H p⟩
theorem aj8 {lo:Int}{n:Nat}{g:TG}{tb:TS}{D:Ends}{σ:St} {H:Hp}(Pv:Nat→St→Hp→Prop) (h0:Pv 0 σ H)
 (hs:∀ i σ H,i<n→Pv i σ H→g (.int (lo+i)) σ H fun σ2 H2=>tb { D with nx:=Pv (i+1),ct:=Pv (i+1),bk:=D.nx } σ2 H2) (hd:∀ σ H,Pv n σ H→D.nx σ H) :
 ∃ W:Nat→Nat→St→Hp→Prop,(∃ m,W 0 m σ H)∧∀ i m σ H,W i m σ H →
  ((Itr lo n).stop i H∧D.nx σ H)∨((Itr lo n).go i H∧∃ N:St→Hp→Prop,(∀ σ' H',N σ' H'→∃ m',m'<m∧W (i+1) m' σ' H')∧∀ x H',(Itr lo n).yld i H x H'→g x σ H' fun σ2 H2=>tb { D with nx:=N,ct:=N,bk:=D.nx } σ2 H2):=by
 refine ⟨fun i m σ H=>m=n - i∧i≤n∧Pv i σ H,⟨n,by simp,Nat.zero_le _,h0⟩,?_⟩
 rintro i m σ H ⟨rfl,hi,p⟩
 by_cases hlt:i<n
 · refine .inr ⟨hlt,Pv (i+1),fun σ' H' p'=>⟨n - (i+1),by omega,rfl,hlt,p'⟩,fun x H' y=>?_⟩
   obtain ⟨e,y⟩:=y
   subst e y
   exact hs i σ _ hlt p
 · have e:i=n:=by omega
   subst e
   exact .inl ⟨Nat.le_refl _,hd σ H p⟩
abbrev R2:=V→V→Hp→VK→Prop
def OpR (X:Cx) (f:Value→Value→Sem Value) (r:R2):Prop :=
 ∀ (pins:List (Addr×Obj)) (s:Shared) (σ:St) (H:Hp) (x y:V) (v u:Value) (Q:VK),Inv X pins σ H s→RelV x v→RelV y u→r x y H Q →
  wpAny (model X.prog X.w) X.A (f v u) (EP X pins σ Q) X.xe s
def UnR (X:Cx) (f:Value→Sem Value) (r:V→Hp→VK→Prop):Prop :=
 ∀ (pins:List (Addr×Obj)) (s:Shared) (σ:St) (H:Hp) (x:V) (v:Value) (Q:VK),Inv X pins σ H s→RelV x v→r x H Q →
  wpAny (model X.prog X.w) X.A (f v) (EP X pins σ Q) X.xe s
def CallR (X:Cx) (f:Value) (r:List V→Hp→VK→Prop):Prop :=
 ∀ (pins:List (Addr×Obj)) (s:Shared) (σ:St) (H:Hp) (xs:List V) (us:List Value) (Q:VK),Inv X pins σ H s→Vals xs us→r xs H Q →
  wpAny (model X.prog X.w) X.A (call f us) (EP X pins σ Q) X.xe s
def TruR (X:Cx) (r:V→Hp→(Bool→Hp→Prop)→Prop):Prop :=
 ∀ (pins:List (Addr×Obj)) (s:Shared) (σ:St) (H:Hp) (x:V) (v:Value) (Q:Bool→Hp→Prop),Inv X pins σ H s→RelV x v→r x H Q →
  wpAny (model X.prog X.w) X.A (truthy v) (TP X pins σ Q) X.xe s
def tOp (r:R2) (ta tb:TE):TE:=fun σ H Q=>ta σ H fun x H1=>tb σ H1 fun y H2=>r x y H2 Q
def tUn (r:V→Hp→VK→Prop) (ta:TE):TE:=fun σ H Q=>ta σ H fun x H1=>r x H1 Q
def rI (C:Int→Int→Prop) (g:Int→Int→V):R2:=fun x y H Q=>∃ i j,x=.int i∧y=.int j∧C i j∧Q (g i j) H
def rI0 (g:Int→Int→V):R2:=fun x y H Q=>∃ i j,x=.int i∧y=.int j∧Q (g i j) H
def rU (g:Int→V):V→Hp→VK→Prop:=fun x H Q=>∃ i,x=.int i∧Q (g i) H
section
variable {X:Cx}{a b c:Expr}{ta tb tc:TE}{pos:Pos}
theorem binT (ha:PE X a ta) (hb:PE X b tb) {pins:List (Addr×Obj)}{s:Shared}{σ:St} {H:Hp}{R:V→V→Hp→Prop}(I:Inv X pins σ H s)
 (h:ta σ H fun x H1=>tb σ H1 fun y H2=>R x y H2) {Q:Value→Shared→Prop}{f:Value→Value→Sem Value}
 (hf:∀ v u s2 x y H2,Inv X pins σ H2 s2→RelV x v→RelV y u→R x y H2→wpAny (model X.prog X.w) X.A (f v u) Q X.xe s2) :
 wpAny (model X.prog X.w) X.A (eval a X.env) (fun v s₁=>wpAny (model X.prog X.w) X.A (eval b X.env) (fun u s₂=>wpAny (model X.prog X.w) X.A (f v u) Q X.xe s₂) X.xe s₁) X.xe s:=by
 refine thn (ha pins s σ H _ I h) ?_
 rintro v s1 ⟨x,H1,I1,r1,q1⟩
 refine thn (hb pins s1 σ H1 _ I1 q1) ?_
 rintro u s2 ⟨y,H2,I2,r2,q2⟩
 exact hf v u s2 x y H2 I2 r1 r2 q2
theorem a33 {op:Operator}{r:R2}(ho:OpR X (binaryOp op) r) (ha:PE X a ta) (hb:PE X b tb):PE X (.BinOp a op b pos) (tOp r ta tb):=by
 intro pins s σ H Q I h
 exact wpAny_BinOp (binT ha hb I h fun v u s2 x y H2 I2 rx ry q=>ho pins s2 σ H2 x y v u Q I2 rx ry q)
theorem aa6 {op:UnaryOp}{r:V→Hp→VK→Prop}(ho:UnR X (unaryOp op) r) (ha:PE X a ta):PE X (.UnaryOp op a pos) (tUn r ta):=by
 intro pins s σ H Q I h
 exact UnaryOp_ (thn (ha pins s σ H _ I h) (by rintro v s1 ⟨x,H1,I1,r1,q1⟩; exact ho pins s1 σ H1 x v Q I1 r1 q1))
theorem opI {f:Value→Value→Sem Value}{C:Int→Int→Prop}{g:Int→Int→Int}
 (rule:∀ (i j:Int) (t u:Tok) (s:Shared) (Q:Value→Shared→Prop) (E:Value→Shared→Prop),C i j→Q (.int (g i j) s.toks) { s with toks:=s.toks+1 }→wpAny (model X.prog X.w) X.A (f (.int i t) (.int j u)) Q E s) :
 OpR X f (rI C fun i j=>.int (g i j)):=by
 intro pins s σ H x y v u Q I rx ry h
 obtain ⟨i,j,rfl,rfl,hc,q⟩:=h
 obtain ⟨t,rfl⟩:=rx
 obtain ⟨t',rfl⟩:=ry
 exact rule i j t t' s _ _ hc ⟨.int (g i j),H,I.tok _,⟨_,rfl⟩,q⟩
theorem opI0 {f:Value→Value→Sem Value}{g:Int→Int→Int}
 (rule:∀ (i j:Int) (t u:Tok) (s:Shared) (Q:Value→Shared→Prop) (E:Value→Shared→Prop),Q (.int (g i j) s.toks) { s with toks:=s.toks+1 }→wpAny (model X.prog X.w) X.A (f (.int i t) (.int j u)) Q E s) :
 OpR X f (rI0 fun i j=>.int (g i j)):=by
 intro pins s σ H x y v u Q I rx ry h
 obtain ⟨i,j,rfl,rfl,q⟩:=h
 obtain ⟨t,rfl⟩:=rx
 obtain ⟨t',rfl⟩:=ry
 exact rule i j t t' s _ _ ⟨.int (g i j),H,I.tok _,⟨_,rfl⟩,q⟩
theorem opB0 {f:Value→Value→Sem Value}{g:Int→Int→Bool}
 (rule:∀ (i j:Int) (t u:Tok) (s:Shared) (Q:Value→Shared→Prop) (E:Value→Shared→Prop),Q (.bool (g i j)) s→wpAny (model X.prog X.w) X.A (f (.int i t) (.int j u)) Q E s) :
 OpR X f (rI0 fun i j=>.bl (g i j)):=by
 intro pins s σ H x y v u Q I rx ry h
 obtain ⟨i,j,rfl,rfl,q⟩:=h
 obtain ⟨t,rfl⟩:=rx
 obtain ⟨t',rfl⟩:=ry
 exact rule i j t t' s _ _ ⟨.bl (g i j),H,I,rfl,q⟩
def CDiv (i j:Int):Prop:=0<j∧j<1073741824
def CPow (i j:Int):Prop:=0≤j∧j≤1000000∧i.natAbs<2 ^ 64
def CMul (i j:Int):Prop:=(-(2 ^ 64)<i∧i<2 ^ 64)∨(-(2 ^ 64)<j∧j<2 ^ 64)
theorem CMul.ok {i j:Int}(h:CMul i j):IntMulOk i j:=by
 rcases h with ⟨h1,h2⟩ | ⟨h1,h2⟩
 · exact .of_left (intBits_le_64 h1 h2)
 · exact .of_right (intBits_le_64 h1 h2)
theorem b39 (k:Nat):(0:Int)≤2 ^ k:=by
 rw [two_pow_cast]
 exact Int.natCast_nonneg _
theorem bz0:OpR X (binaryOp .Add) (rI0 fun i j=>.int (i+j)):=opI0 fun _ _ _ _ _ _ _ q=>add_int q
theorem b67:OpR X (binaryOp .Sub) (rI0 fun i j=>.int (i - j)):=opI0 fun _ _ _ _ _ _ _ q=>sub_int q
theorem bq6:OpR X (binaryOp .FloorDiv) (rI CDiv fun i j=>.int (i / j)):=opI fun i j _ _ _ _ _ hc q=>by
 have h1:(0:Int)<j:=hc.1
 have h2:j<1073741824:=hc.2
 exact floordiv_int (by omega) (by rw [Int.fdiv_eq_ediv_of_nonneg i (by omega)]; exact q) (.inl (PyProof.noPylong_small (by omega)))
theorem am8:OpR X (binaryOp .Mod) (rI (fun _ j=>0<j) fun i j=>.int (i % j)):=opI fun i j _ _ _ _ _ hc q=>by
 have h1:(0:Int)<j:=hc
 exact mod_int' (by omega) (by rw [Int.fmod_eq_emod_of_nonneg i (by omega)]; exact q)
theorem bz1:OpR X (binaryOp .Pow) (rI CPow fun i j=>.int (i ^ j.toNat)):=opI fun _ _ _ _ _ _ _ hc q=>pow_int_small hc.1 hc.2.1 hc.2.2 q
theorem bz2:OpR X (binaryOp .RShift) (rI (fun _ j=>0≤j) fun i j=>.int (i / 2 ^ j.toNat)):=opI fun i j _ _ _ _ _ hc q =>
 rshift_int hc (by rw [Int.fdiv_eq_ediv_of_nonneg i (b39 _)]; exact q)
theorem bz3:OpR X (binaryOp .BitAnd) (rI0 fun i j=>.int (Builtin.bitAnd i j)):=opI0 fun _ _ _ _ _ _ _ q=>and_int q
theorem unI {f:Value→Sem Value}{g:Int→Int}
 (rule:∀ (i:Int) (t:Tok) (s:Shared) (Q:Value→Shared→Prop) (E:Value→Shared→Prop),Q (.int (g i) s.toks) { s with toks:=s.toks+1 }→wpAny (model X.prog X.w) X.A (f (.int i t)) Q E s) :
 UnR X f (rU fun i=>.int (g i)):=by
 intro pins s σ H x v Q I rx h
 obtain ⟨i,rfl,q⟩:=h
 obtain ⟨t,rfl⟩:=rx
 exact rule i t s _ _ ⟨.int (g i),H,I.tok _,⟨_,rfl⟩,q⟩
theorem a64:UnR X (unaryOp .USub) (rU fun i=>.int (-i)):=unI fun _ _ _ _ _ q=>neg_int q
end
def scal:V→V→Bool
 | .non,.non=>true | .non,.int _=>true | .int _,.non=>true | .non,.bl _=>true | .bl _,.non=>true | .non,.str _=>true | .str _,.non=>true
 | .int _,.int _=>true | .bl _,.bl _=>true | .str _,.str _=>true | .byt _,.byt _=>true
 | .int _,.str _=>true | .str _,.int _=>true | .bl _,.str _=>true | .str _,.bl _=>true
 | _,_=>false
def rEq:R2:=fun x y H Q=>scal x y=true∧Q (.bl (decide (x=y))) H
def rNe:R2:=fun x y H Q=>scal x y=true∧Q (.bl (!decide (x=y))) H
theorem b68 {i j:Int}:decide (V.int i=V.int j)=(i == j):=by
 rw [Bool.eq_iff_iff]
 simp
theorem bm4 {i j:Bool}:decide (V.bl i=V.bl j)=(i == j):=by
 rw [Bool.eq_iff_iff]
 simp
theorem b69 {i j:Str}:decide (V.str i=V.str j)=(i == j):=by
 rw [Bool.eq_iff_iff]
 simp
theorem b70 {i j:Array UInt8}:decide (V.byt i=V.byt j)=(i.toList == j.toList):=by
 rw [Bool.eq_iff_iff]
 cases i
 cases j
 simp
section
variable {X:Cx}{a b c:Expr}{ta tb tc:TE}{pos:Pos}
theorem a37 {pins:List (Addr×Obj)}{σ:St} {H:Hp}{s:Shared}{Q:VK}{k k':Bool}(I:Inv X pins σ H s) (q:Q (.bl k) H) (e:k=k'):EP X pins σ Q (.bool k') s:=by
 subst e
 exact ⟨.bl k,H,I,rfl,q⟩
theorem a36:OpR X (compareOp .Eq) rEq:=by
 intro pins s σ H x y v u Q I rx ry h
 obtain ⟨hs,q⟩:=h
 cases x with
 | non =>
   cases rx
   cases y with
   | non=>cases ry; exact PySem.EqNone.eq_none_none (a37 I q (by simp))
   | bl j=>cases ry; exact PySem.EqNone.eq_none_bool (a37 I q (by simp))
   | int j=>obtain ⟨t',rfl⟩:=ry; exact PySem.EqNone.eq_none_int (a37 I q (by simp))
   | str j=>obtain ⟨t',rfl⟩:=ry; exact PySem.EqNone.eq_none_str (a37 I q (by simp))
   | _=>exact absurd (show false=true from hs) Bool.false_ne_true
 | bl i =>
   cases rx
   cases y with
   | non=>cases ry; exact PySem.EqNone.eq_bool_none (a37 I q (by simp))
   | bl j=>cases ry; exact eq_bool (a37 I q bm4)
   | str j=>obtain ⟨t',rfl⟩:=ry; exact PySem.EqMixed.eq_bool_str (a37 I q (by simp))
   | _=>exact absurd (show false=true from hs) Bool.false_ne_true
 | int i =>
   obtain ⟨t,rfl⟩:=rx
   cases y with
   | non=>cases ry; exact PySem.EqNone.eq_int_none (a37 I q (by simp))
   | int j=>obtain ⟨t',rfl⟩:=ry; exact eq_int (a37 I q b68)
   | str j=>obtain ⟨t',rfl⟩:=ry; exact PySem.EqMixed.eq_int_str (a37 I q (by simp))
   | _=>exact absurd (show false=true from hs) Bool.false_ne_true
 | str i =>
   obtain ⟨t,rfl⟩:=rx
   cases y with
   | non=>cases ry; exact PySem.EqNone.eq_str_none (a37 I q (by simp))
   | bl j=>cases ry; exact PySem.EqMixed.eq_str_bool (a37 I q (by simp))
   | int j=>obtain ⟨t',rfl⟩:=ry; exact PySem.EqMixed.eq_str_int (a37 I q (by simp))
   | str j=>obtain ⟨t',rfl⟩:=ry; exact eq_str (a37 I q b69)
   | _=>exact absurd (show false=true from hs) Bool.false_ne_true
 | byt i =>
   obtain ⟨t,rfl⟩:=rx
   cases y with
   | byt j=>obtain ⟨t',rfl⟩:=ry; exact PySem.W.eq_bytes (a37 I q b70)
   | _=>exact absurd (show false=true from hs) Bool.false_ne_true
 | _=>cases y <;> exact absurd (show false=true from hs) Bool.false_ne_true
theorem b71:OpR X (compareOp .NotEq) rNe:=by
 intro pins s σ H x y v u Q I rx ry h
 obtain ⟨hs,q⟩:=h
 cases x with
 | non =>
   cases rx
   cases y with
   | non=>cases ry; exact PySem.EqNone.ne_none_none (a37 I q (by simp))
   | bl j=>cases ry; exact PySem.EqNone.ne_none_bool (a37 I q (by simp))
   | int j=>obtain ⟨t',rfl⟩:=ry; exact PySem.EqNone.ne_none_int (a37 I q (by simp))
   | str j=>obtain ⟨t',rfl⟩:=ry; exact PySem.EqNone.ne_none_str (a37 I q (by simp))
   | _=>exact absurd (show false=true from hs) Bool.false_ne_true
 | bl i =>
   cases rx
   cases y with
   | non=>cases ry; exact PySem.EqNone.ne_bool_none (a37 I q (by simp))
   | bl j=>cases ry; exact ne_bool (a37 I q (congrArg not bm4))
   | str j=>obtain ⟨t',rfl⟩:=ry; exact PySem.EqMixed.ne_bool_str (a37 I q (by simp))
   | _=>exact absurd (show false=true from hs) Bool.false_ne_true
 | int i =>
   obtain ⟨t,rfl⟩:=rx
   cases y with
   | non=>cases ry; exact PySem.EqNone.ne_int_none (a37 I q (by simp))
   | int j=>obtain ⟨t',rfl⟩:=ry; exact ne_int (a37 I q (congrArg not b68))
   | str j=>obtain ⟨t',rfl⟩:=ry; exact PySem.EqMixed.ne_int_str (a37 I q (by simp))
   | _=>exact absurd (show false=true from hs) Bool.false_ne_true
 | str i =>
   obtain ⟨t,rfl⟩:=rx
   cases y with
   | non=>cases ry; exact PySem.EqNone.ne_str_none (a37 I q (by simp))
   | bl j=>cases ry; exact PySem.EqMixed.ne_str_bool (a37 I q (by simp))
   | int j=>obtain ⟨t',rfl⟩:=ry; exact PySem.EqMixed.ne_str_int (a37 I q (by simp))
   | str j=>obtain ⟨t',rfl⟩:=ry; exact ne_str (a37 I q (congrArg not b69))
   | _=>exact absurd (show false=true from hs) Bool.false_ne_true
 | byt i =>
   obtain ⟨t,rfl⟩:=rx
   cases y with
   | byt j=>obtain ⟨t',rfl⟩:=ry; exact PySem.W.ne_bytes (a37 I q (congrArg not b70))
   | _=>exact absurd (show false=true from hs) Bool.false_ne_true
 | _=>cases y <;> exact absurd (show false=true from hs) Bool.false_ne_true
theorem bz4:OpR X (compareOp .Lt) (rI0 fun i j=>.bl (decide (i<j))):=opB0 fun _ _ _ _ _ _ _ q=>lt_int q
theorem aw1:OpR X (compareOp .Gt) (rI0 fun i j=>.bl (decide (j<i))):=opB0 fun _ _ _ _ _ _ _ q=>gt_int q
theorem bz5:OpR X (compareOp .Is) (fun x y H Q=>y=.non∧Q (.bl (decide (x=.non))) H):=by
 intro pins s σ H x y v u Q I rx ry h
 obtain ⟨rfl,q⟩:=h
 cases ry
 refine is_none_gen (a37 I q ?_)
 cases x <;> first
  | (cases rx; rfl)
  | (obtain ⟨t,rfl⟩:=rx; rfl)
theorem bq7:OpR X (compareOp .IsNot) (fun x y H Q=>y=.non∧Q (.bl (!decide (x=.non))) H):=by
 intro pins s σ H x y v u Q I rx ry h
 obtain ⟨rfl,q⟩:=h
 cases ry
 refine isnot_none_gen (a37 I q ?_)
 cases x <;> first
  | (cases rx; rfl)
  | (obtain ⟨t,rfl⟩:=rx; rfl)
theorem nomark (b:Expr) {op:CmpOp}(h:op≠.In:=by decide) (h2:op≠.NotIn:=by decide):behindInMarks op b=false:=by
 have e1:(op == CmpOp.In)=false:=by cases op <;> first | rfl | exact absurd rfl h
 have e2:(op == CmpOp.NotIn)=false:=by cases op <;> first | rfl | exact absurd rfl h2
 cases b <;> simp [behindInMarks,e1,e2]
theorem aj9 {op:CmpOp}{r:R2}(ho:OpR X (compareOp op) r) (ha:PE X a ta) (hb:PE X b tb) (hm:behindInMarks op b=false):PE X (.Compare a [op] [b] pos) (tOp r ta tb):=by
 intro pins s σ H Q I h
 exact wpAny_Compare1 (binT ha hb I h fun v u s2 x y H2 I2 rx ry q=>ho pins s2 σ H2 x y v u Q I2 rx ry q) hm
def bz6 (t:TE):TT:=fun σ H Q=>t σ H fun x H'=>∃ k,x=.bl k∧Q k H'
theorem a07 {op:CmpOp}{r:R2}(ho:OpR X (compareOp op) r) (ha:PE X a ta) (hb:PE X b tb) (hm:behindInMarks op b=false):PT X (.Compare a [op] [b] pos) (bz6 (tOp r ta tb)):=by
 intro pins s σ H Q I h
 refine wpAny_isTrue_Compare1 (thn (ha pins s σ H _ I h) fun v s1 ⟨x,H1,I1,r1,q1⟩=>thn (hb pins s1 σ H1 _ I1 q1) fun u s2 ⟨y,H2,I2,r2,q2⟩ =>
  thn (ho pins s2 σ H2 x y v u _ I2 r1 r2 q2) fun c s3 ⟨z,H3,I3,r3,k,e,q3⟩=>?_) hm
 subst e
 cases r3
 exact wpAny_truthy_bool ⟨H3,I3,q3⟩
def TruV (K:PySem.W.Frag) (x:V) (H:Hp) (k:Bool):Prop :=
 match x with
 | .non=>k=false
 | .bl b=>k=b
 | .int i=>k=(i != 0)
 | .str y=>y.length≤sizeLine∧k=((y.length:Int) != 0)
 | .byt y=>y.size≤sizeLine∧k=((y.size:Int) != 0)
 | .ref p=>(∃ xs,SqL K H p xs∧k=!xs.isEmpty)∨(∃ xs,SqT K H p xs∧k=!xs.isEmpty)∨∃ kvs,H p=some (.dK kvs)∧k=!kvs.isEmpty
 | _=>False
theorem b40 {κ:Type} {kvs:List (κ×V)}{vs:List (κ×Value)}(r:KV kvs vs):(!vs.isEmpty)=!kvs.isEmpty:=by
 cases r <;> rfl
theorem am9 {xs:List V}{its:List Value}(r:Vals xs its):(!its.toArray.isEmpty)=!xs.isEmpty:=by
 cases r <;> simp
theorem ar8:(sizeLine:Nat)<2 ^ 63:=by rw [sizeLine_eq]; decide
theorem bz7:TruR X (fun x H Q=>∃ k,TruV X.K x H k∧Q k H):=by
 intro pins s σ H x v Q I rx h
 obtain ⟨k,e,q⟩:=h
 have hl:=ar8
 have hs:sizeLine=16777216:=sizeLine_eq
 cases x with
 | non =>
   cases rx
   have e':k=false:=e
   subst e'
   exact truthy_none ⟨H,I,q⟩
 | bl b =>
   cases rx
   have e':k=b:=e
   subst e'
   exact wpAny_truthy_bool ⟨H,I,q⟩
 | int i =>
   obtain ⟨t,rfl⟩:=rx
   have e':k=(i != 0):=e
   subst e'
   exact PySem.P.truthy_int ⟨H,I,q⟩
 | str y =>
   obtain ⟨t,rfl⟩:=rx
   obtain ⟨hy,e'⟩:y.length≤sizeLine∧k=((y.length:Int) != 0):=e
   subst e'
   exact PySem.P.truthy_str (by omega) ⟨H,I.tok _,q⟩
 | byt y =>
   obtain ⟨t,rfl⟩:=rx
   obtain ⟨hy,e'⟩:y.size≤sizeLine∧k=((y.size:Int) != 0):=e
   subst e'
   exact PySem.W.truthy_bytes (by omega) ⟨H,I.tok _,q⟩
 | ref p =>
   cases rx
   have e':(∃ xs,SqL X.K H p xs∧k=!xs.isEmpty)∨(∃ xs,SqT X.K H p xs∧k=!xs.isEmpty)∨∃ kvs,H p=some (.dK kvs)∧k=!kvs.isEmpty:=e
   rcases e' with ⟨xs,hx,e'⟩ | ⟨xs,hx,e'⟩ | ⟨kvs,hx,e'⟩
   · subst e'
     obtain ⟨its,r,pl,hz⟩:=I.list hx
     have hlen:=r.length
     exact wpAny_truthy_list pl.isList (by simp only [List.size_toArray]; omega) ⟨H,I.tok _,by rw [am9 r]; exact q⟩
   · subst e'
     obtain ⟨its,r,pl,hz⟩:=I.tuple hx
     have hlen:=r.length
     exact truthy_tuple pl (by simp only [List.size_toArray]; omega) ⟨H,I.tok _,by rw [am9 r]; exact q⟩
   · subst e'
     obtain ⟨hz,hS,vs,r,m⟩:kvs.length≤sizeLine∧(p == sysModules)=false∧∃ vs,KV kvs vs∧s.heap.DictOf (a52 X.prog X.w) p vs:=I.hok p _ hx
     have hlen:kvs.length=vs.length:=Paired.length r
     exact wpAny_truthy_dict hS m (by omega) ⟨H,I.tok _,by rw [b40 r]; exact q⟩
 | _=>exact (show False from e).elim
theorem bg7 (ha:PE X a ta) (he:∀ whole,isTrue a X.env whole=(do let v←whole; standAt a.pos; holding [v] (truthy v))) :
 PT X a (fun σ H Q=>ta σ H fun x H'=>∃ k,TruV X.K x H' k∧Q k H'):=by
 intro pins s σ H Q I h
 exact isTrue_plain (thn (ha pins s σ H _ I h) (by rintro v s1 ⟨x,H1,I1,r1,q1⟩; exact bz7 pins s1 σ H1 x v Q I1 r1 q1)) (he _)
theorem b41:OpR X (binaryOp .Add) (fun x y H Q=>∃ i j,x=.str i∧y=.str j∧i.length+j.length≤sizeLine∧Q (.str (i++j)) H):=by
 intro pins s σ H x y v u Q I rx ry h
 obtain ⟨i,j,rfl,rfl,hz,q⟩:=h
 obtain ⟨t,rfl⟩:=rx
 obtain ⟨t',rfl⟩:=ry
 exact add_str (fun t' tk=>⟨.str (i++j),H,I.tok _,⟨_,rfl⟩,q⟩) hz
theorem aw2 {x:V}{us:List Value}(r:Vals [x] us):∃ u,us=[u]∧RelV x u:=by
 cases r with
 | cons r1 r2=>cases r2; exact ⟨_,rfl,r1⟩
theorem ca1 {x y:V}{us:List Value}(r:Vals [x,y] us):∃ u w',us=[u,w']∧RelV x u∧RelV y w':=by
 cases r with
 | cons r1 r2 =>
   cases r2 with
   | cons r3 r4=>cases r4; exact ⟨_,_,rfl,r1,r3⟩
theorem az6:CallR X (.builtin "abs") (fun xs H Q=>∃ i,xs=[.int i]∧Q (.int (if i<0 then -i else i)) H):=by
 intro pins s σ H xs us Q I r h
 obtain ⟨i,rfl,q⟩:=h
 obtain ⟨u,rfl,t,rfl⟩:=aw2 r
 exact call_abs_int fun u tk=>⟨.int (if i<0 then -i else i),H,I.tok _,⟨_,rfl⟩,q⟩
def LenV (K:PySem.W.Frag) (x:V) (H:Hp) (n:Nat):Prop :=
 match x with
 | .str y=>y.length≤sizeLine∧n=y.length
 | .byt y=>y.size≤sizeLine∧n=y.size
 | .ref p=>(∃ xs,SqL K H p xs∧n=xs.length)∨∃ xs,SqT K H p xs∧n=xs.length
 | _=>False
theorem bg8:CallR X (.builtin "len") (fun xs H Q=>∃ x n,xs=[x]∧LenV X.K x H n∧Q (.int n) H):=by
 intro pins s σ H xs us Q I r h
 obtain ⟨x,n,rfl,e,q⟩:=h
 obtain ⟨u,rfl,rx⟩:=aw2 r
 have hl:=ar8
 have hs:sizeLine=16777216:=sizeLine_eq
 cases x with
 | str y =>
   obtain ⟨t,rfl⟩:=rx
   obtain ⟨hy,e'⟩:y.length≤sizeLine∧n=y.length:=e
   subst e'
   exact len_str (by omega) ⟨.int _,H,I.tok _,⟨_,rfl⟩,q⟩
 | byt y =>
   obtain ⟨t,rfl⟩:=rx
   obtain ⟨hy,e'⟩:y.size≤sizeLine∧n=y.size:=e
   subst e'
   exact PySem.W.len_bytes (by omega) ⟨.int _,H,I.tok _,⟨_,rfl⟩,q⟩
 | ref p =>
   cases rx
   have e':(∃ xs,SqL X.K H p xs∧n=xs.length)∨∃ xs,SqT X.K H p xs∧n=xs.length:=e
   rcases e' with ⟨xs,hx,e'⟩ | ⟨xs,hx,e'⟩
   · subst e'
     obtain ⟨its,r',pl,hz⟩:=I.list hx
     have hlen:=r'.length
     exact Calls.call_len_list pl.isList (by simp only [List.size_toArray]; omega) ⟨.int xs.length,H,I.tok _,⟨_,by simp only [List.size_toArray]; rw [hlen]⟩,q⟩
   · subst e'
     obtain ⟨its,r',pl,hz⟩:=I.tuple hx
     have hlen:=r'.length
     exact len_tuple pl (by simp only [List.size_toArray]; omega) ⟨.int xs.length,H,I.tok _,⟨_,by simp only [List.size_toArray]; rw [hlen]⟩,q⟩
 | _=>exact (show False from e).elim
end
structure ObjM (h:Heap) (x dx C:Addr) (mA:Str→Option Value):Prop where
 obj:h.get? x=some (PySem.W.instObj C dx)
 ns:h.Ns1 dx mA
 ne:dx≠x
theorem b72 {h:Heap}{dx:Addr}{mA:Str→Option Value}(n:h.Ns1 dx mA):∃ od,h.get? dx=some od∧∀ name,PySem.W.lookIn name od=some (mA name):=by
 obtain ⟨o,es,ep,ho,hd,hk,_,hm⟩:=n
 refine ⟨o,ho,fun name=>?_⟩
 have e:=hm name
 unfold nsFind findBy at e
 rw [← Array.find?_toList] at e
 unfold PySem.W.lookIn
 rw [hd]
 dsimp only
 split
 · rename_i y q
   rw [q] at e
   exact congrArg some e
 · rename_i q
   rw [q] at e
   have a:es.toList.any (·.refKey)=false:=by
    rw [List.any_eq_false]
    intro y hy
    obtain ⟨z,t,hkey⟩:=hk y (Array.mem_toList_iff.mp hy)
    simp [DictEntry.refKey,hkey]
   have a':¬ es.toList.any (·.refKey)=true:=by rw [a]; exact Bool.false_ne_true
   rw [if_neg a']
   exact congrArg some e
theorem ObjM.look {h:Heap}{x dx C:Addr}{mA:Str→Option Value}(I:ObjM h x dx C mA):∃ od,PySem.W.InstAt h x (PySem.W.instObj C dx) C (some od)∧∀ name,PySem.W.lookIn name od=some (mA name) :=
 let ⟨od,ho,hl⟩:=b72 I.ns
 ⟨od,⟨I.obj,rfl,rfl,ho⟩,hl⟩
section
variable {prog:Program}{w:World}{A:Around}{E:Value→Shared→Prop}{s:Shared}{K:PySem.W.Frag}{x dx C f:Addr}{mA:Str→Option Value}{name:Str}{v:Value}
theorem bq8 {expr:Bool}{Q:Value→Shared→Prop}(X:K.In s.heap) (I:ObjM s.heap x dx C mA) (hg:PySem.W.plainGet K C name=true) (hh:PySem.W.hasDictIn K C=true)
 (ha:PySem.W.findIn K (.ref C) name=some none) (hv:mA name=some v) (hv':PySem.W.handedIn v=true) (h:Q v { s with toks:=s.toks+1 }) :
 wpAny (model prog w) A (getAttr (.ref x) name expr) Q E s:=by
 obtain ⟨od,J,hl⟩:=I.look
 exact PySem.W.get_value X J (PySem.W.plainGet_of hg).1 (PySem.W.findObj_own hh ha rfl (by rw [hl,hv])) hv' h
theorem bg9 {pl:Sem Bool}{Q:Value×List Value→Shared→Prop}(X:K.In s.heap) (I:ObjM s.heap x dx C mA) (hg:PySem.W.plainGet K C name=true)
 (hf:PySem.W.findIn K (.ref C) name=some (some (.ref f))) (ht:PySem.W.isFn K (.ref f)=true) (hv:mA name=none) (h:Q (.ref f,[.ref x]) s) :
 wpAny (model prog w) A (getMethod (.ref x) name pl) Q E s:=by
 obtain ⟨od,J,hl⟩:=I.look
 exact PySem.W.method_fn X J (PySem.W.plainGet_of hg).1 (PySem.W.plainGet_of hg).2 hf (beq_iff_eq.mp ht) (by show (PySem.W.lookIn name od).map (·.isSome)=some false; rw [hl,hv]; rfl) h
theorem bq9 {ns:List Str}{Q:Unit→Shared→Prop}(X:K.In s.heap) (I:ObjM s.heap x dx C mA)
 (hs:PySem.W.findIn K (.ref C) "__setattr__"=some (some (.builtin "object.__setattr__"))) (hp:PySem.W.plainOver K C=true) (ht:PySem.W.takerIn K C name=some none) (hh:PySem.W.hasDictIn K C=true)
 (hw:PySem.Within mA ns) (hsz:ns.length≤sizeLine)
 (h:∀ h',ObjM h' x dx C (fun y=>if y=name then some v else mA y)→Heap.SameBut dx s.heap h'→Q () { s with heap:=h',toks:=s.toks+2 }) :
 wpAny (model prog w) A (setAttr (.ref x) name v) Q E s:=by
 obtain ⟨od,J,hl⟩:=I.look
 refine PySem.W.set_plain X J hs (PySem.W.osa_open (s:={ s with toks:=s.toks+1 }) (r:=none) X J hp ht fun b=>?_)
 obtain ⟨cd,hc,hd'⟩:=PySem.W.any_some hh
 have hx:s.heap.get? x=some ⟨.ref C,some dx,.plain,#[]⟩:=I.obj
 refine wpAny_bind (wpAny_pure (wpAny_bind (wpAny_bind (wpAny_loadPart hx (wpAny_bind (PySem.W.Looks.here (s:={ s with toks:=s.toks+1 }) (PySem.W.looks_clsIn X hc) ?_))))))
 rw [hd']
 refine wpAny_pure (a:=some dx) (wpAny_bind (wpAny_pure (wpAny_bind ?_)))
 refine wpAny_nsSet1 (s:={ s with toks:=s.toks+1 }) I.ns fun h' hn2 hs2=>?_
 obtain ⟨oD,esD,epD,hoD,hdD,hcD⟩:=hn2.count (PySem.Within.cons name v hw)
 refine wpAny_bind (wpAny_lookBehind hoD (by rw [hdD]; exact pastItsLine_dict (Nat.le_trans hcD (by rw [List.length_cons]; omega))) ?_)
 exact wpAny_pure (h _ ⟨(hs2.2 _ (Ne.symm I.ne)).trans I.obj,hn2,I.ne⟩ hs2)
theorem bh0 {R:Result→Shared→Prop}{vs:List Value}{kw:List (Str×Value)}(X:K.In s.heap) (hm:PySem.W.makesIn K C=true)
 (hi:PySem.W.findIn K (.ref C) "__init__"=some (some (.ref f))) (hf:PySem.W.typeIn K (.ref f)=some (.type "function"))
 (h:codeAny (model prog w) (A.under (.builtin "type.__call__" ⟨.ref C::vs,kw⟩)) (.call (.ref f) ⟨.ref (s.heap.objs.size+1)::vs,kw⟩) (PySem.W.InitBack (s.heap.objs.size+1) R)
  { s with heap:=(s.heap.push PySem.W.emptyDict).push (PySem.W.instObj C s.heap.objs.size) }) :
 codeAny (model prog w) A (.call (.ref C) ⟨vs,kw⟩) R s:=by
 obtain ⟨hh,g,d,t,os⟩:=s
 exact PySem.W.make_core (PySem.W.makes_of X hm) (PySem.W.looks_findIn X hi) (fun self=>PySem.W.bind_fn X self hf) (.inl rfl) h
end
def putF (f:Str) (v:V):List (Str×V)→List (Str×V)
 | []=>[(f,v)]
 | (g,x)::r=>if g=f then (g,v)::r else (g,x)::putF f v r
theorem a35 (f g:Str) (v:V):∀ fs:List (Str×V),(putF f v fs).lookup g=if g=f then some v else fs.lookup g
 | []=>by
   show List.lookup g [(f,v)]=_
   by_cases h:g=f
   · have hb:(g == f)=true:=beq_iff_eq.mpr h
     simp only [List.lookup,hb,if_pos h]
   · have hb:(g == f)=false:=beq_eq_false_iff_ne.mpr h
     simp only [List.lookup,hb,if_neg h]
 | (k,x)::r=>by
   have ih:=a35 f g v r
   rw [show putF f v ((k,x)::r)=(if k=f then (k,v)::r else (k,x)::putF f v r) from rfl]
   by_cases hk:k=f
   · rw [if_pos hk]
     by_cases h:g=k
     · have hb:(g == k)=true:=beq_iff_eq.mpr h
       simp only [List.lookup,hb,if_pos (h.trans hk)]
     · have hb:(g == k)=false:=beq_eq_false_iff_ne.mpr h
       simp only [List.lookup,hb,if_neg (fun e:g=f=>h (e.trans hk.symm))]
   · rw [if_neg hk]
     by_cases h:g=k
     · have hb:(g == k)=true:=beq_iff_eq.mpr h
       simp only [List.lookup,hb,if_neg (fun e:g=f=>hk (h.symm.trans e))]
     · have hb:(g == k)=false:=beq_eq_false_iff_ne.mpr h
       simp only [List.lookup,hb]
       exact ih
theorem ak0 (f:Str) (v:V):∀ fs:List (Str×V),f∈(putF f v fs).map (·.1)∧∀ g,g∈fs.map (·.1)→g∈(putF f v fs).map (·.1)
 | []=>⟨by simp [putF],fun g h=>by simp at h⟩
 | (k,x)::r=>by
   obtain ⟨i1,i2⟩:=ak0 f v r
   rw [show putF f v ((k,x)::r)=(if k=f then (k,v)::r else (k,x)::putF f v r) from rfl]
   by_cases hk:k=f
   · rw [if_pos hk]
     subst hk
     exact ⟨by simp,fun g h=>by simpa using h⟩
   · rw [if_neg hk]
     refine ⟨?_,fun g h=>?_⟩
     · rw [List.map_cons]
       exact List.mem_cons_of_mem _ i1
     · rw [List.map_cons] at h ⊢
       rcases List.mem_cons.mp h with e | e
       · exact List.mem_cons.mpr (.inl e)
       · exact List.mem_cons_of_mem _ (i2 g e)
theorem a47 (f:Str) (v:V):∀ fs:List (Str×V),(putF f v fs).length≤fs.length+1
 | []=>by simp [putF]
 | (k,x)::r=>by
   have ih:=a47 f v r
   rw [show putF f v ((k,x)::r)=(if k=f then (k,v)::r else (k,x)::putF f v r) from rfl]
   by_cases hk:k=f
   · rw [if_pos hk,List.length_cons,List.length_cons]; omega
   · rw [if_neg hk,List.length_cons,List.length_cons]; omega
theorem RelO.some_of {v:V}{o:Option Value}(r:RelO (some v) o):∃ u,o=some u∧RelV v u:=by
 cases o with
 | none=>exact (show False from r).elim
 | some u=>exact ⟨u,rfl,r⟩
theorem RelO.none_of {o:Option Value}(r:RelO none o):o=none:=by
 cases o with
 | none=>rfl
 | some u=>exact (show False from r).elim
theorem b73 {v:V}{u:Value}(r:RelV v u):PySem.W.handedIn u=true:=by
 cases v with
 | non=>cases (show u=Value.none from r); rfl
 | bl b=>cases (show u=Value.bool b from r); rfl
 | int i=>obtain ⟨t,e⟩:=(show ∃ t,u=Value.int i t from r); cases e; rfl
 | str x=>obtain ⟨t,e⟩:=(show ∃ t,u=Value.str x t from r); cases e; rfl
 | byt b=>obtain ⟨t,e⟩:=(show ∃ t,u=Value.bytes b t from r); cases e; rfl
 | flt b=>obtain ⟨t,e⟩:=(show ∃ t,u=Value.float b t from r); cases e; rfl
 | ref a=>cases (show u=Value.ref a from r); rfl
 | ty n=>cases (show u=Value.type n from r); rfl
section
variable {P:Program}{w:World}{H H':Hp}{h h':Heap}{a C dx:Addr}{fs fs':List (Str×V)}
theorem aw3 (hok:HOk P w H h) (e:H a=some (.ins C dx fs)):∃ mA,ObjM h a dx C mA∧(∀ f,RelO (fs.lookup f) (mA f))∧PySem.Within mA (fs.map (·.1))∧fs.length≤1000∧H dx=some (.own a):=by
 obtain ⟨d,z,ne,ob,mA,n,r,q⟩:=(show ObjOk P w H h a (.ins C dx fs) from hok a _ e)
 exact ⟨mA,⟨ob,n,ne⟩,r,q,z,d⟩
end
structure Cls (K:PySem.W.Frag) (C:Addr):Prop where
 pg:PySem.W.plainGet K C Str.empty=true
 hd:PySem.W.hasDictIn K C=true
 po:PySem.W.plainOver K C=true
 sa:PySem.W.findIn K (.ref C) "__setattr__"=some (some (.builtin "object.__setattr__"))
theorem Cls.get {K:PySem.W.Frag}{C:Addr}(c:Cls K C) (f:Str):PySem.W.plainGet K C f=true:=c.pg
def NoAttr (K:PySem.W.Frag) (C:Addr) (f:Str):Prop:=PySem.W.findIn K (.ref C) f=some none
theorem NoAttr.taker {K:PySem.W.Frag}{C:Addr}{f:Str}(n:NoAttr K C f):PySem.W.takerIn K C f=some none:=by
 unfold PySem.W.takerIn
 rw [show PySem.W.findIn K (.ref C) f=some none from n]
 rfl
structure Meth (K:PySem.W.Frag) (C:Addr) (m:Str) (f:Addr):Prop where
 at_:PySem.W.findIn K (.ref C) m=some (some (.ref f))
 fn:PySem.W.isFn K (.ref f)=true
 kp:PySem.W.keepIn K (.ref f)=true
section
variable {X:Cx}{pins:List (Addr×Obj)}{σ:St} {H:Hp}{s:Shared}{a C dx:Addr}{fs:List (Str×V)}{f:Str}{v:V}{A:Around}{E:Value→Shared→Prop}
theorem b42 {b:Bool}{Q:Value→Shared→Prop}(I:Inv X pins σ H s) (e:H a=some (.ins C dx fs)) (c:Cls X.K C) (n:NoAttr X.K C f) (l:fs.lookup f=some v)
 (h:∀ u s',Inv X pins σ H s'→RelV v u→Q u s'):wpAny (model X.prog X.w) A (getAttr (.ref a) f b) Q E s:=by
 obtain ⟨mA,O,r,_,_,_⟩:=aw3 I.hok e
 obtain ⟨u,hu,ru⟩:=RelO.some_of (v:=v) (o:=mA f) (by rw [← l]; exact r f)
 exact bq8 I.kIn O (c.get f) c.hd n hu (b73 ru) (h u _ (I.tok _) ru)
theorem b43 {m:Str}{g:Addr}{pl:Sem Bool}{Q:Value×List Value→Shared→Prop}(I:Inv X pins σ H s) (e:H a=some (.ins C dx fs)) (c:Cls X.K C) (k:Meth X.K C m g) (l:fs.lookup m=none)
 (h:Q (.ref g,[.ref a]) s):wpAny (model X.prog X.w) A (getMethod (.ref a) m pl) Q E s:=by
 obtain ⟨mA,O,r,_,_,_⟩:=aw3 I.hok e
 have hn:mA m=none:=RelO.none_of (by rw [← l]; exact r m)
 exact bg9 I.kIn O (c.get m) k.at_ k.fn hn h
theorem b44 {y:V}{u:Value}{Q:Unit→Shared→Prop}(I:Inv X pins σ H s) (e:H a=some (.ins C dx fs)) (c:Cls X.K C) (n:NoAttr X.K C f) (hl:fs.length<1000) (ry:RelV y u)
 (h:∀ s',Inv X pins σ (upd H a (.ins C dx (putF f y fs))) s'→Q () s'):wpAny (model X.prog X.w) A (setAttr (.ref a) f u) Q E s:=by
 obtain ⟨mA,O,r,wi,_,ho⟩:=aw3 I.hok e
 have hz:(fs.map (·.1)).length≤sizeLine:=by rw [List.length_map,sizeLine_eq]; omega
 refine bq9 I.kIn O c.sa c.po n.taker c.hd wi hz fun h' O' sb=>h _ ?_
 have hd:∃ o,h'.get? dx=some o:=let ⟨o,_,_,e',_⟩:=O'.ns; ⟨o,e'⟩
 refine I.write (x:=a) (e:=dx) (by rw [e]; exact True.intro) (.inr ho) (fun b q hb z=>(sb.2 b hb).trans z) hd ?_
 refine ⟨by rw [a12 O.ne]; exact ho,?_,O.ne,O'.obj,_,O'.ns,fun g=>?_,fun g hg=>?_⟩
 · have:=a47 f y fs; omega
 · show RelO ((putF f y fs).lookup g) (if g=f then some u else mA g)
   rw [a35]
   by_cases q:g=f
   · rw [if_pos q,if_pos q]; exact ry
   · rw [if_neg q,if_neg q]; exact r g
 · by_cases q:g=f
   · rw [q]; exact (ak0 f y fs).1
   · refine (ak0 f y fs).2 g (wi g fun z=>hg ?_)
     show (if g=f then some u else mA g)=none
     rw [if_neg q]; exact z
theorem Inv.made (I:Inv X pins σ H s):Inv X pins σ (upd (upd H s.heap.objs.size (.own (s.heap.objs.size+1))) (s.heap.objs.size+1) (.ins C s.heap.objs.size []))
 { s with heap:=(s.heap.push PySem.W.emptyDict).push (PySem.W.instObj C s.heap.objs.size) }:=by
 have e1:(s.heap.push PySem.W.emptyDict).get? s.heap.objs.size=some PySem.W.emptyDict:=Heap.get?_push_size s.heap rfl
 have e2:((s.heap.push PySem.W.emptyDict).push (PySem.W.instObj C s.heap.objs.size)).get? (s.heap.objs.size+1)=some (PySem.W.instObj C s.heap.objs.size):=by
  have:=Heap.get?_push_size (s.heap.push PySem.W.emptyDict) (o:=PySem.W.instObj C s.heap.objs.size) rfl
  rwa [Heap.size_push] at this
 have e3:(s.heap.push PySem.W.emptyDict).Ns s.heap.objs.size (fun _=>none):=⟨PySem.W.emptyDict,#[],_,e1,rfl,(fun e he=>absurd he (by simp)),fun _=>rfl⟩
 have I1:=I.laid (a:=s.heap.objs.size) (o:=.own (s.heap.objs.size+1)) (h':=s.heap.push PySem.W.emptyDict) (t':=s.toks) (fun b u q=>Heap.get?_push_of_some _ q) (Nat.le_refl _) ⟨_,e1⟩
 refine I1.laid (a:=s.heap.objs.size+1) (o:=.ins C s.heap.objs.size []) (t':=s.toks) (fun b u q=>Heap.get?_push_of_some _ q) (Nat.le_of_eq (Heap.size_push _ _)) ?_
 have ne:s.heap.objs.size≠s.heap.objs.size+1:=Nat.ne_of_lt (Nat.lt_succ_self _)
 refine ⟨by rw [a12 ne,a17],Nat.zero_le _,ne,e2,fun _=>none,(Heap.Ns1.of_empty e3).at fun o q=>Heap.get?_push_of_some _ q,fun _=>True.intro,fun y hy=>absurd rfl hy⟩
theorem br0 {prog:Program}{w:World}{env:Env}{e:Expr}{f:Str}{pos:Pos}{s:Shared}{Q:Value→Shared→Prop}(hb:attributeBase e f env (eval e env)=eval e env)
 (h:wpAny (model prog w) A (eval e env) (fun o s₁=>wpAny (model prog w) A (getAttr o f true) Q E s₁) E s):wpAny (model prog w) A (eval (.Attribute e f pos) env) Q E s :=
 Attribute_any_ h (by rw [arm_eval_Attribute,hb])
end
def tFld (K:PySem.W.Frag) (ta:TE) (f:Str):TE:=fun σ H Q=>ta σ H fun x H1=>∃ a C dx fs v,x=.ref a∧H1 a=some (.ins C dx fs)∧Cls K C∧NoAttr K C f∧fs.lookup f=some v∧Q v H1
def sFld (K:PySem.W.Frag) (ta tv:TE) (f:Str):TS:=fun D σ H=>tv σ H fun y H1=>ta σ H1 fun x H2=>∃ a C dx fs,x=.ref a∧H2 a=some (.ins C dx fs)∧Cls K C∧NoAttr K C f∧fs.length<1000 ∧
 D.nx σ (upd H2 a (.ins C dx (putF f y fs)))
section
variable {X:Cx}{o e value:Expr}{f:Str}{pos pos' tpos:Pos}{ta tv:TE}
theorem bz8 (he:PE X e ta) (hb:attributeBase e f X.env (eval e X.env)=eval e X.env):PE X (.Attribute e f pos) (tFld X.K ta f):=by
 intro pins s σ H Q I h
 refine br0 hb (thn (he pins s σ H _ I h) ?_)
 rintro u s1 ⟨x,H1,I1,rx,a,C,dx,fs,v,ex,ea,c,n,l,q⟩
 subst ex
 obtain rfl:u=Value.ref a:=rx
 exact b42 I1 ea c n l fun u' s2 I2 ru=>⟨v,H1,I2,ru,q⟩
theorem bz9 (ha:PE X o ta) (hv:PE X value tv) (hs:swapsWith value (some (.Attribute o f pos')) pos.line X.env=pure false):PS X (.Assign [.Attribute o f pos'] value pos) (sFld X.K ta tv f):=by
 intro pins s σ H D I h
 refine plainObj_wpAny_Assign_Attribute (thn (hv pins s σ H _ I h) ?_) hs
 rintro u s1 ⟨y,H1,I1,ry,q⟩
 refine thn (ha pins s1 σ H1 _ I1 q) ?_
 rintro ov s2 ⟨x,H2,I2,rx,a,C,dx,fs,ex,ea,c,n,l,q2⟩
 subst ex
 obtain rfl:ov=Value.ref a:=rx
 exact b44 I2 ea c n l ry fun s3 I3=>⟨σ,_,I3,q2⟩
end
section
variable {X:Cx}{pins:List (Addr×Obj)}{σ:St} {H:Hp}{s:Shared}{A:Around}{E:Value→Shared→Prop}{Q:Value→Shared→Prop}{c:Value}{b:Bool}
end
structure Room (k:Nat) (A:Around):Prop where
 hd:A.handled=none
 dp:A.depth+3*k+5<recursionLimit
 un:A.units+16*k+200<cLine
theorem Room.mono {j k:Nat}{A:Around}(r:Room k A) (h:j≤k):Room j A:=⟨r.hd,by have:=r.dp; omega,by have:=r.un; omega⟩
theorem Room.deeper {k:Nat}{A:Around}(r:Room (k+1) A) (env:Env):Room k (A.deeper env) :=
 ⟨r.hd,by have:=r.dp; show A.depth+1+3*k+5<_; omega,by have:=r.un; show A.units+3+16*k+200<_; omega⟩
theorem b45 {A:Around}{C:Addr}{us:List Value}{kw:List (Str×Value)}:(A.under (.builtin "type.__call__" ⟨.ref C::us,kw⟩)).depth=A.depth+1:=by
 first | rfl | simp [Around.under,Code.weight,Code.isCreation,Code.isGuard,Code.isCaller,Code.frames,Code.isFrame,guardIds]
theorem b46 {A:Around}{C:Addr}{us:List Value}{kw:List (Str×Value)}:(A.under (.builtin "type.__call__" ⟨.ref C::us,kw⟩)).units=A.units+1:=by
 first | rfl | simp [Around.under,Code.cUnits,Code.frames,Code.isFrame]
theorem Room.make {k:Nat}{A:Around}(r:Room (k+1) A) (C:Addr) (us:List Value) (kw:List (Str×Value)):Room k (A.under (.builtin "type.__call__" ⟨.ref C::us,kw⟩)) :=
 ⟨r.hd,by have:=r.dp; rw [b45]; omega,by have:=r.un; rw [b46]; omega⟩
theorem Room.depth {k:Nat}{A:Around}(r:Room k A):A.depth<recursionLimit:=by have:=r.dp; omega
theorem Room.units {k:Nat}{A:Around}(r:Room k A):A.units+64<cLine:=by have:=r.un; omega
def tNil:TA:=fun _ H Q=>Q [] H
def tCons (ta:TE) (tr:TA):TA:=fun σ H Q=>ta σ H fun x H1=>tr σ H1 fun xs H2=>Q (x::xs) H2
section
variable {X:Cx}{e:Expr}{es:List Expr}{te:TE}{t:TA}{pos:Pos}
theorem a01:PA X [] tNil:=fun _ _ _ _ H Q I h=>Calls.spliced_nil ⟨[],H,I,.nil,h⟩
theorem a00 (ha:PE X e te) (hr:PA X es t) (hs:starEach (e::es) X.env=(false,eval e X.env)::starEach es X.env:=by rfl):PA X (e::es) (tCons te t):=by
 intro pos pins s σ H Q I h
 rw [hs]
 show wpAny _ _ (spliced ((false,eval e X.env)::backTo pos (starEach es X.env))) _ _ s
 refine Calls.spliced_cons (thn (ha pins s σ H _ I h) ?_)
 rintro u s1 ⟨x,H1,I1,r1,q1⟩
 exact thn (hr pos pins s1 σ H1 _ I1 q1) (by rintro us s2 ⟨xs,H2,I2,r2,q2⟩; exact ⟨x::xs,H2,I2,.cons r1 r2,q2⟩)
end
abbrev Sp:=List V→Hp→VK→XK→Prop
abbrev CXT:=List Env→Hp→Shared→XK→Value→Shared→Prop
structure Env0 (P:Program) (w:World) (K:PySem.W.Frag) (mg:Str→Option Value) (base:Heap) (A:Around) (outer:List Env) (s:Shared) (H:Hp):Prop where
 frames:A.frames=some outer
 mod:Mod K mg base
 bs:∀ b o,base.get? b=some o→s.heap.get? b=some o∧H b=none
 bsz:base.objs.size≤s.heap.objs.size
 funs:s.heap.FunFrames base outer
 frf:∀ b∈frs outer,H b=none
 hok:HOk P w H s.heap
 bare:AllBare s.gens
def CE (outer:List Env) (P:Program) (w:World) (H:Hp) (s:Shared) (Q:VK) (u:Value) (s':Shared):Prop :=
 ∃ v H',s'.os=s.os∧AllBare s'.gens∧Un (frs outer) [] H H' s.heap s'.heap∧HOk P w H' s'.heap∧RelV v u∧Q v H'
def CR (CX:CXT) (outer:List Env) (P:Program) (w:World) (H:Hp) (s:Shared) (Q:VK) (E:XK) (r:Result) (s':Shared):Prop :=
 match r with
 | .ok (.ret u)=>CE outer P w H s Q u s'
 | .ok _=>False
 | .error e=>CX outer H s E e s'
structure FnOk (P:Program) (w:World) (K:PySem.W.Frag) (mg:Str→Option Value) (base:Heap) (CX:CXT) (k:Nat) (f:Addr) (fd:FuncData) (ps:List Str) (sp:Sp):Prop where
 len:∀ vs H Q E,sp vs H Q E→vs.length=ps.length
 run:∀ (A:Around) (outer:List Env) (s:Shared) (H:Hp) (args:Args) (us:List Value) (vs:List V) (Q:VK) (E:XK),Room k A→Env0 P w K mg base A outer s H→BindsTo s fd args (ps.zip us)→Vals vs us→sp vs H Q E →
  codeAny (model P w) A (.call (.ref f) args) (CR CX outer P w H s Q E) s
theorem Env0.make {P:Program}{w:World}{K:PySem.W.Frag}{mg:Str→Option Value}{base:Heap}{A:Around}{outer:List Env}{s:Shared}{H:Hp}(e:Env0 P w K mg base A outer s H) (C:Addr) (us:List Value) (kw:List (Str×Value)) :
 Env0 P w K mg base (A.under (.builtin "type.__call__" ⟨.ref C::us,kw⟩)) outer s H:=⟨by first | exact e.frames | (simpa [Around.under,Code.envs,Code.isFrame,pushEnvs] using e.frames),e.mod,e.bs,e.bsz,e.funs,e.frf,e.hok,e.bare⟩
section
variable {X:Cx}{pins:List (Addr×Obj)}{σ:St} {H:Hp}{s s':Shared}
theorem Inv.env0 (I:Inv X pins σ H s):Env0 X.prog X.w X.K X.mg X.base X.A X.stack s H :=
 ⟨I.ok.frames,I.ok.mod,I.bs,Nat.le_trans I.ok.bsz I.sz,I.stack,I.stkFree,I.hok,I.bare⟩
theorem Inv.after {Q:VK}{u:Value}(I:Inv X pins σ H s) (h:CE X.stack X.prog X.w H s Q u s'):EP X pins σ Q u s':=by
 obtain ⟨v,H',os,bare,un,hok,r,q⟩:=h
 obtain ⟨hh,g,d,t,os'⟩:=s'
 obtain rfl:os'=s.os:=os
 exact ⟨v,H',I.call (h':=hh) (g':=g) (d':=d) (t':=t) (ch:=[]) un hok bare (fun b z=>absurd z (by simp)),r,q⟩
end
def c00 (sp:Sp) (dvs:List V) (E:XK) (t:TA):TE:=fun σ H Q=>t σ H fun vs H1=>sp (vs++dvs) H1 Q E
def c01 (C:Addr) (m:Str) (sp:Sp) (dvs:List V) (E:XK) (ta:TE) (t:TA):TE:=fun σ H Q=>ta σ H fun x H1=>∃ a dx fs,x=.ref a∧H1 a=some (.ins C dx fs)∧fs.lookup m=none ∧
 t σ H1 fun vs H2=>sp (x::(vs++dvs)) H2 Q E
def c02 (C:Addr) (sp:Sp) (dvs:List V) (E:XK) (t:TA):TE:=fun σ H Q=>t σ H fun vs H1=>∀ x dx,H1 x=none→H1 dx=none→dx≠x →
 sp (.ref x::(vs++dvs)) (upd (upd H1 dx (.own x)) x (.ins C dx [])) (fun v H2=>v=.non∧Q (.ref x) H2) E
def Binds (K:PySem.W.Frag) (fd:FuncData) (ps:List Str) (ds:List Value):Prop :=
 ∀ (s:Shared) (us:List Value),K.In s.heap→(us++ds).length=ps.length→BindsTo s fd ⟨us,[]⟩ (ps.zip (us++ds))
theorem Binds.all {K:PySem.W.Frag}{fd:FuncData}{ps:List Str}(h:∀ us:List Value,us.length=ps.length→bindArgs fd ⟨us,[]⟩=pure (ps.zip us)):Binds K fd ps []:=fun s us _ hl=>by
 rw [List.append_nil] at hl ⊢
 exact .of_eq (h us hl)
def an0 (CX:CXT) (X:Cx) (E:XK):Prop:=∀ (pins:List (Addr×Obj)) (σ:St) (H:Hp) (s:Shared) (e:Value) (s':Shared),Inv X pins σ H s→CX X.stack H s E e s'→X.xe e s'
section
variable {X:Cx}{CX:CXT}{k:Nat}{f C:Addr}{fd:FuncData}{ps:List Str}{sp:Sp}{dvs:List V}{ds:List Value}{E:XK}{x m:Str}{p pos apos:Pos}{e o:Expr}{es:List Expr}{ta:TE}{t:TA}
theorem bm5 {pins:List (Addr×Obj)}{σ:St} {H:Hp}{s:Shared}{Q:VK}{us:List Value}{vs:List V}(F:FnOk X.prog X.w X.K X.mg X.base CX k f fd ps sp) (hr:Room k X.A) (hb:Binds X.K fd ps ds) (hd:Vals dvs ds) (hx:an0 CX X E)
 (I:Inv X pins σ H s) (r:Vals vs us) (h:sp (vs++dvs) H Q E):wpAny (model X.prog X.w) X.A (call (.ref f) us) (EP X pins σ Q) X.xe s:=by
 have r2:Vals (vs++dvs) (us++ds):=r.append hd
 have hl:(us++ds).length=ps.length:=by rw [← r2.length]; exact F.len _ _ _ _ h
 refine wpAny_call (codeAny_mono (F.run X.A X.stack s H ⟨us,[]⟩ (us++ds) (vs++dvs) Q E hr I.env0 (hb s us I.kIn hl) r2 h) fun r s' hq=>?_)
 cases r with
 | error e=>exact hx pins σ H s e s' I hq
 | ok fl =>
   cases fl with
   | ret u=>exact I.after hq
   | next=>exact False.elim hq
   | brk=>exact False.elim hq
   | cont=>exact False.elim hq
theorem a09 (F:FnOk X.prog X.w X.K X.mg X.base CX k f fd ps sp) (hr:Room k X.A) (hg:Gl X x) (hm:X.mg x=some (.ref f)) (hk:PySem.W.keepIn X.K (.ref f)=true) (hb:Binds X.K fd ps ds) (hd:Vals dvs ds) (hx:an0 CX X E)
 (ha:PA X (e::es) t) (hdb:(x == ("__debug__":Str))=false:=by decide) (he:starEach (e::es) X.env=(false,eval e X.env)::starEach es X.env:=by rfl) (hpl:(backTo pos (starEach es X.env)).any (·.1)=false:=by rfl) :
 PE X (.Call (.Name x p) (e::es) [] pos) (c00 sp dvs E t):=by
 intro pins s σ H Q I h
 refine wpAny_Call_Name_kw (av9 I hg hm ?_ hdb)
 refine PySem.W.callWith_K (h₀:=X.base) I.ok.mod.kin hk (thn (ha pos pins s σ H _ I h) ?_) he hpl
 rintro us s1 ⟨vs,H1,I1,r,q⟩
 refine ⟨I1.kIn,?_⟩
 exact bm5 F hr hb hd hx I1 r q
theorem a72 {pl:Sem Bool}(he:PE X o ta) (c:Cls X.K C) (hm:Meth X.K C m f) (F:FnOk X.prog X.w X.K X.mg X.base CX k f fd ps sp) (hr:Room k X.A) (hb:Binds X.K fd ps ds) (hd:Vals dvs ds) (hx:an0 CX X E) (ha:PA X (e::es) t)
 (hst:starEach (e::es) X.env=(false,eval e X.env)::starEach es X.env:=by rfl) (hpl:(backTo pos (starEach es X.env)).any (·.1)=false:=by rfl)
 (ht:eval (.Call (.Attribute o m apos) (e::es) [] pos) X.env=(do
  let ov←eval o X.env
  standAt apos.atName
  let (f,first)←holding [ov] (getMethod ov m pl)
  callWith pos f first (backTo pos (starEach (e::es) X.env)) (backToKw pos (keywordEach [] X.env))):=by rfl) :
 PE X (.Call (.Attribute o m apos) (e::es) [] pos) (c01 C m sp dvs E ta t):=by
 intro pins s σ H Q I h
 refine PySem.W.methodCall_KW (pl:=pl) (thn (he pins s σ H _ I h) ?_) ht
 rintro u s1 ⟨x,H1,I1,rx,a,dx,fs,ex,ea,l,q⟩
 subst ex
 obtain rfl:u=Value.ref a:=rx
 refine b43 I1 ea c hm l ?_
 refine PySem.W.callWith_K (first:=[.ref a]) (h₀:=X.base) I.ok.mod.kin hm.kp (thn (ha pos pins s1 σ H1 _ I1 q) ?_) hst hpl
 rintro us s2 ⟨vs,H2,I2,r,q2⟩
 refine ⟨I2.kIn,?_⟩
 exact bm5 (us:=.ref a::us) (vs:=.ref a::vs) F hr hb hd hx I2 (.cons rfl r) q2
structure Mk (K:PySem.W.Frag) (C f:Addr):Prop where
 makes:PySem.W.makesIn K C=true
 init:PySem.W.findIn K (.ref C) "__init__"=some (some (.ref f))
 fn:PySem.W.isFn K (.ref f)=true
 kp:PySem.W.keepIn K (.ref C)=true
theorem bh1 {pins:List (Addr×Obj)}{σ:St} {H:Hp}{s:Shared}{Q:VK}{us:List Value}{vs:List V}(M:Mk X.K C f) (F:FnOk X.prog X.w X.K X.mg X.base CX k f fd ps sp) (hr:Room (k+1) X.A) (hb:Binds X.K fd ps ds) (hd:Vals dvs ds)
 (hx:an0 CX X E) (I:Inv X pins σ H s) (r:Vals vs us)
 (h:∀ x dx,H x=none→H dx=none→dx≠x→sp (.ref x::(vs++dvs)) (upd (upd H dx (.own x)) x (.ins C dx [])) (fun v H2=>v=.non∧Q (.ref x) H2) E) :
 wpAny (model X.prog X.w) X.A (call (.ref C) us) (EP X pins σ Q) X.xe s:=by
 have hq:=h (s.heap.objs.size+1) s.heap.objs.size (I.hok.fresh (Nat.le_succ _)) (I.hok.fresh (Nat.le_refl _)) (Nat.ne_of_lt (Nat.lt_succ_self _))
 have I2:=Inv.made (C:=C) I
 have r2:Vals (V.ref (s.heap.objs.size+1)::(vs++dvs)) (Value.ref (s.heap.objs.size+1)::(us++ds)):=.cons rfl (r.append hd)
 have hl:(Value.ref (s.heap.objs.size+1)::us++ds).length=ps.length:=by
  have e:=r2.length
  rw [F.len _ _ _ _ hq] at e
  exact e.symm
 refine wpAny_call (bh0 (f:=f) I.kIn M.makes M.init (beq_iff_eq.mp M.fn) (codeAny_mono (F.run _ X.stack _ _ ⟨Value.ref (s.heap.objs.size+1)::us,[]⟩ (Value.ref (s.heap.objs.size+1)::(us++ds)) _ _ E (hr.make C us [])
  (I2.env0.make C us []) (hb _ (Value.ref (s.heap.objs.size+1)::us) I2.kIn hl) r2 hq) fun r s' hq'=>?_))
 cases r with
 | error e=>exact hx pins σ _ _ e s' I2 hq'
 | ok fl =>
   cases fl with
   | ret u =>
     obtain ⟨v,H',I3,rv,ev,q3⟩:=I2.after hq'
     subst ev
     exact ⟨rv,⟨V.ref (s.heap.objs.size+1),H',I3,rfl,q3⟩⟩
   | next=>exact False.elim hq'
   | brk=>exact False.elim hq'
   | cont=>exact False.elim hq'
theorem br1 (M:Mk X.K C f) (F:FnOk X.prog X.w X.K X.mg X.base CX k f fd ps sp) (hr:Room (k+1) X.A) (hg:Gl X x) (hm:X.mg x=some (.ref C)) (hb:Binds X.K fd ps ds) (hd:Vals dvs ds) (hx:an0 CX X E)
 (ha:PA X (e::es) t) (hdb:(x == ("__debug__":Str))=false:=by decide) (he:starEach (e::es) X.env=(false,eval e X.env)::starEach es X.env:=by rfl) (hpl:(backTo pos (starEach es X.env)).any (·.1)=false:=by rfl) :
 PE X (.Call (.Name x p) (e::es) [] pos) (c02 C sp dvs E t):=by
 intro pins s σ H Q I h
 refine wpAny_Call_Name_kw (av9 I hg hm ?_ hdb)
 refine PySem.W.callWith_K (h₀:=X.base) I.ok.mod.kin M.kp (thn (ha pos pins s σ H _ I h) ?_) he hpl
 rintro us s1 ⟨vs,H1,I1,r,q⟩
 refine ⟨I1.kIn,?_⟩
 exact bh1 M F hr hb hd hx I1 r q
end
section
variable {X:Cx}{CX:CXT}{k:Nat}{f C:Addr}{fd:FuncData}{ps ks:List Str}{sp:Sp}{E:XK}{x m:Str}{p pos apos kpos:Pos}{e o:Expr}{es:List Expr}{kws:List Keyword}{te ta:TE}{t tk:TA}{nm:Option Str}
variable {g:List Value→List Value→List Value}{gV:List V→List V→List V}
end
structure FnScope (N P:List Str) (sc:Scope):Prop where
 kind:sc.kind=.function
 co:sc.isCoroutine=false
 gen:sc.isGenerator=false
 nd:N.Nodup
 pre:N.take P.length=P
 par:∀ x∈P,sc.names.lookup x=some .local∨sc.names.lookup x=some .cell
 nofree:∀ y∈sc.names,y.2≠.free
theorem ar9 {kindOf:Str→Option NameKind}{x:Str}:∀ {binds:List (Str×Value)}{m:Str→Option Value},(∀ v,(x,v)∉binds)→bindL kindOf binds m x=m x
 | [],_,_=>rfl
 | (n,v)::r,m,h=>by
   unfold bindL
   rw [ar9 fun w hw=>h w (List.mem_cons_of_mem _ hw)]
   split
   · have:x≠n:=by rintro rfl; exact h v List.mem_cons_self
     simp [this]
   · rfl
theorem as0 {kindOf:Str→Option NameKind}{x:Str}:∀ {binds:List (Str×Value)}{m:Str→Option Value},(∀ v,(x,v)∉binds)→bindC kindOf binds m x=m x
 | [],_,_=>rfl
 | (n,v)::r,m,h=>by
   unfold bindC
   rw [as0 fun w hw=>h w (List.mem_cons_of_mem _ hw)]
   split
   · rfl
   · have:x≠n:=by rintro rfl; exact h v List.mem_cons_self
     simp [this]
theorem as1 {kindOf:Str→Option NameKind}{x:Str}{v:Value}:∀ {P:List Str}{vs:List Value}{i:Nat}{m:Str→Option Value},P.Nodup→P[i]?=some x→vs[i]?=some v→kindOf x=some .local →
 bindL kindOf (P.zip vs) m x=some v
 | [],_,_,_,_,h,_,_=>by simp at h
 | _::_,[],_,_,_,_,h,_=>by simp at h
 | p::P,w::vs,0,m,nd,h1,h2,hk=>by
   simp at h1 h2; subst h1; subst h2
   show bindL kindOf ((p,w)::P.zip vs) m p=_
   unfold bindL
   rw [ar9 fun v hv=>(List.nodup_cons.mp nd).1 (List.of_mem_zip hv).1,if_pos hk]
   simp
 | p::P,w::vs,i+1,m,nd,h1,h2,hk=>by
   show bindL kindOf ((p,w)::P.zip vs) m x=_
   unfold bindL
   exact as1 (i:=i) (List.nodup_cons.mp nd).2 (by simpa using h1) (by simpa using h2) hk
theorem as2 {kindOf:Str→Option NameKind}{x:Str}{v:Value}:∀ {P:List Str}{vs:List Value}{i:Nat}{m:Str→Option Value},P.Nodup→P[i]?=some x→vs[i]?=some v→kindOf x≠some .local →
 bindC kindOf (P.zip vs) m x=some v
 | [],_,_,_,_,h,_,_=>by simp at h
 | _::_,[],_,_,_,_,h,_=>by simp at h
 | p::P,w::vs,0,m,nd,h1,h2,hk=>by
   simp at h1 h2; subst h1; subst h2
   show bindC kindOf ((p,w)::P.zip vs) m p=_
   unfold bindC
   rw [as0 fun v hv=>(List.nodup_cons.mp nd).1 (List.of_mem_zip hv).1,if_neg hk]
   simp
 | p::P,w::vs,i+1,m,nd,h1,h2,hk=>by
   show bindC kindOf ((p,w)::P.zip vs) m x=_
   unfold bindC
   exact as2 (i:=i) (List.nodup_cons.mp nd).2 (by simpa using h1) (by simpa using h2) hk
def start (N:List Str) (vs:List V):St:=vs.map some++List.replicate (N.length - vs.length) none
def cxOf (CX:CXT) (P:Program) (w:World) (K:PySem.W.Frag) (mg:Str→Option Value) (base:Heap) (N:List Str) (qual:Str) (scope:Scope) (f:Addr) (cd:Value) (A:Around) (outer:List Env) (s:Shared) (H:Hp) (E:XK):Cx where
 prog:=P
 w:=w
 K:=K
 mg:=mg
 base:=base
 A:=A.deeper (envOfC qual scope s.heap.objs.size f cd)
 N:=N
 s₀:=s
 H₀:=H
 env:=envOfC qual scope s.heap.objs.size f cd
 outer:=outer
 stack:=envOfC qual scope s.heap.objs.size f cd::outer
 ex:=[]
 calm:=true
 fn:=fun _=>true
 pn:=[]
 xe:=fun e s'=>wpAny (model P w) (A.deeper (envOfC qual scope s.heap.objs.size f cd)) (leaving (envOfC qual scope s.heap.objs.size f cd) e) (fun _ s''=>CX outer H s E e s'') (fun e' s''=>CX outer H s E e' s'') s'
theorem az7 {sc:Scope}{n:Nat}{x:Str}(h:sc.names.lookup x=some .cell):∃ c,(cellsFrom n sc.names []).lookup x=some c:=by
 have q:=PySem.W.cellsFrom_some sc.names n [] (.inl h)
 exact Option.isSome_iff_exists.mp q
theorem b74 {CX:CXT}{P:Program}{w:World}{K:PySem.W.Frag}{mg:Str→Option Value}{base:Heap}{N ps:List Str}{qual:Str}{scope:Scope}{f:Addr}{cd:Value}{A:Around}{outer:List Env}{s s1:Shared}{H:Hp}{E:XK}{us:List Value}{vs:List V}
 (S:FnScope N ps scope) (hd:A.handled=none) (e0:Env0 P w K mg base A outer s H) (hl:vs.length=ps.length) (r:Vals vs us)
 (x:InCallC s s.heap.objs.size (bindL (envOfC qual scope s.heap.objs.size f cd).kindOf (ps.zip us) fun _=>none) (cellsFrom (s.heap.objs.size+1) scope.names []) (bindC (envOfC qual scope s.heap.objs.size f cd).kindOf (ps.zip us) fun _=>none) s1) :
 Inv (cxOf CX P w K mg base N qual scope f cd A outer s H E) [] (start N vs) H s1:=by
 have hpl:ps.length≤N.length:=by have:=congrArg List.length S.pre; rw [List.length_take] at this; omega
 obtain ⟨h1,tk,rfl,hk⟩:=x.done
 have noA:∀ b:Addr,b∉(cxOf CX P w K mg base N qual scope f cd A outer s H E).ex:=fun b z=>absurd (show b∈([]:List Addr) from z) (by simp)
 refine ⟨⟨e0.mod,S.kind,rfl,rfl,Nat.le_refl _,fun y z c h1 h2=>?_,fun y hy=>?_,fun y c _ h=>?_,fun _=>hd,Around.frames_deeper e0.frames,.inr ⟨rfl,rfl⟩,fun b z=>absurd z (noA b),e0.bs,e0.bsz,fun b _ _=>noA b,fun b z=>absurd z (noA b),e0.funs,e0.frf⟩,
  rfl,e0.bare,Un.kept hk,⟨_,x.toInCall.ns,fun i y v h1 h2 h3=>?_⟩,fun y c h=>⟨_,x.cell y c h⟩,e0.hok.fresh (Nat.le_refl _),fun y c h=>?_,fun p hp=>absurd (show p∈([]:List (Addr×Obj)) from hp) (by simp),e0.hok.kept hk,?_⟩
 · exact name_of_addr x.apart (PySem.mem_of_lookup h1) (PySem.mem_of_lookup h2)
 · have hy:scope.names.lookup y=some .cell∨scope.names.lookup y=some .free:=hy
   rcases hy with hy | hy
   · exact az7 hy
   · exact absurd rfl (S.nofree _ (PySem.mem_of_lookup hy))
 · exact Nat.le_of_lt (x.above y c (PySem.mem_of_lookup h))
 · have hi:i<vs.length:=by
    unfold start at h2
    by_cases hi:i<vs.length
    · exact hi
    · rw [List.getElem?_append_right (by simpa using hi)] at h2
      rw [List.getElem?_replicate] at h2
      split at h2 <;> cases h2
   have ha:vs[i]?=some v:=by
    unfold start at h2
    rw [List.getElem?_append_left (by simpa using hi),List.getElem?_map] at h2
    cases e:vs[i]? with
    | none=>rw [e] at h2; cases h2
    | some a=>rw [e] at h2; cases h2; rfl
   obtain ⟨u,hu,rv⟩:=r.get ha
   have hp:ps[i]?=some y:=by
    rw [← S.pre,List.getElem?_take_of_lt (by omega)]; exact h1
   have ndP:ps.Nodup:=by rw [← S.pre]; exact S.nd.sublist (List.take_sublist _ _)
   refine ⟨u,rv,?_⟩
   rcases S.par y (List.mem_of_getElem? hp) with k | k
   · exact .inl ⟨k,as1 ndP hp hu k⟩
   · obtain ⟨c,e⟩:=az7 (n:=s.heap.objs.size+1) k
     refine .inr ⟨.inl k,c,e,?_⟩
     have q:=x.cell y c e
     rw [as2 ndP hp hu (by show scope.names.lookup y≠_; rw [k]; decide)] at q
     exact q
 · exact e0.hok.fresh (Nat.le_of_lt (x.above y c (PySem.mem_of_lookup h)))
 · unfold start
   show _=N.length
   rw [List.length_append,List.length_map,List.length_replicate]
   omega
theorem ca2 {CX:CXT}{P:Program}{w:World}{K:PySem.W.Frag}{mg:Str→Option Value}{base:Heap}{k:Nat}{f:Addr}{name qual:Str}{params:Arguments}{body:List Stmt}{scope:Scope}{dV kV doc pm cdv ct oc:Value}{an od:Option Addr}
 {osl:Array (Option Value)}{N ps:List Str}{sp:Sp}(lk:K.lookup f=some ⟨oc,od,.func (PySem.W.fnOf name qual params body scope dV kV doc pm an cdv ct),osl⟩) (hcd:PySem.W.codeIn K cdv qual=true) (S:FnScope N ps scope)
 (len:∀ vs H Q E,sp vs H Q E→vs.length=ps.length)
 (hbody:∀ (A:Around) (outer:List Env) (s:Shared) (H:Hp) (vs:List V) (Q:VK) (E:XK),Room k (A.deeper (envOfC qual scope s.heap.objs.size f cdv))→sp vs H Q E →
  ∃ t,PSs (cxOf CX P w K mg base N qual scope f cdv A outer s H E) body t∧t { nx:=fun _ H'=>Q .non H',rt:=Q } (start N vs) H) :
 FnOk P w K mg base CX (k+1) f (PySem.W.fnOf name qual params body scope dV kV doc pm an cdv ct) ps sp:=by
 refine ⟨len,fun A outer s H args us vs Q E hr e0 hb r hsp=>?_⟩
 have hl:=len _ _ _ _ hsp
 have KX:K.In s.heap:=e0.mod.kin.keeps fun b o e=>(e0.bs b o e).1
 have lim:s.heap.NoLimit:=e0.mod.nolimit.keeps fun b o e=>(e0.bs b o e).1
 have hkind:∀ y∈ps.zip us,scope.names.lookup y.1=some .local∨(scope.names.lookup y.1=some .cell∧((cellsFrom (s.heap.objs.size+1) scope.names []).lookup y.1).isSome=true):=fun ⟨n,v⟩ hy=>by
  rcases S.par n (List.of_mem_zip hy).1 with q | q
  · exact .inl q
  · exact .inr ⟨q,PySem.W.cellsFrom_some _ _ _ (.inl q)⟩
 refine codeAny_call_function hr.depth (KX _ _ lk) rfl S.co S.gen rfl (PySem.W.codeRec_of KX hcd) (hb _ _ _ _ ?_)
 refine wpAny_newFunctionEnv_cells S.kind hkind fun env he s1 x=>?_
 subst he
 refine ⟨lim.keeps x.toInCall.keep,codeAny_func ?_⟩
 obtain ⟨t,ht,hq⟩:=hbody A outer s H vs Q E (hr.deeper _) hsp
 have I:Inv (cxOf CX P w K mg base N qual scope f cdv A outer s H E) [] (start N vs) H s1:=b74 S hr.hd e0 hl r x
 refine wpAny_mono (ht [] s1 (start N vs) H _ I hq) (fun fl s' hs=>?_) fun e s' hs=>hs
 have fin:∀ {σ':St} {H':Hp}{v:V}{u:Value},Inv (cxOf CX P w K mg base N qual scope f cdv A outer s H E) [] σ' H' s'→RelV v u→Q v H'→CE outer P w H s Q u s' :=
  fun {σ' H' v u} J rv q=>⟨v,H',J.os,J.bare,J.base,J.hok,rv,q⟩
 cases fl with
 | ret u =>
   obtain ⟨v,σ',H',J,rv,q⟩:=hs
   exact fin J rv q
 | next =>
   obtain ⟨σ',H',J,q⟩:=hs
   exact fin (v:=V.non) (u:=Value.none) J rfl q
 | brk =>
   obtain ⟨_,_,_,q⟩:=hs
   exact False.elim q
 | cont =>
   obtain ⟨_,_,_,q⟩:=hs
   exact False.elim q
section
variable {X:Cx}{x:Str}{p pos:Pos}{e:Expr}{es:List Expr}{t:TA}{id T:String}{r:List V→Hp→VK→Prop}
def tCB (r:List V→Hp→VK→Prop) (t:TA):TE:=fun σ H Q=>t σ H fun vs H1=>r vs H1 Q
theorem a50 (hc:CallR X (.builtin id) r) (hg:Gl X x) (hm:X.mg x=none) (hv:bootBuiltins x=some (.builtin id)) (ha:PA X (e::es) t) (hn:x≠"__name__":=by decide) (hdb:(x == ("__debug__":Str))=false:=by decide)
 (he:starEach (e::es) X.env=(false,eval e X.env)::starEach es X.env:=by rfl) (hpl:(backTo pos (starEach es X.env)).any (·.1)=false:=by rfl):PE X (.Call (.Name x p) (e::es) [] pos) (tCB r t):=by
 intro pins s σ H Q I h
 refine wpAny_Call_Name_kw (aj7 I hg hm hv ?_ hn hdb)
 exact PyProof.Rows.callWith_builtin1 (thn (ha pos pins s σ H _ I h) (by rintro us s1 ⟨vs,H1,I1,r1,q1⟩; exact hc pins s1 σ H1 vs us Q I1 r1 q1)) he hpl
theorem ak1 (hc:CallR X (.type T) r) (hg:Gl X x) (hm:X.mg x=none) (hv:bootBuiltins x=some (.type T)) (ha:PA X (e::es) t) (hn:x≠"__name__":=by decide) (hdb:(x == ("__debug__":Str))=false:=by decide)
 (he:starEach (e::es) X.env=(false,eval e X.env)::starEach es X.env:=by rfl) (hpl:(backTo pos (starEach es X.env)).any (·.1)=false:=by rfl):PE X (.Call (.Name x p) (e::es) [] pos) (tCB r t):=by
 intro pins s σ H Q I h
 refine wpAny_Call_Name_kw (aj7 I hg hm hv ?_ hn hdb)
 exact PyProof.Rows.callWith_type1 (thn (ha pos pins s σ H _ I h) (by rintro us s1 ⟨vs,H1,I1,r1,q1⟩; exact hc pins s1 σ H1 vs us Q I1 r1 q1)) he hpl
end
end L2
namespace HT
open PySem PyProof.Rows
section
open PySem.SeqAt
open PySem.AutoSeq1 (wpAny_loadPart')
open PySem.MeetsSeq PySem.MeetsSeq2 PySem.MeetsSeq3
end
section
variable {prog:Program}{w:World}{A:Around}{E:Value→Shared→Prop}{s:Shared}
def sIx (n d:Nat):Option Int→Nat
 | none=>d
 | some v=>if v<0 then (v+(n:Int)).toNat else min v.toNat n
theorem sIx_none (n d:Nat):sIx n d none=d:=rfl
theorem sIx_nat (n d k:Nat):sIx n d (some (k:Int))=min k n:=by
 show (if (k:Int)<0 then ((k:Int)+(n:Int)).toNat else min (k:Int).toNat n)=min k n
 rw [if_neg (by omega),Int.toNat_natCast]
end
end HT
namespace L2
open PySem PySem.Spec PyProof.Rows
abbrev TO:=St→Hp→(Option Int→Hp→Prop)→Prop
def PO (X:Cx) (e:Option Expr) (t:TO):Prop :=
 ∀ (pins:List (Addr×Obj)) (s:Shared) (σ:St) (H:Hp) (Q:Option Int→Hp→Prop),Inv X pins σ H s→t σ H Q →
  wpAny (model X.prog X.w) X.A (evalPart e X.env) (fun u s'=>∃ o H',Inv X pins σ H' s'∧IsPart u o∧Q o H') X.xe s
def b75:TO:=fun _ H Q=>Q none H
def c03 (t:TE):TO:=fun σ H Q=>t σ H fun x H1=>∃ i,x=.int i∧Q (some i) H1
section
variable {X:Cx}{e:Expr}{te:TE}{lo hi:Option Expr}{tl th:TO}{pos p2:Pos}
theorem a57:PO X none b75:=by
 intro pins s σ H Q I h
 rw [evalPart_none]
 exact wpAny_pure ⟨none,H,I,.none,h⟩
theorem a48 (h:PE X e te):PO X (some e) (c03 te):=by
 intro pins s σ H Q I hw
 rw [evalPart_some]
 refine thn (h pins s σ H _ I hw) ?_
 rintro u s1 ⟨x,H1,I1,r1,q1⟩
 obtain ⟨i,rfl,q⟩:=q1
 obtain ⟨t,rfl⟩:=r1
 exact ⟨some i,H1,I1,.int i t,q⟩
def SlR (X:Cx) (r:V→Option Int→Option Int→Hp→VK→Prop):Prop :=
 ∀ (pins:List (Addr×Obj)) (s:Shared) (σ:St) (H:Hp) (x:V) (v vl vu:Value) (lo hi:Option Int) (sl:Addr) (Q:VK),Inv X pins σ H s→RelV x v→s.heap.IsSliceOf sl vl vu .none→IsPart vl lo→IsPart vu hi→r x lo hi H Q →
  ∃ T id,typeLookup (.type T) "__getitem__"=pure (some (.builtin id))∧s.TypeIs v T∧wpAny (model X.prog X.w) X.A (getItem v (.ref sl)) (EP X pins σ Q) X.xe s
def tSl (r:V→Option Int→Option Int→Hp→VK→Prop) (te:TE) (tl th:TO):TE:=fun σ H Q=>te σ H fun x H1=>tl σ H1 fun l H2=>th σ H2 fun u H3=>r x l u H3 Q
theorem a39 {r:V→Option Int→Option Int→Hp→VK→Prop}(hr:SlR X r) (he:PE X e te) (hl:PO X lo tl) (hu:PO X hi th):PE X (.Subscript e (.Slice lo hi none p2) pos) (tSl r te tl th):=by
 intro pins s σ H Q I h
 refine Subscript_ (thn (he pins s σ H _ I h) ?_)
 rintro v s1 ⟨x,H1,I1,r1,q1⟩
 refine wpAny_Slice (thn (hl pins s1 σ H1 _ I1 q1) ?_)
 rintro vl s2 ⟨l,H2,I2,pl,q2⟩
 refine thn (hu pins s2 σ H2 _ I2 q2) ?_
 rintro vu s3 ⟨u,H3,I3,pu,q3⟩
 rw [evalPart_none]
 refine wpAny_pure ?_
 have I4:Inv X pins σ H3 { s3 with heap:=s3.heap.push { cls:=.type "slice",data:=.fields #[vl,vu,.none] } }:=I3.kept (t':=s3.toks) fun b ob q=>Heap.get?_push_of_some _ q
 obtain ⟨T,id,hT,ht,hg⟩:=hr pins { s3 with heap:=s3.heap.push { cls:=.type "slice",data:=.fields #[vl,vu,.none] } } σ H3 x v vl vu l u s3.heap.objs.size Q I4 r1 (Heap.IsSliceOf.new ..) pl pu q3
 show wpAny (model X.prog X.w) X.A (subscriptTail e (.Slice lo hi none p2) v (.ref s3.heap.objs.size)) (EP X pins σ Q) X.xe { s3 with heap:=s3.heap.push { cls:=.type "slice",data:=.fields #[vl,vu,.none] } }
 exact tail_any (ops:=[.ref s3.heap.objs.size,v]) ht hT hg (by with_unfolding_all rfl)
def cutV (xs:List V) (lo hi:Option Int):List V:=(xs.drop (HT.sIx xs.length 0 lo)).take (HT.sIx xs.length xs.length hi - HT.sIx xs.length 0 lo)
theorem aw4 (xs:List V) (lo hi:Option Int):(cutV xs lo hi).length≤xs.length:=by
 unfold cutV
 rw [List.length_take,List.length_drop]
 omega
end
def ixN (n:Nat) (i:Int):Option Nat:=if 0≤i then (if i<n then some i.toNat else none) else if -(n:Int)≤i then some (i+n).toNat else none
def atI {α:Type}(xs:List α) (i:Int):Option α:=(ixN xs.length i).bind fun j=>xs[j]?
theorem b76 {n:Nat}{i:Int}{j:Nat}(h:ixN n i=some j):seqIndex? i n=some j∧j<n∧-(n:Int)≤i∧i<n:=by
 unfold ixN at h
 by_cases h0:0≤i
 · rw [if_pos h0] at h
   by_cases h1:i<n
   · rw [if_pos h1] at h
     have e:i.toNat=j:=Option.some.inj h
     exact ⟨by rw [seqIndex_of h0 h1,e],by omega,by omega,h1⟩
   · rw [if_neg h1] at h; cases h
 · rw [if_neg h0] at h
   by_cases h1:-(n:Int)≤i
   · rw [if_pos h1] at h
     have e:(i+n).toNat=j:=Option.some.inj h
     exact ⟨by rw [seqIndex_neg (by omega) h1,e],by omega,h1,by omega⟩
   · rw [if_neg h1] at h; cases h
theorem b77 {α:Type}{xs:List α}{i:Int}{v:α}(h:atI xs i=some v):∃ j,seqIndex? i xs.length=some j∧xs[j]?=some v∧j<xs.length∧-(xs.length:Int)≤i∧i<xs.length:=by
 unfold atI at h
 cases e:ixN xs.length i with
 | none=>rw [e] at h; cases h
 | some j =>
   rw [e] at h
   obtain ⟨h1,h2,h3,h4⟩:=b76 e
   exact ⟨j,h1,h,h2,h3,h4⟩
theorem a05 {α:Type}{xs:List α}{j:Nat}{v:α}(h:xs[j]?=some v):atI xs (j:Int)=some v:=by
 have hj:j<xs.length:=(List.getElem?_eq_some_iff.mp h).1
 have e:ixN xs.length (j:Int)=some j:=by
  unfold ixN
  rw [if_pos (by omega),if_pos (by omega)]; simp
 unfold atI; rw [e]; exact h
theorem atI_last {α:Type}(xs:List α) (v:α):atI (xs++[v]) (-1)=some v:=by
 have hl:(xs++[v]).length=xs.length+1:=by simp
 have e:ixN (xs++[v]).length (-1)=some xs.length:=by
  unfold ixN
  rw [hl,if_neg (by decide),if_pos (by omega)]
  congr 1
  omega
 unfold atI
 rw [e]
 show (xs++[v])[xs.length]?=some v
 simp
def br2 (b:Expr):Prop:=∀ o i,subscripted b false o i=operate [o,i] (getItem o i)
def IxR (X:Cx) (r:R2):Prop :=
 ∀ (value slice:Expr) (pins:List (Addr×Obj)) (s:Shared) (σ:St) (H:Hp) (x y:V) (v u:Value) (Q:VK),Inv X pins σ H s→RelV x v→RelV y u→r x y H Q →
  subscripted slice false v u=operate [v,u] (getItem v u)→wpAny (model X.prog X.w) X.A (subscriptTail value slice v u) (EP X pins σ Q) X.xe s
def MtR (X:Cx) (id:String) (r:V→List V→Hp→VK→Prop):Prop :=
 ∀ (pins:List (Addr×Obj)) (s:Shared) (σ:St) (H:Hp) (x:V) (xs:List V) (v:Value) (us:List Value) (Q:VK),Inv X pins σ H s→RelV x v→Vals xs us→r x xs H Q →
  wpAny (model X.prog X.w) X.A (call (.builtin id) (v::us)) (EP X pins σ Q) X.xe s
section
variable {X:Cx}{a b:Expr}{ta tb:TE}{pos:Pos}
theorem a15 {r:R2}(hr:IxR X r) (ha:PE X a ta) (hb:PE X b tb) (hs:br2 b):PE X (.Subscript a b pos) (tOp r ta tb):=by
 intro pins s σ H Q I h
 exact Subscript_ (binT ha hb I h fun v u s2 x y H2 I2 rx ry q=>hr a b pins s2 σ H2 x y v u Q I2 rx ry q (hs _ _))
def rIxL (K:PySem.W.Frag):R2:=fun x y H Q=>∃ p xs i v,x=.ref p∧y=.int i∧SqL K H p xs∧atI xs i=some v∧Q v H
def rIxT (K:PySem.W.Frag):R2:=fun x y H Q=>∃ p xs i v,x=.ref p∧y=.int i∧SqT K H p xs∧atI xs i=some v∧Q v H
theorem br3:IxR X (rIxL X.K):=by
 intro value slice pins s σ H x y v u Q I rx ry h hs
 obtain ⟨p,xs,i,z,rfl,rfl,hq,he,q⟩:=h
 cases rx
 obtain ⟨t,rfl⟩:=ry
 obtain ⟨its,r,pl,hz⟩:=I.list hq
 obtain ⟨j,h1,h2,h3,h4,h5⟩:=b77 he
 obtain ⟨w,ew,rw'⟩:=r.get h2
 have hl:=r.length
 have hn:=ar8
 have fin:EP X pins σ Q w s:=⟨z,H,I,rw',q⟩
 by_cases h0:0≤i
 · have hj:i.toNat=j:=by
    rw [seqIndex_of h0 h5] at h1
    exact Option.some.inj h1
   exact item_listR pl.isList h0 (by omega) (by rw [hj]; simpa using ew) fin hs
 · have hj:(i+(its.toArray.size:Int)).toNat=j:=by
    rw [seqIndex_neg (by omega) h4] at h1
    rw [List.size_toArray,←hl]
    exact Option.some.inj h1
   exact subscriptTail_builtinR (x:=w) pl.isList.typeIs slot_list_getitem.lookup
    (wpAny_getItem_list_neg (Q:=fun r s'=>r=w∧EP X pins σ Q r s') pl.isList (by omega) (by rw [List.size_toArray] <;> omega) (by omega) (by rw [hj]; simpa using ew) ⟨rfl,fin⟩) hs
theorem c04:IxR X (rIxT X.K):=by
 intro value slice pins s σ H x y v u Q I rx ry h hs
 obtain ⟨p,xs,i,z,rfl,rfl,hq,he,q⟩:=h
 cases rx
 obtain ⟨t,rfl⟩:=ry
 obtain ⟨its,r,pl,hz⟩:=I.tuple hq
 obtain ⟨j,h1,h2,h3,h4,h5⟩:=b77 he
 obtain ⟨w,ew,rw'⟩:=r.get h2
 have hl:=r.length
 have hn:=ar8
 have fin:EP X pins σ Q w s:=⟨z,H,I,rw',q⟩
 exact subscriptTail_builtinR (x:=w) pl.typeIs slot_tuple_getitem.lookup
  (getItem_tuple (j:=j) (Q:=fun r s'=>r=w∧EP X pins σ Q r s') pl (by omega) (by omega) (by rw [List.size_toArray,←hl]; exact h1) (by simpa using ew) ⟨rfl,fin⟩) hs
theorem b47 (its:List Value) (n j:Nat) (u:Value):Obj.mapSeq (·.setIfInBounds j u) { cls:=.type "list",data:=.seq its.toArray n }={ cls:=.type "list",data:=.seq (its.set j u).toArray n }:=by
 simp [Obj.mapSeq]
theorem Inv.lst {pins:List (Addr×Obj)}{σ:St} {H:Hp}{s:Shared}{p:Addr}{xs:List V}(I:Inv X pins σ H s) (h:H p=some (.lst xs)) :
 ∃ (its:List Value) (n:Nat),Vals xs its∧s.heap.get? p=some { cls:=.type "list",data:=.seq its.toArray n }∧xs.length≤sizeLine:=by
 obtain ⟨z,its,n,r,e⟩:=I.hok p _ h
 exact ⟨its,n,r,e,z⟩
theorem Inv.lstUpd {pins:List (Addr×Obj)}{σ:St} {H:Hp}{s:Shared}{p:Addr}{xs ys:List V}{its its':List Value}{n n':Nat}{f:Obj→Obj}(I:Inv X pins σ H s) (h:H p=some (.lst xs))
 (ho:s.heap.get? p=some { cls:=.type "list",data:=.seq its.toArray n }) (hf:f { cls:=.type "list",data:=.seq its.toArray n }={ cls:=.type "list",data:=.seq its'.toArray n' }) (r:Vals ys its') (hz:ys.length≤sizeLine) (t:Nat) :
 Inv X pins σ (upd H p (.lst ys)) { s with heap:=s.heap.update p f,toks:=t }:=by
 have e:(s.heap.update p f).get? p=some { cls:=.type "list",data:=.seq its'.toArray n' }:=by
  rw [Heap.get?_update_self f ho (by rw [hf] <;> rfl),hf]
 refine I.write (x:=p) (e:=p) (by rw [h]; trivial) (.inl rfl) (fun b u hb q=>(Heap.get?_update_other _ _ (Ne.symm hb)).trans q) ⟨_,e⟩ ?_
 exact ⟨hz,its',n',r,e⟩
def c05:V→V→V→Hp→(Hp→Prop)→Prop:=fun o i v H Q=>∃ p xs k j,o=.ref p∧i=.int k∧H p=some (.lst xs)∧ixN xs.length k=some j∧Q (upd H p (.lst (xs.set j v)))
theorem ae6:PSet X c05:=by
 intro pins s σ H o i v ov iv u Q I ro ri rv h
 obtain ⟨p,xs,k,j,rfl,rfl,hp,hj,q⟩:=h
 cases ro
 obtain ⟨t,rfl⟩:=ri
 obtain ⟨its,n,r,ho,hz⟩:=I.lst hp
 obtain ⟨h1,h2,h3,h4⟩:=b76 hj
 have hl:=r.length
 have hn:=ar8
 have I':Inv X pins σ (upd H p (.lst (xs.set j v))) { s with heap:=s.heap.update p (Obj.mapSeq (·.setIfInBounds j u)) } :=
  I.lstUpd hp ho (b47 its n j u) (r.set rv j) (by rw [List.length_set]; exact hz) s.toks
 by_cases h0:0≤k
 · have hk:k.toNat=j:=by
    rw [seqIndex_of h0 h4] at h1
    exact Option.some.inj h1
   exact PySem.W.ki_setAt ho h0 (by omega) (by rw [List.size_toArray,←hl]; exact h4) (by rw [hk]; exact ⟨_,I',q⟩)
 · have hk:(k+(its.toArray.size:Int)).toNat=j:=by
    rw [seqIndex_neg (by omega) h3] at h1
    rw [List.size_toArray,←hl]
    exact Option.some.inj h1
   exact PySem.W.ki_setBack ho (by omega) (by rw [List.size_toArray,←hl]; exact h3) (by omega) (by rw [hk]; exact ⟨_,I',q⟩)
theorem as3 (lo hi:Option Int) (n:Nat):(sliceBounds lo hi none n).1=((HT.sIx n 0 lo:Nat):Int)∧(sliceBounds lo hi none n).2.1=((HT.sIx n n hi:Nat):Int)∧(sliceBounds lo hi none n).2.2=1:=by
 refine ⟨?_,?_,rfl⟩
 · cases lo with
   | none=>simp [sliceBounds,HT.sIx]
   | some i =>
     simp only [sliceBounds,HT.sIx,Option.getD_none,show (1:Int) > 0 by decide,if_true]
     by_cases h:i<0
     · simp only [h,if_true] <;> omega
     · simp only [h,if_false] <;> omega
 · cases hi with
   | none=>simp [sliceBounds,HT.sIx]
   | some i =>
     simp only [sliceBounds,HT.sIx,Option.getD_none,show (1:Int) > 0 by decide,if_true]
     by_cases h:i<0
     · simp only [h,if_true] <;> omega
     · simp only [h,if_false] <;> omega
theorem ao0 (its:List Value) (lo hi:Option Int):slicePick its.toArray lo hi none=((its.drop (HT.sIx its.length 0 lo)).take (HT.sIx its.length its.length hi - HT.sIx its.length 0 lo)).toArray:=by
 obtain ⟨h1,h2,h3⟩:=as3 lo hi its.toArray.size
 unfold slicePick
 rw [h1,h2,h3]
 simp only [sliceRange_one,pick_run,List.size_toArray] <;> rfl
def rSlL (K:PySem.W.Frag):V→Option Int→Option Int→Hp→VK→Prop:=fun x lo hi H Q=>∃ a xs,x=.ref a∧SqL K H a xs∧∀ p,H p=none→Q (.ref p) (upd H p (.lst (cutV xs lo hi)))
theorem br4:SlR X (rSlL X.K):=by
 intro pins s σ H x v vl vu lo hi sl Q I rx hs pl pu h
 obtain ⟨a,xs,rfl,hx,q⟩:=h
 cases rx
 obtain ⟨its,r,ht,hz⟩:=I.list hx
 have hlen:=r.length
 refine ⟨"list",_,slot_list_getitem.lookup,ht.isList.typeIs,?_⟩
 refine wpAny_getItem_list_slice ht.isList hs pl pu .none (by simp) ?_ (by rw [List.size_toArray] <;> omega)
 rw [ao0,←hlen]
 refine ⟨.ref s.heap.objs.size,_,I.laid (t':=s.toks) (o:=.lst (cutV xs lo hi)) (fun b ob q=>Heap.get?_push_of_some _ q) (Nat.le_refl _) ?_,rfl,q _ (I.hok.fresh (Nat.le_refl _))⟩
 exact ⟨Nat.le_trans (aw4 xs lo hi) hz,_,0,(r.drop (HT.sIx xs.length 0 lo)).take (HT.sIx xs.length xs.length hi - HT.sIx xs.length 0 lo),Heap.get?_push_size _ rfl⟩
def ae7:V→Bool
 | .non=>true
 | .bl _=>true
 | .int _=>true
 | .str _=>true
 | _=>false
def eqV:V→V→Bool
 | .non,.non=>true
 | .bl a,.bl b=>a == b
 | .bl a,.int b=>(if a then 1 else 0) == b
 | .int a,.bl b=>a == (if b then 1 else 0)
 | .int a,.int b=>a == b
 | .str a,.str b=>a == b
 | _,_=>false
theorem c06 {A:Around}{s:Shared}{y x:V}{u v:Value}(ry:RelV y u) (rx:RelV x v) (fy:ae7 y=true) (fx:ae7 x=true):SeqAt.EqAt A s u v (eqV y x):=by
 cases y with
 | non =>
   cases ry
   cases x with
   | non=>cases rx; exact SeqAt.EqAt.same _
   | bl b=>cases rx; exact SeqAt.EqAt.none_bool b
   | int b=>obtain ⟨t,rfl⟩:=rx; exact SeqAt.EqAt.none_int b t
   | str b=>obtain ⟨t,rfl⟩:=rx; exact SeqAt.EqAt.none_str b t
   | _=>exact absurd (show false=true from fx) Bool.false_ne_true
 | bl a =>
   cases ry
   cases x with
   | non=>cases rx; exact SeqAt.EqAt.bool_none a
   | bl b=>cases rx; exact SeqAt.EqAt.bool_bool a b
   | int b=>obtain ⟨t,rfl⟩:=rx; exact SeqAt.EqAt.bool_int a b t
   | str b=>obtain ⟨t,rfl⟩:=rx; exact SeqAt.EqAt.bool_str a b t
   | _=>exact absurd (show false=true from fx) Bool.false_ne_true
 | int a =>
   obtain ⟨t',rfl⟩:=ry
   cases x with
   | non=>cases rx; exact SeqAt.EqAt.int_none a t'
   | bl b=>cases rx; exact SeqAt.EqAt.int_bool a t' b
   | int b=>obtain ⟨t,rfl⟩:=rx; exact SeqAt.EqAt.int_int a t' b t
   | str b=>obtain ⟨t,rfl⟩:=rx; exact SeqAt.EqAt.int_str a t' b t
   | _=>exact absurd (show false=true from fx) Bool.false_ne_true
 | str a =>
   obtain ⟨t',rfl⟩:=ry
   cases x with
   | non=>cases rx; exact SeqAt.EqAt.str_none a t'
   | bl b=>cases rx; exact SeqAt.EqAt.str_bool a t' b
   | int b=>obtain ⟨t,rfl⟩:=rx; exact SeqAt.EqAt.str_int a t' b t
   | str b=>obtain ⟨t,rfl⟩:=rx; exact SeqAt.EqAt.str_str a t' b t
   | _=>exact absurd (show false=true from fx) Bool.false_ne_true
 | _=>exact absurd (show false=true from fy) Bool.false_ne_true
def eqU (x:V) (u:Value):Bool:=match u with
 | .none=>eqV .non x
 | .bool b=>eqV (.bl b) x
 | .int i _=>eqV (.int i) x
 | .str z _=>eqV (.str z) x
 | _=>false
theorem bm6 {x y:V}{u:Value}(r:RelV y u) (f:ae7 y=true):eqU x u=eqV y x:=by
 cases y with
 | non=>cases r; rfl
 | bl b=>cases r; rfl
 | int i=>obtain ⟨t,rfl⟩:=r; rfl
 | str z=>obtain ⟨t,rfl⟩:=r; rfl
 | _=>exact absurd (show false=true from f) Bool.false_ne_true
theorem ak2 {x:V}:∀ {xs:List V}{us:List Value},Vals xs us→xs.all ae7=true→us.any (eqU x)=xs.any fun y=>eqV y x
 | _,_,.nil,_=>rfl
 | y::xs,u::us,.cons r t,f=>by
   rw [List.all_cons,Bool.and_eq_true] at f
   rw [List.any_cons,List.any_cons,bm6 r f.1,ak2 t f.2]
theorem ae8 {A:Around}{s:Shared}{x:V}{v:Value}(rx:RelV x v) (fx:ae7 x=true):∀ {xs:List V}{us:List Value},Vals xs us→xs.all ae7=true→∀ u∈us,SeqAt.EqAt A s u v (eqU x u)
 | _,_,.nil,_=>fun u hu=>by cases hu
 | y::xs,u::us,.cons r t,f=>fun u' hu=>by
   rw [List.all_cons,Bool.and_eq_true] at f
   rcases List.mem_cons.mp hu with rfl | hu
   · rw [bm6 r f.1]; exact c06 r rx f.1 fx
   · exact ae8 rx fx t f.2 u' hu
def inV (x:V) (xs:List V):Bool:=xs.any fun y=>eqV y x
def rIn (K:PySem.W.Frag) (neg:Bool):R2:=fun x y H Q=>∃ p xs,y=.ref p∧(SqL K H p xs∨SqT K H p xs)∧ae7 x=true∧xs.all ae7=true∧Q (.bl (if neg then !inV x xs else inV x xs)) H
theorem b78:OpR X (compareOp .In) (rIn X.K false):=by
 intro pins s σ H x y v u Q I rx ry h
 obtain ⟨p,xs,rfl,hq,fx,fs,q⟩:=h
 cases ry
 rcases hq with hq | hq
 · obtain ⟨its,r,pl,hz⟩:=I.list hq
   refine SeqAt.in_listAt (eqU x) pl.isList (fun w hw=>ae8 rx fx r fs w (by simpa using hw)) ⟨.bl _,H,I,rfl,?_⟩
   rw [show its.toArray.any (eqU x)=its.any (eqU x) by simp,ak2 r fs]
   exact q
 · obtain ⟨its,r,pl,hz⟩:=I.tuple hq
   refine SeqAt.in_tupleAt (eqU x) pl (fun w hw=>ae8 rx fx r fs w (by simpa using hw)) ⟨.bl _,H,I,rfl,?_⟩
   rw [show its.toArray.any (eqU x)=its.any (eqU x) by simp,ak2 r fs]
   exact q
theorem as4:OpR X (compareOp .NotIn) (rIn X.K true):=by
 intro pins s σ H x y v u Q I rx ry h
 obtain ⟨p,xs,rfl,hq,fx,fs,q⟩:=h
 cases ry
 rcases hq with hq | hq
 · obtain ⟨its,r,pl,hz⟩:=I.list hq
   refine SeqAt.notIn_listAt (eqU x) pl.isList (fun w hw=>ae8 rx fx r fs w (by simpa using hw)) ⟨.bl _,H,I,rfl,?_⟩
   rw [show its.toArray.any (eqU x)=its.any (eqU x) by simp,ak2 r fs]
   exact q
 · obtain ⟨its,r,pl,hz⟩:=I.tuple hq
   refine SeqAt.notIn_tupleAt (eqU x) pl (fun w hw=>ae8 rx fx r fs w (by simpa using hw)) ⟨.bl _,H,I,rfl,?_⟩
   rw [show its.toArray.any (eqU x)=its.any (eqU x) by simp,ak2 r fs]
   exact q
theorem as5:CallR X (.type "list") (fun xs H Q=>∃ p ys,xs=[.ref p]∧(SqL X.K H p ys∨SqT X.K H p ys)∧∀ l,H l=none→Q (.ref l) (upd H l (.lst ys))):=by
 intro pins s σ H xs us Q I r h
 obtain ⟨p,ys,rfl,hq,q⟩:=h
 obtain ⟨u,rfl,rx⟩:=aw2 r
 cases rx
 have fin:∀ (its:List Value),Vals ys its→ys.length≤sizeLine→∀ (h':Heap) (c':Nat),(∀ b o',s.heap.get? b=some o'→h'.get? b=some o') →
  h'.get? s.heap.objs.size=some { cls:=.type "list",dict:=none,data:=.seq its.toArray c',slots:=#[] }→EP X pins σ Q (.ref s.heap.objs.size) { s with heap:=h' }:=fun its r' hz h' c' kp e =>
  ⟨.ref s.heap.objs.size,_,I.laid (t':=s.toks) kp (Nat.le_refl _) (show ObjOk X.prog X.w _ h' _ (.lst ys) from ⟨hz,its,c',r',e⟩),rfl,q _ (I.hok.fresh (Nat.le_refl _))⟩
 rcases hq with hq | hq
 · obtain ⟨its,r',pl,hz⟩:=I.list hq
   have hlen:=r'.length
   obtain ⟨o,ho,hc,n,hd⟩:=pl.isList
   exact call_list_seq p (.inl rfl) ho hc hd (fun h' c' kp e=>fin its r' hz h' c' kp e) (by simp only [List.size_toArray] <;> omega)
 · obtain ⟨its,r',pl,hz⟩:=I.tuple hq
   have hlen:=r'.length
   obtain ⟨o,ho,hc,n,hd⟩:=pl
   exact call_list_seq p (.inr rfl) ho hc hd (fun h' c' kp e=>fin its r' hz h' c' kp e) (by simp only [List.size_toArray] <;> omega)
def tyV (K:PySem.W.Frag) (T:String) (x:V) (H:Hp):Prop:=match x with
 | .str _=>T="str"
 | .int _=>T="int"
 | .ref p=>(T="list"∧∃ xs,SqL K H p xs)∨(T="tuple"∧∃ o,K.lookup p=some o∧o.cls=.type "tuple"∧o.dict=none) ∨
  (T="dict"∧((∃ kvs,H p=some (.dK kvs))∨∃ kvs,H p=some (.dT kvs)))∨(T="set"∧∃ S n,H p=some (.set S n))
 | _=>False
theorem bm7 {pins:List (Addr×Obj)}{σ:St} {H:Hp}{s:Shared}{T:String}{x:V}{v:Value}(I:Inv X pins σ H s) (r:RelV x v) (ty:tyV X.K T x H) :
 s.TypeIs v T∧∀ a,v=.ref a→∃ ob,s.heap.get? a=some ob∧ob.dict=none:=by
 cases x with
 | str z =>
   obtain ⟨t,rfl⟩:=r
   cases (show T="str" from ty)
   exact ⟨typeIs_str s z t,fun _ e=>nomatch e⟩
 | int i =>
   obtain ⟨t,rfl⟩:=r
   cases (show T="int" from ty)
   exact ⟨typeIs_int s i t,fun _ e=>nomatch e⟩
 | ref p =>
   cases r
   rcases ty with ⟨rfl,xs,hq⟩ | ⟨rfl,o,hk,hc,hd⟩ | ⟨rfl,hk⟩ | ⟨rfl,S,n,hk⟩
   · obtain ⟨its,_,pl,_⟩:=I.list hq
     refine ⟨pl.isList.typeIs,fun a e=>?_⟩
     cases e
     obtain ⟨o,n,e,c,hd,_⟩:=pl
     exact ⟨o,e,hd⟩
   · refine ⟨⟨o,I.kIn p o hk,hc⟩,fun a e=>?_⟩
     cases e
     exact ⟨o,I.kIn _ o hk,hd⟩
   · have z:∃ o,s.heap.get? p=some o∧o.ExactDict:=by
      rcases hk with ⟨kvs,hk⟩ | ⟨kvs,hk⟩
      · obtain ⟨_,_,_,_,o,_,_,e,ex,_⟩:=I.hok p _ hk
        exact ⟨o,e,ex⟩
      · obtain ⟨_,_,_,_,o,_,_,e,ex,_⟩:=I.hok p _ hk
        exact ⟨o,e,ex⟩
     obtain ⟨o,e,ex⟩:=z
     refine ⟨⟨o,e,ex.1⟩,fun a e2=>?_⟩
     cases e2
     exact ⟨o,e,ex.2.1⟩
   · obtain ⟨o,_,_,_,e,ex,_⟩:=I.hok p _ hk
     refine ⟨⟨o,e,ex.1⟩,fun a e2=>?_⟩
     cases e2
     exact ⟨o,e,ex.2.1⟩
 | _=>exact False.elim ty
def tBM0 (K:PySem.W.Frag) (T:String) (r:V→List V→Hp→VK→Prop) (to:TE):TE:=fun σ H Q=>to σ H fun x H1=>tyV K T x H1∧r x [] H1 Q
def tBM (K:PySem.W.Frag) (T:String) (r:V→List V→Hp→VK→Prop) (to:TE) (t:TA):TE:=fun σ H Q=>to σ H fun x H1=>tyV K T x H1∧t σ H1 fun xs H2=>r x xs H2 Q
variable {o e:Expr}{es:List Expr}{to:TE}{t:TA}{name:Str}{apos cpos:Pos}{T id:String}{r:V→List V→Hp→VK→Prop}
theorem c07 (pa:PlainAttrs T) (slot:Slot T name id) (hty:typeOf (.builtin id)=pure (.type "method_descriptor")) (hm:MtR X id r) (ho:PE X o to)
 (hbase:attributeBase o name X.env (eval o X.env)=eval o X.env:=by rfl) (hline:(apos.endLine == cpos.line)=true:=by rfl):PE X (.Call (.Attribute o name apos) [] [] cpos) (tBM0 X.K T r to):=by
 intro pins s σ H Q I h
 refine wpAny_Call_method0_late hbase hline (thn (ho pins s σ H _ I h) ?_)
 rintro v s1 ⟨x,H1,I1,r1,ty,q1⟩
 obtain ⟨h1,h2⟩:=bm7 I1 r1 ty
 exact ⟨T,id,pa,slot,hty,h1,h2,Calls.callWith_builtin rfl (PySem.evalArgs_none (hm pins s1 σ H1 x [] v [] Q I1 r1 .nil q1))⟩
theorem ca3 (pa:PlainAttrs T) (slot:Slot T name id) (hty:typeOf (.builtin id)=pure (.type "method_descriptor")) (hm:MtR X id r) (ho:PE X o to) (ha:PA X (e::es) t)
 (hbase:attributeBase o name X.env (eval o X.env)=eval o X.env:=by rfl)
 (hfew:((backTo cpos (starEach (e::es) X.env)).all (fun x=>!x.1) && (backToKw cpos (keywordEach [] X.env)).all (fun x=>x.1.isSome)
  && decide ((e::es).length+([]:List Keyword).length+(if ([]:List Keyword).isEmpty then 0 else 1)<30))=true:=by rfl)
 (hline:(apos.endLine == cpos.line)=true:=by rfl) (hs:starEach (e::es) X.env=(false,eval e X.env)::starEach es X.env:=by rfl) (hplain:(backTo cpos (starEach es X.env)).any (·.1)=false:=by rfl) :
 PE X (.Call (.Attribute o name apos) (e::es) [] cpos) (tBM X.K T r to t):=by
 intro pins s σ H Q I h
 refine wpAny_Call_method_late hbase hfew hline rfl (thn (ho pins s σ H _ I h) ?_)
 rintro v s1 ⟨x,H1,I1,r1,ty,q1⟩
 obtain ⟨h1,h2⟩:=bm7 I1 r1 ty
 refine ⟨T,id,pa,slot,hty,h1,h2,?_⟩
 have hA:=ha cpos pins s1 σ H1 _ I1 q1
 rw [hs] at hA ⊢
 refine Calls.callWith_builtin (by show (false || (backTo cpos (starEach es X.env)).any (·.1))=false; rw [hplain] <;> rfl) (Calls.evalArgs_plain ?_)
 exact thn hA (by rintro us s2 ⟨vs,H2,I2,r2,q2⟩; exact hm pins s2 σ H2 x vs v us Q I2 r1 r2 q2)
/- xs.append(e),list.index on a module's tuple .. are MtR facts of 06m -/
end
def MtM (X:Cx) (id:String) (r:V→List V→Hp→VK→Prop):Prop :=
 ∀ (pins:List (Addr×Obj)) (s:Shared) (σ:St) (H:Hp) (x:V) (xs:List V) (v:Value) (us:List Value) (Q:VK),Inv X pins σ H s→RelV x v→Vals xs us→r x xs H Q →
  wpAny (model X.prog X.w) X.A (call (.builtin id) (v::us)) (EP X pins σ Q) X.xe s
theorem Vals.one:∀ {x:V}{us:List Value},Vals [x] us→∃ u,us=[u]∧RelV x u
 | _,_,.cons r .nil=>⟨_,rfl,r⟩
theorem Vals.zero:∀ {us:List Value},Vals [] us→us=[]
 | _,.nil=>rfl
theorem Vals.dropLast {xs:List V}{us:List Value}(h:Vals xs us):Vals xs.dropLast us.dropLast:=by
 induction h with
 | nil=>exact .nil
 | cons r t ih =>
   cases t with
   | nil=>exact .nil
   | cons q t'=>exact .cons r ih
theorem Vals.eraseIdx:∀ {xs:List V}{us:List Value}(i:Nat),Vals xs us→Vals (xs.eraseIdx i) (us.eraseIdx i)
 | _,_,_,.nil=>.nil
 | _,_,0,.cons _ t=>t
 | _,_,i+1,.cons r t=>.cons r (Vals.eraseIdx i t)
theorem Vals.reverse {xs:List V}{us:List Value}(h:Vals xs us):Vals xs.reverse us.reverse:=by
 induction h with
 | nil=>exact .nil
 | cons r t ih=>rw [List.reverse_cons,List.reverse_cons]; exact Vals.append ih (.cons r .nil)
theorem b48 {α:Type}(l:List α):l.eraseIdx (l.length - 1)=l.dropLast:=by
 induction l with
 | nil=>rfl
 | cons a r ih =>
   cases r with
   | nil=>rfl
   | cons b r =>
     have e:(a::b::r).length - 1=((b::r).length - 1)+1:=by
      have h1:(a::b::r).length=r.length+2:=rfl
      have h2:(b::r).length=r.length+1:=rfl
      omega
     rw [e,List.eraseIdx_cons_succ,ih]
     all_goals rfl
theorem as6 {α:Type}:∀ (l:List α) (i:Nat),(l.eraseIdx i).length≤l.length
 | [],_=>Nat.le_refl _
 | _::_,0=>Nat.le_succ _
 | _::r,i+1=>Nat.succ_le_succ (as6 r i)
section
variable {X:Cx}{pins:List (Addr×Obj)}{σ:St} {H:Hp}{s:Shared}{l b:Addr}{xs ys zs:List V}
theorem Inv.lset {its its':List Value}{n:Nat}{f:Array Value→Array Value}{t':Nat}(I:Inv X pins σ H s) (hH:H l=some (.lst xs))
 (e:s.heap.get? l=some { cls:=.type "list",data:=.seq its.toArray n }) (hf:f its.toArray=its'.toArray) (hv:Vals ys its') (hz:ys.length≤sizeLine) :
 Inv X pins σ (upd H l (.lst ys)) { s with heap:=s.heap.update l (Obj.mapSeq f),toks:=t' }:=by
 have q:=PySem.IsL.update e f
 rw [hf] at q
 refine I.write (x:=l) (e:=l) (by rw [hH]; exact trivial) (.inl rfl) (fun b' u hb hu=>(Heap.get?_update_other s.heap (Obj.mapSeq f) (Ne.symm hb)).trans hu) ⟨_,q⟩ ?_
 exact ⟨hz,its',_,hv,q⟩
theorem Inv.lnew {its:List Value}{t':Nat}(I:Inv X pins σ H s) (hv:Vals ys its) (hz:ys.length≤sizeLine) :
 Inv X pins σ (upd H s.heap.objs.size (.lst ys)) { s with heap:=s.heap.push { cls:=.type "list",data:=.seq its.toArray },toks:=t' } :=
 I.laid (fun _ _ q=>Heap.get?_push_of_some _ q) (Nat.le_refl _) ⟨hz,its,0,hv,Heap.get?_push_size _ rfl⟩
theorem Inv.fresh (I:Inv X pins σ H s):H s.heap.objs.size=none:=I.hok.fresh (Nat.le_refl _)
theorem Inv.lstM (I:Inv X pins σ H s) (hH:H l=some (.lst xs)):xs.length≤sizeLine∧∃ (its:List Value) (n:Nat),Vals xs its∧xs.length=its.length∧s.heap.get? l=some { cls:=.type "list",data:=.seq its.toArray n }:=by
 obtain ⟨z,its,n,r,e⟩:=I.hok l _ hH
 exact ⟨z,its,n,r,r.length,e⟩
theorem bh2 {n:Nat}(h:n≤sizeLine):Builtin.List.listTooLong n=false:=by
 unfold Builtin.List.listTooLong
 exact decide_eq_false (by omega)
end
section
variable {X:Cx}
def b79:V→List V→Hp→VK→Prop:=fun x vs H Q=>∃ l xs y,x=.ref l∧vs=[y]∧H l=some (.lst xs)∧xs.length<sizeLine∧Q .non (upd H l (.lst (xs++[y])))
theorem a78:MtM X "list.append" b79:=by
 intro pins s σ H x vs v us Q I rx rv h
 obtain ⟨l,xs,y,rfl,rfl,hH,hz,q⟩:=h
 cases rx
 obtain ⟨u,rfl,ru⟩:=rv.one
 obtain ⟨z,its,n,r,hl,e⟩:=I.lstM hH
 refine call_meets F.slot_list_append ⟨_,e,rfl⟩ F.entry_list_append (F.args_list_append_2 _ _) (PySem.list_append l its.toArray n u (by rw [List.size_toArray]; omega)) ⟨e,?_⟩
 refine ⟨.non,_,I.lset (its':=its++[u]) hH e (by simp) (r.append (.cons ru .nil)) ?_,rfl,q⟩
 rw [List.length_append,List.length_singleton]
 omega
def b80:V→List V→Hp→VK→Prop:=fun x vs H Q=>∃ l b xs zs,x=.ref l∧vs=[.ref b]∧H l=some (.lst xs)∧H b=some (.lst zs)∧xs.length+zs.length≤sizeLine∧Q .non (upd H l (.lst (xs++zs)))
theorem a79:MtM X "list.extend" b80:=by
 intro pins s σ H x vs v us Q I rx rv h
 obtain ⟨l,b,xs,zs,rfl,rfl,hH,hB,hz,q⟩:=h
 cases rx
 obtain ⟨u,rfl,ru⟩:=rv.one
 cases ru
 obtain ⟨z,its,n,r,hl,e⟩:=I.lstM hH
 obtain ⟨z2,its2,n2,r2,hl2,e2⟩:=I.lstM hB
 have hsz:its.toArray.size+its2.toArray.size≤sizeLine:=by rw [List.size_toArray,List.size_toArray]; omega
 have hlong:¬ (!its.toArray.isEmpty && Builtin.List.listTooLong (its.toArray.size+its2.toArray.size))=true:=by
  rw [bh2 hsz,Bool.and_false]
  exact Bool.false_ne_true
 refine call_meets F.slot_list_extend ⟨_,e,rfl⟩ F.entry_list_extend (F.args_list_extend_2 _ _)
  (AutoSeq1.list_extend_list_list_0 l its.toArray n b its2.toArray n2 hlong (by rw [List.size_toArray]; omega) (by omega)) ⟨e,e2,?_⟩
 refine ⟨.non,_,I.lset (its':=its++its2) hH e (by simp) (r.append r2) ?_,rfl,q⟩
 rw [List.length_append]
 omega
def rPop:V→List V→Hp→VK→Prop:=fun x vs H Q=>∃ l xs y,x=.ref l∧vs=[]∧H l=some (.lst xs)∧xs[xs.length - 1]?=some y∧Q y (upd H l (.lst xs.dropLast))
theorem b81:MtM X "list.pop" rPop:=by
 intro pins s σ H x vs v us Q I rx rv h
 obtain ⟨l,xs,y,rfl,rfl,hH,hy,q⟩:=h
 cases rx
 have hus:=rv.zero
 subst hus
 obtain ⟨z,its,n,r,hl,e⟩:=I.lstM hH
 obtain ⟨u,hu,ru⟩:=r.get hy
 have hy':its.toArray[its.toArray.size - 1]?=some u:=by
  show its.toArray[its.length - 1]?=some u
  rw [← Array.getElem?_toList,←hl]
  exact hu
 refine call_meets F.slot_list_pop ⟨_,e,rfl⟩ F.entry_list_pop (F.args_list_pop_1 _) (MeetsSeq.list_pop_last l its.toArray n u hy' (by rw [List.size_toArray]; omega)) ⟨e,?_⟩
 refine ⟨y,_,I.lset (its':=its.dropLast) hH e ?_ r.dropLast ?_,ru,q⟩
 · show its.toArray.eraseIdxIfInBounds (its.toArray.size - 1)=its.dropLast.toArray
   rw [List.size_toArray,List.eraseIdxIfInBounds_toArray,b48]
 · rw [List.length_dropLast]
   omega
def bm8:V→List V→Hp→VK→Prop:=fun x vs H Q=>∃ l xs i k y,x=.ref l∧vs=[.int i]∧H l=some (.lst xs)∧-(2 ^ 63)≤i∧i<2 ^ 63∧seqIndex? i xs.length=some k∧xs[k]?=some y∧Q y (upd H l (.lst (xs.eraseIdx k)))
theorem bh3:MtM X "list.pop" bm8:=by
 intro pins s σ H x vs v us Q I rx rv h
 obtain ⟨l,xs,i,k,y,rfl,rfl,hH,h1,h2,hk,hy,q⟩:=h
 cases rx
 obtain ⟨u,rfl,ru⟩:=rv.one
 obtain ⟨t,rfl⟩:=ru
 obtain ⟨z,its,n,r,hl,e⟩:=I.lstM hH
 obtain ⟨w,hw,rw'⟩:=r.get hy
 refine call_meets F.slot_list_pop ⟨_,e,rfl⟩ F.entry_list_pop (F.args_list_pop_2 _ _)
  (MeetsSeq.list_pop_at l its.toArray n i t k w (fitsIndex_both h1 h2) (by rw [List.size_toArray,←hl]; exact hk) (by rw [← Array.getElem?_toList]; exact hw) (by rw [List.size_toArray]; omega)) ⟨e,?_⟩
 refine ⟨y,_,I.lset (its':=its.eraseIdx k) hH e ?_ (r.eraseIdx k) ?_,rw',q⟩
 · show its.toArray.eraseIdxIfInBounds k=(its.eraseIdx k).toArray
   rw [List.eraseIdxIfInBounds_toArray]
 · have:=as6 xs k
   omega
def rCat:R2:=fun x y H Q=>∃ l b xs zs,x=.ref l∧y=.ref b∧H l=some (.lst xs)∧H b=some (.lst zs)∧xs.length+zs.length≤sizeLine∧∀ p,H p=none→Q (.ref p) (upd H p (.lst (xs++zs)))
theorem c08:OpR X (binaryOp .Add) rCat:=by
 intro pins s σ H x y v u Q I rx ry h
 obtain ⟨l,b,xs,zs,rfl,rfl,hH,hB,hz,q⟩:=h
 cases rx
 cases ry
 obtain ⟨z,its,n,r,hl,e⟩:=I.lstM hH
 obtain ⟨z2,its2,n2,r2,hl2,e2⟩:=I.lstM hB
 refine PySem.P.add_list e e2 ?_ (by rw [List.size_toArray,List.size_toArray]; omega)
 have ea:its.toArray++its2.toArray=(its++its2).toArray:=by simp
 rw [ea]
 exact ⟨.ref _,_,I.lnew (t':=s.toks) (r.append r2) (by rw [List.length_append]; omega),rfl,q _ I.fresh⟩
end
section
variable {prog:Program}{w:World}{A:Around}{E:Value→Shared→Prop}{s:Shared}
set_option maxRecDepth 100000 in
end
section
variable {X:Cx}
end
end L2
namespace Att
open PySem PySem.W PySem.Calls PyProof.Rows
theorem ak3 {P:Params}{h:Heap}:∀ (ns:List Int) (vs:List Value),WellAll P h vs (ns.map WData.int)→IntsAre vs ns:=by
 intro ns
 induction ns with
 | nil =>
   intro vs w
   rw [List.map_nil] at w
   cases w
   exact .nil
 | cons n ns ih =>
   intro vs w
   rw [List.map_cons] at w
   cases w with
   | cons a b =>
     cases a
     exact .cons _ _ (ih _ b)
theorem b82 {l:OpenLaw}{n:Nat}(hn:l.most=some n) {P:Params}{h:Heap}{args:List WData}{vals:List Value}
 (hpre:l.row.toRowW.claim.pre args=true) (hwl:WellAll P h vals args) :
 ∃ a vs ns,vals=[Value.ref a]∧args=[WData.list (ns.map WData.int)]∧h.get? a=some { cls:=.type "list",data:=.seq vs.toArray }∧IntsAre vs ns∧ns.length≤n:=by
 have hsh:WShape.hasAll [] args [.list .int]=true:=(pre_splitW hpre).1
 have hc:l.pre.holds [] { args:=args }=true:=(pre_splitW hpre).2
 obtain ⟨d,r,rfl,h1,h2⟩:=hasAllW_cons hsh
 obtain rfl:=hasAllW_nil h2
 obtain ⟨xs,rfl,h3⟩:=hasW_list h1
 obtain ⟨ns,rfl⟩:=items_int h3
 have hlen:ns.length≤n:=by
  unfold OpenLaw.pre at hc
  have h4:(WTm.not (.lt (.lit (.int (n:Int))) (.len (.arg 0)))).holds [] { args:=[.list (ns.map .int)] }=true:=by
   have h4:=(holds_andW hc).1
   rw [hn] at h4
   exact h4
  have h5:=condW_of h4 (w_not (w_lt w_lit (w_len_list (w_arg rfl))))
  rw [List.length_map] at h5
  refine Nat.le_of_not_lt fun q=>?_
  have q':(n:Int)<((ns.length:Nat):Int):=by omega
  first
   | (rw [decide_eq_true q'] at h5; exact absurd h5 (by decide))
   | (simp at h5; omega)
 cases hwl with
 | cons w1 w2 =>
   cases w2
   cases w1 with
   | list ho hall=>exact ⟨_,_,ns,rfl,rfl,ho,ak3 ns _ hall,hlen⟩
theorem b83 (l:OpenLaw) (args:List WData):l.row.toRowW.claim.post args (.bool true) args=true :=
 postW_of (r:=l.row.toRowW) (X:=(true == true))
  (show WShape.has [] (.bool true) .bool=true by first | rfl | decide | simp [WShape.has,WShape.arms,WShape.armsAll])
  (show (WTm.eq .res (.lit (.bool true))).value [] { args:=args,res:=some (.bool true),after:=args }=some (.bool (true == true)) from w_eq_bool (w_res rfl) w_lit) rfl
theorem attach_call {l:OpenLaw}{n:Nat}{q:Program}{loose:List Str}{XP:(Str→Option Value)→Heap→Prop}{YP:World→Heap→Prop}{d:DefRec}
 (hn:l.most=some n) (hdf:d.params.defaults=[])
 (call:∀ (w:World) (s₀ s₁:Shared) (mg mb:Str→Option Value) (fa:Addr) (o:Obj) (pm cd doc:Value) (a:Addr) (vs:List Value) (ns:List Int),
  Ground q loose [] XP w s₀ mg mb s₁.heap→YP w s₁.heap →
  s₁.heap.get? fa=some o→o.data=.func (docDef d.name d.params d.body d.scope pm cd doc)→s₁.heap.CodeRec cd d.name→mg d.name=some (.ref fa) →
  s₁.heap.get? a=some { cls:=.type "list",data:=.seq vs.toArray }→IntsAre vs ns→ns.length≤n→s₁.gens=#[] →
  codeAny (model l.prog w) callerA (.call (.ref fa) ⟨[.ref a],[]⟩) (fun r s'=>r=.ok (.ret (.bool true))∧OldK s₁.heap s'.heap∧s'.os=s₁.os∧AllBare s'.gens) s₁) :
 WalkO q loose XP YP l.row.toRowW d [] (fun f vs=>PySem.call f vs):=by
 intro w s₀ s₁ mg mb G Y fa o pm cd doc dV kV ho hd hcd hD hmg hg args vals as hpre hlay hrd hwl hlo
 obtain rfl:dV=.none:=Dflts.none hD hdf
 obtain rfl:kV=.none:=Dflts.noKw hD
 obtain ⟨a,vs,ns,rfl,rfl,hobj,hints,hlen⟩:=b82 hn hpre hwl
 refine enter_call (codeAny_mono (call w s₀ s₁ mg mb fa o pm cd doc a vs ns G Y ho (fd_plain hd) hcd hmg hobj hints hlen hg) fun r s' hq=>?_)
 obtain ⟨rfl,h2,h3,h4⟩:=hq
 exact ⟨.inl ⟨.bool true,.bool true,[],rfl,fun _=>rfl,.bool true,b83 l _,fun _=>⟨List.Pairwise.nil,fun _ hm=>(nomatch hm)⟩⟩,h2,h3,h4⟩
section
variable {prog:Program}{w:World}{A:Around}{E:Value→Shared→Prop}{s:Shared}{K:Frag}
end
end Att
namespace L2
open PySem PySem.Spec PyProof.Rows
theorem as7:∀ {vs:List Value}{ns:List Int},IntsAre vs ns→Vals (ns.map V.int) vs
 | _,_,.nil=>.nil
 | _,_,.cons n t h=>.cons ⟨t,rfl⟩ (as7 h)
def Only (H:Hp):Prop:=∀ b,H b=none∨∃ o xs,H b=some (.frz o (.lst xs))
theorem bh4 {P:Program}{w:World}{K:PySem.W.Frag}{mg mb:Str→Option Value}{CX:CXT}{k:Nat}{fa a:Addr}{fd:FuncData}{x:Str}{sp:Sp}{s₁:Shared}{vs:List Value}{ns:List Int}
 (KX:K.In s₁.heap) (hns:s₁.heap.Ns mainGlobals mg) (hb:s₁.heap.Ns builtinsNs mb) (hbb:∀ x:Str,x≠"__name__"→mb x=bootBuiltins x) (hlim:s₁.heap.NoLimit) (hg:s₁.gens=#[])
 (ha:s₁.heap.get? a=some { cls:=.type "list",data:=.seq vs.toArray }) (hi:IntsAre vs ns) (hl:ns.length≤sizeLine) (hr:Room k callerA)
 (F:∀ base:Heap,K.In base→base.Ns mainGlobals mg→FnOk P w K mg base CX k fa fd [x] sp) (hbind:∀ (s:Shared) (u:Value),BindsTo s fd ⟨[u],[]⟩ [(x,u)])
 (hsp:∀ H:Hp,Only H→SqL K H a (ns.map V.int)→sp [.ref a] H (fun v _=>v=.bl true) fun _ _ _=>False)
 (hCX:∀ H e s',CX [] H s₁ (fun _ _ _=>False) e s'→False) :
 codeAny (model P w) callerA (.call (.ref fa) ⟨[.ref a],[]⟩) (fun r s'=>r=.ok (.ret (.bool true))∧OldK s₁.heap s'.heap∧s'.os=s₁.os∧AllBare s'.gens) s₁:=by
 have rv:=as7 hi
 have lenV:=hi.length
 have core:∀ H:Hp,Only H→SqL K H a (ns.map V.int)→HOk P w H s₁.heap→(∀ b,H b≠none→b=a)→(H a≠none→K.lookup a=none) →
  codeAny (model P w) callerA (.call (.ref fa) ⟨[.ref a],[]⟩) (fun r s'=>r=.ok (.ret (.bool true))∧OldK s₁.heap s'.heap∧s'.os=s₁.os∧AllBare s'.gens) s₁:=by
  intro H hO hS hok hA hK
  have base_of:∀ {b:Addr}{o:Obj},s₁.heap.get? b=some o→H b=none→(hidT s₁.heap H).get? b=some o:=fun e n=>bg3 e n
  have noA:∀ {b:Addr}{o:Obj}{es:Array DictEntry}{ep:Nat},s₁.heap.get? b=some o→o.data=.dict es ep→H b=none:=fun {b o es ep} e d=>by
   cases q:H b with
   | none=>rfl
   | some u =>
     have e':b=a:=hA b (by rw [q]; simp)
     subst e'
     rw [ha] at e; cases e
     have d':Data.seq vs.toArray _=Data.dict es ep:=d
     cases d'
  have nsK:∀ {b:Addr}{m:Str→Option Value},s₁.heap.Ns b m→(hidT s₁.heap H).Ns b m:=fun {b m} ⟨o,es,ep,e,d,r⟩=>⟨o,es,ep,base_of e (noA e d),d,r⟩
  have hKb:K.In (hidT s₁.heap H):=fun b o e=>base_of (KX b o e) (by
   cases q:H b with
   | none=>rfl
   | some u =>
     have e':b=a:=hA b (by rw [q]; simp)
     subst e'
     rw [hK (by rw [q]; simp)] at e; cases e)
  have hM:Mod K mg (hidT s₁.heap H):=⟨hKb,nsK hns,⟨mb,nsK hb,hbb⟩,let ⟨mc,h1,h2⟩:=hlim; ⟨mc,nsK h1,h2⟩⟩
  have e0:Env0 P w K mg (hidT s₁.heap H) callerA [] s₁ H:=⟨rfl,hM,fun b o e=>bq0 e,Nat.le_of_eq (b63 _ _),trivial,fun b hb=>absurd (show b∈([]:List Addr) from hb) (by simp),hok,.of_eq hg⟩
  refine codeAny_mono ((F _ hKb (nsK hns)).run callerA [] s₁ H ⟨[.ref a],[]⟩ [.ref a] [.ref a] _ _ hr e0 (hbind s₁ (.ref a)) (.cons rfl .nil) (hsp H hO hS)) fun r s' h=>?_
  cases r with
  | error e=>exact (hCX H e s' h).elim
  | ok fl =>
    cases fl with
    | next=>exact False.elim h
    | brk=>exact False.elim h
    | cont=>exact False.elim h
    | ret u =>
      obtain ⟨v,H',os,bare,un,hok',r',q⟩:=h
      have q':v=.bl true:=q
      subst q'
      obtain rfl:u=Value.bool true:=r'
      refine ⟨rfl,OldK.of_keep fun b o e=>?_,os,bare⟩
      cases q:H b with
      | none=>exact un.keep b o e q (by intro z; exact absurd (show b∈([]:List Addr) from z) (by simp)) (by simp)
      | some u =>
        rcases hO b with z | ⟨ob,xs,z⟩
        · rw [q] at z; cases z
        · have z2:=un.frzs b ob _ z
          obtain ⟨e1,_⟩:=hok b _ z
          obtain ⟨e2,_⟩:=hok' b _ z2
          rw [e] at e1; cases e1
          exact e2
 cases hk:K.lookup a with
 | some o =>
   have e:=KX a o hk
   rw [ha] at e
   cases e
   refine core (fun _=>none) (fun _=>.inl rfl) (.inr ⟨_,vs.toArray,_,hk,rfl,rfl,rfl,by rw [List.size_toArray,lenV]; exact hl,by simpa using rv⟩) (fun b u z=>by have z':(none:Option HO)=some u:=z; cases z') (fun b z=>absurd rfl z) fun z=>absurd rfl z
 | none =>
   refine core (fun b=>if b=a then some (.frz { cls:=.type "list",data:=.seq vs.toArray } (.lst (ns.map V.int))) else none) (fun b=>?_) (.inl (.inr ⟨{ cls:=.type "list",data:=.seq vs.toArray },if_pos rfl⟩)) (fun b u z=>?_) (fun b z=>?_) fun _=>hk
   · by_cases hb:b=a
     · exact .inr ⟨_,_,if_pos hb⟩
     · exact .inl (if_neg hb)
   · by_cases hb:b=a
     · have z':=(if_pos hb).symm.trans z
       cases z'
       subst hb
       exact ⟨ha,by rw [List.length_map]; exact hl,vs,_,rv,ha⟩
     · have z':=(if_neg hb).symm.trans z
       cases z'
   · by_cases hb:b=a
     · exact hb
     · exact absurd (if_neg hb) z
theorem walk_of {l:PySem.W.OpenLaw}{n k:Nat}{q:Program}{loose:List Str}{XP:(Str→Option Value)→Heap→Prop}{YP:World→Heap→Prop}{d:DefRec}{K:Params→PySem.W.Frag}{CX:World→CXT}{sp:World→Sp}{x:Str}
 (hn:l.most=some n) (hn2:n≤sizeLine) (hdf:d.params.defaults=[]) (hr:Room k callerA)
 (hY:∀ (w:World) (h:Heap),YP w h→(K w.params).In h)
 (F:∀ (w:World) (mg:Str→Option Value) (fa:Addr) (h:Heap),(K w.params).In h→h.Ns mainGlobals mg→mg d.name=some (.ref fa) →
  ∃ fd:FuncData,(∀ (s:Shared) (u:Value),BindsTo s fd ⟨[u],[]⟩ [(x,u)]) ∧
   ∀ base:Heap,(K w.params).In base→base.Ns mainGlobals mg→FnOk l.prog w (K w.params) mg base (CX w) k fa fd [x] (sp w))
 (hsp:∀ (w:World) (H:Hp) (a:Addr) (ns:List Int),ns.length≤n→Only H→SqL (K w.params) H a (ns.map V.int)→sp w [.ref a] H (fun v _=>v=.bl true) fun _ _ _=>False)
 (hCX:∀ (w:World) (H:Hp) (s:Shared) (e:Value) (s':Shared),CX w [] H s (fun _ _ _=>False) e s'→False) :
 PySem.W.WalkO q loose XP YP l.row.toRowW d [] (fun f vs=>PySem.call f vs):=by
 refine Att.attach_call hn hdf fun w s₀ s₁ mg mb fa o pm cd doc a vs ns G Y ho hd hcd hmg hobj hints hlen hg=>?_
 have KX:=hY w _ Y
 obtain ⟨fd,hb,hF⟩:=F w mg fa _ KX G.T.g hmg
 exact bh4 KX G.T.g G.T.b G.T.builtins G.T.nolimit hg hobj hints (Nat.le_trans hlen hn2) hr hF hb (fun H hO hS=>hsp w H a ns hlen hO hS) fun H e s'=>hCX w H s₁ e s'
def ah3 (s:Stmt) (j:Nat):Stmt:=match s with
 | .ClassDef _ _ _ body _ _ _ _ _ _ _=>body.getD j (.Pass ⟨0,0,0,0⟩)
 | _=>.Pass ⟨0,0,0,0⟩
def ad8 (s:Stmt):Arguments:=match s with
 | .FunctionDef _ a _ _ _ _ _ _ _ _=>a
 | _=>{ posonlyargs:=[],args:=[],vararg:=none,kwonlyargs:=[],kw_defaults:=[],kwarg:=none,defaults:=[] }
def aa9 (s:Stmt):List Stmt:=match s with
 | .FunctionDef _ _ b _ _ _ _ _ _ _=>b
 | _=>[]
def a06 (s:Stmt):Scope:=match s with
 | .FunctionDef _ _ _ _ _ _ sc _ _ _=>sc
 | _=>{ kind:=.function,names:=[],isGenerator:=false,isCoroutine:=false }
abbrev CX0:CXT:=fun _ _ _ _ _ _=>False
abbrev E0:XK:=fun _ _ _=>False
theorem a19 {X:Cx}:an0 CX0 X E0:=fun _ _ _ _ _ _ _ h=>h.elim
structure Fun (K:PySem.W.Frag) (x qual:Str) (st:Stmt) (f:Addr) (fd:FuncData):Prop where
 ex:∃ (oc:Value) (od:Option Addr) (kV doc pm:Value) (an:Option Addr) (cdv ct:Value) (osl:Array (Option Value)),
  fd=PySem.W.fnOf x qual (ad8 st) (aa9 st) (a06 st) .none kV doc pm an cdv ct∧K.lookup f=some ⟨oc,od,.func fd,osl⟩∧PySem.W.codeIn K cdv qual=true
 kp:PySem.W.keepIn K (.ref f)=true
section
variable {P:Program}{w:World}{K:PySem.W.Frag}{mg:Str→Option Value}{base:Heap}
theorem Fun.ok {x qual:Str}{st:Stmt}{f:Addr}{fd:FuncData}{N ps:List Str}{k:Nat}{sp:Sp}(F:Fun K x qual st f fd) (S:FnScope N ps (a06 st)) (len:∀ vs H Q E,sp vs H Q E→vs.length=ps.length)
 (hbody:∀ (cdv:Value) (A:Around) (outer:List Env) (s:Shared) (H:Hp) (vs:List V) (Q:VK) (E:XK),Room k (A.deeper (envOfC qual (a06 st) s.heap.objs.size f cdv))→sp vs H Q E →
  ∃ t,PSs (cxOf CX0 P w K mg base N qual (a06 st) f cdv A outer s H E).nox (aa9 st) t∧t { nx:=fun _ H'=>Q .non H',rt:=Q } (start N vs) H):FnOk P w K mg base CX0 (k+1) f fd ps sp:=by
 obtain ⟨oc,od,kV,doc,pm,an,cdv,ct,osl,rfl,lk,hcd⟩:=F.ex
 refine ca2 lk hcd S len fun A outer s H vs Q E hr hsp=>?_
 obtain ⟨t,h,q⟩:=hbody cdv A outer s H vs Q E hr hsp
 exact ⟨t,h.nox,q⟩
theorem Fun.binds {x qual:Str}{st:Stmt}{f:Addr}{fd:FuncData}{ps:List Str}(F:Fun K x qual st f fd)
 (h:∀ (kV doc pm:Value) (an:Option Addr) (cdv ct:Value) (us:List Value),us.length=ps.length→bindArgs (PySem.W.fnOf x qual (ad8 st) (aa9 st) (a06 st) .none kV doc pm an cdv ct) ⟨us,[]⟩=pure (ps.zip us)):Binds K fd ps []:=by
 obtain ⟨oc,od,kV,doc,pm,an,cdv,ct,osl,rfl,lk,hcd⟩:=F.ex
 exact .all (h kV doc pm an cdv ct)
theorem bm9 {x qual:Str}{st:Stmt}{f:Addr}{oc:Value}{od an:Option Addr}{osl:Array (Option Value)}{kV doc pm cdv ct:Value}(l:K.lookup f=some ⟨oc,od,.func (PySem.W.fnOf x qual (ad8 st) (aa9 st) (a06 st) .none kV doc pm an cdv ct),osl⟩)
 (c:PySem.W.codeIn K cdv qual=true) (k:PySem.W.keepIn K (.ref f)=true):Fun K x qual st f (PySem.W.fnOf x qual (ad8 st) (aa9 st) (a06 st) .none kV doc pm an cdv ct):=⟨⟨oc,od,kV,doc,pm,an,cdv,ct,osl,rfl,l,c⟩,k⟩
end
theorem bh5 {A:Around}{k:Nat}(hr:Room k A):A.units+1<cLine:=Nat.lt_of_le_of_lt (Nat.add_le_add_left (by decide:1≤64) _) hr.units
theorem small1000 {n:Nat}(h:n≤1000):n<sizeLine:=Nat.lt_of_le_of_lt h (by decide)
section
variable {X:Cx}
theorem pv (i:Nat) {x:Str}{pos:Pos}(hN:X.N[i]?=some x:=by rfl) (hv:Vis X.env.scope x:=by first | exact Or.inl rfl | exact Or.inr (Or.inl rfl) | exact Or.inr (Or.inr rfl)) (hd:(x == ("__debug__":Str))=false:=by decide)
 (hcd:(x == ("__classdict__":Str))=false:=by decide):PE X (.Name x pos) (tVar i):=by0 hN hv hd hcd
end
theorem iteF {A B:Prop}(h:B):if false=true then A else B:=by
 rw [if_neg Bool.false_ne_true]
 exact h
theorem iteT {A B:Prop}(h:A):if true=true then A else B:=by
 rw [if_pos rfl]
 exact h
def Same (H H':Hp):Prop:=∀ b o,H b=some o→H' b=some o
theorem Same.refl (H:Hp):Same H H:=fun _ _ h=>h
theorem Same.trans {H H1 H2:Hp}(a:Same H H1) (b:Same H1 H2):Same H H2:=fun c o h=>b c o (a c o h)
theorem Same.free {H H':Hp}(e:Same H H') {l:Addr}(h:H' l=Option.none):H l=Option.none:=by
 cases q:H l with
 | none=>rfl
 | some o =>
   rw [e l o q] at h
   cases h
end L2
namespace K16
open PySem L2
def top (i:Nat):Stmt:=PySem.Challenge.pw_callmill_k16_whole_sound_scripts_rest.main.body.getD i (.Pass ⟨0,0,0,0⟩)
def view:Program:={ PySem.Challenge.pw_callmill_k16_whole_sound_scripts_rest with main:={ PySem.Challenge.pw_callmill_k16_whole_sound_scripts_rest.main with body:=[top 1,top 2,top 4,top 6,top 8,top 9,top 10,top 11,top 12,top 13,top 14,top 15,top 16,top 17,top 18,top 19,top 20,top 21,top 22,top 23,top 24,top 26,top 27,top 28,top 29,top 30,top 31,top 32,top 33,top 34,top 35,top 36,top 37,top 38,top 39] } }
abbrev ad9:Stmt:=top 1
abbrev ab0:Stmt:=top 2
abbrev ab1:Stmt:=top 4
abbrev an1:Stmt:=top 6
abbrev az8:Stmt:=top 10
abbrev b84:Stmt:=top 11
abbrev a75:Stmt:=top 12
abbrev a51:Stmt:=top 13
abbrev a44:Stmt:=ah3 (top 14) 0
abbrev ab2:Stmt:=ah3 (top 14) 1
abbrev a74:Stmt:=ah3 (top 14) 2
abbrev a54:Stmt:=ah3 (top 14) 3
abbrev a70:Stmt:=ah3 (top 14) 4
abbrev a53:Stmt:=ah3 (top 14) 5
abbrev ai2:Stmt:=top 15
abbrev a65:Stmt:=top 16
abbrev a66:Stmt:=top 17
abbrev ae9:Stmt:=top 18
abbrev a88:Stmt:=top 19
abbrev az9:Stmt:=top 20
abbrev a67:Stmt:=top 21
abbrev a80:Stmt:=top 22
abbrev ae0:Stmt:=top 23
abbrev ad2:Stmt:=top 24
abbrev af0:Stmt:=top 26
abbrev ak4:Stmt:=top 27
abbrev an2:Stmt:=top 28
abbrev ak5:Stmt:=top 29
abbrev an3:Stmt:=top 30
abbrev as8:Stmt:=top 31
abbrev an4:Stmt:=top 32
abbrev ae1:Stmt:=top 33
abbrev b00:Stmt:=top 34
abbrev b01:Stmt:=top 35
abbrev ak6:Stmt:=top 36
abbrev aa4:Stmt:=top 37
abbrev ak7:Stmt:=top 38
abbrev br5:Stmt:=top 39
def as9 (K:PySem.W.Frag):Sp:=fun vs H Q _=>∃ (a:Addr) (ns:List Int),vs=[.ref a]∧SqL K H a (ns.map V.int)∧ns.length≤63∧∀ H',Q (.bl true) H'
set_option genInjectivity false in
structure Adr where
 {a_bodies_of:Addr}
 {fd_bodies_of:FuncData}
 {a_statements_in:Addr}
 {fd_statements_in:FuncData}
 {a_shown_pattern:Addr}
 {fd_shown_pattern:FuncData}
 {a_names_in:Addr}
 {fd_names_in:FuncData}
 {a_faults:Addr}
 {fd_faults:FuncData}
 {a_sound:Addr}
 {fd_sound:FuncData}
 {a_head_faults:Addr}
 {fd_head_faults:FuncData}
 {a_names_met_again:Addr}
 {fd_names_met_again:FuncData}
 {a_TalkLook___init__:Addr}
 {fd_TalkLook___init__:FuncData}
 {a_TalkLook_tell:Addr}
 {fd_TalkLook_tell:FuncData}
 {a_TalkLook_look_body:Addr}
 {fd_TalkLook_look_body:FuncData}
 {a_TalkLook_look_statement:Addr}
 {fd_TalkLook_look_statement:FuncData}
 {a_TalkLook_look_names:Addr}
 {fd_TalkLook_look_names:FuncData}
 {a_TalkLook_look_wait:Addr}
 {fd_TalkLook_look_wait:FuncData}
 {a_first_talk:Addr}
 {fd_first_talk:FuncData}
 {a_round_faults:Addr}
 {fd_round_faults:FuncData}
 {a_called_talks:Addr}
 {fd_called_talks:FuncData}
 {a_comes_round:Addr}
 {fd_comes_round:FuncData}
 {a_dry_faults:Addr}
 {fd_dry_faults:FuncData}
 {a_is_dry:Addr}
 {fd_is_dry:FuncData}
 {a_ends_of_body:Addr}
 {fd_ends_of_body:FuncData}
 {a_ends_of_statement:Addr}
 {fd_ends_of_statement:FuncData}
 {a_kept_ends:Addr}
 {fd_kept_ends:FuncData}
 {a_ends_of_talk:Addr}
 {fd_ends_of_talk:FuncData}
 {a__law_cell_at:Addr}
 {fd__law_cell_at:FuncData}
 {a__law_mixed:Addr}
 {fd__law_mixed:FuncData}
 {a__law_deck:Addr}
 {fd__law_deck:FuncData}
 {a__law_digit:Addr}
 {fd__law_digit:FuncData}
 {a__law_loop:Addr}
 {fd__law_loop:FuncData}
 {a__law_one:Addr}
 {fd__law_one:FuncData}
 {a__law_some:Addr}
 {fd__law_some:FuncData}
 {a__law_talks:Addr}
 {fd__law_talks:FuncData}
 {a__law_to:Addr}
 {fd__law_to:FuncData}
 {a__law_on:Addr}
 {fd__law_on:FuncData}
 {a__law_rests:Addr}
 {fd__law_rests:FuncData}
 {a__law_comes_back:Addr}
 {fd__law_comes_back:FuncData}
 {a__law_loops:Addr}
 {fd__law_loops:FuncData}
 {a_law:Addr}
 {fd_law:FuncData}
 {c_TalkLook:Addr}
 {u_ENDS:Value}
 {u_NONE:Value}
 {ad_ENDS:Addr}
 {ad_NONE:Addr}
structure CIi (K:PySem.W.Frag) (x q:Str) (st:Stmt) (ps:List Str) (a:Addr) (fd:FuncData):Prop where
 F:Fun K x q st a fd
 b:Binds K fd ps []
structure CFi (K:PySem.W.Frag) (mg:Str→Option Value) (x:Str) (st:Stmt) (ps:List Str) (a:Addr) (fd:FuncData):Prop extends CIi K x x st ps a fd where
 m:mg x=some (.ref a)
structure CMi (K:PySem.W.Frag) (c:Addr) (x q:Str) (st:Stmt) (ps:List Str) (a:Addr) (fd:FuncData):Prop extends CIi K x q st ps a fd where
 M:Meth K c x a
structure Txt (K:PySem.W.Frag) (mg:Str→Option Value) (t:Adr):Prop where
 m_TalkLook:mg "TalkLook"=some (.ref t.c_TalkLook)
 cl_TalkLook:Cls K t.c_TalkLook
 mk_TalkLook:Mk K t.c_TalkLook t.a_TalkLook___init__
 n_TalkLook_box_names:NoAttr K t.c_TalkLook "box_names"
 n_TalkLook_found:NoAttr K t.c_TalkLook "found"
 n_TalkLook_talk:NoAttr K t.c_TalkLook "talk"
 n_TalkLook_talk_names:NoAttr K t.c_TalkLook "talk_names"
 f_bodies_of:CFi K mg "bodies_of" ad9 ["statement"] t.a_bodies_of t.fd_bodies_of
 f_statements_in:CFi K mg "statements_in" ab0 ["body"] t.a_statements_in t.fd_statements_in
 f_shown_pattern:CFi K mg "shown_pattern" ab1 ["pattern"] t.a_shown_pattern t.fd_shown_pattern
 f_names_in:CFi K mg "names_in" an1 ["thing"] t.a_names_in t.fd_names_in
 f_faults:CFi K mg "faults" az8 ["script"] t.a_faults t.fd_faults
 f_sound:CFi K mg "sound" b84 ["script"] t.a_sound t.fd_sound
 f_head_faults:CFi K mg "head_faults" a75 ["script"] t.a_head_faults t.fd_head_faults
 f_names_met_again:CFi K mg "names_met_again" a51 ["things"] t.a_names_met_again t.fd_names_met_again
 f_TalkLook___init__:CIi K "__init__" "TalkLook.__init__" a44 ["self","talk","script"] t.a_TalkLook___init__ t.fd_TalkLook___init__
 f_TalkLook_tell:CMi K t.c_TalkLook "tell" "TalkLook.tell" ab2 ["self","word","what"] t.a_TalkLook_tell t.fd_TalkLook_tell
 f_TalkLook_look_body:CMi K t.c_TalkLook "look_body" "TalkLook.look_body" a74 ["self","body","in_loop"] t.a_TalkLook_look_body t.fd_TalkLook_look_body
 f_TalkLook_look_statement:CMi K t.c_TalkLook "look_statement" "TalkLook.look_statement" a54 ["self","statement","in_loop"] t.a_TalkLook_look_statement t.fd_TalkLook_look_statement
 f_TalkLook_look_names:CMi K t.c_TalkLook "look_names" "TalkLook.look_names" a70 ["self","names"] t.a_TalkLook_look_names t.fd_TalkLook_look_names
 f_TalkLook_look_wait:CMi K t.c_TalkLook "look_wait" "TalkLook.look_wait" a53 ["self","statement","in_loop"] t.a_TalkLook_look_wait t.fd_TalkLook_look_wait
 f_first_talk:CFi K mg "first_talk" ai2 ["talks","name"] t.a_first_talk t.fd_first_talk
 f_round_faults:CFi K mg "round_faults" a65 ["talks"] t.a_round_faults t.fd_round_faults
 f_called_talks:CFi K mg "called_talks" a66 ["talks","body"] t.a_called_talks t.fd_called_talks
 f_comes_round:CFi K mg "comes_round" ae9 ["talk","called"] t.a_comes_round t.fd_comes_round
 f_dry_faults:CFi K mg "dry_faults" a88 ["talks"] t.a_dry_faults t.fd_dry_faults
 f_is_dry:CFi K mg "is_dry" az9 ["loop","talks","known"] t.a_is_dry t.fd_is_dry
 f_ends_of_body:CFi K mg "ends_of_body" a67 ["body","talks","known"] t.a_ends_of_body t.fd_ends_of_body
 f_ends_of_statement:CFi K mg "ends_of_statement" a80 ["statement","talks","known"] t.a_ends_of_statement t.fd_ends_of_statement
 f_kept_ends:CFi K mg "kept_ends" ae0 ["ends","kept"] t.a_kept_ends t.fd_kept_ends
 f_ends_of_talk:CFi K mg "ends_of_talk" ad2 ["name","talks","known"] t.a_ends_of_talk t.fd_ends_of_talk
 f__law_cell_at:CFi K mg "_law_cell_at" af0 ["script","k"] t.a__law_cell_at t.fd__law_cell_at
 f__law_mixed:CFi K mg "_law_mixed" ak4 ["cell","k"] t.a__law_mixed t.fd__law_mixed
 f__law_deck:CFi K mg "_law_deck" an2 ["script"] t.a__law_deck t.fd__law_deck
 f__law_digit:CFi K mg "_law_digit" ak5 ["deck","many"] t.a__law_digit t.fd__law_digit
 f__law_loop:CFi K mg "_law_loop" an3 ["deck","later","deep"] t.a__law_loop t.fd__law_loop
 f__law_one:CFi K mg "_law_one" as8 ["deck","later","looped","deep"] t.a__law_one t.fd__law_one
 f__law_some:CFi K mg "_law_some" an4 ["deck","later","looped","deep"] t.a__law_some t.fd__law_some
 f__law_talks:CFi K mg "_law_talks" ae1 ["deck"] t.a__law_talks t.fd__law_talks
 f__law_to:CFi K mg "_law_to" b00 ["pile","mark","talk"] t.a__law_to t.fd__law_to
 f__law_on:CFi K mg "_law_on" b01 ["talks","pile","statement","ways"] t.a__law_on t.fd__law_on
 f__law_rests:CFi K mg "_law_rests" ak6 ["talks","ways"] t.a__law_rests t.fd__law_rests
 f__law_comes_back:CFi K mg "_law_comes_back" aa4 ["talks","body"] t.a__law_comes_back t.fd__law_comes_back
 f__law_loops:CFi K mg "_law_loops" ak7 ["body"] t.a__law_loops t.fd__law_loops
 f_law:CFi K mg "law" br5 ["script"] t.a_law t.fd_law
 z_abs:mg "abs"=none
 z_dict:mg "dict"=none
 z_enumerate:mg "enumerate"=none
 z_len:mg "len"=none
 z_list:mg "list"=none
 z_range:mg "range"=none
 z_reversed:mg "reversed"=none
 z_str:mg "str"=none
 m_ENDS:mg "ENDS"=some t.u_ENDS
 r_ENDS:RelV (.ref t.ad_ENDS) t.u_ENDS
 m_NONE:mg "NONE"=some t.u_NONE
 r_NONE:RelV (.ref t.ad_NONE) t.u_NONE
 dd_ENDS:∃ od its nn sl,K.lookup t.ad_ENDS=some ⟨.type "tuple",od,.seq its nn,sl⟩∧its.size≤sizeLine∧Vals [.str "on",.str "again",.str "leave",.str "back",.str "stop"] its.toList
 dd_NONE:∃ od its nn sl,K.lookup t.ad_NONE=some ⟨.type "tuple",od,.seq its nn,sl⟩∧its.size≤sizeLine∧Vals [.str "none"] its.toList
theorem am3 {us:List Value}{n:Nat}(h:us.length=n+1):∃ u r,us=u::r:=by
 cases us with
 | nil=>cases h
 | cons u r=>exact ⟨u,r,rfl⟩
theorem ca4 {us:List Value}(h:us.length=1):∃ u0,us=[u0]:=by
 obtain ⟨u0,us,rfl⟩:=am3 h; replace h:=Nat.succ.inj h
 obtain rfl:=List.length_eq_zero_iff.mp h
 exact ⟨u0,rfl⟩
theorem ca5 {us:List Value}(h:us.length=2):∃ u0 u1,us=[u0,u1]:=by
 obtain ⟨u0,us,rfl⟩:=am3 h; replace h:=Nat.succ.inj h
 obtain ⟨u1,us,rfl⟩:=am3 h; replace h:=Nat.succ.inj h
 obtain rfl:=List.length_eq_zero_iff.mp h
 exact ⟨u0,u1,rfl⟩
theorem ca6 {us:List Value}(h:us.length=3):∃ u0 u1 u2,us=[u0,u1,u2]:=by
 obtain ⟨u0,us,rfl⟩:=am3 h; replace h:=Nat.succ.inj h
 obtain ⟨u1,us,rfl⟩:=am3 h; replace h:=Nat.succ.inj h
 obtain ⟨u2,us,rfl⟩:=am3 h; replace h:=Nat.succ.inj h
 obtain rfl:=List.length_eq_zero_iff.mp h
 exact ⟨u0,u1,u2,rfl⟩
theorem ca7 {us:List Value}(h:us.length=4):∃ u0 u1 u2 u3,us=[u0,u1,u2,u3]:=by
 obtain ⟨u0,us,rfl⟩:=am3 h; replace h:=Nat.succ.inj h
 obtain ⟨u1,us,rfl⟩:=am3 h; replace h:=Nat.succ.inj h
 obtain ⟨u2,us,rfl⟩:=am3 h; replace h:=Nat.succ.inj h
 obtain ⟨u3,us,rfl⟩:=am3 h; replace h:=Nat.succ.inj h
 obtain rfl:=List.length_eq_zero_iff.mp h
 exact ⟨u0,u1,u2,u3,rfl⟩
theorem br6 {K:PySem.W.Frag}{x q:Str}{st:Stmt}{f:Addr}{ps:List Str}{oc:Value}{od an:Option Addr}{osl:Array (Option Value)}{kV doc pm cdv ct:Value}(l:K.lookup f=some ⟨oc,od,.func (PySem.W.fnOf x q (ad8 st) (aa9 st) (a06 st) .none kV doc pm an cdv ct),osl⟩) (c:PySem.W.codeIn K cdv q=true) (k:PySem.W.keepIn K (.ref f)=true) (b:∀ (kV doc pm:Value) (an:Option Addr) (cdv ct:Value) (us:List Value),us.length=ps.length→bindArgs (PySem.W.fnOf x q (ad8 st) (aa9 st) (a06 st) .none kV doc pm an cdv ct) ⟨us,[]⟩=pure (ps.zip us)):CIi K x q st ps f (PySem.W.fnOf x q (ad8 st) (aa9 st) (a06 st) .none kV doc pm an cdv ct):=⟨bm9 l c k,(bm9 l c k).binds b⟩
theorem ca8 {K:PySem.W.Frag}{mg:Str→Option Value}{h:Heap}{x:Str}{st:Stmt}{ps:List Str}{f:Addr}{fd:FuncData}(X:K.In h) (G:h.Ns mainGlobals mg) (a:PySem.W.nsIn K mainGlobals x=some (some (.ref f))) (i:CIi K x x st ps f fd):CFi K mg x st ps f fd:=⟨i,PySem.W.mg_of X G a⟩
def HF (P:Params) (K:PySem.W.Frag):Prop:=∃ t:Adr,∀ (mg:Str→Option Value) (h:Heap),K.In h→h.Ns mainGlobals mg→Txt K mg t
theorem walk2 {l:PySem.W.OpenLaw}{q:Program}{loose:List Str}{XP:(Str→Option Value)→Heap→Prop}{YP:World→Heap→Prop}{d:DefRec}{K:Params→PySem.W.Frag}(hn:l.most=some 63) (hdf:d.params.defaults=[]) (hd:d.name="law") (hl:l=PySem.Challenge.rw_callmill_k16_whole_sound_scripts_rest) (hY:∀ (w:World) (h:Heap),YP w h→(K w.params).In h) (hF:∀ P,HF P (K P)) (G:∀ K:Params→PySem.W.Frag,(∀ P,HF P (K P))→(∀ (w:World) (mg:Str→Option Value) (fa:Addr) (h:Heap),(K w.params).In h→h.Ns mainGlobals mg→mg "law"=some (.ref fa)→∃ fd:FuncData,(∀ (s:Shared) (u:Value),BindsTo s fd ⟨[u],[]⟩ [("script",u)])∧∀ base:Heap,(K w.params).In base→base.Ns mainGlobals mg→FnOk PySem.Challenge.rw_callmill_k16_whole_sound_scripts_rest.prog w (K w.params) mg base CX0 130 fa fd ["script"] (as9 (K w.params)))):PySem.W.WalkO q loose XP YP l.row.toRowW d [] (fun f vs=>PySem.call f vs) :=
 L2.walk_of (n:=63) (k:=130) (x:="script") (CX:=fun _=>CX0) (sp:=fun w=>as9 (K w.params)) hn (by decide) hdf ⟨rfl,by decide,by decide⟩ hY (by rw [hd,hl]; exact G K hF) (fun _ _ a ns hl _ hS=>⟨a,ns,rfl,hS,hl,fun _=>rfl⟩) fun _ _ _ _ _ z=>z
theorem ca9 {K:PySem.W.Frag}{C:Addr}{x q:Str}{st:Stmt}{ps:List Str}{f:Addr}{fd:FuncData}(a:PySem.W.findIn K (.ref C) x=some (some (.ref f))) (i:PySem.W.isFn K (.ref f)=true) (h:CIi K x q st ps f fd):CMi K C x q st ps f fd:=⟨h,a,i,h.F.kp⟩
theorem cb0 {K:PySem.W.Frag}{a:Addr}{vs:List V}{od:Option Addr}{its:Array Value}{nn:Nat}{sl:Array (Option Value)}(h1:K.lookup a=some ⟨.type "tuple",od,.seq its nn,sl⟩) (h2:its.size≤sizeLine) (h3:Vals vs its.toList):∃ od its nn sl,K.lookup a=some ⟨.type "tuple",od,.seq its nn,sl⟩∧its.size≤sizeLine∧Vals vs its.toList:=⟨_,_,_,_,h1,h2,h3⟩
theorem cb1 {K:PySem.W.Frag}{a:Addr}{od:Option Addr}{cd:ClassData}{sl:Array (Option Value)}(h:K.lookup a=some ⟨.type "type",od,.cls cd,sl⟩):∃ od cd sl,K.lookup a=some ⟨.type "type",od,.cls cd,sl⟩:=⟨_,_,_,h⟩
section
open PySem PySem.W PyProof.Rows
local macro_rules | `(tactic| o_head $H) => `(tactic| refine holds_open (q := K16.view) (loose := []) (Xt := fun s => xlAt K16.view [] s && recOk (RowW.records _) s) (XP := XL K16.view []) (Yf := Hook.obs $H) (Ya := Hook.val $H) (YP := Hook.says $H) (N := 8000) ?hl (Hook.of $H) (Hook.keeps $H) (fun s e => xl_of s (Bool.and_eq_true_iff.mp e).1) XL.keeps (by rfl) (by rfl) (by rfl) (fun s e => recFacts_of (Bool.and_eq_true_iff.mp e).2) (by rfl) (by first | assumption | decide +kernel) (by decide +kernel) ⟨rfl, rfl, rfl, rfl, rfl, by decide +kernel⟩ ?hw ?hc)
local macro_rules | `(tactic| walk_at "bi") => `(tactic| (intro _ _ _ _ _ _ us hl; first | (obtain ⟨_, z⟩ := ca4 hl; subst z; rfl) | (obtain ⟨_, _, z⟩ := ca5 hl; subst z; rfl) | (obtain ⟨_, _, _, z⟩ := ca6 hl; subst z; rfl) | (obtain ⟨_, _, _, _, z⟩ := ca7 hl; subst z; rfl)))
local macro_rules | `(tactic| walk_at "fi") => `(tactic| first | (refine' ca8 $(Lean.mkIdent `X) $(Lean.mkIdent `G) ?a (br6 ?l ?c ?k (by walk_at "bi")); (case a => k_is); (case l => k_is); (case c => k_is); (case k => k_is)) | (refine' ca9 ?a ?i (br6 ?l ?c ?k (by walk_at "bi")); (case a => k_is); (case i => k_is); (case l => k_is); (case c => k_is); (case k => k_is)) | (refine' br6 ?l ?c ?k (by walk_at "bi"); (case l => k_is); (case c => k_is); (case k => k_is)) | (refine' PySem.W.mg_of $(Lean.mkIdent `X) $(Lean.mkIdent `G) ?a; (case a => k_is)) | (refine' PySem.W.mg_none_of $(Lean.mkIdent `X) $(Lean.mkIdent `G) ?a; (case a => k_is)) | (unfold NoAttr; k_is) | k_is | (refine' Cls.mk ?a ?b ?c ?d; (case a => k_is); (case b => k_is); (case c => k_is); (case d => k_is)) | (refine' Mk.mk ?a ?b ?c ?d; (case a => k_is); (case b => k_is); (case c => k_is); (case d => k_is)) | exact ⟨_, rfl⟩ | (with_reducible exact rfl) | (refine' cb0 ?a ?b ?c; (case a => k_is); (case b => exact Nat.le_of_lt (L2.small1000 (by decide))); (case c => repeat first | exact .nil | refine .cons (by first | exact rfl | exact ⟨_, rfl⟩) ?_)) | (refine' cb1 ?a; (case a => k_is)) | (change PySem.W.excIn _ _ _ _ = true; kernel_rfl) | exact rfl)
def bt:List Obj→Nat→BT→BT
 | [],_,t=>t
 | o::l,i,t=>bt l (i+1) (t.ins i o)
noncomputable def T0 (P:Params):BT:=bt (boot_heap P).objs.toList 0 .nil
def runT (tb:String→Option Builtin) (p:Program) (w:World) (n₀:Nat) (ann:Option Value):Nat→SharedT→Thread→Option SharedT
 | 0,_,_=>none
 | n+1,s,t=>match through t with
   | true=>some s
   | false=>match stepOk n₀ ann t with
     | false=>none
     | true=>match stepT (denote tb) p w s t with
       | some (s',t')=>runT tb p w n₀ ann n s' t'
       | none=>none
theorem b85 {tb:String→Option Builtin}{p:Program}{w:World}{n₀:Nat}{ann:Option Value}:∀ {n:Nat}{s s':SharedT}{t:Thread},runT tb p w n₀ ann n s t=some s'→topRun tb p w n₀ ann n s.abs t=some s'.abs
 | 0,_,_,_,h=>by cases h
 | n+1,s,s',t,h=>by
   unfold runT at h
   unfold topRun
   cases he:through t with
   | true=>rw [he] at h; cases h; rfl
   | false =>
     rw [he] at h
     cases hk:stepOk n₀ ann t with
     | false=>rw [hk] at h; cases h
     | true =>
       rw [hk] at h
       cases hs:stepT (denote tb) p w s t with
       | none=>rw [hs] at h; cases h
       | some r=>obtain ⟨s₂,t₂⟩:=r; rw [hs] at h; rw [stepT_spec hs]; exact b85 h
theorem b86 {p q:Program}{loose:List Str}{Xt:Shared→Bool}{α:Type}{Yf:Shared→α}{Ya:World→α}{N:Nat}{g0:Bool}{m₀:Nat}{ann:Option Value}(e:opening p=plainProg p.main.scope.names) (hN:Nat.ble 600 N=true) (f:∀ s,fenceModules? p s=some s)
 (b:∀ P,boot_heap P=absHeap (T0 P) m₀ (boot_heap P).life) (z:∀ w:World,(boot_heap w.params).isNs mainGlobals=true∧(boot_heap w.params).objs.size=m₀∧(boot_heap w.params).nsMap mainGlobals "__annotations__"=ann)
 (h1:∀ (w:World) (os:OsState),(runT treeTable p w m₀ ann N ⟨T0 w.params,m₀,(boot_heap w.params).life,Array.mk [],boot_drawn,boot_toks,os⟩ (topStub p)).map (fun s=>(staticsOk (importedModules p.main.body) (boot_heap w.params) s.abs.heap && namesBound p s.abs.heap && gensDone s.abs && laidKept (boot_heap w.params) s.abs.heap,Yf s.abs))=some (true,Ya w))
 (h2:∀ (w:World) (os:OsState),(runT treeTable p w m₀ ann N ⟨T0 w.params,m₀,(boot_heap w.params).life,Array.mk [],boot_drawn,boot_toks,os⟩ (topStub p)).map (fun s=>openSeen q loose (importedModules p.main.body) Xt g0 s.abs)=some (openGood q loose)):LeftO p q loose Xt Yf Ya N g0:=fun w=>by
 obtain ⟨⟨hp,g,d,k,os⟩,hs,hv⟩:=Option.map_eq_some_iff.mp (boot_open e hN f w)
 injection hv with v1 v2
 injection v2 with v2 v3
 injection v3 with v3 v4
 dsimp only at v1 v2 v3 v4
 subst v1 v2 v3 v4
 obtain ⟨z1,z2,z3⟩:=z w
 obtain ⟨s',h0,l1⟩:=Option.map_eq_some_iff.mp (h1 w os)
 obtain ⟨l1,l3⟩:=Prod.mk.inj l1
 have l2:=h2 w os
 rw [h0] at l2
 replace l2:=Option.some.inj l2
 have r:=b85 h0
 have r':topRun treeTable p w m₀ ann N ⟨boot_heap w.params,Array.mk [],boot_drawn,boot_toks,os⟩ (topStub p)=some s'.abs:=by
  rw [b w.params]
  exact r
 unfold openEnds
 rw [hs]
 show (topFrom treeTable p w N _).map _=_
 unfold topFrom
 dsimp only
 rw [z1,z2,z3,r']
 show (match staticsOk (importedModules p.main.body) (boot_heap w.params) s'.abs.heap && namesBound p s'.abs.heap && gensDone s'.abs && laidKept (boot_heap w.params) s'.abs.heap with | true=>some s'.abs | false=>none).map _=_
 rw [l1]
 exact congrArg some (Prod.ext l2 l3)
theorem c09 (P:Params):boot_heap P=absHeap (T0 P) 11 (boot_heap P).life:=by kernel_rfl
theorem c10 (w:World):(boot_heap w.params).isNs mainGlobals=true∧(boot_heap w.params).objs.size=11∧(boot_heap w.params).nsMap mainGlobals "__annotations__"=some (.ref 6):=⟨by kernel_rfl,by kernel_rfl,by kernel_rfl⟩
theorem br7 (w:World) (os:OsState):(runT treeTable PySem.Challenge.rw_callmill_k16_whole_sound_scripts_rest.row.prog w 11 (some (.ref 6)) 8000 ⟨T0 w.params,11,(boot_heap w.params).life,Array.mk [],boot_drawn,boot_toks,os⟩ (topStub PySem.Challenge.rw_callmill_k16_whole_sound_scripts_rest.row.prog)).map (fun s=>openSeen K16.view [] (importedModules PySem.Challenge.rw_callmill_k16_whole_sound_scripts_rest.row.prog.main.body) (fun s=>xlAt K16.view [] s && recOk PySem.Challenge.rw_callmill_k16_whole_sound_scripts_rest.row.records s) true s.abs)=some (openGood K16.view []):=by kernel_rfl
set_option maxRecDepth 100000 in
set_option maxHeartbeats 0 in
theorem head (G:∀ K:Params→PySem.W.Frag,(∀ P,HF P (K P))→(∀ (w:World) (mg:Str→Option Value) (fa:Addr) (h:Heap),(K w.params).In h→h.Ns mainGlobals mg→mg "law"=some (.ref fa)→∃ fd:FuncData,(∀ (s:Shared) (u:Value),BindsTo s fd ⟨[u],[]⟩ [("script",u)])∧∀ base:Heap,(K w.params).In base→base.Ns mainGlobals mg→FnOk PySem.Challenge.rw_callmill_k16_whole_sound_scripts_rest.prog w (K w.params) mg base CX0 130 fa fd ["script"] (as9 (K w.params)))):PySem.Challenge.rw_callmill_k16_whole_sound_scripts_rest.Holds:=by
 w_on; o_law; k_head; (case hw=>w_witness2); (case hl=>exact b86 rfl rfl (fun _=>rfl) c09 c10 (by intro w os; kernel_rfl) br7)
 k_fill
 refine K16.walk2 (l:=PySem.Challenge.rw_callmill_k16_whole_sound_scripts_rest) rfl rfl rfl rfl (fun w h Y=>PySem.W.kIn_of Y) ?facts G
 case facts =>
  intro P
  refine' ⟨Adr.mk,fun mg h X G=>?z⟩
  case z =>
   constructor
   all_goals (try dsimp only); walk_at "fi"
end
end K16
namespace L2
open PySem PySem.Spec PyProof.Rows
section
variable {κ:Type} [DecidableEq κ]
def valV (kvs:List (κ×V)) (k:κ):Option V:=(kvs.find? fun kv=>decide (kv.1=k)).map (·.2)
def putK (kvs:List (κ×V)) (k:κ) (v:V):List (κ×V) :=
 if (kvs.any fun kv=>decide (kv.1=k))=true then kvs.map (fun kv=>if kv.1=k then (kv.1,v) else kv) else kvs++[(k,v)]
theorem a61 {p:κ×V}{r:List (κ×V)}{k:κ}(e:p.1=k):valV (p::r) k=some p.2:=by simp [valV,List.find?_cons,e]
theorem a62 {p:κ×V}{r:List (κ×V)}{k:κ}(e:¬ p.1=k):valV (p::r) k=valV r k:=by simp [valV,List.find?_cons,e]
theorem aj0 (k:κ):∀ kvs:List (κ×V),(kvs.any fun kv=>decide (kv.1=k))=(valV kvs k).isSome
 | []=>rfl
 | p::r=>by
   rw [List.any_cons]
   by_cases e:p.1=k
   · simp only [a61 e,decide_eq_true e,Bool.true_or,Option.isSome_some]
   · rw [a62 e,decide_eq_false e,Bool.false_or]; exact aj0 k r
theorem b02 (k j:κ) (y:V):∀ kvs:List (κ×V),valV (kvs.map fun kv=>if kv.1=k then (kv.1,y) else kv) j=(valV kvs j).map fun x=>if j=k then y else x
 | []=>rfl
 | p::r=>by
   have ih:=b02 k j y r
   rw [List.map_cons]
   by_cases h:p.1=k
   · rw [if_pos h]
     by_cases e:p.1=j
     · rw [a61 (p:=(p.1,y)) e,a61 e,Option.map_some,if_pos (e.symm.trans h)]
     · rw [a62 (p:=(p.1,y)) e,a62 e,ih]
   · rw [if_neg h]
     by_cases e:p.1=j
     · rw [a61 (p:=p) e,a61 e,Option.map_some,if_neg (fun z=>h (e.trans z))]
     · rw [a62 (p:=p) e,a62 e,ih]
theorem at0 (k j:κ) (y:V):∀ kvs:List (κ×V),valV kvs k=none→valV (kvs++[(k,y)]) j=if j=k then some y else valV kvs j
 | [],_=>by
   by_cases e:k=j
   · rw [if_pos e.symm]; exact a61 (p:=(k,y)) e
   · rw [if_neg (fun z=>e z.symm)]; exact a62 (p:=(k,y)) e
 | p::r,hn=>by
   rw [List.cons_append]
   have hk:¬ p.1=k:=fun z=>by rw [a61 z] at hn; cases hn
   rw [a62 hk] at hn
   have ih:=at0 k j y r hn
   by_cases e:p.1=j
   · rw [a61 e,a61 e,if_neg (fun z=>hk (e.trans z))]
   · rw [a62 e,a62 e,ih]
theorem aj1 (kvs:List (κ×V)) (k j:κ) (y:V):valV (putK kvs k y) j=if j=k then some y else valV kvs j:=by
 unfold putK
 by_cases a:(kvs.any fun kv=>decide (kv.1=k))=true
 · rw [if_pos a,b02]
   rw [aj0] at a
   by_cases e:j=k
   · obtain ⟨x,hx⟩:=Option.isSome_iff_exists.mp a
     rw [if_pos e,e,hx,Option.map_some,if_pos rfl]
   · rw [if_neg e]
     cases valV kvs j with
     | none=>rfl
     | some x=>rw [Option.map_some,if_neg e]
 · rw [if_neg a]
   refine at0 k j y kvs ?_
   rw [aj0] at a
   cases q:valV kvs k with
   | none=>rfl
   | some x=>rw [q] at a; exact (a rfl).elim
theorem ae2 (kvs:List (κ×V)) (k:κ) (v:V):(putK kvs k v).length≤kvs.length+1:=by
 unfold putK
 split
 · rw [List.length_map]; omega
 · rw [List.length_append,List.length_cons,List.length_nil]; omega
theorem RelO.isSome_eq {o:Option V}{u:Option Value}(r:RelO o u):o.isSome=u.isSome:=by
 cases o with
 | none=>cases u with
   | none=>rfl
   | some _=>exact (show False from r).elim
 | some _=>cases u with
   | none=>exact (show False from r).elim
   | some _=>rfl
theorem KV.val {kvs:List (κ×V)}{vs:List (κ×Value)}(r:KV kvs vs) (k:κ):RelO (valV kvs k) (valueAt vs k):=by
 unfold KV at r
 induction r with
 | nil=>exact True.intro
 | @cons p q ps qs h t ih =>
   obtain ⟨h1,h2⟩:=h
   by_cases e:p.1=k
   · have e':q.1=k:=h1.symm.trans e
     have b:valueAt (q::qs) k=some q.2:=by simp [valueAt,List.find?_cons,e']
     rw [a61 e,b]; exact h2
   · have e':¬ q.1=k:=fun z=>e (h1.trans z)
     have b:valueAt (q::qs) k=valueAt qs k:=by simp [valueAt,List.find?_cons,e']
     rw [a62 e,b]; exact ih
theorem KV.any {kvs:List (κ×V)}{vs:List (κ×Value)}(r:KV kvs vs) (k:κ):(kvs.any fun kv=>decide (kv.1=k))=vs.any fun kv=>decide (kv.1=k):=by
 unfold KV at r
 induction r with
 | nil=>rfl
 | cons h t ih=>rw [List.any_cons,List.any_cons,ih,h.1]
theorem KV.repl {kvs:List (κ×V)}{vs:List (κ×Value)}(r:KV kvs vs) (k:κ) {y:V}{u:Value}(ry:RelV y u) :
 KV (kvs.map fun kv=>if kv.1=k then (kv.1,y) else kv) (vs.map fun kv=>if kv.1=k then (kv.1,u) else kv):=by
 unfold KV at r ⊢
 induction r with
 | nil=>exact .nil
 | @cons p q ps qs h t ih =>
   rw [List.map_cons,List.map_cons]
   refine .cons ?_ ih
   obtain ⟨h1,h2⟩:=h
   by_cases e:p.1=k
   · rw [if_pos e,if_pos (h1.symm.trans e)]; exact ⟨h1,ry⟩
   · rw [if_neg e,if_neg (fun z=>e (h1.trans z))]; exact ⟨h1,h2⟩
theorem KV.put {kvs:List (κ×V)}{vs:List (κ×Value)}(r:KV kvs vs) (k:κ) {y:V}{u:Value}(ry:RelV y u):KV (putK kvs k y) (stored vs k u):=by
 unfold putK stored
 rw [r.any k]
 by_cases e:(vs.any fun kv=>decide (kv.1=k))=true
 · rw [if_pos e,if_pos e]; exact r.repl k ry
 · rw [if_neg e,if_neg e]; exact Paired.snoc r ⟨rfl,ry⟩
theorem KV.length {kvs:List (κ×V)}{vs:List (κ×Value)}(r:KV kvs vs):kvs.length=vs.length:=Paired.length r
end
theorem b87 {P:Program}{w:World}{k:Key}{u:Value}(r:RelV (kV k) u):(a52 P w).is k u=true:=by
 cases k with
 | inl i=>obtain ⟨t,e⟩:=(show ∃ t,u=Value.int i t from r); subst e; exact av7 P w i t
 | inr x=>obtain ⟨t,e⟩:=(show ∃ t,u=Value.str x t from r); subst e; exact av8 P w x t
theorem at1 {P:Program}{w:World}:∀ {ks:List Key}{us:List Value},Vals (ks.map kV) us→ItemsAre (a52 P w) ks us
 | [],_,r=>by rw [List.map_nil] at r; cases r; exact .nil
 | k::ks,_,r=>by
   rw [List.map_cons] at r
   cases r with
   | cons h t=>exact .cons (b87 h) (at1 t)
abbrev KT (H:Hp):List (List Key×V)→List (List Key×Addr×Value)→Prop:=Paired fun p q=>p.1=q.1∧H q.2.1=some (.tup (p.1.map kV))∧RelV p.2 q.2.2
theorem KT.val {H:Hp}{kvs:List (List Key×V)}{xs:List (List Key×Addr×Value)}(r:KT H kvs xs) (k:List Key):RelO (valV kvs k) ((atKey xs k).map (·.2)):=by
 induction r with
 | nil=>exact True.intro
 | @cons p q ps qs h t ih =>
   obtain ⟨h1,_,h2⟩:=h
   by_cases e:p.1=k
   · have e':q.1=k:=h1.symm.trans e
     have b:atKey (q::qs) k=some q.2:=by simp [atKey,List.find?_cons,e']
     rw [a61 e,b]; exact h2
   · have e':¬ q.1=k:=fun z=>e (h1.trans z)
     have b:atKey (q::qs) k=atKey qs k:=by simp [atKey,List.find?_cons,e']
     rw [a62 e,b]; exact ih
theorem KT.repl {H:Hp}{kvs:List (List Key×V)}{xs:List (List Key×Addr×Value)}(r:KT H kvs xs) (k:List Key) {y:V}{u:Value}(ry:RelV y u) :
 KT H (kvs.map fun kv=>if kv.1=k then (kv.1,y) else kv) (xs.map (putAt k u)):=by
 induction r with
 | nil=>exact .nil
 | @cons p q ps qs h t ih =>
   rw [List.map_cons,List.map_cons]
   refine .cons ?_ ih
   obtain ⟨h1,h2,h3⟩:=h
   unfold putAt
   by_cases e:p.1=k
   · rw [if_pos e,if_pos (h1.symm.trans e)]; exact ⟨h1,h2,ry⟩
   · rw [if_neg e,if_neg (fun z=>e (h1.trans z))]; exact ⟨h1,h2,h3⟩
theorem KT.put {H:Hp}{kvs:List (List Key×V)}{xs:List (List Key×Addr×Value)}(r:KT H kvs xs) (k:List Key) {b:Addr}{y:V}{u:Value}(hb:H b=some (.tup (k.map kV))) (ry:RelV y u) :
 KT H (putK kvs k y) (storedH xs k b u):=by
 have e:(kvs.any fun kv=>decide (kv.1=k))=(atKey xs k).isSome:=by
  rw [aj0,(r.val k).isSome_eq,Option.isSome_map]
 unfold putK storedH
 rw [e]
 by_cases q:(atKey xs k).isSome=true
 · rw [if_pos q,if_pos q]; exact r.repl k ry
 · rw [if_neg q,if_neg q]; exact Paired.snoc r ⟨rfl,hb,ry⟩
theorem KT.keeps {H H':Hp}{kvs:List (List Key×V)}{xs:List (List Key×Addr×Value)}(r:KT H kvs xs) (ht:∀ b ys,H b=some (.tup ys)→H' b=some (.tup ys)):KT H' kvs xs :=
 Paired.mapP r fun _ _ z=>⟨z.1,ht _ _ z.2.1,z.2.2⟩
section
variable {P:Program}{w:World}{H:Hp}{h:Heap}{a:Addr}
theorem c11 {u:HO}(ok:HOk P w H h) (e:Rd H a u):ObjOk P w H h a u:=e.ok ok
theorem bh6 {kvs:List (Key×V)}(ok:HOk P w H h) (e:Rd H a (.dK kvs)):kvs.length≤sizeLine∧(a == sysModules)=false∧∃ vs,KV kvs vs∧h.DictOf (a52 P w) a vs :=
 show ObjOk P w H h a (.dK kvs) from c11 ok e
theorem cb2 {kvs:List (Key×V)}(ok:HOk P w H h) (e:H a=some (.dK kvs)):kvs.length≤sizeLine∧(a == sysModules)=false∧∃ vs,KV kvs vs∧h.DictOf (a52 P w) a vs:=bh6 ok (.inl e)
theorem b03 {ks:List Key}(ok:HOk P w H h) (e:H a=some (.tup (ks.map kV))):(tupleKind (a52 P w)).is h ks a:=by
 obtain ⟨_,its,r,o,h1,h2,n,h3⟩:=(show ObjOk P w H h a (.tup (ks.map kV)) from ok a _ e)
 exact ⟨o,its.toArray,n,h1,h2,h3,by simpa using at1 r⟩
theorem bh7 {kvs:List (List Key×V)}(ok:HOk P w H h) (e:Rd H a (.dT kvs)):kvs.length≤sizeLine∧(a == sysModules)=false ∧
 ∃ xs,KT H kvs xs∧h.DictOfH (tupleKind (a52 P w)) a xs:=by
 obtain ⟨z,y,xs,r,o,es,ep,h1,h2,h3,h4,h5⟩:=(show ObjOk P w H h a (.dT kvs) from c11 ok e)
 refine ⟨z,y,xs,r,o,es,ep,h1,h2,h3,h4,fun x hx=>?_,h5⟩
 have all:∀ {l:List (List Key×V)}{m:List (List Key×Addr×Value)},KT H l m→∀ x∈m,(tupleKind (a52 P w)).is h x.1 x.2.1:=by
  intro l m q
  induction q with
  | nil=>intro x hx; exact nomatch hx
  | @cons p q ps qs hq t ih =>
    intro x hx
    rcases List.mem_cons.mp hx with e | hx
    · subst e
      exact b03 ok (by rw [← hq.1]; exact hq.2.1)
    · exact ih x hx
 exact all r x hx
theorem cb3 {kvs:List (List Key×V)}(ok:HOk P w H h) (e:H a=some (.dT kvs)):kvs.length≤sizeLine∧(a == sysModules)=false ∧
 ∃ xs,KT H kvs xs∧h.DictOfH (tupleKind (a52 P w)) a xs:=bh7 ok (.inl e)
end
def DGet (H:Hp) (a:Addr) (y:V) (r:Option V):Prop :=
 (∃ kvs k,Rd H a (.dK kvs)∧y=kV k∧r=valV kvs k)∨∃ kvs k b,Rd H a (.dT kvs)∧y=.ref b∧H b=some (.tup (k.map kV))∧r=valV kvs k
def DPut (H:Hp) (a:Addr) (y v:V) (H':Hp):Prop :=
 (∃ kvs k,H a=some (.dK kvs)∧y=kV k∧kvs.length<sizeLine∧H'=upd H a (.dK (putK kvs k v))) ∨
 ∃ kvs k b,H a=some (.dT kvs)∧y=.ref b∧H b=some (.tup (k.map kV))∧kvs.length<sizeLine∧H'=upd H a (.dT (putK kvs k v))
theorem DGet.k {H:Hp}{a:Addr}{kvs:List (Key×V)}{k:Key}(e:H a=some (.dK kvs)):DGet H a (kV k) (valV kvs k):=.inl ⟨kvs,k,.inl e,rfl,rfl⟩
theorem DPut.k {H:Hp}{a:Addr}{kvs:List (Key×V)}{k:Key}{v:V}(e:H a=some (.dK kvs)) (hl:kvs.length<sizeLine):DPut H a (kV k) v (upd H a (.dK (putK kvs k v))):=.inl ⟨kvs,k,e,rfl,hl,rfl⟩
section
variable {X:Cx}{pins:List (Addr×Obj)}{σ:St} {H:Hp}{s:Shared}{a:Addr}{y v:V}{u r:Value}{o:Option V}{A:Around}{E:Value→Shared→Prop}
theorem Inv.big (I:Inv X pins σ H s):sysModules<s.heap.objs.size:=by
 have h:mainGlobals<s.heap.objs.size:=(I.mod.glob.keeps I.bk).lt
 exact Nat.lt_trans (by decide) h
theorem b88 {Q:Value→Shared→Prop}(hu:A.units+1<cLine) (I:Inv X pins σ H s) (g:DGet H a y (some v)) (ry:RelV y u) (h:∀ w' s',Inv X pins σ H s'→RelV v w'→Q w' s') :
 wpAny (model X.prog X.w) A (getItem (.ref a) u) Q E s:=by
 rcases g with ⟨kvs,k,e,ey,l⟩ | ⟨kvs,k,b,e,ey,eb,l⟩
 · subst ey
   obtain ⟨z,hd,vs,rel,dd⟩:=bh6 I.hok e
   obtain ⟨w',hw,rw'⟩:=RelO.some_of (v:=v) (o:=valueAt vs k) (by rw [l]; exact rel.val k)
   exact wpAny_getItem_of (b87 ry) dd.mapOf hw (h w' _ (I.tok _) rw')
 · subst ey
   cases (show u=Value.ref b from ry)
   obtain ⟨z,hd,xs,rel,dd⟩:=bh7 I.hok e
   obtain ⟨w',hw,rw'⟩:=RelO.some_of (v:=v) (o:=(atKey xs k).map (·.2)) (by rw [l]; exact rel.val k)
   obtain ⟨p,hp,hp2⟩:=Option.map_eq_some_iff.mp hw
   refine wpAny_getItem_heap (tupleKind_room_in1 hu) (b03 I.hok eb) dd hp ?_
   rw [hp2]
   exact h w' _ (I.tok _) rw'
theorem br8 {Q:Value→Shared→Prop}(hu:A.units+1<cLine) (I:Inv X pins σ H s) (g:DGet H a y o) (ry:RelV y u) (h:∀ s',Inv X pins σ H s'→Q (.bool (!o.isSome)) s') :
 wpAny (model X.prog X.w) A (compareOp .NotIn u (.ref a)) Q E s:=by
 rcases g with ⟨kvs,k,e,ey,l⟩ | ⟨kvs,k,b,e,ey,eb,l⟩
 · subst ey
   obtain ⟨z,hd,vs,rel,dd⟩:=bh6 I.hok e
   refine wpAny_notIn_of (b87 ry) hd dd.mapOf ?_
   rw [← (rel.val k).isSome_eq,←l]
   exact h _ (I.tok _)
 · subst ey
   cases (show u=Value.ref b from ry)
   obtain ⟨z,hd,xs,rel,dd⟩:=bh7 I.hok e
   refine wpAny_notIn_heap (tupleKind_room_in1 hu) (b03 I.hok eb) hd dd ?_
   have q:=(rel.val k).isSome_eq
   rw [Option.isSome_map] at q
   rw [← q,←l]
   exact h _ (I.tok _)
theorem b89 {h':Heap}{t':Nat}{ob:HO}(I:Inv X pins σ H s) (mu:Mut (H a)) (hs:Heap.SameBut a s.heap h') (he:∃ q,h'.get? a=some q) (new:ObjOk X.prog X.w (upd H a ob) h' a ob) :
 Inv X pins σ (upd H a ob) { s with heap:=h',toks:=t' } :=
 I.write (x:=a) (e:=a) mu (.inl rfl) (fun b q hb z=>(hs.2 b hb).trans z) he new
theorem bn0 {P:Program}{w:World}{H':Hp}{h':Heap}{kvs:List (Key×V)}{vs:List (Key×Value)}(z:kvs.length≤sizeLine) (hd:(a == sysModules)=false) (rel:KV kvs vs) (dd:h'.DictOf (a52 P w) a vs) :
 ObjOk P w H' h' a (.dK kvs):=⟨z,hd,vs,rel,dd⟩
theorem b90 {H':Hp}{Q:Unit→Shared→Prop}(hu:A.units+1<cLine) (I:Inv X pins σ H s) (g:DPut H a y v H') (ry:RelV y u) (rv:RelV v r) (h:∀ s',Inv X pins σ H' s'→Q () s') :
 wpAny (model X.prog X.w) A (setItem (.ref a) u r) Q E s:=by
 rcases g with ⟨kvs,k,e,ey,l,eH⟩ | ⟨kvs,k,b,e,ey,eb,l,eH⟩
 · subst ey eH
   obtain ⟨z,hd,vs,rel,dd⟩:=cb2 I.hok e
   have hz:vs.length≤sizeLine:=by rw [← rel.length]; exact z
   have hl:(putK kvs k v).length≤sizeLine:=by have:=ae2 kvs k v; omega
   refine wpAny_setItem_pairs (hsz:=hz) (b87 ry) dd fun h' dd' hs=>h _ ?_
   have he:∃ q,h'.get? a=some q:=let ⟨q,_,_,hq,_⟩:=dd'; ⟨q,hq⟩
   exact b89 I (by rw [e]; exact True.intro) hs he (bn0 hl hd (rel.put k rv) dd')
 · subst ey eH
   cases (show u=Value.ref b from ry)
   obtain ⟨z,hd,xs,rel,dd⟩:=cb3 I.hok e
   have hz:xs.length≤sizeLine:=by rw [← Paired.length rel]; exact z
   have hl:(putK kvs k v).length≤sizeLine:=by have:=ae2 kvs k v; omega
   refine wpAny_setItem_heap (hsz:=hz) (tupleKind_room_in1 hu) (b03 I.hok eb) dd fun h' dd' hs=>h _ ?_
   obtain ⟨q,es,ep,hq,h2,h3,h4,_,h5⟩:=dd'
   refine b89 I (by rw [e]; exact True.intro) hs ⟨q,hq⟩ ⟨hl,hd,_,(rel.put k eb rv).keeps fun c ys ec=>?_,q,es,ep,hq,h2,h3,h4,h5⟩
   rw [a12 (aj6 ec e (fun z=>nomatch z))]
   exact ec
end
section
variable {X:Cx}{pins:List (Addr×Obj)}{σ:St} {H:Hp}{s:Shared}{a:Addr}{kvs:List (Key×V)}{k:Key}{u:Value}{A:Around}{E:Value→Shared→Prop}
end
def NoSl (i:Expr):Prop:=∀ ov iv,subscripted i false ov iv=operate [ov,iv] (getItem ov iv)
theorem br9 {prog:Program}{w:World}{A:Around}{E:Value→Shared→Prop}{s:Shared}{env:Env}{value slice:Expr}{pos:Pos}{T id:String}{Q:Value→Shared→Prop}
 (hl:typeLookup (.type T) "__getitem__"=pure (some (.builtin id))) (hs:NoSl slice)
 (h:wpAny (model prog w) A (eval value env) (fun o s₁=>wpAny (model prog w) A (eval slice env) (fun i s₂=>s₂.TypeIs o T∧wpAny (model prog w) A (getItem o i) Q E s₂) E s₁) E s) :
 wpAny (model prog w) A (eval (.Subscript value slice pos) env) Q E s:=by
 refine Subscript_ (wpAny_mono h (fun o s₁ h₁=>wpAny_mono h₁ (fun i s₂ h₂=>?_) fun _ _ x=>x) fun _ _ x=>x)
 obtain ⟨hT,h₂⟩:=h₂
 unfold subscriptTail
 refine wpAny_bind ?_
 rw [getitemInPython_of_ne hT.not_modules]
 refine wpAny_bind (wpAny_specialOf hT hl ?_)
 have fin:wpAny (model prog w) A (subscripted slice false o i) (fun r s₃=>wpAny (model prog w) A (letTemporaryGo value o r >>= fun _=>pure r) Q E s₃) E s₂:=by
  rw [hs o i]
  exact wpAny_operating (wpAny_mono h₂ (fun r s₃ h₃=>wpAny_bind (wpAny_letTemporaryGo (wpAny_pure h₃))) fun _ _ x=>x)
 first
  | exact wpAny_pure (wpAny_bind fin)
  | exact wpAny_bind (wpAny_pure (wpAny_bind fin))
  | exact wpAny_bind fin
theorem aw5 {X:Cx}{pins:List (Addr×Obj)}{σ:St} {H:Hp}{s:Shared}{a:Addr}{y:V}{o:Option V}(I:Inv X pins σ H s) (g:DGet H a y o):s.TypeIs (.ref a) "dict":=by
 rcases g with ⟨kvs,k,e,_,_⟩ | ⟨kvs,k,b,e,_,_,_⟩
 · obtain ⟨_,_,vs,_,dd⟩:=bh6 I.hok e
   exact dd.typeIs
 · obtain ⟨_,_,xs,_,dd⟩:=bh7 I.hok e
   exact dd.typeIs
def c12 (td ty:TE):TE:=fun σ H Q=>td σ H fun x H1=>ty σ H1 fun y H2=>∃ a v,x=.ref a∧DGet H2 a y (some v)∧Q v H2
def b91 (ty td:TE):TE:=fun σ H Q=>ty σ H fun y H1=>td σ H1 fun x H2=>∃ a o,x=.ref a∧DGet H2 a y o∧Q (.bl (!o.isSome)) H2
def c13 (td ty tv:TE):TS:=fun D σ H=>tv σ H fun v H1=>td σ H1 fun x H2=>ty σ H2 fun y H3=>∃ a H4,x=.ref a∧DPut H3 a y v H4∧D.nx σ H4
section
variable {X:Cx}{o i e value:Expr}{pos pos' tpos:Pos}{td ty tv:TE}
theorem b92 (hu:X.A.units+1<cLine) (ho:PE X o td) (hi:PE X i ty) (hs:NoSl i):PE X (.Subscript o i pos) (c12 td ty):=by
 intro pins s σ H Q I h
 refine br9 PySem.F.slot_dict_getitem.lookup hs (thn (ho pins s σ H _ I h) ?_)
 rintro u s1 ⟨x,H1,I1,rx,q1⟩
 refine thn (hi pins s1 σ H1 _ I1 q1) ?_
 rintro iv s2 ⟨y,H2,I2,ry,a,v,ex,g,q2⟩
 subst ex
 obtain rfl:u=Value.ref a:=rx
 exact ⟨aw5 I2 g,b88 hu I2 g ry fun w' s3 I3 rw'=>⟨v,H2,I3,rw',q2⟩⟩
theorem b93 (hu:X.A.units+1<cLine) (hi:PE X i ty) (ho:PE X o td):PC X .NotIn i o (b91 ty td):=by
 intro pins s σ H Q I h
 refine thn (hi pins s σ H _ I h) ?_
 rintro iv s1 ⟨y,H1,I1,ry,q1⟩
 refine thn (ho pins s1 σ H1 _ I1 q1) ?_
 rintro u s2 ⟨x,H2,I2,rx,a,ov,ex,g,q2⟩
 subst ex
 obtain rfl:u=Value.ref a:=rx
 exact br8 hu I2 g ry fun s3 I3=>⟨.bl (!ov.isSome),H2,I3,rfl,q2⟩
theorem bs0 (hu:X.A.units+1<cLine) (ho:PE X o td) (hi:PE X i ty) (hv:PE X value tv) (hs:swapsWith value (some (.Subscript o i pos')) pos.line X.env=pure false) :
 PS X (.Assign [.Subscript o i pos'] value pos) (c13 td ty tv):=by
 intro pins s σ H D I h
 refine wpAny_Assign_Subscript (thn (hv pins s σ H _ I h) ?_) hs
 rintro r s1 ⟨v,H1,I1,rv,q1⟩
 refine thn (ho pins s1 σ H1 _ I1 q1) ?_
 rintro u s2 ⟨x,H2,I2,rx,q2⟩
 refine thn (hi pins s2 σ H2 _ I2 q2) ?_
 rintro iv s3 ⟨y,H3,I3,ry,a,H4,ex,g,q3⟩
 subst ex
 obtain rfl:u=Value.ref a:=rx
 exact b90 hu I3 g ry rv fun s4 I4=>⟨σ,H4,I4,q3⟩
end
theorem bh8 {P:Program}{w:World}{H:Hp}(h:Heap) (hb:sysModules<h.objs.size):ObjOk P w H (h.push { cls:=.type "dict",data:=.dict #[] }) h.objs.size (.dK []) :=
 ⟨Nat.zero_le _,beq_eq_false_iff_ne.mpr (Ne.symm (Nat.ne_of_lt hb)),[],.nil,Heap.DictOf.new h⟩
def c14:TE:=fun _ H Q=>∀ p,H p=none→Q (.ref p) (upd H p (.dK []))
section
variable {X:Cx}{pos:Pos}
theorem bh9:PE X (.Dict [] [] pos) c14:=fun pins s σ H Q I h =>
 wpAny_Dict_empty ⟨.ref s.heap.objs.size,_,I.laid (a:=s.heap.objs.size) (o:=.dK []) (t':=s.toks) (fun _ _ q=>Heap.get?_push_of_some _ q) (Nat.le_refl _) (bh8 s.heap I.big),rfl,h _ (I.hok.fresh (Nat.le_refl _))⟩
end
def a94 (kvs more:List (Key×V)):List (Key×V):=more.foldl (fun acc kv=>putK acc kv.1 kv.2) kvs
theorem KV.merge:∀ {more:List (Key×V)}{rs:List (Key×Value)}{kvs:List (Key×V)}{vs:List (Key×Value)},KV more rs→KV kvs vs→KV (a94 kvs more) (merged vs rs):=by
 intro more rs kvs vs r
 unfold KV at r
 induction r generalizing kvs vs with
 | nil=>intro q; exact q
 | @cons p q ps qs h t ih =>
   intro r0
   have e:KV (putK kvs p.1 p.2) (stored vs q.1 q.2):=by
    have:=r0.put p.1 h.2
    rw [← h.1]; exact this
   exact ih e
theorem af1:∀ (more kvs:List (Key×V)),(a94 kvs more).length≤kvs.length+more.length
 | [],kvs=>by show kvs.length≤kvs.length+0; omega
 | p::r,kvs=>by
   have h1:=af1 r (putK kvs p.1 p.2)
   have h2:=ae2 kvs p.1 p.2
   show (a94 (putK kvs p.1 p.2) r).length≤_
   rw [List.length_cons]; omega
section
variable {X:Cx}{pins:List (Addr×Obj)}{σ:St} {H:Hp}{s:Shared}{a:Addr}{y d:V}{u r:Value}{o:Option V}{A:Around}{E:Value→Shared→Prop}
end
section
variable {X:Cx}{o e f:Expr}{apos cpos:Pos}{td ty tx:TE}
end
section
variable {X:Cx}{pins:List (Addr×Obj)}{σ:St} {H:Hp}{s:Shared}{a:Addr}{kvs:List (Key×V)}{A:Around}{E:Value→Shared→Prop}
end
section
variable {X:Cx}{pins:List (Addr×Obj)}{σ:St} {H:Hp}{s:Shared}{a:Addr}{y:V}{u:Value}{A:Around}{E:Value→Shared→Prop}
end
section
variable {κ:Type} [DecidableEq κ]
end
def cxC (X:Cx) (N:List Str) (scope:Scope) (cl:List (Str×Addr)) (C:Addr) (s0:Shared) (H0:Hp) (ex:List Addr):Cx :=
 { X with N:=N,s₀:=s0,H₀:=H0,env:=compEnvC scope cl C X.env,outer:=X.stack,stack:=X.stack,ex:=ex,fn:=fun x=>scope.names.lookup x == some .cell,pn:=[],xe:=fun _ _=>False }
theorem an5 {env : Env} (has : ∀ x, (env.kindOf x = some .cell ∨ env.kindOf x = some .free) → ∃ c, env.cells.lookup x = some c) {scope : Scope}
    (hf : ∀ y ∈ scope.names, y.2 = .free → env.kindOf y.1 = some .cell ∨ env.kindOf y.1 = some .free) :
    ∃ cl, closureFor scope env = pure cl ∧ (∀ x c, cl.lookup x = some c → env.cells.lookup x = some c) ∧ (∀ y ∈ scope.names, y.2 = .free → ∃ c, cl.lookup y.1 = some c) := by
  have gen : ∀ (names : List (Str × NameKind)) (cs : List (Str × Addr)), (∀ y ∈ names, y.2 = .free → env.kindOf y.1 = some .cell ∨ env.kindOf y.1 = some .free) →
      (∀ x c, cs.lookup x = some c → env.cells.lookup x = some c) →
      ∃ cl, (forIn (m := Sem) names cs fun p r => do
          match p with
          | (name, kind) => if kind == .free then do let c ← cellOf env name; pure (ForInStep.yield ((name, c) :: r)) else pure (ForInStep.yield r)) = pure cl ∧
        (∀ x c, cl.lookup x = some c → env.cells.lookup x = some c) ∧ (∀ x c, cs.lookup x = some c → ∃ c, cl.lookup x = some c) ∧ (∀ y ∈ names, y.2 = .free → ∃ c, cl.lookup y.1 = some c) := by
    intro names
    induction names with
    | nil => intro cs _ h; exact ⟨cs, rfl, h, fun x c e => ⟨c, e⟩, fun y hy => nomatch hy⟩
    | cons p r ih =>
      intro cs hp h
      obtain ⟨n, k⟩ := p
      by_cases hk : k = .free
      · subst hk
        obtain ⟨c, hc⟩ := has n (hp (n, .free) List.mem_cons_self rfl)
        have h' : ∀ x d, ((n, c) :: cs).lookup x = some d → env.cells.lookup x = some d := by
          intro x d e
          rw [List.lookup_cons] at e
          cases hx : x == n with
          | true =>
            rw [hx] at e
            have : x = n := by simpa using hx
            cases e; rw [this]; exact hc
          | false => rw [hx] at e; exact h x d e
        obtain ⟨cl, e1, e2, e3, e4⟩ := ih ((n, c) :: cs) (fun y hy => hp y (List.mem_cons_of_mem _ hy)) h'
        have hn : ∃ d, cl.lookup n = some d := e3 n c (by simp [List.lookup_cons])
        refine ⟨cl, ?_, e2, fun x d e => ?_, fun y hy hyk => ?_⟩
        · rw [List.forIn_cons]
          have : cellOf env n = pure c := by unfold cellOf; rw [hc]
          simp only [beq_self_eq_true, if_true, this]
          exact e1
        · by_cases hx : x = n
          · subst hx; exact hn
          · exact e3 x d (by rw [List.lookup_cons]; have : (x == n) = false := by simpa using hx
                             rw [this]; exact e)
        · rcases List.mem_cons.mp hy with rfl | hy
          · exact hn
          · exact e4 y hy hyk
      · obtain ⟨cl, e1, e2, e3, e4⟩ := ih cs (fun y hy => hp y (List.mem_cons_of_mem _ hy)) h
        refine ⟨cl, ?_, e2, e3, fun y hy hyk => ?_⟩
        · rw [List.forIn_cons]
          have : (k == NameKind.free) = false := by simpa using hk
          simp only [this]
          exact e1
        · rcases List.mem_cons.mp hy with rfl | hy
          · exact absurd hyk hk
          · exact e4 y hy hyk
  obtain ⟨cl, e1, e2, _, e4⟩ := gen scope.names [] hf (fun x c e => nomatch e)
  refine ⟨cl, ?_, e2, e4⟩
  unfold closureFor
  simp only []
  exact congrArg (· >>= fun cs => pure cs) e1 |>.trans rfl
theorem at2 {scope:Scope}{env:Env}{x:Str}{k:NameKind}(h:(relabel scope env).names.lookup x=some k) (hk:k=.cell∨k=.free):∃ y∈scope.names,y.1=x∧(y.2=.free∨y.2=.cell):=by
 have gen:∀ names:List (Str×NameKind),(names.map fun (n,k)=>if (k == NameKind.free && env.scope.kind == .function && env.kindOf n == some .cell) then (n,NameKind.cell) else (n,k)).lookup x=some k →
  ∃ y∈names,y.1=x∧(y.2=.free∨y.2=.cell):=by
  intro names
  induction names with
  | nil=>intro h; cases h
  | cons p r ih =>
    obtain ⟨n,j⟩:=p
    intro h
    rw [List.map_cons,List.lookup_cons] at h
    have e1:(if (j == NameKind.free && env.scope.kind == .function && env.kindOf n == some .cell)=true then (n,NameKind.cell) else (n,j)).1=n:=by split <;> rfl
    dsimp only at h
    rw [e1] at h
    cases hx:x == n with
    | false =>
      rw [hx] at h
      obtain ⟨y,hy,q⟩:=ih h
      exact ⟨y,List.mem_cons_of_mem _ hy,q⟩
    | true =>
      rw [hx] at h
      have ex:x=n:=by simpa using hx
      refine ⟨(n,j),List.mem_cons_self,ex.symm,?_⟩
      by_cases hc:(j == NameKind.free && env.scope.kind == .function && env.kindOf n == some .cell)=true
      · have:=(Bool.and_eq_true _ _).mp ((Bool.and_eq_true _ _).mp hc).1
        exact .inl (by simpa using this.1)
      · rw [if_neg hc] at h
        cases h
        exact hk.symm
 exact gen scope.names h
theorem a96:∀ (names:List (Str×NameKind)) (n:Nat) (a b:List (Str×Addr)),cellsFrom n names (a++b)=cellsFrom n names a++b
 | [],_,_,_=>rfl
 | (x,k)::r,n,a,b=>by
   unfold cellsFrom
   split
   · exact a96 r (n+1) ((x,n)::a) b
   · exact a96 r n a b
theorem a97:∀ (names:List (Str×NameKind)) (n:Nat) (a:List (Str×Addr)) (x:Str) (c:Addr),(x,c)∈cellsFrom n names a→(x,c)∈a∨(x,NameKind.cell)∈names
 | [],_,_,_,_,h=>.inl h
 | (y,k)::r,n,a,x,c,h=>by
   unfold cellsFrom at h
   split at h
   · next hk =>
     rcases a97 r (n+1) _ x c h with z | z
     · rcases List.mem_cons.mp z with e | z
       · cases e
         have:k=.cell:=by simpa using hk
         subst this
         exact .inr List.mem_cons_self
       · exact .inl z
     · exact .inr (List.mem_cons_of_mem _ z)
   · rcases a97 r n a x c h with z | z
     · exact .inl z
     · exact .inr (List.mem_cons_of_mem _ z)
theorem af2 {α:Type}:∀ {l:List (Str×α)}{x:Str}{c:α},(x,c)∈l→∃ d,l.lookup x=some d
 | [],_,_,h=>nomatch h
 | (y,d)::l,x,c,h=>by
   rw [List.lookup_cons]
   cases hx:x == y with
   | true=>exact ⟨d,rfl⟩
   | false =>
     rcases List.mem_cons.mp h with e | h
     · cases e
       simp at hx
     · exact af2 h
theorem ah4 {α:Type}{x:Str}:∀ {a b:List (Str×α)},(a++b).lookup x=(a.lookup x).or (b.lookup x)
 | [],_=>rfl
 | (y,d)::a,b=>by
   rw [List.cons_append,List.lookup_cons,List.lookup_cons]
   cases hx:x == y with
   | true=>rfl
   | false=>exact ah4 (a:=a) (b:=b)
theorem a98:∀ (names:List (Str×NameKind)) (n:Nat) (a:List (Str×Addr)) (p:Str×Addr),p∈a→p∈cellsFrom n names a
 | [],_,_,_,h=>h
 | (y,k)::r,n,a,p,h=>by
   unfold cellsFrom
   split
   · exact a98 r (n+1) _ p (List.mem_cons_of_mem _ h)
   · exact a98 r n a p h
theorem a99:∀ (names:List (Str×NameKind)) (n:Nat) (a:List (Str×Addr)) (x:Str),(x,NameKind.cell)∈names→∃ c,(x,c)∈cellsFrom n names a
 | (y,k)::r,n,a,x,h=>by
   unfold cellsFrom
   rcases List.mem_cons.mp h with e | h
   · cases e
     exact ⟨n,a98 r (n+1) _ _ List.mem_cons_self⟩
   · split
     · exact a99 r (n+1) _ x h
     · exact a99 r n a x h
structure CellsR (X:Cx) (scope:Scope) (Nf:List Str) (r:List (Str×Addr)) (C:Addr) (h1:Heap):Prop where
 sp:∀ x c,r.lookup x=some c→(C<c∧h1.IsCell c none)∨X.env.cells.lookup x=some c
 inj:∀ x y c,r.lookup x=some c→r.lookup y=some c→x=y
 has:∀ y∈scope.names,(y.2=.free∨y.2=.cell)→∃ c,r.lookup y.1=some c
 cab:∀ x c,scope.names.lookup x=some .cell→r.lookup x=some c→C<c
 cap:∀ x∈Nf,∀ c,r.lookup x=some c→X.env.cells.lookup x=some c
theorem bs1 {X:Cx}{scope:Scope}{Nf:List Str}{cl:List (Str×Addr)}{h:Heap}{C:Addr}(hC:h.objs.size=C+1) (hX:∀ x c,X.env.cells.lookup x=some c→c<C) (hinj:∀ x y c,X.env.cells.lookup x=some c→X.env.cells.lookup y=some c→x=y)
 (hcl:∀ x c,cl.lookup x=some c→X.env.cells.lookup x=some c) (hcf:∀ y∈scope.names,y.2=.free→∃ c,cl.lookup y.1=some c) (hnx:∀ x∈Nf,(x,NameKind.cell)∉scope.names) :
 CellsR X scope Nf (cellsFrom (C+1) scope.names cl) C (pushCells h scope.names):=by
 have e0:cellsFrom (C+1) scope.names cl=cellsFrom (C+1) scope.names []++cl:=a96 scope.names (C+1) [] cl
 have ok:=cellsFrom_ok scope.names h (C+1) [] ⟨fun _ _ hm=>(nomatch hm),List.Pairwise.nil⟩ (by rw [hC]; exact Nat.le_refl _)
 rw [hC] at ok
 have hmem:∀ x c,(x,c)∈cellsFrom (C+1) scope.names []→(x,NameKind.cell)∈scope.names:=fun x c h=>by
  rcases a97 _ _ _ x c h with z | z
  · exact nomatch z
  · exact z
 have ho:∀ x,(x,NameKind.cell)∈scope.names→∃ c,(cellsFrom (C+1) scope.names []).lookup x=some c:=fun x hx=>by
  obtain ⟨c,hc⟩:=a99 scope.names (C+1) [] x hx
  exact af2 hc
 rw [e0]
 generalize cellsFrom (C+1) scope.names []=own at ok hmem e0 ho
 have spl:∀ x c,(own++cl).lookup x=some c→(own.lookup x=some c∧C<c)∨(own.lookup x=none∧cl.lookup x=some c):=fun x c e=>by
  rw [ah4] at e
  cases hx:own.lookup x with
  | none=>rw [hx] at e; exact .inr ⟨rfl,e⟩
  | some d =>
    rw [hx] at e
    cases e
    exact .inl ⟨rfl,(ok.empty x c (PySem.mem_of_lookup hx)).2⟩
 refine ⟨fun x c e=>?_,fun x y c e1 e2=>?_,fun y hy hk=>?_,fun x c hk e=>?_,fun x hx c e=>?_⟩
 · rcases spl x c e with ⟨e1,h1⟩ | ⟨_,e1⟩
   · exact .inl ⟨h1,(ok.empty x c (PySem.mem_of_lookup e1)).1⟩
   · exact .inr (hcl x c e1)
 · rcases spl x c e1 with ⟨a1,b1⟩ | ⟨_,a1⟩ <;> rcases spl y c e2 with ⟨a2,b2⟩ | ⟨_,a2⟩
   · exact name_of_addr ok.apart (PySem.mem_of_lookup a1) (PySem.mem_of_lookup a2)
   · exact absurd (hX y c (hcl y c a2)) (Nat.not_lt.mpr (Nat.le_of_lt b1))
   · exact absurd (hX x c (hcl x c a1)) (Nat.not_lt.mpr (Nat.le_of_lt b2))
   · exact hinj x y c (hcl x c a1) (hcl y c a2)
 · rw [ah4]
   cases hx:own.lookup y.1 with
   | some d=>exact ⟨d,rfl⟩
   | none =>
     rcases hk with hk | hk
     · exact hcf y hy hk
     · obtain ⟨c,hc⟩:=ho y.1 (by rw [← hk]; exact hy)
       rw [hx] at hc
       cases hc
 · obtain ⟨d,hd⟩:=ho x (PySem.mem_of_lookup hk)
   rcases spl x c e with ⟨_,h1⟩ | ⟨z,_⟩
   · exact h1
   · rw [hd] at z
     cases z
 · rcases spl x c e with ⟨h1,_⟩ | ⟨_,e1⟩
   · exact absurd (hmem x c (PySem.mem_of_lookup h1)) (hnx x hx)
   · exact hcl x c e1
section
variable {X:Cx}{pins:List (Addr×Obj)}{σ:St} {H:Hp}{s:Shared}{N:List Str}{scope:Scope}{cl:List (Str×Addr)}{C:Addr}{ex:List Addr}{Nf:List Str}{h1:Heap}
theorem c15 (I:Inv X pins σ H s) (hC:s.heap.objs.size≤C) (hkind:scope.kind=.function) (R:CellsR X scope Nf cl C h1)
 (hex:∀ b∈ex,FpOk X pins H b) (hexl:∀ b∈ex,b<s.heap.objs.size):(cxC X N scope cl C s H ex).Ok where
 mod:=I.ok.mod
 kind:=hkind
 glob:=I.ok.glob
 blt:=I.ok.blt
 above:=hC
 inj:=R.inj
 has:=fun x hx=>by
  have hx':∃ k,(relabel scope X.env).names.lookup x=some k∧(k=.cell∨k=.free):=by
   rcases hx with h | h
   · exact ⟨_,h,.inl rfl⟩
   · exact ⟨_,h,.inr rfl⟩
  obtain ⟨k,h,hk⟩:=hx'
  obtain ⟨y,hy,e1,e2⟩:=at2 h hk
  rw [← e1]
  exact R.has y hy e2
 cab:=fun x c h e=>Nat.le_trans hC (Nat.le_of_lt (R.cab x c (by have h':(scope.names.lookup x == some NameKind.cell)=true:=h; simpa using h') e))
 hd:=I.ok.hd
 frames:=I.ok.frames
 stk:=.inl rfl
 exf:=fun b hb=>⟨Nat.ne_of_lt (Nat.lt_of_lt_of_le (hexl b hb) hC),fun x c e=>by
  rcases R.sp x c e with ⟨z,_⟩ | z
  · exact Nat.ne_of_gt (Nat.lt_trans (Nat.lt_of_lt_of_le (hexl b hb) hC) z)
  · exact (hex b hb).2.2.2.2.1 x c z⟩
 bs:=I.bs
 bsz:=Nat.le_trans I.ok.bsz I.sz
 noex:=fun b o e hb=>by
  rcases (hex b hb).2.2.2.1 with z | z
  · exact I.ok.noex b o e z
  · have h1:=Heap.lt_size e
    have h2:=I.ok.bsz
    exact absurd (Nat.lt_of_lt_of_le h1 (Nat.le_trans h2 z)) (Nat.lt_irrefl _)
 exfs:=fun b hb z=>by
  have h1:=I.stkSub b z
  rcases List.mem_cons.mp h1 with z | z
  · exact (hex b hb).2.1 z
  · exact (hex b hb).2.2.1 z
 funs:=I.stack
 frf:=I.stkFree
def capV (caps:List Nat) (σ:St):St:=caps.map fun j=>(σ[j]?).join
def cSt (n:Nat) (caps:List Nat) (σ:St):St:=List.replicate n none++capV caps σ
theorem bs2 {caps:List Nat}{Nt:List Str}{s1:Shared}{m:Str→Option Value}(I:Inv X pins σ H s) (ok:(cxC X (Nt++Nf) scope cl C s H ex).Ok)
 (R:CellsR X scope Nf cl C s1.heap)
 (hcap:caps.map (fun j=>X.N[j]?)=Nf.map some)
 (hvis:∀ x∈Nf,scope.names.lookup x=some .free) (hXv:∀ x∈Nf,X.env.kindOf x=some .cell∨X.env.kindOf x=some .free) (hcf:∀ x∈Nf,∃ c,cl.lookup x=some c)
 (hos:s1.os=s.os) (hgens:s1.gens=s.gens) (hk:∀ b o,s.heap.get? b=some o→s1.heap.get? b=some o) (hns:s1.heap.Ns C m) (hC:s.heap.objs.size≤C) :
 Inv (cxC X (Nt++Nf) scope cl C s H ex) [] (cSt Nt.length caps σ) H s1:=by
 have hlen:caps.length=Nf.length:=by
  have:=congrArg List.length hcap
  simpa using this
 refine ⟨ok,hos,by rw [hgens]; exact I.bare,Un.kept hk,⟨m,hns,fun i x v h1 h2 h3=>?_⟩,fun x c e=>?_,I.hok.fresh hC,fun x c e=>by
  rcases R.sp x c e with ⟨z,_⟩ | z
  · exact I.hok.fresh (Nat.le_trans hC (Nat.le_of_lt z))
  · exact I.freeC x c z,fun p hp=>absurd (show p∈([]:List (Addr×Obj)) from hp) (by simp),I.hok.kept hk,?_⟩
 · -- a captured name
   have hi:Nt.length≤i:=by
    refine Nat.le_of_not_lt fun q=>?_
    unfold cSt at h2
    rw [List.getElem?_append_left (by simpa using q),List.getElem?_replicate] at h2
    split at h2 <;> cases h2
   have h1':Nf[i - Nt.length]?=some x:=by
    have:(Nt++Nf)[i]?=some x:=h1
    rwa [List.getElem?_append_right hi] at this
   unfold cSt at h2
   rw [List.getElem?_append_right (by simpa using hi)] at h2
   have e0:i - (List.replicate Nt.length (none:Option V)).length=i - Nt.length:=by simp
   rw [e0] at h2
   generalize hj:i - Nt.length=j at h1' h2
   unfold capV at h2
   rw [List.getElem?_map] at h2
   cases hc:caps[j]? with
   | none=>rw [hc] at h2; cases h2
   | some jj =>
     rw [hc] at h2
     have h2':(σ[jj]?).join=some v:=Option.some.inj h2
     have h2'':σ[jj]?=some (some v):=by
      cases q:σ[jj]? with
      | none=>rw [q] at h2'; cases h2'
      | some z=>rw [q] at h2'; cases z with
        | none=>cases h2'
        | some z'=>cases h2'; rfl
     have hN:X.N[jj]?=some x:=by
      have q:=congrArg (fun l=>l[j]?) hcap
      simp only [List.getElem?_map,hc,h1',Option.map_some] at q
      exact Option.some.inj q
     have hx:x∈Nf:=List.mem_of_getElem? h1'
     have hXk:=hXv x hx
     obtain ⟨mX,_,hl⟩:=I.loc
     obtain ⟨u,ru,lk⟩:=hl jj x v hN h2'' (by
      rcases hXk with z | z
      · exact .inr (.inl z)
      · exact .inr (.inr z))
     refine ⟨u,ru,.inr ?_⟩
     rcases lk with ⟨z,_⟩ | ⟨_,c,hc1,hcell⟩
     · rcases hXk with y | y <;> (rw [z] at y; cases y)
     · obtain ⟨c',hc'⟩:=hcf x hx
       have e:=R.cap x hx c' hc'
       rw [hc1] at e; cases e
       refine ⟨?_,c,hc',?_⟩
       · rcases h3 with z | z | z
         · -- not a local of the block
           exfalso
           have hfree:=hvis x hx
           have z':(relabel scope X.env).names.lookup x=some .local:=z
           have gen:∀ names:List (Str×NameKind),names.lookup x=some .free→(names.map fun (n,k)=>if (k == NameKind.free && X.env.scope.kind == .function && X.env.kindOf n == some .cell) then (n,NameKind.cell) else (n,k)).lookup x≠some .local:=by
            intro names
            induction names with
            | nil=>intro h; cases h
            | cons p r ih =>
              obtain ⟨n,k⟩:=p
              intro h
              rw [List.map_cons,List.lookup_cons]
              rw [List.lookup_cons] at h
              have e1:(if (k == NameKind.free && X.env.scope.kind == .function && X.env.kindOf n == some .cell)=true then (n,NameKind.cell) else (n,k)).1=n:=by split <;> rfl
              dsimp only
              rw [e1]
              cases hx:x == n with
              | false=>rw [hx] at h; exact ih h
              | true =>
                rw [hx] at h
                cases h
                show some (if _ then (n,NameKind.cell) else (n,NameKind.free)).2≠some .local
                split <;> (intro q; cases q)
           exact gen scope.names hfree z'
         · exact .inl z
         · exact .inr z
       · obtain ⟨o,eo,d⟩:=hcell
         exact ⟨o,hk _ _ eo,d⟩
 · rcases R.sp x c e with ⟨_,z⟩ | z
   · exact ⟨none,z⟩
   · obtain ⟨v,q⟩:=I.cell x c z
     obtain ⟨o,eo,d⟩:=q
     exact ⟨v,o,hk _ _ eo,d⟩
 · show (cSt Nt.length caps σ).length=(Nt++Nf).length
   unfold cSt capV
   simp [hlen]
end
abbrev bn1 (ifs:List Expr) (env:Env):Sem Bool:=forIn ifs true fun c r=>if r=true then do let ok←isTrue c env (eval c env); pure (ForInStep.yield ok) else pure (ForInStep.yield r)
abbrev NoX:Value→Shared→Prop:=fun _ _=>False
theorem at3 {P:Program}{w:World}{B:Around}{R:Result→Shared→Prop}{s:Shared}{y tg l:Expr}{cs:List Expr}{sc:Scope}{ps:Pos}{iv av:Value}{en:Env}(G:Nat→Shared→Prop)
 (one:∀ n s,G n s→wpAny (model P w) B (pyNext iv) (fun r s1=>match r with
  | none=>R (.ok .next) s1
  | some v=>wpAny (model P w) B (letOwnedTupleGo tg iv v) (fun _ s1=>wpAny (model P w) B (assign tg en v) (fun _ s2=>wpAny (model P w) B (bn1 cs en) (fun k s3 =>
   if k=true then wpAny (model P w) B (eval y en) (fun x s4=>wpAny (model P w) B (call (.builtin "list.append") [av,x]) (fun _ s5=>∃ m,m<n∧G m s5) NoX s4) NoX s3
   else ∃ m,m<n∧G m s3) NoX s2) NoX s1) NoX s1) NoX s) (n:Nat) (h:G n s) :
 codeAny (model P w) B (.compLoop (.ListComp y [⟨tg,l,cs,0⟩] sc ps) 0 iv av en) R s:=by
 refine codeAny_loop rfl G (fun n s hG=>?_) n h
 show wpAny _ B ((compTurn (.ListComp y [⟨tg,l,cs,0⟩] sc ps) 0 iv av en).onRaise (fun x=>do noteFrame x en; theTreesLotGoes x)) _ _ s
 refine wpAny_noted ?_
 rw [compTurn_list]
 refine wpAny_bind (wpAny_standAt (wpAny_bind (wpAny_mono (one n s hG) (fun r s1 h1=>?_) fun _ _ z=>z.elim)))
 cases r with
 | none=>exact wpAny_pure h1
 | some v =>
   refine wpAny_bind (wpAny_mono h1 (fun _ s1' h1'=>?_) fun _ _ z=>z.elim)
   refine wpAny_bind (wpAny_mono h1' (fun _ s2 h2=>wpAny_bind (wpAny_mono h2 (fun k s3 h3=>?_) fun _ _ z=>z.elim)) fun _ _ z=>z.elim)
   cases k with
   | false=>exact wpAny_pure ⟨rfl,h3⟩
   | true=>exact wpAny_bind (wpAny_bind (wpAny_mono h3 (fun x s4 h4=>wpAny_bind (wpAny_mono h4 (fun _ s5 h5=>wpAny_pure (wpAny_pure ⟨rfl,h5⟩)) fun _ _ z=>z.elim)) fun _ _ z=>z.elim))
def PTs (X:Cx) (ifs:List Expr) (t:TT):Prop :=
 ∀ (pins:List (Addr×Obj)) (s:Shared) (σ:St) (H:Hp) (Q:Bool→Hp→Prop),Inv X pins σ H s→t σ H Q →
  wpAny (model X.prog X.w) X.A (bn1 ifs X.env) (TP X pins σ Q) X.xe s
def tNoIf:TT:=fun _ H Q=>Q true H
theorem a92 {X:Cx}:PTs X [] tNoIf:=fun pins s σ H Q I h=>wpAny_tests_nil ⟨H,I,h⟩
theorem aa0 {X:Cx}{c:Expr}{t:TT}(h:PT X c t):PTs X [c] t:=fun pins s σ H Q I q=>wpAny_tests_one (h pins s σ H Q I q)
section
variable {X:Cx}{pins:List (Addr×Obj)}{σ:St} {H:Hp}{s:Shared}
theorem Inv.adopt {D:Addr}{o:HO}(I:Inv X pins σ H s) (hD:H D=none) (h1:X.s₀.heap.objs.size≤D) (h2:D≠X.env.locals) (h3:∀ x c,X.env.cells.lookup x=some c→c≠D) (h4:∀ p∈X.pn++pins,p.1≠D)
 (new:ObjOk X.prog X.w (upd H D o) s.heap D o):Inv X pins σ (upd H D o) s:=by
 have old:∀ {b:Addr}{q:Obj},X.s₀.heap.get? b=some q→b≠D:=fun e=>Nat.ne_of_lt (Nat.lt_of_lt_of_le (Heap.lt_size e) h1)
 refine ⟨I.ok,I.os,I.bare,⟨I.base.keep,I.base.slot,fun b q e n hx=>by rw [a12 (old e)]; exact I.base.free b q e n hx,I.base.there,fun b xs e=>?_,fun b q u e=>?_,fun b ps e=>?_⟩,I.loc,I.cell,by rw [a12 (Ne.symm h2)]; exact I.free,fun x c e=>by rw [a12 (h3 x c e)]; exact I.freeC x c e,fun p hp=>?_,fun b u e=>?_,I.len⟩
 · have e':=I.base.tups b xs e
   rw [a12 (a38 e' hD)]; exact e'
 · have e':=I.base.frzs b q u e
   rw [a12 (a38 e' hD)]; exact e'
 · obtain ⟨more,e'⟩:=I.base.tbls b ps e
   exact ⟨more,by rw [a12 (a38 e' hD)]; exact e'⟩
 · obtain ⟨a1,a2,a3,a4,a5⟩:=I.pin p hp
   exact ⟨a1,by rw [a12 (h4 p hp)]; exact a2,a3,a4,a5⟩
 · by_cases hb:b=D
   · subst hb; rw [a17] at e; cases e; exact new
   · rw [a12 hb] at e
     exact (I.hok b u e).stay (fun c v _ q=>q) (fun c q=>by rw [a12 (a38 q hD)]; exact q) fun c xs q=>by rw [a12 (a38 q hD)]; exact q
def tLC (wi:TI) (g:TG) (tt:TT) (te:TE) (n:Nat) (caps:List Nat):TE:=fun σ H Q=>wi σ H fun J H1=>∃ W:Nat→Nat→List V→St→Hp→Prop,(∃ m,W 0 m [] (cSt n caps σ) H1)∧∀ i m acc σ' H',W i m acc σ' H' →
 (J.stop i H'∧∀ l,H' l=none→Q (.ref l) (upd H' l (.lst acc))) ∨
 (J.go i H'∧acc.length<sizeLine∧∃ N:List V→St→Hp→Prop,(∀ ac σ2 H2,N ac σ2 H2→∃ m',m'<m∧W (i+1) m' ac σ2 H2)∧∀ x H2,J.yld i H' x H2→g x σ' H2 fun σ3 H3=>tt σ3 H3 fun b H4=>if b=true then te σ3 H4 fun y H5=>N (acc++[y]) σ3 H5 else N acc σ3 H4)
structure CompOk (X:Cx) (scope:Scope) (Nt Nf:List Str) (caps:List Nat):Prop where
 kind:scope.kind=.function
 nx:∀ x∈Nf,(x,NameKind.cell)∉scope.names
 nm:∀ y∈scope.names,y.2=.local→scope.names.lookup y.1=some .local
 fr:∀ y∈scope.names,y.2=.free→X.env.kindOf y.1=some .cell∨X.env.kindOf y.1=some .free
 cap:caps.map (fun j=>X.N[j]?)=Nf.map some
 vis:∀ x∈Nf,scope.names.lookup x=some .free
theorem b49 {M:Model}{A:Around}{E:Value→Shared→Prop}{scope:Scope}{globals:Addr}{closure:List (Str×Addr)}{qual:Str}{func:Option Addr}{code:Value}{env:Env}{builtins:Addr}{Q:Env→Shared→Prop}
 (hQ:Q (newEnv scope s.heap.objs.size globals (cellsFrom (s.heap.objs.size+1) scope.names closure) qual func code (some env) builtins) { s with heap:=pushCells (s.heap.push { cls:=.type "dict",data:=.dict #[] }) scope.names }) :
 wpAny M A (newFunctionEnv scope globals closure [] qual func code (some env) builtins) Q E s:=by
 simp only [newFunctionEnv,Option.isSome_some,if_true]
 refine wpAny_bind (wpAny_alloc ?_)
 refine wpAny_bind (wpAny_layCells _ (fun name kind cells=>by cases hkc:kind == NameKind.cell <;> simp [hkc]) _ _ _ _ ?_)
 rw [show ({ s with heap:=s.heap.push { cls:=.type "dict",data:=.dict #[] } }:Shared).heap.objs.size=s.heap.objs.size+1 from Heap.size_push ..]
 rw [List.forIn_nil]
 exact wpAny_bind (wpAny_pure (wpAny_pure hQ))
theorem an6 {tg iter elt:Expr}{ifs:List Expr}{scope:Scope}{pos:Pos}{g:TG}{tt:TT}{te:TE}{Nt Nf:List Str}{caps:List Nat}{cl:List (Str×Addr)}{it:Addr}{fp:List Addr}{tn:Nat→Heap→Prop}{J:It}{Q:VK}{E:Value→Shared→Prop}
 {RR:Value→Addr→Result→Shared→Prop}
 (hc:X.calm=true) (S:CompOk X scope Nt Nf caps)
 (hg:∀ cl C s0 H0 ex,PG (cxC X (Nt++Nf) scope cl C s0 H0 ex) tg g)
 (ht:∀ cl C s0 H0 ex,PTs (cxC X (Nt++Nf) scope cl C s0 H0 ex) ifs tt)
 (he:∀ cl C s0 H0 ex,PE (cxC X (Nt++Nf) scope cl C s0 H0 ex) elt te)
 (hcl:∀ x c,cl.lookup x=some c→X.env.cells.lookup x=some c) (hcf:∀ y∈scope.names,y.2=.free→∃ c,cl.lookup y.1=some c)
 (I:Inv X pins σ H s) (T:Turn X.prog X.w X.K tg J fp it tn) (st:tn 0 s.heap) (hfp:∀ b∈fp,FpOk X pins H b)
 (hW:∃ W:Nat→Nat→List V→St→Hp→Prop,(∃ m,W 0 m [] (cSt Nt.length caps σ) H)∧∀ i m acc σ' H',W i m acc σ' H' →
  (J.stop i H'∧∀ l,H' l=none→Q (.ref l) (upd H' l (.lst acc))) ∨
  (J.go i H'∧acc.length<sizeLine∧∃ N:List V→St→Hp→Prop,(∀ ac σ2 H2,N ac σ2 H2→∃ m',m'<m∧W (i+1) m' ac σ2 H2)∧∀ x H2,J.yld i H' x H2→g x σ' H2 fun σ3 H3=>tt σ3 H3 fun b H4=>if b=true then te σ3 H4 fun y H5=>N (acc++[y]) σ3 H5 else N acc σ3 H4))
 (fin:∀ D C m s' H',Inv X pins σ H' s'→Q (.ref D) H'→s'.heap.Ns C m→H' C=none→C≠X.env.locals→X.s₀.heap.objs.size≤C→(∀ x c,X.env.cells.lookup x=some c→c≠C)→(∀ p∈X.pn++pins,p.1≠C)→RR (.ref D) C (.ok .next) s') :
 wpAny (model X.prog X.w) X.A (newList []) (fun acc s₃=>wpAny (model X.prog X.w) X.A (newFunctionEnv scope X.env.globals cl [] X.env.qual none .none (some X.env)) (fun cenv s₄ =>
  codeAny (model X.prog X.w) X.A (.compStart (.ListComp elt [⟨tg,iter,ifs,0⟩] scope pos) 0 (.ref it) acc { cenv with scope:=relabel scope X.env }) (RR acc cenv.locals) s₄) E s₃) E s:=by
 obtain ⟨W,⟨m0,w0⟩,turn⟩:=hW
 refine wpAny_newObj_type (b49 ?_)
 dsimp only
 generalize hH2:s.heap.push { cls:=.type "list",dict:=none,data:=.seq ([]:List Value).toArray }=P2
 have hCs:P2.objs.size=s.heap.objs.size+1:=by rw [← hH2,Heap.size_push]
 have hDC:s.heap.objs.size≠P2.objs.size:=by rw [hCs]; exact Nat.ne_of_lt (Nat.lt_succ_self _)
 have hCle:s.heap.objs.size≤P2.objs.size:=by rw [hCs]; exact Nat.le_succ _
 have below:∀ b,b<s.heap.objs.size→b≠P2.objs.size:=fun b hb=>by rw [hCs]; exact Nat.ne_of_lt (Nat.lt_succ_of_lt hb)
 have kp:=pushCells_keeps scope.names (P2.push { cls:=.type "dict",data:=.dict #[] })
 have hns₁:=(Heap.Ns.new P2 (.type "dict")).keeps kp
 have old:∀ b o,s.heap.get? b=some o→(pushCells (P2.push { cls:=.type "dict",data:=.dict #[] }) scope.names).get? b=some o:=fun b o e=>kp _ _ (Heap.get?_push_of_some _ (hH2 ▸ Heap.get?_push_of_some _ e))
 have hacc:(pushCells (P2.push { cls:=.type "dict",data:=.dict #[] }) scope.names).PlainList s.heap.objs.size #[]:=⟨_,kp _ _ (Heap.get?_push_of_some _ (hH2 ▸ Heap.get?_push_size _ rfl))⟩
 have R:=bs1 (X:=X) (scope:=scope) (Nf:=Nf) (cl:=cl) (h:=P2.push { cls:=.type "dict",data:=.dict #[] }) (C:=P2.objs.size) (Heap.size_push ..) (fun x c e=>by
  obtain ⟨v,q⟩:=I.cell x c e
  exact Nat.lt_of_lt_of_le q.lt hCle) I.ok.inj hcl hcf S.nx
 generalize cellsFrom (P2.objs.size+1) scope.names cl=r at R ⊢
 generalize pushCells (P2.push { cls:=.type "dict",data:=.dict #[] }) scope.names=h₁ at R hns₁ old hacc ⊢
 have fpl:∀ b∈fp,b<s.heap.objs.size:=fun b hb=>by
  obtain ⟨o,e,_⟩:=T.obj _ _ st b hb
  exact Heap.lt_size e
 have st₁:tn 0 h₁:=T.keep _ _ _ st fun b _ o e=>old b o e
 generalize hCe:P2.objs.size=C at hns₁ R hDC hCle below ⊢
 generalize hDe:s.heap.objs.size=D at hacc hDC hCle ⊢
 have hDl:X.env.locals<D:=by rw [← hDe]; exact I.lt
 have hDs:X.s₀.heap.objs.size≤D:=by rw [← hDe]; exact I.sz
 have hcD:∀ x c,X.env.cells.lookup x=some c→c<D:=fun x c e=>by
  obtain ⟨v,q⟩:=I.cell x c e
  rw [← hDe]; exact q.lt
 have hpD:∀ p∈X.pn++pins,p.1<D:=fun p hp=>by rw [← hDe]; exact Heap.lt_size (I.pin p hp).1
 let Y:Cx:=cxC X (Nt++Nf) scope r C s H fp
 have okY:Y.Ok:=c15 I (by rw [hDe]; exact hCle) S.kind R hfp fpl
 have hfsY:∀ b,b∈Y.fs→b<D:=fun b hb=>by
  rcases List.mem_cons.mp (I.stkSub b hb) with z | z
  · rw [z]; exact hDl
  · refine Nat.lt_of_lt_of_le ?_ hDs
    have:=(I.ok.funs.mem z)
    refine Nat.lt_of_not_le fun q=>?_
    exact absurd z (fun z=>by
     have:=I.nofs (a:=b)
     by_cases hb2:s.heap.objs.size≤b
     · exact this hb2 z
     · obtain ⟨_,o,e,_⟩:=I.ok.funs.mem z
       exact absurd (Heap.lt_size e) (Nat.not_lt.mpr q))
 have loop:∀ s₃:Shared,s₃={ s with heap:=h₁ } →
  codeAny (model X.prog X.w) X.A (.compLoop (.ListComp elt [⟨tg,iter,ifs,0⟩] scope pos) 0 (.ref it) (.ref D) Y.env) (RR (.ref D) C) s₃:=by
  rintro s₃ rfl
  have I0:Inv Y [] (cSt Nt.length caps σ) H { s with heap:=h₁ } :=
   bs2 I okY R S.cap S.vis (fun x hx=>S.fr (x,.free) (PySem.mem_of_lookup (S.vis x hx)) rfl) (fun x hx=>R.has (x,.free) (PySem.mem_of_lookup (S.vis x hx)) (.inl rfl)) rfl rfl old hns₁ (by rw [hDe]; exact hCle)
  have fpY:∀ {H':Hp},(∀ b∈fp,H' b=none)→∀ b∈fp,FpOk Y [] H' b:=fun hn b hb =>
   ⟨hn b hb,Nat.ne_of_lt (Nat.lt_of_lt_of_le (fpl b hb) (by rw [hDe]; exact hCle)),okY.exfs b hb,.inl hb,fun x c e=>by
    rcases R.sp x c e with ⟨z,_⟩ | z
    · exact Nat.ne_of_gt (Nat.lt_trans (Nat.lt_of_lt_of_le (fpl b hb) (by rw [hDe]; exact hCle)) z)
    · exact (hfp b hb).2.2.2.2.1 x c z,fun p hp=>absurd (show p∈([]:List (Addr×Obj)) from hp) (by simp)⟩
  have fpD:∀ b∈fp,b≠D:=fun b hb=>Nat.ne_of_lt (by rw [← hDe]; exact fpl b hb)
  refine at3 (fun n s'=>∃ i acc its σ' H',Inv Y [] σ' H' s'∧tn i s'.heap∧(∀ b∈fp,H' b=none)∧s'.heap.PlainList D its∧H' D=none∧Vals acc its.toList∧acc.length≤sizeLine∧W i n acc σ' H') ?_ m0
   ⟨0,[],#[],cSt Nt.length caps σ,H,I0,st₁,fun b hb=>(hfp b hb).1,hacc,by rw [← hDe]; exact I.hok.fresh (Nat.le_refl _),.nil,Nat.zero_le _,w0⟩
  rintro n s3 ⟨i,acc,its,σ3,H3,I3,st3,fr3,⟨nd,e3⟩,hD3,rv3,hl3,w3⟩
  have cD:C≠D:=Ne.symm hDC
  have pinOk:∀ {H':Hp}{s':Shared}{o:Obj},s'.heap.get? D=some o→H' D=none→(∀ v,o.data≠.cell v)→s'.heap.get? D=some o∧H' D=none∧D≠Y.env.locals∧D∉Y.fs∧∀ v,o.data≠.cell v:=fun e n d =>
   ⟨e,n,hDC,fun z=>absurd (hfsY D z) (Nat.lt_irrefl _),d⟩
  have I3':Inv Y [(D,{ cls:=.type "list",data:=.seq its nd })] σ3 H3 s3:=I3.pins_of fun p hp=>by
   obtain rfl:p=(D,({ cls:=.type "list",data:=.seq its nd }:Obj)):=List.mem_singleton.mp hp
   exact pinOk e3 hD3 (fun v z=>by cases z)
  have fpY':∀ {H':Hp},(∀ b∈fp,H' b=none)→∀ b∈fp,FpOk Y [(D,{ cls:=.type "list",data:=.seq its nd })] H' b:=fun hn b hb=>by
   obtain ⟨a1,a2,a3,a4,a5,_⟩:=fpY hn b hb
   refine ⟨a1,a2,a3,a4,a5,fun p hp=>?_⟩
   obtain rfl:p=(D,({ cls:=.type "list",data:=.seq its nd }:Obj)):=List.mem_singleton.mp hp
   exact Ne.symm (fpD b hb)
  rcases turn i n acc σ3 H3 w3 with ⟨stop,qn⟩ | ⟨go,hlt,N,hN,step⟩
  · refine thn (T.done Y rfl rfl rfl hc i _ s3 σ3 H3 _ I3' (fpY' fr3) st3 stop) ?_
    rintro r s4 ⟨hr,I4⟩
    subst hr
    have e4:=(I4.pin (D,{ cls:=.type "list",data:=.seq its nd }) (List.mem_append_right _ List.mem_cons_self)).1
    have IX:Inv X pins σ H3 s4:=I.call' (ch:=fp) I4.os I4.base I4.hok I4.bare fun b hb=>by
     obtain ⟨_,a2,_,a4,a5,a6⟩:=hfp b hb
     exact ⟨a4,a2,a5,a6⟩
    have IA:=IX.adopt (o:=.lst acc) hD3 hDs (Nat.ne_of_gt hDl) (fun x c e=>Nat.ne_of_lt (hcD x c e)) (fun p hp=>Nat.ne_of_lt (hpD p hp)) ⟨hl3,its.toList,nd,rv3,e4⟩
    obtain ⟨m,nsC,_⟩:=I4.loc
    refine fin D C m s4 _ IA (qn D hD3) nsC (by rw [a12 cD]; exact I4.free) ?_ ?_ ?_ ?_
    · exact Nat.ne_of_gt (Nat.lt_of_lt_of_le hDl hCle)
    · exact Nat.le_trans hDs hCle
    · exact fun x c e=>Nat.ne_of_lt (Nat.lt_of_lt_of_le (hcD x c e) hCle)
    · exact fun p hp=>Nat.ne_of_lt (Nat.lt_of_lt_of_le (hpD p hp) hCle)
  · refine thn (T.item Y rfl rfl rfl hc i _ s3 σ3 H3 _ I3' (fpY' fr3) st3 go) ?_
    rintro r s4 ⟨u,hr,h4⟩
    subst hr
    refine thn h4 ?_
    rintro _ s5 ⟨x,H5,I5,r5,y5,st5,fr5⟩
    have I5':=I5.pinned (fpY' fr5) (T.obj _ _ st5)
    refine thn (hg r C s H fp _ s5 σ3 H5 x u _ I5' r5 (step x H5 y5)) ?_
    rintro _ s6 ⟨σ6,H6,I6,q6⟩
    refine thn (ht r C s H fp _ s6 σ6 H6 _ I6 q6) ?_
    rintro b s7 ⟨H7,I7,q7⟩
    have back:∀ {σ':St} {H':Hp}{s':Shared},Inv Y ([(D,{ cls:=.type "list",data:=.seq its nd })]++ar7 fp s5.heap) σ' H' s' →
     s'.heap.get? D=some { cls:=.type "list",data:=.seq its nd }∧H' D=none∧tn (i+1) s'.heap∧∀ b∈fp,H' b=none:=fun {σ' H' s'} J7=>by
     have hd:=J7.pin (D,{ cls:=.type "list",data:=.seq its nd }) (List.mem_append_right _ (List.mem_append_left _ List.mem_cons_self))
     refine ⟨hd.1,hd.2.1,T.keep _ _ _ st5 fun b hb o e=>(J7.pin (b,o) (List.mem_append_right _ (List.mem_append_right _ (ac2 hb e)))).1,fun b hb=>?_⟩
     obtain ⟨o,e,d⟩:=T.obj _ _ st5 b hb
     exact (J7.pin (b,o) (List.mem_append_right _ (List.mem_append_right _ (ac2 hb e)))).2.1
    cases b with
    | false =>
      rw [if_neg Bool.false_ne_true]
      rw [if_neg Bool.false_ne_true] at q7
      obtain ⟨m',hm,w7⟩:=hN _ _ _ q7
      obtain ⟨b1,b2,b3,b4⟩:=back I7
      exact ⟨m',hm,i+1,acc,its,σ6,H7,I7.pins_of (fun p hp=>nomatch hp),b3,b4,⟨nd,b1⟩,b2,rv3,hl3,w7⟩
    | true =>
      rw [if_pos rfl]
      rw [if_pos rfl] at q7
      refine thn (he r C s H fp _ s7 σ6 H7 _ I7 q7) ?_
      rintro u8 s8 ⟨y,H8,I8,r8,n8⟩
      obtain ⟨m',hm,w8⟩:=hN _ _ _ n8
      obtain ⟨b1,b2,b3,b4⟩:=back I8
      have hsz:its.size≤sizeLine:=by
       have h1:=rv3.length
       have h2:its.toList.length=its.size:=by simp
       omega
      refine wpAny_list_append_plain (hsz:=hsz) ⟨nd,b1⟩ fun h' pl' sb'=>?_
      have I8':Inv Y [] σ6 H8 s8:=I8.pins_of (fun p hp=>nomatch hp)
      refine ⟨m',hm,i+1,acc++[y],its.push u8,σ6,H8,I8'.turned (t':=s8.toks) (fun b o hb e=>(sb'.2 b hb).trans e) b2 hDC (.inr (by show s.heap.objs.size≤D; rw [hDe]; exact Nat.le_refl _)) (fun x c e=>by
       rcases R.sp x c e with ⟨z,_⟩ | z
       · exact Nat.ne_of_gt (Nat.lt_of_le_of_lt hCle z)
       · exact Nat.ne_of_lt (hcD x c z)) (fun p hp=>absurd (show p∈([]:List (Addr×Obj)) from hp) (by simp)),?_,b4,pl',b2,?_,?_,w8⟩
      · exact T.keep _ _ _ b3 fun b hb o e=>(sb'.2 b (fpD b hb)).trans e
      · rw [Array.toList_push]
        exact rv3.append (.cons r8 .nil)
      · rw [List.length_append,List.length_singleton]
        omega
 exact codeAny_compStart_list (loop _ rfl) (T.self _ _ _ _ _ st₁ (loop _ rfl))
theorem af3 {tg iter elt:Expr}{ifs:List Expr}{scope:Scope}{pos:Pos}{wi:TI}{g:TG}{tt:TT}{te:TE}{Nt Nf:List Str}{caps:List Nat}(hc:X.calm=true) (S:CompOk X scope Nt Nf caps) (hi:PI X tg iter wi)
 (hg:∀ cl C s0 H0 ex,PG (cxC X (Nt++Nf) scope cl C s0 H0 ex) tg g)
 (ht:∀ cl C s0 H0 ex,PTs (cxC X (Nt++Nf) scope cl C s0 H0 ex) ifs tt)
 (he:∀ cl C s0 H0 ex,PE (cxC X (Nt++Nf) scope cl C s0 H0 ex) elt te)
 (hs:∀ x,foldedSetIterable iter X.env x=pure x:=by intro _; rfl):PE X (.ListComp elt [⟨tg,iter,ifs,0⟩] scope pos) (tLC wi g tt te Nt.length caps):=by
 intro pins s σ H Q I h
 obtain ⟨cl,hclos,hcl,hcf⟩:=an5 I.ok.has S.fr
 rw [eval_ListComp]
 refine wpAny_comprehension_free (use:=none) rfl hs hclos S.kind S.nm (thn (hi pins s σ H _ I h) fun v s1 h1=>thn h1 fun itv s2 h2=>?_)
 obtain ⟨it,fp,tn,J,H2,e,I2,T,st2,f2,hW⟩:=h2
 subst e
 refine an6 (RR:=fun acc C=>compPost (model X.prog X.w) X.A X.xe none (EP X pins σ Q) acc C) (Q:=Q) hc S hg ht he hcl hcf I2 T st2 f2 hW ?_
 intro D C m s' H' I' q nsC hCn hCl hCs hCc hCp
 exact ⟨m,nsC,fun h' sb=>⟨.ref D,H',I'.turned (t':=s'.toks) (fun b o hb e=>(sb.2 b hb).trans e) hCn hCl (.inr hCs) hCc hCp,rfl,q⟩⟩
theorem b94 {tg iter elt:Expr}{ifs:List Expr}{scope:Scope}{pos spos py:Pos}{y:Str}{i:Nat}{wi:TI}{g:TG}{tt:TT}{te:TE}{Nt Nf:List Str}{caps:List Nat}(hc:X.calm=true) (S:CompOk X scope Nt Nf caps) (hi:PI X tg iter wi)
 (hg:∀ cl C s0 H0 ex,PG (cxC X (Nt++Nf) scope cl C s0 H0 ex) tg g)
 (ht:∀ cl C s0 H0 ex,PTs (cxC X (Nt++Nf) scope cl C s0 H0 ex) ifs tt)
 (he:∀ cl C s0 H0 ex,PE (cxC X (Nt++Nf) scope cl C s0 H0 ex) elt te)
 (hN:X.N.Nodup) (hy:X.N[i]?=some y) (hx:Loc X.env.scope y)
 (hsw:swapsWith (.ListComp elt [⟨tg,iter,ifs,0⟩] scope pos) (some (.Name y py)) spos.line X.env=pure true)
 (hf:X.fn y=true∨X.env.scope.names.lookup y=some .local:=by first | exact .inl rfl | exact .inr rfl | assumption)
 (hs:∀ x,foldedSetIterable iter X.env x=pure x:=by intro _; rfl):PS X (.Assign [.Name y py] (.ListComp elt [⟨tg,iter,ifs,0⟩] scope pos) spos) (tAsg (tLC wi g tt te Nt.length caps) (ah2 i)):=by
 intro pins s σ H D I h
 obtain ⟨cl,hclos,hcl,hcf⟩:=an5 I.ok.has S.fr
 rw [exec_Assign_Name_used _ _ _ _ hsw]
 refine wpAny_bind (wpAny_standAt (wpAny_bind ?_))
 show wpAny _ X.A (do let _←comprehension (.ListComp elt [⟨tg,iter,ifs,0⟩] scope pos) scope X.env _ (newList []) false (eval iter X.env) (some (assign (.Name y py) X.env))) _ _ s
 refine wpAny_bind (wpAny_mono (wpAny_comprehension_free (use:=some (assign (.Name y py) X.env)) (Q:=fun _ s'=>SP X pins D .next s') rfl hs hclos S.kind S.nm
  (thn (hi pins s σ H _ I h) fun v s1 h1=>thn h1 fun itv s2 h2=>?_)) (fun _ s' hq=>wpAny_pure (wpAny_pure hq)) fun _ _ e=>e)
 obtain ⟨it,fp,tn,J,H2,e,I2,T,st2,f2,hW⟩:=h2
 subst e
 refine an6 (RR:=fun acc C=>compPost (model X.prog X.w) X.A X.xe (some (assign (.Name y py) X.env)) (fun _ s'=>SP X pins D .next s') acc C) (Q:=fun x H1=>ah2 i x σ H1 D.nx) hc S hg ht he hcl hcf I2 T st2 f2 hW ?_
 intro l C m s' H' I' q nsC hCn hCl hCs hCc hCp
 show wpAny _ X.A (assign (.Name y py) X.env (.ref l)) _ _ _
 refine wpAny_assign_Name (ar4 (v:=.ref l) I' hN hy hx rfl (?_) hf)
 rintro s'' I'' ⟨a,sb,ha⟩
 have haC:C≠a:=by
  rcases ha with z | z
  · rw [z]; exact hCl
  · exact fun e=>hCc y a z e.symm
 refine ⟨m,nsC.sameBut sb haC,fun h' sb'=>⟨_,H',I''.turned (t':=s''.toks) (fun b o hb e=>(sb'.2 b hb).trans e) hCn hCl (.inr hCs) hCc hCp,q⟩⟩
end
section
variable {X:Cx}{tg:Expr}
end
section
variable {X:Cx}
def a27 (ys:List Str):List V:=ys.map V.str
def CBig (i j:Int):Prop:=(i.natAbs<2 ^ 4096∧j.natAbs<2 ^ 4096)∨CMul i j
theorem b95 {i:Int}{n:Nat}(h:i.natAbs<2 ^ n):Builtin.Int.intBits i≤n:=by
 unfold Builtin.Int.intBits
 split
 · exact Nat.zero_le _
 · rename_i h0
   have h1:i.natAbs≠0:=by simpa using h0
   have:=(Nat.log2_lt h1).mpr h
   omega
theorem CBig.ok {i j:Int}(h:CBig i j):IntMulOk i j:=by
 rcases h with ⟨h1,h2⟩ | h
 · exact IntMulOk.of_bits (Nat.le_trans (b95 h1) (by decide)) (Nat.le_trans (b95 h2) (by decide))
 · exact h.ok
theorem c16:OpR X (binaryOp .Mult) (rI CBig fun i j=>.int (i*j)):=opI fun _ _ _ _ _ _ _ hc q=>mul_int q hc.ok
theorem strs_at:∀ {ys:List Str}{us:List Value},Vals (a27 ys) us→∀ (i:Nat) (h:i<us.length),∃ y t,ys[i]?=some y∧us[i]=.str y t
 | [],_,r,i,h=>by cases r; simp at h
 | y::ys,_,r,i,h=>by
   cases r with
   | cons r1 r2 =>
     cases i with
     | zero =>
       obtain ⟨t,rfl⟩:=r1
       exact ⟨y,t,rfl,rfl⟩
     | succ i=>exact strs_at (ys:=ys) r2 i (by simpa using h)
end
section
variable {X:Cx}{e:Expr}{te:TE}{pos:Pos}
end
abbrev New (H:Hp) (o:HO) (Q:VK):Prop:=∀ p H',H p=none→Same H H'→H' p=some o→Q (.ref p) H'
theorem Same.new {H:Hp}{p:Addr}{o:HO}(h:H p=none):Same H (upd H p o):=fun b u e=>by rw [a12 (a38 e h)]; exact e
theorem New.to {H:Hp}{Q:VK}{o:HO}(h:New H o Q):∀ p,H p=none→Q (.ref p) (upd H p o):=fun p hp=>h p _ hp (Same.new hp) a17
section
variable {X:Cx}{es:List Expr}{t:TA}{pos:Pos}
def c17 (t:TA):TE:=fun σ H Q=>t σ H fun xs H1=>xs.length≤sizeLine∧New H1 (.lst xs) Q
def c18 (t:TA):TE:=fun σ H Q=>t σ H fun xs H1=>xs.length≤sizeLine∧New H1 (.tup xs) Q
theorem a26 {x1}(h:PA X es t):PE X (.Tuple es x1 pos) (c18 t):=by
 intro pins s σ H Q I hq
 refine wpAny_Tuple_spliced (thn (h pos pins s σ H _ I hq) fun us s1 ⟨xs,H1,I1,r,z,q⟩=>⟨by rw [← r.length]; exact z,?_⟩)
 refine ⟨.ref s1.heap.objs.size,upd H1 s1.heap.objs.size (.tup xs),I1.laid (t':=s1.toks) (fun b u e=>Heap.get?_push_of_some _ e) (Nat.le_refl _) ?_,rfl,New.to q _ (I1.hok.fresh (Nat.le_refl _))⟩
 exact ⟨z,us,r,⟨_,Heap.get?_push_size _ rfl,rfl,_,rfl⟩⟩
theorem a13 (h:PA X es t):PE X (.List es pos) (c17 t):=by
 intro pins s σ H Q I hq
 refine wpAny_List_spliced (thn (h pos pins s σ H _ I hq) fun us s1 ⟨xs,H1,I1,r,z,q⟩=>⟨by rw [← r.length]; exact z,?_⟩)
 refine ⟨.ref s1.heap.objs.size,upd H1 s1.heap.objs.size (.lst xs),I1.laid (t':=s1.toks) (fun b u e=>Heap.get?_push_of_some _ e) (Nat.le_refl _) ?_,rfl,New.to q _ (I1.hok.fresh (Nat.le_refl _))⟩
 exact ⟨z,us,0,r,Heap.get?_push_size _ rfl⟩
def rSlN (K:PySem.W.Frag):V→Option Int→Option Int→Hp→VK→Prop:=fun x lo hi H Q=>∃ a xs,x=.ref a∧SqL K H a xs∧New H (.lst (cutV xs lo hi)) Q
theorem bi0:SlR X (rSlN X.K):=by
 intro pins s σ H x v vl vu lo hi sl Q I rx hs pl pu h
 obtain ⟨a,xs,e,h1,h2⟩:=h
 exact br4 pins s σ H x v vl vu lo hi sl Q I rx hs pl pu ⟨a,xs,e,h1,New.to h2⟩
theorem b50:CallR X (.type "list") (fun xs H Q=>∃ p ys,xs=[.ref p]∧(SqL X.K H p ys∨SqT X.K H p ys)∧New H (.lst ys) Q):=by
 intro pins s σ H xs us Q I r h
 obtain ⟨p,ys,e,h1,h2⟩:=h
 exact as5 pins s σ H xs us Q I r ⟨p,ys,e,h1,New.to h2⟩
end
def tTru (K:PySem.W.Frag) (ta:TE):TT:=fun σ H Q=>ta σ H fun x H'=>∃ k,TruV K x H' k∧Q k H'
def rLen (K:PySem.W.Frag):List V→Hp→VK→Prop:=fun xs H Q=>∃ x n,xs=[x]∧LenV K x H n∧Q (.int n) H
def b96 (K:PySem.W.Frag):List V→Hp→VK→Prop:=fun xs H Q=>∃ p ys,xs=[.ref p]∧(SqL K H p ys∨SqT K H p ys)∧New H (.lst ys) Q
section
variable {X:Cx}{a:Expr}{ta:TE}
theorem c19 (ha:PE X a ta) (he:∀ whole,isTrue a X.env whole=(do let v←whole; standAt a.pos; holding [v] (truthy v))):PT X a (tTru X.K ta):=bg7 ha he
theorem c20:CallR X (.builtin "len") (rLen X.K):=bg8
theorem bs3:CallR X (.type "list") (b96 X.K):=b50
end
def bs4:R2:=fun x y H Q=>match x,y with
 | .int i,.int j=>Q (.int (i+j)) H
 | .str i,.str j=>i.length+j.length≤sizeLine∧Q (.str (i++j)) H
 | .ref l,.ref b=>∃ xs zs,H l=some (.lst xs)∧H b=some (.lst zs)∧xs.length+zs.length≤sizeLine∧New H (.lst (xs++zs)) Q
 | _,_=>False
def bn2:R2:=fun x y H Q=>match x,y with
 | .int i,.int j=>CBig i j∧Q (.int (i*j)) H
 | .str z,.int n=>MulOk z n∧Q (.str (Txt.mul z n)) H
 | _,_=>False
def rStr:List V→Hp→VK→Prop:=fun xs H Q=>match xs with
 | [.int i]=>i.natAbs.log2<1920∧Q (.str (toString i)) H
 | [.str z]=>Q (.str z) H
 | _=>False
section
variable {X:Cx}
theorem a21:OpR X (binaryOp .Add) bs4:=by
 intro pins s σ H x y v u Q I rx ry h
 cases x with
 | int i=>cases y with
   | int j=>exact bz0 pins s σ H _ _ v u Q I rx ry ⟨i,j,rfl,rfl,h⟩
   | _=>exact (show False from h).elim
 | str i=>cases y with
   | str j=>exact b41 pins s σ H _ _ v u Q I rx ry ⟨i,j,rfl,rfl,h⟩
   | _=>exact (show False from h).elim
 | ref l=>cases y with
   | ref b =>
     obtain ⟨xs,zs,h1,h2,h3,h4⟩:=h
     exact c08 pins s σ H _ _ v u Q I rx ry ⟨l,b,xs,zs,rfl,rfl,h1,h2,h3,New.to h4⟩
   | _=>exact (show False from h).elim
 | _=>exact (show False from h).elim
theorem af4:OpR X (binaryOp .Mult) bn2:=by
 intro pins s σ H x y v u Q I rx ry h
 cases x with
 | int i=>cases y with
   | int j=>exact c16 pins s σ H _ _ v u Q I rx ry ⟨i,j,rfl,rfl,h⟩
   | _=>exact (show False from h).elim
 | str z=>cases y with
   | int n =>
     obtain ⟨t,rfl⟩:=rx
     obtain ⟨t',rfl⟩:=ry
     exact SB.mul h.1 fun t2 k=>⟨.str _,H,I.tok _,⟨_,rfl⟩,h.2⟩
   | _=>exact (show False from h).elim
 | _=>exact (show False from h).elim
theorem bi1 {scope sc:Scope}{Nt Nf:List Str}{caps:List Nat}(hsc:X.env.scope=sc) (kind:scope.kind=.function) (nx:∀ x∈Nf,(x,NameKind.cell)∉scope.names) (nm:∀ y∈scope.names,y.2=.local→scope.names.lookup y.1=some .local)
 (fr:∀ y∈scope.names,y.2=.free→sc.names.lookup y.1=some .cell∨sc.names.lookup y.1=some .free) (cap:caps.map (fun j=>X.N[j]?)=Nf.map some) (vis:∀ x∈Nf,scope.names.lookup x=some .free):CompOk X scope Nt Nf caps :=
 ⟨kind,nx,nm,fun y hy h=>by show X.env.scope.names.lookup y.1=_∨X.env.scope.names.lookup y.1=_; rw [hsc]; exact fr y hy h,cap,vis⟩
theorem a45 {scope sc:Scope}{Nt Nf:List Str}{caps:List Nat}(hsc:X.env.scope=sc) (kind:scope.kind=.function) (nc:∀ y∈scope.names,y.2≠.cell) (nm:∀ y∈scope.names,y.2=.local→scope.names.lookup y.1=some .local)
 (fr:∀ y∈scope.names,y.2=.free→sc.names.lookup y.1=some .cell∨sc.names.lookup y.1=some .free) (cap:caps.map (fun j=>X.N[j]?)=Nf.map some) (vis:∀ x∈Nf,scope.names.lookup x=some .free):CompOk X scope Nt Nf caps :=
 bi1 hsc kind (fun x _ h=>nc (x,.cell) h rfl) nm fr cap vis
abbrev bi2 (J:It) (te:TE) (tt:TT) (caps:List Nat) (σ:St) (H:Hp) (Q:VK):Prop:=∃ W:Nat→Nat→List V→St→Hp→Prop,(∃ m,W 0 m [] (cSt 1 caps σ) H)∧∀ i m acc σ' H',W i m acc σ' H' →
 (J.stop i H'∧∀ l,H' l=none→Q (.ref l) (upd H' l (.lst acc))) ∨
 (J.go i H'∧acc.length<sizeLine∧∃ N:List V→St→Hp→Prop,(∀ ac σ2 H2,N ac σ2 H2→∃ m',m'<m∧W (i+1) m' ac σ2 H2)∧∀ x H2,J.yld i H' x H2→ah2 0 x σ' H2 fun σ3 H3=>tt σ3 H3 fun b H4=>if b=true then te σ3 H4 fun y H5=>N (acc++[y]) σ3 H5 else N acc σ3 H4)
theorem b97 {J:It}{te:TE}{tt:TT}{caps:List Nat}{σ:St} {H:Hp}{Q:VK}(n:Nat) (hz:n≤sizeLine) (Pv:Nat→List V→Hp→Prop) (h0:Pv 0 [] H) (hl:∀ i acc H,Pv i acc H→acc.length≤i)
 (hgo:∀ i acc H,i<n→Pv i acc H→J.go i H) (hst:∀ acc H,Pv n acc H→J.stop n H)
 (hs:∀ i x acc H H2,i<n→Pv i acc H→J.yld i H x H2→tt (some x::capV caps σ) H2 fun b H4=>if b=true then te (some x::capV caps σ) H4 fun y H5=>Pv (i+1) (acc++[y]) H5 else Pv (i+1) acc H4)
 (hd:∀ acc H,Pv n acc H→New H (.lst acc) Q):bi2 J te tt caps σ H Q:=by
 refine ⟨fun i m acc σ' H=>m=n - i∧i≤n∧(∃ v,σ'=v::capV caps σ)∧Pv i acc H,⟨n,by simp,Nat.zero_le _,⟨none,rfl⟩,h0⟩,?_⟩
 rintro i m acc σ' H' ⟨rfl,hi,⟨v,rfl⟩,p⟩
 by_cases hlt:i<n
 · refine .inr ⟨hgo i acc H' hlt p,?_,fun ac σ2 H2=>(∃ v,σ2=v::capV caps σ)∧Pv (i+1) ac H2,fun ac σ2 H2 ⟨e,p'⟩=>⟨n - (i+1),by omega,rfl,hlt,e,p'⟩,fun x H2 y=>?_⟩
   · have:=hl i acc H' p
     omega
   · have eN:∀ ac H5,((∃ u,some x::capV caps σ=u::capV caps σ)∧Pv (i+1) ac H5)=Pv (i+1) ac H5:=fun ac H5=>propext ⟨And.right,fun p=>⟨⟨_,rfl⟩,p⟩⟩
     show tt (some x::capV caps σ) H2 fun b H4=>if b=true then te (some x::capV caps σ) H4 fun y H5=>((∃ u,some x::capV caps σ=u::capV caps σ)∧Pv (i+1) (acc++[y]) H5) else ((∃ u,some x::capV caps σ=u::capV caps σ)∧Pv (i+1) acc H4)
     simp only [eN]
     exact hs i x acc H' H2 hlt p y
 · have e:i=n:=by omega
   subst e
   exact .inl ⟨hst acc H' p,New.to (hd acc H' p)⟩
theorem bs5 {K:PySem.W.Frag}{a:Addr}{xs:List V}{te:TE}{tt:TT}{caps:List Nat}{σ:St} {H:Hp}{Q:VK}(hz:xs.length≤sizeLine) (Pv:Nat→List V→Hp→Prop) (h0:Pv 0 [] H) (hl:∀ i acc H,Pv i acc H→acc.length≤i∧SqL K H a xs)
 (hs:∀ i x acc H,xs[i]?=some x→Pv i acc H→tt (some x::capV caps σ) H fun b H4=>if b=true then te (some x::capV caps σ) H4 fun y H5=>Pv (i+1) (acc++[y]) H5 else Pv (i+1) acc H4)
 (hd:∀ acc H,Pv xs.length acc H→New H (.lst acc) Q):bi2 (Itl K a) te tt caps σ H Q:=by
 refine b97 xs.length hz Pv h0 (fun i acc H p=>(hl i acc H p).1) (fun i acc H hi p=>⟨xs,xs[i],(hl i acc H p).2,by simp [hi]⟩) (fun acc H p=>⟨xs,(hl _ acc H p).2,Nat.le_refl _⟩) ?_ hd
 rintro i x acc H1 H2 hi p ⟨rfl,y⟩
 exact hs i x acc _ (y xs (hl i acc _ p).2) p
theorem c21 {K:PySem.W.Frag}{a:Addr}{xs:List V}{te:TE}{tt:TT}{caps:List Nat}{σ:St} {H:Hp}{Q:VK}(hz:xs.length≤sizeLine) (Pv:Nat→List V→Hp→Prop) (h0:Pv 0 [] H) (hl:∀ i acc H,Pv i acc H→acc.length≤i∧SqT K H a xs)
 (hs:∀ i x acc H,xs[i]?=some x→Pv i acc H→tt (some x::capV caps σ) H fun b H4=>if b=true then te (some x::capV caps σ) H4 fun y H5=>Pv (i+1) (acc++[y]) H5 else Pv (i+1) acc H4)
 (hd:∀ acc H,Pv xs.length acc H→New H (.lst acc) Q):bi2 (Itt K a) te tt caps σ H Q:=by
 refine b97 xs.length hz Pv h0 (fun i acc H p=>(hl i acc H p).1) (fun i acc H hi p=>⟨xs,xs[i],(hl i acc H p).2,by simp [hi]⟩) (fun acc H p=>⟨xs,(hl _ acc H p).2,Nat.le_refl _⟩) ?_ hd
 rintro i x acc H1 H2 hi p ⟨rfl,y⟩
 exact hs i x acc _ (y xs (hl i acc _ p).2) p
theorem bi3 {lo:Int}{n:Nat}{te:TE}{tt:TT}{caps:List Nat}{σ:St} {H:Hp}{Q:VK}(hz:n≤sizeLine) (Pv:Nat→List V→Hp→Prop) (h0:Pv 0 [] H) (hl:∀ i acc H,Pv i acc H→acc.length≤i)
 (hs:∀ i acc H,i<n→Pv i acc H→tt (some (.int (lo+i))::capV caps σ) H fun b H4=>if b=true then te (some (.int (lo+i))::capV caps σ) H4 fun y H5=>Pv (i+1) (acc++[y]) H5 else Pv (i+1) acc H4)
 (hd:∀ acc H,Pv n acc H→New H (.lst acc) Q):bi2 (Itr lo n) te tt caps σ H Q:=by
 refine b97 n hz Pv h0 hl (fun i acc H hi p=>hi) (fun acc H p=>Nat.le_refl _) ?_ hd
 rintro i x acc H1 H2 hi p ⟨rfl,rfl⟩
 exact hs i acc _ hi p
end
end L2
namespace L2
open PySem
theorem ex_some_and {α:Type}{a:α}{p:α→Prop}:(∃ v,some (some a)=some (some v)∧p v)↔p a:=⟨fun ⟨_,e,h⟩=>by cases e; exact h,fun h=>⟨a,rfl,h⟩⟩
def b98 (J:It) (g:TG) (tb:TS) (D:Ends) (σ:St) (H1:Hp):Prop:=∃ W:Nat→Nat→St→Hp→Prop,(∃ m,W 0 m σ H1)∧∀ i m σ H,W i m σ H →
 (J.stop i H∧D.nx σ H)∨(J.go i H∧∃ N:St→Hp→Prop,(∀ σ' H',N σ' H'→∃ m',m'<m∧W (i+1) m' σ' H')∧∀ x H',J.yld i H x H'→g x σ H' fun σ2 H2=>tb { D with nx:=N,ct:=N,bk:=D.nx } σ2 H2)
def ah5 (J:It) (g:TG) (tt:TT) (te:TE) (n:Nat) (caps:List Nat) (σ:St) (H:Hp) (Q:VK):Prop:=∃ W:Nat→Nat→List V→St→Hp→Prop,(∃ m,W 0 m [] (cSt n caps σ) H)∧∀ i m acc σ' H',W i m acc σ' H' →
 (J.stop i H'∧∀ l,H' l=none→Q (.ref l) (upd H' l (.lst acc))) ∨
 (J.go i H'∧acc.length<sizeLine∧∃ N:List V→St→Hp→Prop,(∀ ac σ2 H2,N ac σ2 H2→∃ m',m'<m∧W (i+1) m' ac σ2 H2)∧∀ x H2,J.yld i H' x H2→g x σ' H2 fun σ3 H3=>tt σ3 H3 fun b H4=>if b=true then te σ3 H4 fun y H5=>N (acc++[y]) σ3 H5 else N acc σ3 H4)
section
variable {K:PySem.W.Frag}{a:Addr}{xs:List V}{te:TE}{tt:TT}{caps:List Nat}{σ:St} {H:Hp}{Q:VK}{z:Str}{lo:Int}{n:Nat}
theorem a81 (hz:xs.length≤sizeLine) (Pv:Nat→List V→Hp→Prop) (h0:Pv 0 [] H) (hl:∀ i acc H,Pv i acc H→acc.length≤i∧SqL K H a xs)
 (hs:∀ i x acc H,xs[i]?=some x→Pv i acc H→tt (some x::capV caps σ) H fun b H4=>if b=true then te (some x::capV caps σ) H4 fun y H5=>Pv (i+1) (acc++[y]) H5 else Pv (i+1) acc H4)
 (hd:∀ acc H,Pv xs.length acc H→New H (.lst acc) Q):ah5 (Itl K a) (ah2 0) tt te 1 caps σ H Q:=bs5 hz Pv h0 hl hs hd
theorem c22 (hz:xs.length≤sizeLine) (Pv:Nat→List V→Hp→Prop) (h0:Pv 0 [] H) (hl:∀ i acc H,Pv i acc H→acc.length≤i∧SqT K H a xs)
 (hs:∀ i x acc H,xs[i]?=some x→Pv i acc H→tt (some x::capV caps σ) H fun b H4=>if b=true then te (some x::capV caps σ) H4 fun y H5=>Pv (i+1) (acc++[y]) H5 else Pv (i+1) acc H4)
 (hd:∀ acc H,Pv xs.length acc H→New H (.lst acc) Q):ah5 (Itt K a) (ah2 0) tt te 1 caps σ H Q:=c21 hz Pv h0 hl hs hd
theorem b04 (hz:n≤sizeLine) (Pv:Nat→List V→Hp→Prop) (h0:Pv 0 [] H) (hl:∀ i acc H,Pv i acc H→acc.length≤i)
 (hs:∀ i acc H,i<n→Pv i acc H→tt (some (.int (lo+i))::capV caps σ) H fun b H4=>if b=true then te (some (.int (lo+i))::capV caps σ) H4 fun y H5=>Pv (i+1) (acc++[y]) H5 else Pv (i+1) acc H4)
 (hd:∀ acc H,Pv n acc H→New H (.lst acc) Q):ah5 (Itr lo n) (ah2 0) tt te 1 caps σ H Q:=bi3 hz Pv h0 hl hs hd
end
theorem cxOf_K {CX:CXT}{P:Program}{w:World}{K:PySem.W.Frag}{mg:Str→Option Value}{base:Heap}{N:List Str}{qual:Str}{scope:Scope}{f:Addr}{cd:Value}{A:Around}{outer:List Env}{s:Shared}{H:Hp}{E:XK} :
 (cxOf CX P w K mg base N qual scope f cd A outer s H E).K=K:=rfl
theorem cxC_K {X:Cx}{N:List Str}{scope:Scope}{cl:List (Str×Addr)}{C:Addr}{s0:Shared}{H0:Hp}{ex:List Addr}:(cxC X N scope cl C s0 H0 ex).K=X.K:=rfl
section
variable {X:Cx}
theorem a20 (K:PySem.W.Frag) (hK:X.K=K:=by rfl):IxR X (rIxL K):=hK ▸ br3
theorem a10 (K:PySem.W.Frag) (hK:X.K=K:=by rfl):IxR X (rIxT K):=hK ▸ c04
theorem a40 (K:PySem.W.Frag) (hK:X.K=K:=by rfl):SlR X (rSlN K):=hK ▸ bi0
theorem a82 (K:PySem.W.Frag) (hK:X.K=K:=by rfl):CallR X (.builtin "len") (rLen K):=hK ▸ c20
theorem b05 (K:PySem.W.Frag) (hK:X.K=K:=by rfl):CallR X (.type "list") (b96 K):=hK ▸ bs3
theorem ad3 (K:PySem.W.Frag) (hK:X.K=K:=by rfl):OpR X (compareOp .In) (rIn K false):=hK ▸ b78
theorem af5 (K:PySem.W.Frag) (hK:X.K=K:=by rfl):OpR X (compareOp .NotIn) (rIn K true):=hK ▸ as4
theorem ab3 (K:PySem.W.Frag) {a:Expr}{ta:TE}(ha:PE X a ta) (he:∀ whole,isTrue a X.env whole=(do let v←whole; standAt a.pos; holding [v] (truthy v))) (hK:X.K=K:=by rfl):PT X a (tTru K ta):=hK ▸ c19 ha he
theorem a25 (K:PySem.W.Frag) {tg l:Expr}{tl:TE}(hl:PE X l tl) (hK:X.K=K:=by rfl):PI X tg l (bq4 K tl):=hK ▸ bq5 hl
theorem bs6 (K:PySem.W.Frag) {tg l:Expr}{tl:TE}(hl:PE X l tl) (hK:X.K=K:=by rfl):PI X tg l (iTup K tl):=hK ▸ by8 hl
theorem a93 (K:PySem.W.Frag) {pos:Pos}{es:List Expr}{k:Nat}{t:TGs}{n:Nat}(hc:X.calm=true) (h:PGs X es t) (hn:(assignEach es X.env).length=n:=by rfl) (hst:(assignEach es X.env).findIdx? (·.1)=none:=by rfl) (hK:X.K=K:=by rfl) :
 PG X (.Tuple es k pos) (gTup K n t):=hK ▸ by7 hc h hn hst
theorem aw6 (K:PySem.W.Frag) {o:Expr}{to:TE}{name:Str}{apos cpos:Pos}{T id:String}{r:V→List V→Hp→VK→Prop}(pa:PlainAttrs T) (slot:Slot T name id) (hty:typeOf (.builtin id)=pure (.type "method_descriptor")) (hm:MtR X id r) (ho:PE X o to)
 (hbase:attributeBase o name X.env (eval o X.env)=eval o X.env:=by rfl) (hline:(apos.endLine == cpos.line)=true:=by rfl) (hK:X.K=K:=by rfl):PE X (.Call (.Attribute o name apos) [] [] cpos) (tBM0 K T r to):=hK ▸ c07 pa slot hty hm ho hbase hline
theorem a83 (K:PySem.W.Frag) {o e:Expr}{es:List Expr}{to:TE}{t:TA}{name:Str}{apos cpos:Pos}{T id:String}{r:V→List V→Hp→VK→Prop}(pa:PlainAttrs T) (slot:Slot T name id) (hty:typeOf (.builtin id)=pure (.type "method_descriptor")) (hm:MtR X id r) (ho:PE X o to) (ha:PA X (e::es) t)
 (hbase:attributeBase o name X.env (eval o X.env)=eval o X.env:=by rfl)
 (hfew:((backTo cpos (starEach (e::es) X.env)).all (fun x=>!x.1) && (backToKw cpos (keywordEach [] X.env)).all (fun x=>x.1.isSome) && decide ((e::es).length+([]:List Keyword).length+(if ([]:List Keyword).isEmpty then 0 else 1)<30))=true:=by rfl)
 (hline:(apos.endLine == cpos.line)=true:=by rfl) (hs:starEach (e::es) X.env=(false,eval e X.env)::starEach es X.env:=by rfl) (hplain:(backTo cpos (starEach es X.env)).any (·.1)=false:=by rfl) (hK:X.K=K:=by rfl) :
 PE X (.Call (.Attribute o name apos) (e::es) [] cpos) (tBM K T r to t):=hK ▸ ca3 pa slot hty hm ho ha hbase hfew hline hs hplain
end
theorem ab4:bootBuiltins "len"=some (.builtin "len"):=by decide +kernel
theorem bn3:bootBuiltins "abs"=some (.builtin "abs"):=by decide +kernel
theorem b99:bootBuiltins "list"=some (.type "list"):=by decide +kernel
theorem bs7:bootBuiltins "dict"=some (.type "dict"):=by decide +kernel
def Bd (p:Nat) (x:Int):Prop:=x.natAbs<2 ^ p
theorem Bd.mono {p q:Nat}{x:Int}(h:Bd p x) (l:p≤q):Bd q x:=Nat.lt_of_lt_of_le h (Nat.pow_le_pow_right (by decide) l)
theorem Bd.mul {p q:Nat}{x y:Int}(h:Bd p x) (h':Bd q y):Bd (p+q) (x*y):=by
 unfold Bd at *
 rw [Int.natAbs_mul,Nat.pow_add]
 exact Nat.mul_lt_mul'' h h'
theorem Bd.add {p:Nat}{x y:Int}(h:Bd p x) (h':Bd p y):Bd (p+1) (x+y):=by
 unfold Bd at *
 have:(x+y).natAbs≤x.natAbs+y.natAbs:=Int.natAbs_add_le x y
 rw [Nat.pow_succ]
 omega
theorem Bd.big {p q:Nat}{x y:Int}(h:Bd p x) (h':Bd q y) (hp:p≤4096:=by decide) (hq:q≤4096:=by decide):CBig x y:=.inl ⟨h.mono hp,h'.mono hq⟩
theorem Bd.of {p:Nat}{x:Int}(h0:0≤x) (h1:x<2 ^ p):Bd p x:=by
 unfold Bd
 have e:((2 ^ p:Nat):Int)=(2:Int) ^ p:=by norm_cast
 omega
end L2
local macro_rules | `(tactic| walk_at "rd") => `(tactic| simp only [L2.tCB, L2.tCons, L2.tNil, L2.tVar, L2.rStr, L2.tNoIf, L2.capV, List.map_nil, List.getElem?_cons_zero, L2.ex_some_and, if_true])
namespace L2
open PySem
theorem le_line {n:Nat}(h:n≤1000000):n≤sizeLine:=Nat.le_trans h (by decide)
theorem nox_K {X:Cx}:X.nox.K=X.K:=rfl
theorem wish_K {X:Cx}{E:Value→Shared→Prop}:(X.wish E).K=X.K:=rfl
section
variable {σ:St} {H:Hp}{Q:VK}{D:Ends}{nn bb cc:St→Hp→Prop}{rr:VK}{t u:TS}{ta tb tc te:TE}{tA tB:TT}{g:TG}{QT:Bool→Hp→Prop}{QA:List V→Hp→Prop}{QS:St→Hp→Prop}
theorem cb4 (h:te σ H fun x H1=>g x σ H1 nn):tAsg te g ⟨nn,rr,bb,cc⟩ σ H:=h
theorem i_name {i:Nat}{v:V}(h:QS (σ.set i (some v)) H):ah2 i v σ H QS:=h
theorem i_var {i:Nat}{v:V}(e:σ[i]?=some (some v)) (h:Q v H):tVar i σ H Q:=⟨v,e,h⟩
theorem i_c {v:V}(h:Q v H):tC v σ H Q:=h
theorem i_op {r:R2}(h:ta σ H fun x H1=>tb σ H1 fun y H2=>r x y H2 Q):tOp r ta tb σ H Q:=h
theorem i_un {r:V→Hp→VK→Prop}(h:ta σ H fun x H1=>r x H1 Q):tUn r ta σ H Q:=h
theorem i_rU {f:Int→V}{i:Int}(h:Q (f i) H):rU f (.int i) H Q:=⟨i,rfl,h⟩
theorem i_rI {C:Int→Int→Prop}{f:Int→Int→V}{i j:Int}(c:C i j) (h:Q (f i j) H):rI C f (.int i) (.int j) H Q:=⟨i,j,rfl,rfl,c,h⟩
theorem cb5 {f:Int→Int→V}{i j:Int}(h:Q (f i j) H):rI0 f (.int i) (.int j) H Q:=⟨i,j,rfl,rfl,h⟩
theorem bs8 {i j:Int}(h:Q (.int (i+j)) H):bs4 (.int i) (.int j) H Q:=h
theorem a31 {l b:Addr}{xs zs:List V}(h1:H l=some (.lst xs)) (h2:H b=some (.lst zs)) (z:xs.length+zs.length≤sizeLine) (h:New H (.lst (xs++zs)) Q):bs4 (.ref l) (.ref b) H Q:=⟨xs,zs,h1,h2,z,h⟩
theorem ao1 {i j:Int}(c:CBig i j) (h:Q (.int (i*j)) H):bn2 (.int i) (.int j) H Q:=⟨c,h⟩
theorem decI (i j:Int):decide (V.int i=V.int j)=decide (i=j):=by rw [Bool.eq_iff_iff]; simp
theorem decS (i j:Str):decide (V.str i=V.str j)=decide (i=j):=by rw [Bool.eq_iff_iff]; simp
theorem cb6 {i j:Int}(h:Q (.bl (decide (i=j))) H):rEq (.int i) (.int j) H Q:=⟨rfl,by rw [decI]; exact h⟩
theorem cb7 {i j:Str}(h:Q (.bl (decide (i=j))) H):rEq (.str i) (.str j) H Q:=⟨rfl,by rw [decS]; exact h⟩
theorem cb8 {i j:Str}(h:Q (.bl (!decide (i=j))) H):rNe (.str i) (.str j) H Q:=⟨rfl,by rw [decS]; exact h⟩
theorem c23 (h:te σ H fun x H'=>∃ k,x=.bl k∧QT k H'):bz6 te σ H QT:=h
theorem i_bl {k:Bool}{p:Bool→Prop}(h:p k):∃ j,V.bl k=V.bl j∧p j:=⟨k,rfl,h⟩
theorem cb9 (h:tA σ H fun b H1=>if b=true then t D σ H1 else u D σ H1):tIfS tA t u D σ H:=h
theorem i_if (h:tA σ H fun b H1=>if b=true then ta σ H1 Q else tb σ H1 Q):tIf tA ta tb σ H Q:=h
theorem cc0 (h:te σ H rr):tRet te ⟨nn,rr,bb,cc⟩ σ H:=h
theorem c24 (h:rr .non H):by6 ⟨nn,rr,bb,cc⟩ σ H:=h
theorem c25 (h:nn σ H):by4 ⟨nn,rr,bb,cc⟩ σ H:=h
theorem c26 (h:te σ H fun _ H1=>nn σ H1):by5 te ⟨nn,rr,bb,cc⟩ σ H:=h
theorem ba0 (h:bb σ H):bm2 ⟨nn,rr,bb,cc⟩ σ H:=h
theorem c27 {tr:TA}(h:te σ H fun x H1=>tr σ H1 fun xs H2=>QA (x::xs) H2):tCons te tr σ H QA:=h
theorem cc1 (h:QA [] H):tNil σ H QA:=h
theorem i_cb {r:List V→Hp→VK→Prop}{ts:TA}(h:ts σ H fun vs H1=>r vs H1 Q):tCB r ts σ H Q:=h
theorem c28 {sp:Sp}{dvs:List V}{E:XK}{ts:TA}(h:ts σ H fun vs H1=>sp (vs++dvs) H1 Q E):c00 sp dvs E ts σ H Q:=h
theorem cc2 {ts:TA}(h:ts σ H fun xs H1=>xs.length≤sizeLine∧New H1 (.lst xs) Q):c17 ts σ H Q:=h
theorem cc3 {ts:TA}(h:ts σ H fun xs H1=>xs.length≤sizeLine∧New H1 (.tup xs) Q):c18 ts σ H Q:=h
theorem c29 {n:Nat}{P:Prop}(h:n≤sizeLine) (p:P):n≤sizeLine∧P:=⟨h,p⟩
theorem i_rgA {j:Int}{P:Prop}(h:-(2 ^ 62)≤j) (h':j<2 ^ 62) (p:P):-(2 ^ 62)≤j∧j<2 ^ 62∧P:=⟨h,h',p⟩
theorem c30 (h:QT true H):tNoIf σ H QT:=h
theorem cc4 (h:tA σ H fun c H1=>QT (!c) H1):tNot tA σ H QT:=h
theorem cc5 (h:tA σ H fun c H1=>if c=true then tB σ H1 QT else QT false H1):tAnd tA tB σ H QT:=h
theorem i_or (h:tA σ H fun c H1=>if c=true then QT true H1 else tB σ H1 QT):tOr tA tB σ H QT:=h
theorem cc6 (h:ta σ H fun x H1=>∃ c,x=.bl c∧if c=true then Q (.bl true) H1 else tb σ H1 Q):tOrV ta tb σ H Q:=h
theorem cc7 {wi:TI}(h:wi σ H fun J H1=>b98 J g t D σ H1):tFor wi g t D σ H:=h
theorem i_lc {wi:TI}{n:Nat}{caps:List Nat}(h:wi σ H fun J H1=>ah5 J g tA te n caps σ H1 Q):tLC wi g tA te n caps σ H Q:=h
theorem c31 {R:It→Hp→Prop}{ts:TA}(h:ts σ H fun vs H1=>∃ j:Int,vs=[.int j]∧-(2 ^ 62)≤j∧j<2 ^ 62∧R (Itr 0 j.toNat) H1):by9 ts σ H R:=h
theorem bs9 {K:PySem.W.Frag}{R:It→Hp→Prop}(h:te σ H fun x H1=>∃ a,x=.ref a∧(∃ xs,SqL K H1 a xs)∧R (Itl K a) H1):bq4 K te σ H R:=h
theorem c32 {K:PySem.W.Frag}{R:It→Hp→Prop}(h:te σ H fun x H1=>∃ a,x=.ref a∧(∃ xs,SqT K H1 a xs)∧R (Itt K a) H1):iTup K te σ H R:=h
theorem cc8 {j:Int}{p:Int→Prop}(h:p j):∃ i:Int,[V.int j]=[V.int i]∧p i:=⟨j,rfl,h⟩
theorem cc9 {a:Addr}{p:Addr→Prop}(h:p a):∃ b,V.ref a=V.ref b∧p b:=⟨a,rfl,h⟩
theorem i_bm {K:PySem.W.Frag}{T:String}{r:V→List V→Hp→VK→Prop}{to:TE}{ts:TA}(h:to σ H fun x H1=>tyV K T x H1∧ts σ H1 fun xs H2=>r x xs H2 Q):tBM K T r to ts σ H Q:=h
theorem cd0 {K:PySem.W.Frag}{T:String}{r:V→List V→Hp→VK→Prop}{to:TE}(h:to σ H fun x H1=>tyV K T x H1∧r x [] H1 Q):tBM0 K T r to σ H Q:=h
theorem a55 {K:PySem.W.Frag}{p:Addr}{xs:List V}{i:Int}{v:V}(h1:SqL K H p xs) (h2:atI xs i=some v) (h:Q v H):rIxL K (.ref p) (.int i) H Q:=⟨p,xs,i,v,rfl,rfl,h1,h2,h⟩
theorem a22 {K:PySem.W.Frag}{p:Addr}{xs:List V}{i:Int}{v:V}(h1:SqT K H p xs) (h2:atI xs i=some v) (h:Q v H):rIxT K (.ref p) (.int i) H Q:=⟨p,xs,i,v,rfl,rfl,h1,h2,h⟩
theorem i_sl {r:V→Option Int→Option Int→Hp→VK→Prop}{tl th:TO}(h:te σ H fun x H1=>tl σ H1 fun l H2=>th σ H2 fun u H3=>r x l u H3 Q):tSl r te tl th σ H Q:=h
theorem bi4 {QO:Option Int→Hp→Prop}(h:QO none H):b75 σ H QO:=h
theorem c33 {QO:Option Int→Hp→Prop}(h:te σ H fun x H1=>∃ i,x=.int i∧QO (some i) H1):c03 te σ H QO:=h
theorem cd1 {i:Int}{p:Int→Prop}(h:p i):∃ j,V.int i=V.int j∧p j:=⟨i,rfl,h⟩
theorem ac7 {K:PySem.W.Frag}{a:Addr}{xs:List V}{lo hi:Option Int}(h1:SqL K H a xs) (h:New H (.lst (cutV xs lo hi)) Q):rSlN K (.ref a) lo hi H Q:=⟨a,xs,rfl,h1,h⟩
theorem cd2 {A B:Prop}(h:A):if true=true then A else B:=iteT h
theorem cd3 {A B:Prop}(h:B):if false=true then A else B:=iteF h
theorem c34 {A B:Prop}(h:B):if (!true)=true then A else B:=iteF h
theorem a28 {c A B:Prop} [Decidable c] (hc:c) (h:A):if decide c=true then A else B:=by rw [decide_eq_true hc]; exact iteT h
theorem a23 {c A B:Prop} [Decidable c] (hc:¬ c) (h:B):if decide c=true then A else B:=by rw [decide_eq_false hc]; exact iteF h
theorem c35 {K:PySem.W.Frag}{n:Nat}{ts:TGs}{a:Addr}{xs:List V}(h1:SqT K H a xs) (h2:xs.length=n) (h:ts xs σ H QS):gTup K n ts (.ref a) σ H QS:=⟨a,xs,rfl,h1,h2,h⟩
theorem c36 (h:QS σ H):gNil [] σ H QS:=⟨rfl,h⟩
theorem bt0 {gt:TG}{us:TGs}{v:V}{r:List V}(h:gt v σ H fun σ' H'=>us r σ' H' QS):b36 gt us (v::r) σ H QS:=⟨v,r,rfl,h⟩
theorem cd4 {K:PySem.W.Frag}(h:te σ H fun x H'=>∃ k,TruV K x H' k∧QT k H'):tTru K te σ H QT:=h
theorem bn4 {K:PySem.W.Frag}{k:Bool}{p:Bool→Prop}(h:p k):∃ j,TruV K (.bl k) H j∧p j:=⟨k,rfl,h⟩
theorem ab5 {K:PySem.W.Frag}{p:Addr}{xs:List V}(h1:SqL K H p xs) (h:Q (.int xs.length) H):rLen K [V.ref p] H Q:=⟨_,_,rfl,.inl ⟨xs,h1,rfl⟩,h⟩
theorem ba1 {K:PySem.W.Frag}{p:Addr}{ys:List V}(h1:SqL K H p ys) (h:New H (.lst ys) Q):b96 K [.ref p] H Q:=⟨p,ys,rfl,.inl h1,h⟩
end
end L2
namespace L2
open PySem PySem.Spec PyProof.Rows
section
variable {X:Cx}
end
theorem ao2 {K:PySem.W.Frag}{a:Addr}{xs:List V}{te:TE}{tt:TT}{caps:List Nat}{σ:St} {H:Hp}{Q:VK}(hz:xs.length≤sizeLine) (Pv:Nat→List V→Hp→Prop) (h0:Pv 0 [] H) (hl:∀ i acc H,Pv i acc H→acc.length≤i∧SqL K H a xs)
 (hs:∀ i x acc H,xs[i]?=some x→Pv i acc H→∃ p u v,x=.ref p∧SqT K H p [u,v]∧tt (some u::some v::capV caps σ) H fun b H4=>if b=true then te (some u::some v::capV caps σ) H4 fun y H5=>Pv (i+1) (acc++[y]) H5 else Pv (i+1) acc H4)
 (hd:∀ acc H,Pv xs.length acc H→New H (.lst acc) Q):ah5 (Itl K a) (gTup K 2 (b36 (ah2 0) (b36 (ah2 1) gNil))) tt te 2 caps σ H Q:=by
 refine ⟨fun i m acc σ' H=>m=xs.length - i∧i≤xs.length∧(∃ u v,σ'=u::v::capV caps σ)∧Pv i acc H,⟨xs.length,by simp,Nat.zero_le _,⟨none,none,rfl⟩,h0⟩,?_⟩
 rintro i m acc σ' H' ⟨rfl,hi,⟨u0,v0,rfl⟩,p⟩
 obtain ⟨hl1,hq⟩:=hl i acc H' p
 by_cases hlt:i<xs.length
 · refine .inr ⟨⟨xs,xs[i],hq,by simp [hlt]⟩,by omega,fun ac σ2 H2=>(∃ u v,σ2=u::v::capV caps σ)∧Pv (i+1) ac H2,fun ac σ2 H2 ⟨e,p'⟩=>⟨xs.length - (i+1),by omega,rfl,hlt,e,p'⟩,fun x H2 y=>?_⟩
   obtain ⟨e,y⟩:=y
   subst e
   obtain ⟨q,u,v,rfl,hT,hst⟩:=hs i x acc _ (y xs hq) p
   have eN:∀ ac H5,((∃ u1 v1,some u::some v::capV caps σ=u1::v1::capV caps σ)∧Pv (i+1) ac H5)=Pv (i+1) ac H5:=fun ac H5=>propext ⟨And.right,fun p=>⟨⟨_,_,rfl⟩,p⟩⟩
   refine ⟨q,[u,v],rfl,hT,rfl,u,[v],rfl,v,[],rfl,rfl,?_⟩
   show tt (some u::some v::capV caps σ) _ fun b H4=>if b=true then te (some u::some v::capV caps σ) H4 fun y H5=>((∃ u1 v1,some u::some v::capV caps σ=u1::v1::capV caps σ)∧Pv (i+1) (acc++[y]) H5) else ((∃ u1 v1,some u::some v::capV caps σ=u1::v1::capV caps σ)∧Pv (i+1) acc H4)
   simp only [eN]
   exact hst
 · have e:i=xs.length:=by omega
   subst e
   exact .inl ⟨⟨xs,hq,Nat.le_refl _⟩,New.to (hd acc H' p)⟩
section
variable {σ:St} {H:Hp}{Q:VK}
theorem ac3 {l:Addr}{xs:List V}{y:V}(h1:H l=some (.lst xs)) (hz:xs.length<sizeLine) (h:Q .non (upd H l (.lst (xs++[y])))):b79 (.ref l) [y] H Q:=⟨l,xs,y,rfl,rfl,h1,hz,h⟩
theorem bt1 {l:Addr}{xs:List V}{y:V}(h1:H l=some (.lst (xs++[y]))) (h:Q y (upd H l (.lst xs))):rPop (.ref l) [] H Q:=⟨l,xs++[y],y,rfl,rfl,h1,by simp,by simpa using h⟩
theorem ab6 {K:PySem.W.Frag}{l:Addr}{xs:List V}{P:Prop}(h1:SqL K H l xs) (h:P):tyV K "list" (.ref l) H∧P:=⟨.inl ⟨rfl,xs,h1⟩,h⟩
end
def Tups (H H':Hp):Prop:=∀ b xs,H b=some (.tup xs)→H' b=some (.tup xs)
theorem Same.tups {H H':Hp}(s:Same H H'):Tups H H':=fun b xs h=>s b _ h
theorem vac {P:Program}{w:World}{K:PySem.W.Frag}{mg:Str→Option Value}{base:Heap}{CX:CXT}{k:Nat}{f:Addr}{fd:FuncData}{ps:List Str}{sp:Sp}(h:∀ vs H Q E,¬ sp vs H Q E):FnOk P w K mg base CX k f fd ps sp :=
 ⟨fun vs H Q E q=>(h _ _ _ _ q).elim,fun A outer s H args us vs Q E _ _ _ _ q=>(h _ _ _ _ q).elim⟩
end L2
namespace L2
open PySem
theorem Same.updNew {H H1:Hp}{l:Addr}{o:HO}(s:Same H H1) (h:H l=none):Same H (upd H1 l o):=fun b u e=>by rw [a12 (a38 e h)]; exact s b u e
inductive Ex where
 | num (i:Int)
 | box (n:Str)
 | two (k:Bool) (a b:Ex)
def Ex.h:Ex→Nat
 | .num _=>0
 | .box _=>0
 | .two _ a b=>max a.h b.h+1
def Ex.sz:Ex→Nat
 | .num _=>1
 | .box _=>1
 | .two _ a b=>a.sz+b.sz+1
def Ex.ok (ns:List Str):Ex→Prop
 | .num i=>0≤i∧i<10
 | .box n=>n∈ns
 | .two _ a b=>a.ok ns∧b.ok ns
def ba2 (k:Bool):Str:=if k then "plus" else "less"
def Ex.At (H:Hp):Ex→V→Prop
 | .num i,v=>∃ a,v=.ref a∧H a=some (.tup [.str "number",.int i])
 | .box n,v=>∃ a,v=.ref a∧H a=some (.tup [.str "box",.str n])
 | .two k e f,v=>∃ a x y,v=.ref a∧H a=some (.tup [.str (ba2 k),x,y])∧e.At H x∧f.At H y
theorem Ex.At.mono {H H':Hp}(t:Tups H H'):∀ {e:Ex}{v:V},e.At H v→e.At H' v
 | .num _,_,⟨a,h1,h2⟩=>⟨a,h1,t _ _ h2⟩
 | .box _,_,⟨a,h1,h2⟩=>⟨a,h1,t _ _ h2⟩
 | .two _ e f,_,⟨a,x,y,h1,h2,h3,h4⟩=>⟨a,x,y,h1,t _ _ h2,Ex.At.mono t h3,Ex.At.mono t h4⟩
end L2
namespace L2
open PySem PySem.Spec PyProof.Rows
inductive Cd where
 | cmp (k:Bool) (a b:Ex)
 | nt (c:Cd)
 | both (c d:Cd)
def Cd.ok (ns:List Str) (n:Nat):Cd→Prop
 | .cmp _ a b=>(a.ok ns∧a.h≤n)∧b.ok ns∧b.h≤n
 | .nt c=>c.ok ns n
 | .both c d=>c.ok ns n∧d.ok ns n
def aw7 (k:Bool):Str:=if k then "same" else "under"
def Cd.At (H:Hp):Cd→V→Prop
 | .cmp k e f,v=>∃ a x y,v=.ref a∧H a=some (.tup [.str (aw7 k),x,y])∧e.At H x∧f.At H y
 | .nt c,v=>∃ a x,v=.ref a∧H a=some (.tup [.str "not",x])∧c.At H x
 | .both c d,v=>∃ a x y,v=.ref a∧H a=some (.tup [.str "both",x,y])∧c.At H x∧d.At H y
theorem Cd.At.mono {H H':Hp}(t:Tups H H'):∀ {c:Cd}{v:V},c.At H v→c.At H' v
 | .cmp _ e f,_,⟨a,x,y,h1,h2,h3,h4⟩=>⟨a,x,y,h1,t _ _ h2,h3.mono t,h4.mono t⟩
 | .nt c,_,⟨a,x,h1,h2,h3⟩=>⟨a,x,h1,t _ _ h2,Cd.At.mono t h3⟩
 | .both c d,_,⟨a,x,y,h1,h2,h3,h4⟩=>⟨a,x,y,h1,t _ _ h2,Cd.At.mono t h3,Cd.At.mono t h4⟩
end L2
namespace L2
open PySem
abbrev bl1:Str:=⟨#[32]⟩
def sgnE (k:Bool):Str:=if k then "+" else "-"
def sgnC (k:Bool):Str:=if k then "=" else "<"
def Ex.words:Ex→List Str
 | .num i=>[Str.ofString (toString i)]
 | .box n=>[n]
 | .two k a b=>Str.ofString "("::((a.words++sgnE k::b.words)++[Str.ofString ")"])
def Cd.words:Cd→List Str
 | .cmp k a b=>a.words++sgnC k::b.words
 | .nt c=>Str.ofString "not"::c.words
 | .both c d=>Str.ofString "("::((c.words++Str.ofString "and"::d.words)++[Str.ofString ")"])
def Ex.names:Ex→List Str
 | .num _=>[]
 | .box n=>[n]
 | .two _ a b=>a.names++b.names
def Cd.names:Cd→List Str
 | .cmp _ a b=>a.names++b.names
 | .nt c=>c.names
 | .both c d=>c.names++d.names
inductive Th where
 | ex (e:Ex)
 | cd (c:Cd)
def Cd.hh:Cd→Nat
 | .cmp _ a b=>max a.h b.h+1
 | .nt c=>c.hh+1
 | .both c d=>max c.hh d.hh+1
def Cd.sz:Cd→Nat
 | .cmp _ a b=>a.sz+b.sz+1
 | .nt c=>c.sz+1
 | .both c d=>c.sz+d.sz+1
def Th.hh:Th→Nat
 | .ex e=>e.h
 | .cd c=>c.hh
def Th.ok (ys:List Str):Th→Prop
 | .ex e=>e.ok ys
 | .cd c=>c.ok ys 5
def Th.At (H:Hp):Th→V→Prop
 | .ex e,v=>e.At H v
 | .cd c,v=>c.At H v
def Th.words:Th→List Str
 | .ex e=>e.words
 | .cd c=>c.words
def Th.names:Th→List Str
 | .ex e=>e.names
 | .cd c=>c.names
def Th.sz:Th→Nat
 | .ex e=>e.sz
 | .cd c=>c.sz
theorem Th.At.mono {H H':Hp}(t:Tups H H') {x:Th}{v:V}(h:x.At H v):x.At H' v:=by
 cases x with
 | ex e=>exact Ex.At.mono t h
 | cd c=>exact Cd.At.mono t h
theorem aj2 (w:Str) (ys:List Str):inV (.str w) (a27 ys)=decide (w∈ys):=by
 unfold inV a27
 rw [List.any_map,Bool.eq_iff_iff,List.any_eq_true,decide_eq_true_iff]
 constructor
 · rintro ⟨y,hy,e⟩
   have:(y == w)=true:=e
   have:y=w:=by simpa using this
   exact this ▸ hy
 · intro h
   exact ⟨w,h,by show (w == w)=true; simp⟩
theorem at4 (ys:List Str):(a27 ys).all ae7=true:=by simp [a27,ae7]
theorem cd5 {K:PySem.W.Frag}{H:Hp}{Q:VK}{p:Addr}{ys:List Str}{w:Str}(h1:SqL K H p (a27 ys)) (h:Q (.bl (decide (w∈ys))) H):rIn K false (.str w) (.ref p) H Q:=⟨p,a27 ys,rfl,.inl h1,rfl,at4 ys,by rw [aj2]; exact h⟩
abbrev c37:List (Key×V):=[(Sum.inr (Str.ofString "plus"),.str (Str.ofString " + ")),(Sum.inr (Str.ofString "less"),.str (Str.ofString " - ")),(Sum.inr (Str.ofString "same"),.str (Str.ofString " = ")),(Sum.inr (Str.ofString "under"),.str (Str.ofString " < ")),(Sum.inr (Str.ofString "both"),.str (Str.ofString " and "))]
structure Two (H:Hp) (x:Th) (v:V) (m sg:Str) (x1 x2:Th) (a:Addr) (v1 v2:V):Prop where
 v:v=.ref a
 at_:H a=some (.tup [.str m,v1,v2])
 a1:x1.At H v1
 a2:x2.At H v2
 n1:¬ m=Str.ofString "number"
 n2:¬ m=Str.ofString "box"
 n3:¬ m=Str.ofString "not"
 names:x.names=x1.names++x2.names
 h1:x1.hh<x.hh
 h2:x2.hh<x.hh
 sz:x1.sz+x2.sz+1=x.sz
 ok:∀ ys,x.ok ys→x1.ok ys∧x2.ok ys
 mv:valV (a94 [] c37) (Sum.inr m)=some (.str (bl1++sg++bl1))
 sl:sg.length≤3
 ws:(m∈[Str.ofString "same",Str.ofString "under"]∧x.words=x1.words++sg::x2.words)∨(m∉[Str.ofString "same",Str.ofString "under"]∧x.words=Str.ofString "("::((x1.words++sg::x2.words)++[Str.ofString ")"]))
theorem Th.view {H:Hp}{x:Th}{v:V}(h:x.At H v):(∃ i a,x=.ex (.num i)∧v=.ref a∧H a=some (.tup [.str "number",.int i]))∨(∃ n a,x=.ex (.box n)∧v=.ref a∧H a=some (.tup [.str "box",.str n])) ∨
 (∃ c a v1,x=.cd (.nt c)∧v=.ref a∧H a=some (.tup [.str "not",v1])∧(Th.cd c).At H v1)∨∃ m sg x1 x2 a v1 v2,Two H x v m sg x1 x2 a v1 v2:=by
 cases x with
 | ex e=>cases e with
   | num i =>
     obtain ⟨a,h1,h2⟩:=h
     exact .inl ⟨i,a,rfl,h1,h2⟩
   | box n =>
     obtain ⟨a,h1,h2⟩:=h
     exact .inr (.inl ⟨n,a,rfl,h1,h2⟩)
   | two k e f =>
     obtain ⟨a,v1,v2,h1,h2,h3,h4⟩:=h
     refine .inr (.inr (.inr ⟨ba2 k,sgnE k,.ex e,.ex f,a,v1,v2,h1,h2,h3,h4,by cases k <;> decide +kernel,by cases k <;> decide +kernel,by cases k <;> decide +kernel,rfl,?_,?_,rfl,fun ys h=>h,by cases k <;> decide +kernel,by cases k <;> decide +kernel,.inr ⟨by cases k <;> decide +kernel,rfl⟩⟩))
     · simp only [Th.hh,Ex.h]; omega
     · simp only [Th.hh,Ex.h]; omega
 | cd c=>cases c with
   | nt c =>
     obtain ⟨a,v1,h1,h2,h3⟩:=h
     exact .inr (.inr (.inl ⟨c,a,v1,rfl,h1,h2,h3⟩))
   | cmp k e f =>
     obtain ⟨a,v1,v2,h1,h2,h3,h4⟩:=h
     refine .inr (.inr (.inr ⟨aw7 k,sgnC k,.ex e,.ex f,a,v1,v2,h1,h2,h3,h4,by cases k <;> decide +kernel,by cases k <;> decide +kernel,by cases k <;> decide +kernel,rfl,?_,?_,rfl,fun ys h=>⟨h.1.1,h.2.1⟩,by cases k <;> decide +kernel,by cases k <;> decide +kernel,.inl ⟨by cases k <;> decide +kernel,rfl⟩⟩))
     · simp only [Th.hh,Cd.hh]; omega
     · simp only [Th.hh,Cd.hh]; omega
   | both c d =>
     obtain ⟨a,v1,v2,h1,h2,h3,h4⟩:=h
     refine .inr (.inr (.inr ⟨Str.ofString "both",Str.ofString "and",.cd c,.cd d,a,v1,v2,h1,h2,h3,h4,by decide +kernel,by decide +kernel,by decide +kernel,rfl,?_,?_,rfl,fun ys h=>h,by decide +kernel,by decide +kernel,.inr ⟨by decide +kernel,rfl⟩⟩))
     · simp only [Th.hh,Cd.hh]; omega
     · simp only [Th.hh,Cd.hh]; omega
theorem Ex.names_le:∀ e:Ex,e.names.length≤e.sz
 | .num _=>by simp [Ex.names]
 | .box _=>by simp [Ex.names,Ex.sz]
 | .two _ a b=>by
   have h1:=Ex.names_le a
   have h2:=Ex.names_le b
   simp only [Ex.names,Ex.sz,List.length_append]
   omega
theorem Cd.names_le:∀ c:Cd,c.names.length≤c.sz
 | .cmp _ a b=>by
   have h1:=a.names_le
   have h2:=b.names_le
   simp only [Cd.names,Cd.sz,List.length_append]
   omega
 | .nt c=>by
   have h1:=Cd.names_le c
   simp only [Cd.names,Cd.sz]
   omega
 | .both a b=>by
   have h1:=Cd.names_le a
   have h2:=Cd.names_le b
   simp only [Cd.names,Cd.sz,List.length_append]
   omega
theorem Th.names_le (x:Th):x.names.length≤x.sz:=by
 cases x with
 | ex e=>exact e.names_le
 | cd c=>exact c.names_le
theorem ba3 (a b:List Str):a27 a++a27 b=a27 (a++b):=by simp [a27]
theorem c38 {σ:St} {H:Hp}{Q:VK}{td ty:TE}(h:td σ H fun x H1=>ty σ H1 fun y H2=>∃ a v,x=.ref a∧DGet H2 a y (some v)∧Q v H2):c12 td ty σ H Q:=h
end L2
namespace L2
open PySem PySem.Spec PyProof.Rows
end L2
namespace L2
open PySem
inductive Tr where
 | non
 | int (i:Int)
 | str (s:Str)
 | tup (xs:List Tr)
 | lst (xs:List Tr)
mutual
def Tr.At (H:Hp):Tr→V→List Addr→Prop
 | .non,v,fs=>v=.non∧fs=[]
 | .int i,v,fs=>v=.int i∧fs=[]
 | .str s,v,fs=>v=.str s∧fs=[]
 | .tup xs,v,fs=>∃ a vs,v=.ref a∧H a=some (.tup vs)∧Tr.Ats H xs vs fs
 | .lst xs,v,fs=>∃ a vs gs,v=.ref a∧H a=some (.lst vs)∧Tr.Ats H xs vs gs∧fs=a::gs
def Tr.Ats (H:Hp):List Tr→List V→List Addr→Prop
 | [],vs,fs=>vs=[]∧fs=[]
 | x::xs,vs,fs=>∃ v ws f g,vs=v::ws∧fs=f++g∧Tr.At H x v f∧Tr.Ats H xs ws g
end
def Keep (fs:List Addr) (H H':Hp):Prop:=Tups H H'∧∀ a∈fs,∀ xs,H a=some (.lst xs)→H' a=some (.lst xs)
theorem Same.keep {H H':Hp}(s:Same H H') (fs:List Addr):Keep fs H H':=⟨s.tups,fun a _ xs h=>s a _ h⟩
theorem Keep.sub {fs gs:List Addr}{H H':Hp}(k:Keep fs H H') (h:∀ a∈gs,a∈fs):Keep gs H H':=⟨k.1,fun a m=>k.2 a (h a m)⟩
mutual
theorem Tr.At.mono {H H':Hp}:∀ {x:Tr}{v:V}{fs:List Addr},x.At H v fs→Keep fs H H'→x.At H' v fs
 | .non,_,_,h,_=>by simpa only [Tr.At] using h
 | .int _,_,_,h,_=>by simpa only [Tr.At] using h
 | .str _,_,_,h,_=>by simpa only [Tr.At] using h
 | .tup xs,v,fs,h,k=>by
   simp only [Tr.At] at h ⊢
   obtain ⟨a,vs,e,g,r⟩:=h
   exact ⟨a,vs,e,k.1 _ _ g,Tr.Ats.mono r k⟩
 | .lst xs,v,fs,h,k=>by
   simp only [Tr.At] at h ⊢
   obtain ⟨a,vs,gs,e,g,r,rfl⟩:=h
   exact ⟨a,vs,gs,e,k.2 _ (by simp) _ g,Tr.Ats.mono r (k.sub fun b m=>by simp [m]),rfl⟩
theorem Tr.Ats.mono {H H':Hp}:∀ {xs:List Tr}{vs:List V}{fs:List Addr},Tr.Ats H xs vs fs→Keep fs H H'→Tr.Ats H' xs vs fs
 | [],_,_,h,_=>by simpa only [Tr.Ats] using h
 | x::xs,vs,fs,h,k=>by
   simp only [Tr.Ats] at h ⊢
   obtain ⟨v,ws,f,g,e,rfl,a,b⟩:=h
   exact ⟨v,ws,f,g,e,rfl,Tr.At.mono a (k.sub fun c m=>by simp [m]),Tr.Ats.mono b (k.sub fun c m=>by simp [m])⟩
end
end L2
namespace L2
open PySem PySem.Spec PyProof.Rows
mutual
def Tr.h:Tr→Nat
 | .non=>0
 | .int _=>0
 | .str _=>0
 | .tup xs=>Tr.hs xs+1
 | .lst xs=>Tr.hs xs+1
def Tr.hs:List Tr→Nat
 | []=>0
 | x::xs=>max x.h (Tr.hs xs)
end
theorem ak8 (A:Around):A.in1.units=A.units+1:=rfl
section
variable {X:Cx}{pins:List (Addr×Obj)}{σ:St} {H:Hp}{s:Shared}
end
section
variable {prog:Program}{w:World}{A:Around}{E:Value→Shared→Prop}
end
section
variable {X:Cx}{pos:Pos}
end
inductive Pt where
 | s (z:Str)
 | i (n:Int)
def Pt.v:Pt→V
 | .s z=>.str z
 | .i n=>.int n
theorem aa1 {H:Hp}{Q:VK}{l b:Addr}{xs zs:List V}(h1:H l=some (.lst xs)) (h2:H b=some (.lst zs)) (hz:xs.length+zs.length≤sizeLine) (h:Q .non (upd H l (.lst (xs++zs)))):b80 (.ref l) [.ref b] H Q:=⟨l,b,xs,zs,rfl,rfl,h1,h2,hz,h⟩
end L2
namespace L2
open PySem
def Pt.tr:Pt→Tr
 | .s z=>.str z
 | .i n=>.int n
def Ex.tr:Ex→Tr
 | .num i=>.tup [.str "number",.int i]
 | .box n=>.tup [.str "box",.str n]
 | .two k a b=>.tup [.str (ba2 k),a.tr,b.tr]
def Cd.tr:Cd→Tr
 | .cmp k a b=>.tup [.str (aw7 k),a.tr,b.tr]
 | .nt c=>.tup [.str "not",c.tr]
 | .both c d=>.tup [.str "both",c.tr,d.tr]
mutual
inductive Stm where
 | plain (ps:List Pt)
 | put (n:Str) (e:Ex)
 | loop (b:List Stm)
 | wait (n:Int) (bs:List Br)
 | test (c:Cd) (a b:List Stm)
inductive Br where
 | mk (p:List Pt) (b:List Stm)
end
mutual
def Stm.tr:Stm→Tr
 | .plain ps=>.tup (ps.map Pt.tr)
 | .put n e=>.tup [.str "put",.str n,e.tr]
 | .loop b=>.tup [.str "loop",.lst (Stm.trs b)]
 | .wait n bs=>.tup [.str "wait",.int n,.lst (Br.trs bs)]
 | .test c a b=>.tup [.str "test",c.tr,.lst (Stm.trs a),.lst (Stm.trs b)]
def Br.tr:Br→Tr
 | .mk p b=>.tup [.tup (p.map Pt.tr),.lst (Stm.trs b)]
def Stm.trs:List Stm→List Tr
 | []=>[]
 | s::r=>s.tr::Stm.trs r
def Br.trs:List Br→List Tr
 | []=>[]
 | s::r=>s.tr::Br.trs r
end
section
variable {H:Hp}{v:V}{fs:List Addr}
end
section
variable {H:Hp}{v:V}{fs:List Addr}
end
end L2
namespace L2
open PySem PySem.Spec PyProof.Rows
section
variable {X:Cx}
end
end L2
namespace L2
def cd6 (ws:List (Option Nat)) (n:Nat):List Nat:=(List.range n).filter fun i=>decide (ws[i]?=some none)
def kept (ws:List (Option Nat)):List Nat:=cd6 ws ws.length
end L2
namespace L2
open PySem
section
variable {prog:Program}{w:World}{K:Type} [DecidableEq K] {knd:KeyKind prog w K}{A:Around}{E:Value→Shared→Prop}{s:Shared}
theorem af6:plainId "dict.update.loop"=true:=by decide +kernel
theorem at5:entryFor table "dict.update.loop"=some Builtin.«dict.update.loop»:=entryFor_of_fast (by kernel_rfl)
theorem ba4:typeLookup (.type "list") "keys"=pure none:=am_miss_of_fast (by decide +kernel)
theorem getAttr?_miss_list {a:Addr}{o:Obj}{xs:Array Value}{k:Nat}{name:Str}{Q:Option Value→Shared→Prop}
 (hx:s.heap.get? a=some o) (hc:o.cls=.type "list") (hdat:o.data=.seq xs k) (hd:o.dict=none) (hmiss:typeLookup (.type "list") name=pure none) (hname:(["__module__","__name__","__qualname__","__doc__","__annotations__"]:List Str).contains name=false) (hA:A.handled=none)
 (h:∀ h' tk,(∀ b o,s.heap.get? b=some o→h'.get? b=some o)→Q none { s with heap:=h',toks:=tk }) (hsz:name.length+100≤sizeLine:=by size_fits) :
 wpAny (model prog w) A (getAttr? (.ref a) name) Q E s:=by
 obtain ⟨c,dct,dat,sl⟩:=o
 simp only at hc hdat hd
 subst hc hdat hd
 obtain ⟨hp,g,d,tk,os⟩:=s
 have hT:∀ tk',(⟨hp,g,d,tk',os⟩:Shared).TypeIs (.ref a) "list":=fun _=>⟨_,hx,rfl⟩
 have f1:=sub_AttributeError
 have f3:=F.slot_list_getattribute.lookup
 have f4:=F.slot_list_getattribute.bind (.ref a)
 have f5:=am_list_getattr_none
 unfold getAttr? getAttrBy? getAttrBy
 repeat (any_goals (first | assumption | exact hT _ | ((with_reducible show wpAny _ _ (call (Value.builtin "list.__getattribute__") _ _) _ _ _); refine call_meets F.slot_list_getattribute (hT _) am_entry_list_getattribute (F.args_list_getattribute_2 _ _) (meets_getattribute_miss_list a xs k sl name _ hmiss hname hsz) ⟨hx,hA,fun h' tk' e hx'=>?_⟩) | wp_step))
 obtain ⟨t',u',he⟩:=hx'.there
 show wpAny _ _ (getattributeRaised _ _ _ _ _ _ _) _ _ _
 unfold getattributeRaised
 repeat (any_goals (first | assumption | wp_step))
 exact h _ _ hx'.keeps
end
section
variable {prog:Program}{w:World}{K:Type} [DecidableEq K] {knd:KeyKind prog w K}{A:Around}{E:Value→Shared→Prop}{s:Shared}
def PairsAt (knd:KeyKind prog w K) (h:Heap) (items:Array Value) (ps:List (K×Value)) (no:List Addr):Prop :=
 ps.length=items.size∧∀ (j:Nat) (x:Value),items[j]?=some x→∃ T k key v,x=.ref T∧T∉no∧h.IsTuple T #[key,v]∧knd.is k key=true∧ps[j]?=some (k,v)
theorem PairsAt.mono {h h':Heap}{items:Array Value}{ps:List (K×Value)}{no:List Addr}(p:PairsAt knd h items ps no) (k:∀ b o,b∉no→h.get? b=some o→h'.get? b=some o):PairsAt knd h' items ps no :=
 ⟨p.1,fun j x e=>by
  obtain ⟨T,k1,key,v,h1,h2,⟨o,h3,h3'⟩,h4,h5⟩:=p.2 j x e
  exact ⟨T,k1,key,v,h1,h2,⟨o,k T o h2 h3,h3'⟩,h4,h5⟩⟩
theorem aw8 {R:Result→Shared→Prop}{d it l:Addr}{items:Array Value}{ps:List (K×Value)}{res:Value}(hdi:d≠it) (hli:l≠it) (hld:l≠d) (hA:A.handled=none) :
 ∀ (n i:Nat) (s:Shared) (kvs:List (K×Value)),items.size - i=n→i≤items.size→s.heap.IsListIter it l i→s.heap.IsList l items→s.heap.DictOf knd d kvs→kvs.length+n≤sizeLine→PairsAt knd s.heap items ps [d,it] →
 (∀ h' tk,h'.DictOf knd d (merged kvs (ps.drop i))→(∀ b o,b≠d→b≠it→s.heap.get? b=some o→h'.get? b=some o)→R (.ok (.ret res)) { s with heap:=h',toks:=tk }) →
 codeAny (model prog w) A (.builtin "dict.update.loop" ⟨[.ref d,.ref it,rawInt i,res],[]⟩) R s:=by
 intro n
 induction n with
 | zero =>
   intro i s kvs hn hi hit hl hd hz hp hR
   have e:i=items.size:=by omega
   subst e
   refine codeAny_builtin at5 ?_
   rw [Around.under_plainId af6 _]
   show wpAny _ A.in1 (pyNext (.ref it) >>= _) _ _ s
   refine wpAny_bind (wpAny_pyNext_list_end (by exact hA) hit hl (Array.getElem?_eq_none (Nat.le_refl _)) fun h' hx=>?_)
   show wpAny _ _ (Builtin.Dict.addKeywords d [] >>= _) _ _ _
   refine wpAny_bind (wpAny_pure (wpAny_pure ?_))
   refine hR h' s.toks ?_ fun b o _ h2 e=>hx b o h2 e
   rw [List.drop_of_length_le (Nat.le_of_eq hp.1)]
   exact hd.extBut hx hdi
 | succ n ih =>
   intro i s kvs hn hi hit hl hd hz hp hR
   have hlt:i<items.size:=by omega
   obtain ⟨T,k,key,v,e1,e2,hT,hk,hv⟩:=hp.2 i items[i] (by simp [hlt])
   refine codeAny_builtin at5 ?_
   rw [Around.under_plainId af6 _]
   show wpAny _ A.in1 (pyNext (.ref it) >>= _) _ _ s
   refine wpAny_bind (wpAny_pyNext_list_item hit hl (x:=items[i]) (by simp [hlt]) fun h1 hit1 hs1=>?_)
   rw [e1]
   have hTd:T≠d:=fun z=>e2 (by simp [z])
   have hTi:T≠it:=fun z=>e2 (by simp [z])
   obtain ⟨oT,hoT,cT,nT,dT⟩:=hT
   have hoT1:h1.get? T=some oT:=(hs1.2 T hTi).trans hoT
   have tT:({ s with heap:=h1 }:Shared).TypeIs (.ref T) "tuple":=⟨oT,hoT1,cT⟩
   show wpAny _ _ (holding [Value.ref T] _ >>= _) _ _ _
   refine wpAny_bind (wpAny_holding ?_)
   refine wpAny_bind (wpAny_tryCatch ?_)
   unfold Builtin.Dict.pairItems
   refine wpAny_bind (wpAny_typeOf tT ?_)
   rw [if_pos (by decide)]
   refine wpAny_bind (wpAny_seqItems hoT1 dT (wpAny_pure ?_))
   show wpAny _ _ (holding [key,v] (dictSet d key v)) _ _ _
   refine wpAny_holding ?_
   have hd1:h1.DictOf knd d kvs:=hd.sameBut hs1 hdi
   refine wpAny_dictSet_pairs (hsz:=by omega) hk hd1 fun h2 hd2 hs2=>?_
   refine wpAny_pure ⟨plainId_quiet af6 _,?_⟩
   have kp:∀ b o,b≠d→b≠it→s.heap.get? b=some o→h2.get? b=some o:=fun b o hb1 hb2 e=>(hs2.2 b hb1).trans ((hs1.2 b hb2).trans e)
   have hit2:h2.IsListIter it l (i+1):=let ⟨o,e,r⟩:=hit1; ⟨o,(hs2.2 it (Ne.symm hdi)).trans e,r⟩
   have hl2:h2.IsList l items:=let ⟨o,e,r⟩:=hl; ⟨o,kp l o hld hli e,r⟩
   have:=ih (i+1) { s with heap:=h2,toks:=s.toks+1 } (stored kvs k v) (by omega) (by omega) hit2 hl2 hd2 (by have:=stored_length_le kvs k v; omega) (hp.mono fun b o hb e=>kp b o (fun z=>hb (by simp [z])) (fun z=>hb (by simp [z])) e) (fun h' tk hd' kp'=>?_)
   · exact this
   · refine hR h' tk ?_ fun b o h3 h4 e=>kp' b o h3 h4 (kp b o h3 h4 e)
     have hdr:ps.drop i=(k,v)::ps.drop (i+1):=by
      obtain ⟨hj,ej⟩:=List.getElem?_eq_some_iff.mp hv
      rw [List.drop_eq_getElem_cons hj,ej]
     rw [hdr]
     exact hd'
theorem ak9 {l:Addr}{o:Obj}{items:Array Value}{n:Nat}{ps:List (K×Value)}{Q:Value→Shared→Prop}(ho:s.heap.get? l=some o) (hc:o.cls=.type "list") (hd:o.dict=none) (hdat:o.data=.seq items n)
 (hA:A.handled=none) (hp:PairsAt knd s.heap items ps []) (hz:items.size≤sizeLine)
 (h:∀ h' tk,h'.DictOf knd s.heap.objs.size (merged [] ps)→(∀ b o,s.heap.get? b=some o→h'.get? b=some o)→Q (.ref s.heap.objs.size) { s with heap:=h',toks:=tk }) :
 wpAny (model prog w) A (call (.type "dict") [.ref l]) Q E s:=by
 refine callType_codes (Q₁:=fun obj s₁=>obj=.ref s.heap.objs.size∧s₁={ s with heap:=s.heap.push { cls:=.type "dict",data:=.dict #[] } }) F.kt_called_dict (F.kt_typeCall_dict_1 _) F.entry_dict_init (kt_code_dict_new _ ⟨rfl,rfl⟩) ?_
 rintro obj s₁ ⟨rfl,rfl⟩
 have hnew:(s.heap.push { cls:=.type "dict",data:=.dict #[] }).DictOf knd s.heap.objs.size []:=Heap.DictOf.new s.heap
 have hlt:=Heap.lt_size ho
 have ho':(s.heap.push { cls:=.type "dict",data:=.dict #[] }).get? l=some o:=Heap.get?_push_of_some _ ho
 refine ⟨hnew.typeIs,F.args_dict_init_2 _ _,?_⟩
 unfold Builtin.«dict.__init__»
 refine wpAny_bind ?_
 unfold Builtin.Dict.selfAndRest
 refine wpAny_bind (wpAny_notOrdered_dict hnew.typeIs ?_)
 show wpAny _ _ (pure (s.heap.objs.size,[Value.ref l])) _ _ _
 refine wpAny_pure ?_
 show wpAny _ _ (Builtin.Dict.updateFrom "dict.__init__" s.heap.objs.size (.ref l) [] .none) _ _ _
 unfold Builtin.Dict.updateFrom
 refine wpAny_bind (wpAny_typeOf (T:="list") ⟨o,ho',hc⟩ ?_)
 rw [if_pos (by decide)]
 refine wpAny_bind (getAttr?_miss_list ho' hc hdat hd ba4 (by decide) (by exact hA) fun h1 tk1 k1=>?_)
 show wpAny _ _ (rule _ >>= _) _ _ _
 refine wpAny_bind (wpAny_rule ?_)
 have k0:∀ b q,s.heap.get? b=some q→h1.get? b=some q:=fun b q e=>k1 b q (Heap.get?_push_of_some _ e)
 have hl1:h1.IsList l items:=⟨o,k0 l o ho,hc,n,hdat⟩
 refine wpAny_bind (wpAny_pyIter_list hl1 (wpAny_pure ⟨plainId_quiet af6 _,?_⟩))
 have hd1:h1.DictOf knd s.heap.objs.size []:=by
  obtain ⟨q,es,ep,e1,e2,e3⟩:=hnew
  exact ⟨q,es,ep,k1 _ _ e1,e2,e3⟩
 have hds:s.heap.objs.size<h1.objs.size:=by
  obtain ⟨q,es,ep,e1,_⟩:=hd1
  exact Heap.lt_size e1
 have hl1s:l<h1.objs.size:=Heap.lt_size (k0 l o ho)
 refine aw8 (knd:=knd) (items:=items) (ps:=ps) (d:=s.heap.objs.size) (it:=h1.objs.size) (l:=l) (Nat.ne_of_lt hds) (Nat.ne_of_lt hl1s) (Nat.ne_of_lt hlt) (by exact hA) items.size 0 _ [] (by omega) (Nat.zero_le _) ⟨_,Heap.get?_push_size _ rfl,rfl,rfl⟩ (hl1.push _) (hd1.push _) (by simpa using hz) ⟨hp.1,fun j x e=>?_⟩ fun h' tk hd' kp=>?_
 · obtain ⟨T,k,key,v,e1,_,⟨oT,e2,e3⟩,e4,e5⟩:=hp.2 j x e
   refine ⟨T,k,key,v,e1,?_,⟨oT,Heap.get?_push_of_some _ (k0 _ _ e2),e3⟩,e4,e5⟩
   have h1:=Heap.lt_size e2
   have h2:=Heap.lt_size (k0 _ _ e2)
   simp only [List.mem_cons,List.not_mem_nil,or_false,not_or]
   exact ⟨Nat.ne_of_lt h1,Nat.ne_of_lt h2⟩
 · exact ⟨rfl,h h' tk hd' fun b q e=>kp b q (Nat.ne_of_lt (Heap.lt_size e)) (Nat.ne_of_lt (Heap.lt_size (k0 _ _ e))) (Heap.get?_push_of_some _ (k0 b q e))⟩
end
end L2
namespace L2
open PySem PySem.Spec PyProof.Rows
section
variable {X:Cx}{pins:List (Addr×Obj)}{σ:St} {H:Hp}{s:Shared}
theorem Inv.turnedL {t':Nat}{h':Heap}{ch:List Addr}(I:Inv X pins σ H s) (k:∀ b o,b∉ch→s.heap.get? b=some o→h'.get? b=some o) (hf:∀ b∈ch,FpOk X pins H b):Inv X pins σ H { s with heap:=h',toks:=t' }:=by
 have nit:∀ b u,H b=some u→b∉ch:=fun b u e z=>by rw [(hf b z).1] at e; cases e
 refine I.step (g':=s.gens) (d':=s.drawn) (ch:=ch) (fun b hb=>⟨(hf b hb).2.2.2.1,(hf b hb).2.1,(hf b hb).2.2.2.2.1,(hf b hb).2.2.2.2.2⟩) (fun b o _ _ hc e _=>k b o hc e) (fun b o _ _ hc e _=>⟨o.slots,k b o hc e⟩) (fun _ _ _ _ n=>n)
  (fun b o hc e=>⟨o,k b o hc e⟩) (fun _ _ e=>e) (fun _ _ _ e=>e) (fun b ps e=>⟨#[],by rw [e]; simp⟩) (fun m hm=>?_) (fun b u e=>?_) I.bare
 · obtain ⟨o,es,ep,ho,r⟩:=hm
   exact ⟨o,es,ep,k _ o (fun z=>(hf _ z).2.1 rfl) ho,r⟩
 · refine (I.hok b u e).stay (fun c v hc q=>k c v ?_ q) (fun _ q=>q) fun _ _ q=>q
   rcases hc with z | z
   · rw [z]; exact nit b u e
   · exact nit c _ z
end
def Ite (K:PySem.W.Frag) (a:Addr):It :=
 ⟨fun i H=>∃ xs x,SqL K H a xs∧xs[i]?=some x,fun i H v H'=>∃ p y,v=.ref p∧H p=none∧Same H H'∧H' p=some (.tup [.int (i:Nat),y])∧∀ xs,SqL K H a xs→xs[i]?=some y,fun i H=>∃ xs,SqL K H a xs∧xs.length≤i⟩
theorem ba5 {P:Program}{w:World}{K:PySem.W.Frag}{elts:List Expr}{x1:Nat}{pos:Pos}(a e it:Addr) (hne:e≠it) :
 Turn P w K (.Tuple elts x1 pos) (Ite K a) [e,it] e (fun i h=>(∃ old,IsEnum h e it (i:Nat) old)∧h.IsListIter it a i) where
 mem:=by simp
 obj:=fun i h st b hb=>by
  obtain ⟨⟨old,he⟩,o,e2,c,d⟩:=st
  rcases (by simpa using hb:b=e∨b=it) with rfl | rfl
  · exact ⟨_,he,fun v z=>by cases z⟩
  · exact ⟨o,e2,fun v z=>by rw [d] at z; cases z⟩
 keep:=fun i h h' st k=>⟨let ⟨old,he⟩:=st.1; ⟨old,k e (by simp) _ he⟩,st.2.at fun o x=>k it (by simp) o x⟩
 item:=by
  intro X hP hw hK hc i pins s σ H E I hf st hg
  subst hP hw hK
  obtain ⟨xs,x,hq,hx⟩:=hg
  obtain ⟨its,rv,p,hz⟩:=I.list hq
  obtain ⟨u,hu,ru⟩:=rv.get hx
  obtain ⟨⟨old,he⟩,hit⟩:=st
  have helt:e<s.heap.objs.size:=Heap.lt_size he
  have hilt:it<s.heap.objs.size:=by obtain ⟨_,q,_⟩:=hit; exact Heap.lt_size q
  refine wpAny_pyNext_enum_item he hit p.isList (x:=u) (by simpa using hu) hne fun h' ho hit' hT hsz hk=>?_
  have fr:H s.heap.objs.size=none:=I.hok.fresh (Nat.le_refl _)
  have I1:Inv X pins σ H { s with heap:=h',toks:=s.toks+1 }:=I.turnedL (ch:=[e,it]) (fun b o hb q=>hk b o (fun z=>hb (by simp [z])) (fun z=>hb (by simp [z])) q) hf
  have I2:Inv X pins σ (upd H s.heap.objs.size (.tup [.int (i:Nat),x])) { s with heap:=h',toks:=s.toks+1 }:=I1.adopt (o:=.tup [.int (i:Nat),x]) fr I.sz (Nat.ne_of_gt I.lt) (fun y c ec z=>by
   obtain ⟨v,q⟩:=I.cell y c ec
   exact absurd q.lt (by rw [z]; exact Nat.lt_irrefl _)) (fun q hq z=>absurd (Heap.lt_size (I.pin q hq).1) (by rw [z]; exact Nat.lt_irrefl _))
   ⟨le_line (by simp),[.int (i:Nat) s.toks,u],.cons ⟨_,rfl⟩ (.cons ru .nil),⟨_,hT,rfl,_,rfl⟩⟩
  have ne:∀ b∈[e,it],b≠s.heap.objs.size:=fun b hb=>by
   rcases (by simpa using hb:b=e∨b=it) with rfl | rfl
   · exact Nat.ne_of_lt helt
   · exact Nat.ne_of_lt hilt
  have hf2:∀ b∈[e,it],FpOk X pins (upd H s.heap.objs.size (.tup [.int (i:Nat),x])) b:=fun b hb=>⟨by rw [a12 (ne b hb)]; exact (hf b hb).1,(hf b hb).2⟩
  refine ⟨_,rfl,wpAny_letOwnedTupleGo_enum ho fun h2 he2 hs2=>⟨.ref s.heap.objs.size,_,I2.turnedL (t':=s.toks+1) (ch:=[e]) (fun b o hb q=>(hs2.2 b (fun z=>hb (by simp [z]))).trans q) (fun b hb=>hf2 b (by simp at hb; simp [hb])),rfl,⟨s.heap.objs.size,x,rfl,fr,Same.new fr,a17,fun ys hy=>by rw [I.list_inj hy hq]; exact hx⟩,⟨⟨_,by simpa using he2⟩,hit'.at fun o q=>(hs2.2 it (Ne.symm hne)).trans q⟩,fun b hb=>(hf2 b hb).1⟩⟩
 done:=by
  intro X hP hw hK hc i pins s σ H E I hf st hg
  subst hP hw hK
  obtain ⟨xs,hq,hx⟩:=hg
  obtain ⟨its,rv,p,hz⟩:=I.list hq
  obtain ⟨⟨old,he⟩,hit⟩:=st
  have hl:=rv.length
  exact wpAny_pyNext_enum_end (I.ok.hd hc) he hit p.isList (by simp; omega) fun h' eb=>⟨rfl,I.turnedL (t':=s.toks) (ch:=[it]) (fun b o hb q=>eb b o (fun z=>hb (by simp [z])) q) (fun b hb=>hf b (by simp at hb; simp [hb]))⟩
 self:=fun A i s Q E st h=>let ⟨old,he⟩:=st.1; wpAny_pyIter_enum he h
section
variable {X:Cx}{elts:List Expr}{x1:Nat}{tpos:Pos}
def c39 (K:PySem.W.Frag) (ta:TA):TI:=fun σ H R=>ta σ H fun vs H1=>∃ a,vs=[.ref a]∧(∃ xs,SqL K H1 a xs)∧R (Ite K a) H1
theorem ao3 (K:PySem.W.Frag) {a:Expr}{ta:TA}{p pos:Pos}(hg:Gl X "enumerate") (hm:X.mg "enumerate"=none) (ha:PA X [a] ta) (hs:starEach [a] X.env=[(false,eval a X.env)]:=by rfl) (hK:X.K=K:=by rfl):PI X (.Tuple elts x1 tpos) (.Call (.Name "enumerate" p) [a] [] pos) (c39 K ta):=by
 subst hK
 intro pins s σ H R I h
 refine Call_ (aj7 I hg hm boot_enumerate (PyProof.Rows.callWith_type1 (thn (ha pos pins s σ H _ I h) ?_) hs rfl))
 rintro us s1 ⟨vs,H1,I1,r1,q1⟩
 obtain ⟨l,e,⟨xs,hq⟩,q⟩:=q1
 subst e
 obtain ⟨u,rfl,ru⟩:=aw2 r1
 cases ru
 obtain ⟨its,rv,pl,hz⟩:=I1.list hq
 refine call_enumerate_list pl.isList fun h' he hit hsz hk=>?_
 refine wpAny_pyIter_enum he ?_
 refine ⟨s1.heap.objs.size+1,[s1.heap.objs.size+1,s1.heap.objs.size],_,_,H1,rfl,I1.kept (t':=s1.toks) hk,ba5 l _ _ (Nat.succ_ne_self _),⟨⟨_,he⟩,hit⟩,fun b hb=>?_,q⟩
 have hb':s1.heap.objs.size≤b:=by
  rcases (by simpa using hb:b=s1.heap.objs.size+1∨b=s1.heap.objs.size) with rfl | rfl <;> omega
 exact I1.fpOk hb' (I1.hok.fresh hb')
theorem c40 {K:PySem.W.Frag}{σ:St} {H:Hp}{R:It→Hp→Prop}{ts:TA}(h:ts σ H fun vs H1=>∃ a,vs=[.ref a]∧(∃ xs,SqL K H1 a xs)∧R (Ite K a) H1):c39 K ts σ H R:=h
theorem c41 {a:Addr}{p:Addr→Prop}(h:p a):∃ b,[V.ref a]=[V.ref b]∧p b:=⟨a,rfl,h⟩
theorem ba6 {K:PySem.W.Frag}{a:Addr}{xs:List V}{te:TE}{tt:TT}{caps:List Nat}{σ:St} {H:Hp}{Q:VK}(hz:xs.length≤sizeLine) (Pv:Nat→List V→Hp→Prop) (h0:Pv 0 [] H) (hl:∀ i acc H,Pv i acc H→acc.length≤i∧SqL K H a xs)
 (hs:∀ i x acc H H2,xs[i]?=some x→Pv i acc H→Same H H2→tt (some (.int (i:Nat))::some x::capV caps σ) H2 fun b H4=>if b=true then te (some (.int (i:Nat))::some x::capV caps σ) H4 fun y H5=>Pv (i+1) (acc++[y]) H5 else Pv (i+1) acc H4)
 (hd:∀ acc H,Pv xs.length acc H→New H (.lst acc) Q):ah5 (Ite K a) (gTup K 2 (b36 (ah2 0) (b36 (ah2 1) gNil))) tt te 2 caps σ H Q:=by
 refine ⟨fun i m acc σ' H=>m=xs.length - i∧i≤xs.length∧(∃ u v,σ'=u::v::capV caps σ)∧Pv i acc H,⟨xs.length,by simp,Nat.zero_le _,⟨none,none,rfl⟩,h0⟩,?_⟩
 rintro i m acc σ' H' ⟨rfl,hi,⟨u0,v0,rfl⟩,p⟩
 obtain ⟨hl1,hq⟩:=hl i acc H' p
 by_cases hlt:i<xs.length
 · refine .inr ⟨⟨xs,xs[i],hq,by simp [hlt]⟩,by omega,fun ac σ2 H2=>(∃ u v,σ2=u::v::capV caps σ)∧Pv (i+1) ac H2,fun ac σ2 H2 ⟨e,p'⟩=>⟨xs.length - (i+1),by omega,rfl,hlt,e,p'⟩,fun x H2 y=>?_⟩
   obtain ⟨q,z,rfl,hn,sm,hT,hy⟩:=y
   have hst:=hs i z acc H' H2 (hy xs hq) p sm
   have eN:∀ ac H5,((∃ u1 v1,some (V.int (i:Nat))::some z::capV caps σ=u1::v1::capV caps σ)∧Pv (i+1) ac H5)=Pv (i+1) ac H5:=fun ac H5=>propext ⟨And.right,fun p=>⟨⟨_,_,rfl⟩,p⟩⟩
   refine ⟨q,[.int (i:Nat),z],rfl,SqT.of hT,rfl,.int (i:Nat),[z],rfl,z,[],rfl,rfl,?_⟩
   show tt (some (.int (i:Nat))::some z::capV caps σ) _ fun b H4=>if b=true then te (some (.int (i:Nat))::some z::capV caps σ) H4 fun y H5=>((∃ u1 v1,some (V.int (i:Nat))::some z::capV caps σ=u1::v1::capV caps σ)∧Pv (i+1) (acc++[y]) H5) else ((∃ u1 v1,some (V.int (i:Nat))::some z::capV caps σ=u1::v1::capV caps σ)∧Pv (i+1) acc H4)
   simp only [eN]
   exact hst
 · have e:i=xs.length:=by omega
   subst e
   exact .inl ⟨⟨xs,hq,Nat.le_refl _⟩,New.to (hd acc H' p)⟩
end
inductive PrK (H:Hp):List V→List (Key×V)→Prop
 | nil:PrK H [] []
 | cons {p:Addr}{k:Key}{v:V}{vs:List V}{kvs:List (Key×V)}:H p=some (.tup [kV k,v])→PrK H vs kvs→PrK H (.ref p::vs) ((k,v)::kvs)
theorem PrK.mono {H H':Hp}(t:Tups H H') {vs:List V}{kvs:List (Key×V)}(h:PrK H vs kvs):PrK H' vs kvs:=by
 induction h with
 | nil=>exact .nil
 | cons e _ ih=>exact .cons (t _ _ e) ih
theorem PrK.snoc {H:Hp}{vs:List V}{kvs:List (Key×V)}{p:Addr}{k:Key}{v:V}(h:PrK H vs kvs) (e:H p=some (.tup [kV k,v])):PrK H (vs++[.ref p]) (kvs++[(k,v)]):=by
 induction h with
 | nil=>exact .cons e .nil
 | cons e' _ ih=>exact .cons e' ih
def bn5 (K:PySem.W.Frag):List V→Hp→VK→Prop:=fun xs H Q=>∃ l vs kvs,xs=[.ref l]∧SqL K H l vs∧PrK H vs kvs∧New H (.dK (a94 [] kvs)) Q
section
variable {X:Cx}
theorem PrK.at_ {pins:List (Addr×Obj)}{σ:St} {H:Hp}{s:Shared}(I:Inv X pins σ H s):∀ {vs:List V}{kvs:List (Key×V)}{us:List Value},PrK H vs kvs→Vals vs us →
 ∃ ps:List (Key×Value),KV kvs ps∧ps.length=us.length∧∀ (j:Nat) (x:Value),us[j]?=some x→∃ T k key v,x=.ref T∧T∉([]:List Addr)∧s.heap.IsTuple T #[key,v]∧(a52 X.prog X.w).is k key=true∧ps[j]?=some (k,v)
 | _,_,_,.nil,r=>by
   cases r
   exact ⟨[],.nil,rfl,fun j x e=>by simp at e⟩
 | _,_,_,.cons (p:=p) (k:=k) (v:=v) e h,r=>by
   cases r with
   | cons r1 r2 =>
     cases r1
     obtain ⟨ps,h1,h2,h3⟩:=PrK.at_ I h r2
     obtain ⟨its,q1,q2,_⟩:=I.tuple (SqT.of e)
     obtain ⟨u1,u2,rfl,ra,rb⟩:=ca1 q1
     refine ⟨(k,u2)::ps,.cons ⟨rfl,rb⟩ h1,by simp [h2],fun j x ej=>?_⟩
     cases j with
     | zero =>
       simp at ej
       subst ej
       exact ⟨p,k,u1,u2,rfl,by simp,q2,b87 ra,rfl⟩
     | succ j=>exact h3 j x (by simpa using ej)
theorem bi5 (K:PySem.W.Frag) (hh:X.calm=true:=by rfl) (hK:X.K=K:=by rfl):CallR X (.type "dict") (bn5 K):=by
 subst hK
 intro pins s σ H xs us Q I r h
 obtain ⟨l,vs,kvs,rfl,hq,hp,q⟩:=h
 obtain ⟨u,rfl,ru⟩:=aw2 r
 cases ru
 obtain ⟨its,rv,⟨o,n,e1,e2,e3,e4⟩,hz⟩:=I.list hq
 obtain ⟨ps,k1,k2,k3⟩:=PrK.at_ I hp rv
 have hl:=rv.length
 refine ak9 (knd:=a52 X.prog X.w) e1 e2 e3 e4 (I.ok.hd hh) ⟨by simpa using k2,fun j x e=>k3 j x (by simpa using e)⟩ (by simpa using hl ▸ hz) fun h' tk hd kk=>?_
 have hz2:(a94 [] kvs).length≤sizeLine:=by
  have h1:=af1 kvs []
  have h2:kvs.length=ps.length:=k1.length
  simp only [List.length_nil] at h1
  omega
 refine ⟨.ref s.heap.objs.size,upd H s.heap.objs.size (.dK (a94 [] kvs)),I.laid (t':=tk) kk (Nat.le_refl _) (bn0 hz2 (beq_eq_false_iff_ne.mpr (Ne.symm (Nat.ne_of_lt I.big))) (k1.merge .nil) hd),rfl,New.to q _ (I.hok.fresh (Nat.le_refl _))⟩
theorem bt2 {K:PySem.W.Frag}{H:Hp}{Q:VK}{l:Addr}{vs:List V}{kvs:List (Key×V)}(h1:SqL K H l vs) (h2:PrK H vs kvs) (h:New H (.dK (a94 [] kvs)) Q):bn5 K [.ref l] H Q:=⟨l,vs,kvs,rfl,h1,h2,h⟩
theorem af7 (xs:List V) (y:V):cutV (xs++[y]) none (some (-1))=xs∧HT.sIx (xs++[y]).length (xs++[y]).length (some (-1))=xs.length:=by
 have e:HT.sIx (xs++[y]).length (xs++[y]).length (some (-1))=xs.length:=by
  unfold HT.sIx
  simp only []
  rw [if_pos (by decide),List.length_append]
  simp only [List.length_cons,List.length_nil]
  omega
 refine ⟨?_,e⟩
 unfold cutV
 rw [e,HT.sIx_none,List.drop_zero,Nat.sub_zero,List.take_left']
 rfl
def rIsN:R2:=fun x y H Q=>y=.non∧Q (.bl (decide (x=.non))) H
def c42:R2:=fun x y H Q=>y=.non∧Q (.bl (!decide (x=.non))) H
theorem bt3:OpR X (compareOp .Is) rIsN:=bz5
theorem bi6:OpR X (compareOp .IsNot) c42:=bq7
theorem cd7 {x:V}{H:Hp}{Q:VK}(h:Q (.bl (decide (x=.non))) H):rIsN x .non H Q:=⟨rfl,h⟩
theorem c43 {x:V}{H:Hp}{Q:VK}(h:Q (.bl (!decide (x=.non))) H):c42 x .non H Q:=⟨rfl,h⟩
theorem ao4 (x:Int):∀ ns:List Int,inV (.int x) (ns.map V.int)=decide (x∈ns)
 | []=>rfl
 | n::ns=>by
   have h:=ao4 x ns
   unfold inV at h ⊢
   rw [List.map_cons,List.any_cons,h]
   show ((n == x) || _)=_
   rw [Bool.eq_iff_iff]
   simp
   constructor
   · rintro (rfl | h)
     · exact .inl rfl
     · exact .inr h
   · rintro (rfl | h)
     · exact .inl rfl
     · exact .inr h
theorem at6 (ns:List Int):(ns.map V.int).all ae7=true:=by simp [ae7]
theorem cd8 {K:PySem.W.Frag}{H:Hp}{Q:VK}{p:Addr}{x:Int}{ns:List Int}(h1:SqL K H p (ns.map V.int)) (h:Q (.bl (decide (x∈ns))) H):rIn K false (.int x) (.ref p) H Q:=⟨p,_,rfl,.inl h1,rfl,at6 ns,by rw [ao4]; exact h⟩
theorem bi7 {K:PySem.W.Frag}{H:Hp}{Q:VK}{p:Addr}{x:Int}{ns:List Int}(h1:SqL K H p (ns.map V.int)) (h:Q (.bl (!decide (x∈ns))) H):rIn K true (.int x) (.ref p) H Q:=⟨p,_,rfl,.inl h1,rfl,at6 ns,by rw [ao4]; exact h⟩
theorem c44 {to ti:TE}{t:TSet}{v:V}{σ:St} {H:Hp}{Q:St→Hp→Prop}(h:to σ H fun o H1=>ti σ H1 fun i H2=>t o i v H2 fun H3=>Q σ H3):gSub to ti t v σ H Q:=h
theorem at7 {H:Hp}{Q:Hp→Prop}{p:Addr}{xs:List V}{k:Int}{j:Nat}{v:V}(h1:H p=some (.lst xs)) (h2:ixN xs.length k=some j) (h:Q (upd H p (.lst (xs.set j v)))):c05 (.ref p) (.int k) v H Q:=⟨p,xs,k,j,rfl,rfl,h1,h2,h⟩
def c45 (t u:TS):TS:=fun D σ H=>∃ R:St→Hp→Prop,t { D with nx:=R } σ H∧∀ σ' H',R σ' H'→u D σ' H'
theorem a41 {st:Stmt}{rest:List Stmt}{t u:TS}(h1:PS X st t) (h2:PSs X rest u):PSs X (st::rest) (c45 t u):=by
 intro pins s σ H D I h
 obtain ⟨R,ha,hb⟩:=h
 refine wpAny_execs_cons (thn (h1 pins s σ H _ I ha) fun f s1 q=>?_)
 cases f with
 | next=>obtain ⟨σ1,H1,I1,q1⟩:=q; exact h2 pins s1 σ1 H1 D I1 (hb σ1 H1 q1)
 | brk=>exact q
 | cont=>exact q
 | ret v=>exact q
theorem a95 {t u:TS}{nn bb cc:St→Hp→Prop}{rr:VK}{σ:St} {H:Hp}(R:St→Hp→Prop) (h1:t ⟨R,rr,bb,cc⟩ σ H) (h2:∀ σ' H',R σ' H'→u ⟨nn,rr,bb,cc⟩ σ' H'):c45 t u ⟨nn,rr,bb,cc⟩ σ H:=⟨R,h1,h2⟩
def c46 (t:TT):TT:=t
theorem aw9 {e:Expr}{t:TT}(h:PT X e t):PT X e (c46 t):=h
theorem ba7 {t:TT}{σ:St} {H:Hp}{QT:Bool→Hp→Prop}(c:Prop) [Decidable c] (h:∀ R:Bool→Hp→Prop,R (decide c) H→t σ H R) (h2:QT (decide c) H):c46 t σ H QT:=h QT h2
theorem rF {R:Bool→Hp→Prop}{H:Hp}{c:Prop} [Decidable c] (h:R (decide c) H) (hc:¬ c):R false H:=by rw [decide_eq_false hc] at h; exact h
theorem ao5 {c:TT}{tb:TS}{nn bb cc:St→Hp→Prop}{rr:VK}{σ:St} {H:Hp}(W:Nat→St→Hp→Prop) (m:Nat) (h0:W m σ H)
 (hs:∀ m σ H,W m σ H→c σ H fun b H1=>if b=true then ∃ N:St→Hp→Prop,(∀ σ' H',N σ' H'→∃ m',m'<m∧W m' σ' H')∧tb ⟨N,rr,nn,N⟩ σ H1 else nn σ H1):bm3 c tb ⟨nn,rr,bb,cc⟩ σ H:=⟨W,⟨m,h0⟩,hs⟩
end
end L2
namespace L2
open PySem
section
variable {H:Hp}{x:Tr}{xs:List Tr}{v:V}{vs ws:List V}
theorem ats_nil0:Tr.Ats H [] vs []↔vs=[]:=by simp [Tr.Ats]
theorem ats_cons0:Tr.Ats H (x::xs) vs []↔∃ v ws,vs=v::ws∧x.At H v []∧Tr.Ats H xs ws []:=by
 simp only [Tr.Ats]
 constructor
 · rintro ⟨v,ws,f,g,h1,h2,h3,h4⟩
   obtain ⟨rfl,rfl⟩:=List.append_eq_nil_iff.mp h2.symm
   exact ⟨v,ws,h1,h3,h4⟩
 · rintro ⟨v,ws,h1,h3,h4⟩
   exact ⟨v,ws,[],[],h1,rfl,h3,h4⟩
theorem at_tup0:(Tr.tup xs).At H v []↔∃ a vs,v=.ref a∧H a=some (.tup vs)∧Tr.Ats H xs vs []:=by simp only [Tr.At]
theorem at_int0 {i:Int}:(Tr.int i).At H v []↔v=.int i:=by simp [Tr.At]
theorem at_str0 {i:Str}:(Tr.str i).At H v []↔v=.str i:=by simp [Tr.At]
end
section
variable {H:Hp}{v:V}{a:Addr}
theorem bt4 {x y:Tr}{u v:V}(e:H a=some (.tup [u,v])) (h:x.At H u []) (h2:y.At H v []):(Tr.tup [x,y]).At H (.ref a) []:=at_tup0.mpr ⟨a,_,rfl,e,ats_cons0.mpr ⟨_,_,rfl,h,ats_cons0.mpr ⟨_,_,rfl,h2,ats_nil0.mpr rfl⟩⟩⟩
theorem c47 {i:Int}:(Tr.int i).At H (.int i) []:=at_int0.mpr rfl
theorem bt5 {i:Str}:(Tr.str i).At H (.str i) []:=at_str0.mpr rfl
end
def a58 (l:List Nat):List V:=l.map fun k=>V.int (k:Nat)
theorem a71 (l:List Nat):(a58 l).length=l.length:=by simp [a58]
theorem ac4 (l:List Nat) (k:Nat):a58 l++[V.int (k:Nat)]=a58 (l++[k]):=by simp [a58]
theorem ax0 (l:List (Key×V)) (p:Key×V):a94 [] (l++[p])=putK (a94 [] l) p.1 p.2:=by
 unfold a94
 rw [List.foldl_append]
 rfl
end L2
namespace L2
open PySem PySem.Spec PyProof.Rows
def bn6:TE:=fun _ H Q=>New H (.dK []) Q
theorem bi8 {X:Cx}{pos:Pos}:PE X (.Dict [] [] pos) bn6:=fun pins s σ H Q I h=>bh9 pins s σ H Q I (New.to h)
section
variable {σ:St} {H:Hp}{Q:VK}{QT:Bool→Hp→Prop}{td ty tv te:TE}{nn bb cc:St→Hp→Prop}{rr:VK}
theorem c48 (h:New H (.dK []) Q):bn6 σ H Q:=h
theorem i_tB (h:te σ H fun x H1=>∃ c,x=.bl c∧QT c H1):tB te σ H QT:=h
theorem bi9 (h:ty σ H fun y H1=>td σ H1 fun x H2=>∃ a o,x=.ref a∧DGet H2 a y o∧Q (.bl (!o.isSome)) H2):b91 ty td σ H Q:=h
theorem c49 (h:tv σ H fun v H1=>td σ H1 fun x H2=>ty σ H2 fun y H3=>∃ a H4,x=.ref a∧DPut H3 a y v H4∧nn σ H4):c13 td ty tv ⟨nn,rr,bb,cc⟩ σ H:=h
end
theorem at8 {H:Hp}:∀ {e:Ex}{v:V},e.tr.At H v []→e.At H v
 | .num i,v,h=>by
   obtain ⟨a,vs,rfl,e,h⟩:=at_tup0.mp h
   obtain ⟨v1,w1,rfl,h1,h⟩:=ats_cons0.mp h
   obtain ⟨v2,w2,rfl,h2,h⟩:=ats_cons0.mp h
   obtain rfl:=ats_nil0.mp h
   obtain rfl:=at_str0.mp h1
   obtain rfl:=at_int0.mp h2
   exact ⟨a,rfl,e⟩
 | .box i,v,h=>by
   obtain ⟨a,vs,rfl,e,h⟩:=at_tup0.mp h
   obtain ⟨v1,w1,rfl,h1,h⟩:=ats_cons0.mp h
   obtain ⟨v2,w2,rfl,h2,h⟩:=ats_cons0.mp h
   obtain rfl:=ats_nil0.mp h
   obtain rfl:=at_str0.mp h1
   obtain rfl:=at_str0.mp h2
   exact ⟨a,rfl,e⟩
 | .two k x y,v,h=>by
   obtain ⟨a,vs,rfl,e,h⟩:=at_tup0.mp h
   obtain ⟨v1,w1,rfl,h1,h⟩:=ats_cons0.mp h
   obtain ⟨v2,w2,rfl,h2,h⟩:=ats_cons0.mp h
   obtain ⟨v3,w3,rfl,h3,h⟩:=ats_cons0.mp h
   obtain rfl:=ats_nil0.mp h
   obtain rfl:=at_str0.mp h1
   exact ⟨a,v2,v3,rfl,e,at8 h2,at8 h3⟩
theorem b06 {H:Hp}:∀ {c:Cd}{v:V},c.tr.At H v []→c.At H v
 | .cmp k x y,v,h=>by
   obtain ⟨a,vs,rfl,e,h⟩:=at_tup0.mp h
   obtain ⟨v1,w1,rfl,h1,h⟩:=ats_cons0.mp h
   obtain ⟨v2,w2,rfl,h2,h⟩:=ats_cons0.mp h
   obtain ⟨v3,w3,rfl,h3,h⟩:=ats_cons0.mp h
   obtain rfl:=ats_nil0.mp h
   obtain rfl:=at_str0.mp h1
   exact ⟨a,v2,v3,rfl,e,at8 h2,at8 h3⟩
 | .nt c,v,h=>by
   obtain ⟨a,vs,rfl,e,h⟩:=at_tup0.mp h
   obtain ⟨v1,w1,rfl,h1,h⟩:=ats_cons0.mp h
   obtain ⟨v2,w2,rfl,h2,h⟩:=ats_cons0.mp h
   obtain rfl:=ats_nil0.mp h
   obtain rfl:=at_str0.mp h1
   exact ⟨a,v2,rfl,e,b06 h2⟩
 | .both x y,v,h=>by
   obtain ⟨a,vs,rfl,e,h⟩:=at_tup0.mp h
   obtain ⟨v1,w1,rfl,h1,h⟩:=ats_cons0.mp h
   obtain ⟨v2,w2,rfl,h2,h⟩:=ats_cons0.mp h
   obtain ⟨v3,w3,rfl,h3,h⟩:=ats_cons0.mp h
   obtain rfl:=ats_nil0.mp h
   obtain rfl:=at_str0.mp h1
   exact ⟨a,v2,v3,rfl,e,b06 h2,b06 h3⟩
end L2
namespace L2
end L2
namespace L2
open PySem PySem.Spec PyProof.Rows
section
variable {X:Cx}{σ:St} {H:Hp}{Q:VK}{QT:Bool→Hp→Prop}{td ty tv te:TE}{nn bb cc:St→Hp→Prop}{rr:VK}
end
section
variable {X:Cx}{elts:List Expr}{x1:Nat}{tpos:Pos}
end
end L2
namespace L2
open PySem
end L2
namespace L2
open PySem PySem.Spec PyProof.Rows
noncomputable instance trDec:DecidableEq Tr:=fun _ _=>Classical.propDecidable _
def ba8 (z:Int) (u:Value):Prop:=(∃ t,u=.int z t)∨∃ b:Bool,u=.bool b∧z=(if b=true then 1 else 0)
mutual
def Tr.In (h:Heap):Tr→Value→Prop
 | .non,u=>u=.none
 | .int z,u=>ba8 z u
 | .str x,u=>∃ t,u=.str x t
 | .tup ts,u=>∃ a us,u=.ref a∧h.IsTuple a us∧Tr.Ins h ts us.toList
 | .lst _,_=>False
def Tr.Ins (h:Heap):List Tr→List Value→Prop
 | [],us=>us=[]
 | t::ts,us=>∃ u r,us=u::r∧Tr.In h t u∧Tr.Ins h ts r
end
theorem Tr.Ins.len {h:Heap}:∀ {ts:List Tr}{us:List Value},Tr.Ins h ts us→us.length=ts.length
 | [],us,e=>by simp only [Tr.Ins] at e; rw [e]; rfl
 | t::ts,us,e=>by
   simp only [Tr.Ins] at e
   obtain ⟨u,r,rfl,_,e⟩:=e
   simp [e.len]
theorem Tr.Ins.get {h:Heap}:∀ {ts:List Tr}{us:List Value},Tr.Ins h ts us→∀ (j:Nat) (h1:j<us.length) (h2:j<ts.length),Tr.In h ts[j] us[j]
 | [],us,e,j,h1,h2=>absurd h2 (Nat.not_lt_zero _)
 | t::ts,us,e,j,h1,h2=>by
   simp only [Tr.Ins] at e
   obtain ⟨u,r,rfl,e1,e⟩:=e
   cases j with
   | zero=>exact e1
   | succ j=>exact e.get j (by simpa using h1) (by simpa using h2)
theorem ax1 {h:Heap}{a:Addr}{us vs:Array Value}(x:h.IsTuple a us) (y:h.IsTuple a vs):us=vs:=by
 obtain ⟨o,e,_,n,d⟩:=x
 obtain ⟨o',e',_,n',d'⟩:=y
 rw [e] at e'; cases e'
 rw [d] at d'
 injection d' with d1 _
mutual
theorem Tr.In.inj {h:Heap}:∀ {t r:Tr}{u:Value},Tr.In h t u→Tr.In h r u→t=r
 | .non,r,u,e,f=>by
   simp only [Tr.In] at e
   subst e
   cases r <;> simp [Tr.In,ba8] at f ⊢
 | .int z,r,u,e,f=>by
   simp only [Tr.In] at e
   rcases e with ⟨t,rfl⟩ | ⟨b,rfl,rfl⟩
   · cases r <;> simp [Tr.In,ba8] at f ⊢
     exact f
   · cases r <;> simp [Tr.In,ba8] at f ⊢
     exact f.symm
 | .str x,r,u,e,f=>by
   simp only [Tr.In] at e
   obtain ⟨t,rfl⟩:=e
   cases r <;> simp [Tr.In,ba8] at f ⊢
   exact f
 | .lst _,r,u,e,f=>e.elim
 | .tup ts,.tup rs,u,e,f=>by
   simp only [Tr.In] at e f
   obtain ⟨a,us,rfl,e2,e3⟩:=e
   obtain ⟨b,vs,hb,f2,f3⟩:=f
   cases hb
   cases ax1 e2 f2
   rw [Tr.Ins.inj e3 f3]
 | .tup ts,.non,u,e,f=>by
   simp only [Tr.In] at e f
   obtain ⟨a,us,rfl,e2,e3⟩:=e
   cases f
 | .tup ts,.int _,u,e,f=>by
   simp only [Tr.In] at e f
   obtain ⟨a,us,rfl,e2,e3⟩:=e
   rcases f with ⟨_,f⟩ | ⟨_,f,_⟩ <;> cases f
 | .tup ts,.str _,u,e,f=>by
   simp only [Tr.In] at e f
   obtain ⟨a,us,rfl,e2,e3⟩:=e
   obtain ⟨_,f⟩:=f
   cases f
 | .tup ts,.lst _,u,e,f=>f.elim
theorem Tr.Ins.inj {h:Heap}:∀ {ts rs:List Tr}{us:List Value},Tr.Ins h ts us→Tr.Ins h rs us→ts=rs
 | [],rs,us,e,f=>by
   simp only [Tr.Ins] at e
   subst e
   cases rs with
   | nil=>rfl
   | cons r rs=>simp [Tr.Ins] at f
 | t::ts,rs,us,e,f=>by
   simp only [Tr.Ins] at e
   obtain ⟨u,r,rfl,e1,e2⟩:=e
   cases rs with
   | nil=>simp [Tr.Ins] at f
   | cons q qs =>
     simp only [Tr.Ins] at f
     obtain ⟨u',r',hh,f1,f2⟩:=f
     cases hh
     rw [e1.inj f1,Tr.Ins.inj e2 f2]
end
theorem ba9 {H:Hp}{ts:List Tr}{v:V}{h:(Tr.lst ts).At H v []}:False:=by
 simp only [Tr.At] at h
 obtain ⟨a,vs,_,rfl,e1,c1,e⟩:=h
 simp at e
section
variable {X:Cx}{pins:List (Addr×Obj)}{σ:St} {H:Hp}{s:Shared}
end
theorem bb0 {n:Nat}{e:Nat→Bool}:(List.range n).all e=true↔∀ j,j<n→e j=true:=by simp [List.all_eq_true]
theorem c50 {ts rs:List Tr}:((List.range (min ts.length rs.length)).all (fun j=>decide (ts.getD j .non=rs.getD j .non)) && ts.length == rs.length)=decide (ts=rs):=by
 rw [Bool.eq_iff_iff,Bool.and_eq_true,bb0,decide_eq_true_iff,beq_iff_eq]
 constructor
 · rintro ⟨h1,h2⟩
   refine List.ext_getElem h2 fun j h3 h4=>?_
   have:=of_decide_eq_true (h1 j (by omega))
   simpa [h3,h4] using this
 · rintro rfl
   exact ⟨fun j _=>decide_eq_true rfl,rfl⟩
section
variable {s:Shared}
mutual
theorem Tr.In.eqAt:∀ {t r:Tr}{A:Around}{u z:Value},Tr.In s.heap t u→Tr.In s.heap r z→A.units+t.h+r.h<cLine→SeqAt.EqAt A s u z (decide (t=r))
 | .non,r,A,u,z,h1,h2,hu=>by
   simp only [Tr.In] at h1
   subst h1
   cases r with
   | non =>
     simp only [Tr.In] at h2
     subst h2
     rw [decide_eq_true rfl]
     exact SeqAt.EqAt.same _
   | int i =>
     rw [decide_eq_false (by simp)]
     rcases h2 with ⟨t2,rfl⟩ | ⟨b2,rfl,rfl⟩
     · exact SeqAt.EqAt.none_int _ _
     · exact SeqAt.EqAt.none_bool _
   | str i =>
     obtain ⟨t2,rfl⟩:=h2
     rw [decide_eq_false (by simp)]
     exact SeqAt.EqAt.none_str _ _
   | tup rs =>
     simp only [Tr.In] at h2
     obtain ⟨a,us,rfl,p,_⟩:=h2
     rw [decide_eq_false (by simp)]
     exact SeqAt.EqAt.none_tuple p (by omega)
   | lst rs=>exact h2.elim
 | .int i,r,A,u,z,h1,h2,hu=>by
   cases r with
   | non =>
     simp only [Tr.In] at h2
     subst h2
     rw [decide_eq_false (by simp)]
     rcases h1 with ⟨t1,rfl⟩ | ⟨b1,rfl,rfl⟩
     · exact SeqAt.EqAt.int_none _ _
     · exact SeqAt.EqAt.bool_none _
   | int j =>
     rw [show decide (Tr.int i=Tr.int j)=(i == j) from Bool.eq_iff_iff.mpr (by simp)]
     rcases h1 with ⟨t1,rfl⟩ | ⟨b1,rfl,rfl⟩
     · rcases h2 with ⟨t2,rfl⟩ | ⟨b2,rfl,rfl⟩
       · exact SeqAt.EqAt.int_int _ _ _ _
       · exact SeqAt.EqAt.int_bool _ _ _
     · rcases h2 with ⟨t2,rfl⟩ | ⟨b2,rfl,rfl⟩
       · exact SeqAt.EqAt.bool_int _ _ _
       · have:=SeqAt.EqAt.bool_bool (A:=A) (s:=s) b1 b2
         cases b1 <;> cases b2 <;> exact this
   | str j =>
     obtain ⟨t2,rfl⟩:=h2
     rw [decide_eq_false (by simp)]
     rcases h1 with ⟨t1,rfl⟩ | ⟨b1,rfl,rfl⟩
     · exact SeqAt.EqAt.int_str _ _ _ _
     · exact SeqAt.EqAt.bool_str _ _ _
   | tup rs =>
     simp only [Tr.In] at h2
     obtain ⟨a,us,rfl,p,_⟩:=h2
     rw [decide_eq_false (by simp)]
     rcases h1 with ⟨t1,rfl⟩ | ⟨b1,rfl,rfl⟩
     · exact SeqAt.EqAt.int_tuple _ _ p (by omega)
     · exact SeqAt.EqAt.bool_tuple _ p (by omega)
   | lst rs=>exact h2.elim
 | .str i,r,A,u,z,h1,h2,hu=>by
   obtain ⟨t1,rfl⟩:=h1
   cases r with
   | non =>
     simp only [Tr.In] at h2
     subst h2
     rw [decide_eq_false (by simp)]
     exact SeqAt.EqAt.str_none _ _
   | int j =>
     rw [decide_eq_false (by simp)]
     rcases h2 with ⟨t2,rfl⟩ | ⟨b2,rfl,rfl⟩
     · exact SeqAt.EqAt.str_int _ _ _ _
     · exact SeqAt.EqAt.str_bool _ _ _
   | str j =>
     obtain ⟨t2,rfl⟩:=h2
     have:=SeqAt.EqAt.str_str (A:=A) (s:=s) i t1 j t2
     rw [show (i == j)=decide (Tr.str i=Tr.str j) from Bool.eq_iff_iff.mpr (by simp)] at this
     exact this
   | tup rs =>
     simp only [Tr.In] at h2
     obtain ⟨a,us,rfl,p,_⟩:=h2
     rw [decide_eq_false (by simp)]
     exact SeqAt.EqAt.str_tuple _ _ p (by omega)
   | lst rs=>exact h2.elim
 | .lst _,r,A,u,z,h1,h2,hu=>h1.elim
 | .tup ts,r,A,u,z,h1,h2,hu=>by
   have h1':=h1
   simp only [Tr.In] at h1
   obtain ⟨a,us,rfl,p1,c1⟩:=h1
   cases r with
   | non =>
     simp only [Tr.In] at h2
     subst h2
     rw [decide_eq_false (by simp)]
     exact SeqAt.EqAt.tuple_none p1 (by omega)
   | int j =>
     rw [decide_eq_false (by simp)]
     rcases h2 with ⟨t2,rfl⟩ | ⟨b2,rfl,rfl⟩
     · exact SeqAt.EqAt.tuple_int _ _ p1 (by omega)
     · exact SeqAt.EqAt.tuple_bool _ p1 (by omega)
   | str j =>
     obtain ⟨t2,rfl⟩:=h2
     rw [decide_eq_false (by simp)]
     exact SeqAt.EqAt.tuple_str _ _ p1 (by omega)
   | lst rs=>exact h2.elim
   | tup rs =>
     have h2':=h2
     simp only [Tr.In] at h2
     obtain ⟨b,vs,rfl,p2,c2⟩:=h2
     by_cases hab:a=b
     · subst hab
       rw [decide_eq_true (h1'.inj h2')]
       exact SeqAt.EqAt.same _
     refine SeqAt.EqAt.of_refs hab ?_
     simp only [Tr.h] at hu
     have l1:=c1.len
     have l2:=c2.len
     simp only [Array.length_toList] at l1 l2
     have:=SeqAt.RcAt.tuples (A:=A) (s:=s) (e:=fun j=>decide (ts.getD j .non=rs.getD j .non)) p1 p2 (by omega) (fun j h1 h2=>by
      have:=Tr.Ins.eqAts (A:=A.in1) c1 c2 (by rw [ak8]; omega) j (by simpa using h1) (by simpa using h2)
      simpa using this)
     rw [l1,l2,c50] at this
     rw [show decide (Tr.tup ts=Tr.tup rs)=decide (ts=rs) from Bool.eq_iff_iff.mpr (by simp)]
     exact this
theorem Tr.Ins.eqAts:∀ {ts rs:List Tr}{A:Around}{us zs:List Value},Tr.Ins s.heap ts us→Tr.Ins s.heap rs zs→A.units+Tr.hs ts+Tr.hs rs<cLine →
 ∀ (j:Nat) (h1:j<us.length) (h2:j<zs.length),SeqAt.EqAt A s us[j] zs[j] (decide (ts.getD j .non=rs.getD j .non))
 | [],rs,A,us,zs,c1,c2,hu,j,h1,h2=>by
   simp only [Tr.Ins] at c1
   subst c1
   exact absurd h1 (by simp)
 | t::ts,[],A,us,zs,c1,c2,hu,j,h1,h2=>by
   simp only [Tr.Ins] at c2
   subst c2
   exact absurd h2 (by simp)
 | t::ts,r::rs,A,us,zs,c1,c2,hu,j,h1,h2=>by
   simp only [Tr.Ins] at c1 c2
   obtain ⟨u,us,rfl,a1,b1⟩:=c1
   obtain ⟨z,zs,rfl,a2,b2⟩:=c2
   simp only [Tr.hs] at hu
   cases j with
   | zero =>
     have:=a1.eqAt a2 (A:=A) (by omega)
     simpa using this
   | succ j =>
     have:=b1.eqAts b2 (A:=A) (by omega) j (by simpa using h1) (by simpa using h2)
     simpa using this
end
end
section
variable {prog:Program}{w:World}{E:Value→Shared→Prop}
end
section
variable {prog:Program}{w:World}{E:Value→Shared→Prop}
end
section
variable {prog:Program}{w:World}{E:Value→Shared→Prop}{A:Around}{s:Shared}{d:Addr}{o:Obj}{es:Array DictEntry}{ep:Nat}{ts:List Tr}{t:Tr}{u:Value}
end
section
variable {X:Cx}{pins:List (Addr×Obj)}{σ:St} {H:Hp}{s:Shared}{a:Addr}{t:Tr}{y v:V}{u r:Value}{A:Around}{E:Value→Shared→Prop}{kvs:List (Tr×V)}{m:List (Tr×V×V)}
end
section
variable {prog:Program}{w:World}{A:Around}{E:Value→Shared→Prop}{s:Shared}{d it:Addr}{es:Array DictEntry}{ep i:Nat}
end
theorem bb1:∀ {xs:List V}{us:List Value},xs.length=us.length→(∀ (j:Nat) x u,xs[j]?=some x→us[j]?=some u→RelV x u)→Vals xs us
 | [],[],_,_=>.nil
 | x::xs,u::us,hl,h=>.cons (h 0 x u rfl rfl) (bb1 (by simpa using hl) fun j y z hy hz=>h (j+1) y z (by simpa using hy) (by simpa using hz))
 | [],_::_,hl,_=>by simp at hl
 | _::_,[],hl,_=>by simp at hl
section
variable {X:Cx}{pins:List (Addr×Obj)}{σ:St} {H:Hp}{s:Shared}{a:Addr}{t:Tr}{y v z:V}{u r:Value}{A:Around}{E:Value→Shared→Prop}{kvs:List (Tr×V)}{m:List (Tr×V×V)}
end
theorem bt6 {H H':Hp}{t:Tr}{v:V}(h:t.At H v []) (k:Tups H H'):t.At H' v []:=h.mono ⟨k,fun _ m=>absurd m (by simp)⟩
section
variable {X:Cx}{o i e f value:Expr}{pos pos' apos cpos:Pos}{td ty tv tx:TE}{P:Params}
end
section
variable {X:Cx}
theorem c51 {ts:List Tr}{t:Tr}(h:t∈ts):t.h≤Tr.hs ts:=by
 induction ts with
 | nil=>cases h
 | cons x xs ih =>
   simp only [Tr.hs]
   rcases List.mem_cons.mp h with rfl | h
   · omega
   · have:=ih h; omega
theorem bb2 {h:Heap}{ts:List Tr}{us:List Value}(x:Tr.Ins h ts us) {z:Value}(hz:z∈us):∃ t∈ts,Tr.In h t z:=by
 obtain ⟨j,hj,rfl⟩:=List.mem_iff_getElem.mp hz
 have hj':j<ts.length:=by rw [← x.len]; exact hj
 exact ⟨ts[j],List.getElem_mem hj',x.get j hj hj'⟩
end
section
variable {P:Params}{σ:St} {H:Hp}{Q:VK}{td ty tx tv:TE}{nn bb cc:St→Hp→Prop}{rr:VK}
end
def bn7 (K:PySem.W.Frag):R2:=fun x y H Q=>∃ a b xs,x=.ref a∧y=.ref b∧SqL K H a xs∧SqL K H b []∧Q (.bl (!xs.isEmpty)) H
section
variable {X:Cx}
theorem af8 (K:PySem.W.Frag) (hu:X.A.units+64<cLine) (hK:X.K=K:=by rfl):OpR X (compareOp .NotEq) (bn7 K):=by
 subst hK
 intro pins s σ H x y v u Q I rx ry h
 obtain ⟨a,b,xs,rfl,rfl,h1,h2,q⟩:=h
 cases rx
 cases ry
 obtain ⟨is1,q1,p1,_⟩:=I.list h1
 obtain ⟨is2,q2,p2,_⟩:=I.list h2
 cases q2
 cases q1 with
 | nil =>
   have:=SeqAt.RcNeAt.lists (A:=X.A) (s:=s) (e:=fun _=>true) p1.isList p2.isList rfl (by omega) (fun j h1 _=>absurd h1 (by simp))
   exact this X.prog X.w X.xe (EP X pins σ Q) ⟨.bl false,H,I,rfl,q⟩
 | cons r1 r2 =>
   have:=SeqAt.RcNeAt.lists_lengths (A:=X.A) (s:=s) p1.isList p2.isList (by simp) (by omega)
   exact this X.prog X.w X.xe (EP X pins σ Q) ⟨.bl true,H,I,rfl,q⟩
end
section
variable {K:PySem.W.Frag}{H:Hp}{Q:VK}
theorem ao6 {a b:Addr}{xs:List V}(h1:SqL K H a xs) (h2:SqL K H b []) (h:Q (.bl (!xs.isEmpty)) H):bn7 K (.ref a) (.ref b) H Q:=⟨a,b,xs,rfl,rfl,h1,h2,h⟩
end
section
variable {X:Cx}{o e value:Expr}{f:Str}{pos pos':Pos}{ta tv:TE}
theorem ax2 (K:PySem.W.Frag) (he:PE X e ta) (hb:attributeBase e f X.env (eval e X.env)=eval e X.env) (hK:X.K=K:=by rfl):PE X (.Attribute e f pos) (tFld K ta f):=hK ▸ bz8 he hb
theorem ao7 (K:PySem.W.Frag) (ha:PE X o ta) (hv:PE X value tv) (hs:swapsWith value (some (.Attribute o f pos')) pos.line X.env=pure false) (hK:X.K=K:=by rfl):PS X (.Assign [.Attribute o f pos'] value pos) (sFld K ta tv f):=hK ▸ bz9 ha hv hs
end
section
variable {K:PySem.W.Frag}{σ:St} {H:Hp}{Q:VK}{ta tv:TE}{t:TA}{f m:Str}{C:Addr}{sp:Sp}{dvs:List V}{E:XK}{nn bb cc:St→Hp→Prop}{rr:VK}
theorem cd9 (h:ta σ H fun x H1=>∃ a C dx fs v,x=.ref a∧H1 a=some (.ins C dx fs)∧Cls K C∧NoAttr K C f∧fs.lookup f=some v∧Q v H1):tFld K ta f σ H Q:=h
theorem c52 (h:tv σ H fun y H1=>ta σ H1 fun x H2=>∃ a C dx fs,x=.ref a∧H2 a=some (.ins C dx fs)∧Cls K C∧NoAttr K C f∧fs.length<1000∧nn σ (upd H2 a (.ins C dx (putF f y fs)))):sFld K ta tv f ⟨nn,rr,bb,cc⟩ σ H:=h
theorem c53 (h:ta σ H fun x H1=>∃ a dx fs,x=.ref a∧H1 a=some (.ins C dx fs)∧fs.lookup m=none∧t σ H1 fun vs H2=>sp (x::(vs++dvs)) H2 Q E):c01 C m sp dvs E ta t σ H Q:=h
theorem c54 (h:t σ H fun vs H1=>∀ x dx,H1 x=none→H1 dx=none→dx≠x→sp (.ref x::(vs++dvs)) (upd (upd H1 dx (.own x)) x (.ins C dx [])) (fun v H2=>v=.non∧Q (.ref x) H2) E):c02 C sp dvs E t σ H Q:=h
end
inductive Tw where
 | sc (v:V)
 | tup (xs:List Tw)
 | lst (xs:List Tw)
def Scal:V→Prop
 | .non | .int _ | .str _ | .bl _=>True
 | _=>False
mutual
def Tw.At (H:Hp):Tw→V→List Addr→Prop
 | .sc x,v,fs=>v=x∧Scal x∧fs=[]
 | .tup xs,v,fs=>∃ a vs,v=.ref a∧H a=some (.tup vs)∧Tw.Ats H xs vs fs
 | .lst xs,v,fs=>∃ a vs gs,v=.ref a∧H a=some (.lst vs)∧Tw.Ats H xs vs gs∧fs=a::gs
def Tw.Ats (H:Hp):List Tw→List V→List Addr→Prop
 | [],vs,fs=>vs=[]∧fs=[]
 | x::xs,vs,fs=>∃ v ws f g,vs=v::ws∧fs=f++g∧Tw.At H x v f∧Tw.Ats H xs ws g
end
section
variable {X:Cx}{pins:List (Addr×Obj)}{σ:St} {H:Hp}{s:Shared}
end
section
variable {X:Cx}
end
theorem b07 {K:PySem.W.Frag}{a:Addr}{xs:List V}{g:TG}{tb:TS}{D:Ends}{σ:St} {H:Hp}(Pv:Nat→St→Hp→Prop) (h0:Pv 0 σ H) (hl:∀ i σ H,i≤xs.length→Pv i σ H→SqL K H a xs)
 (hs:∀ i x σ H q H2,xs[i]?=some x→Pv i σ H→Same H H2→H2 q=some (.tup [.int (i:Nat),x])→g (.ref q) σ H2 fun σ1 H1=>tb { D with nx:=Pv (i+1),ct:=Pv (i+1),bk:=D.nx } σ1 H1)
 (hd:∀ σ H,Pv xs.length σ H→D.nx σ H):b98 (Ite K a) g tb D σ H:=by
 refine ⟨fun i m σ H=>m=xs.length - i∧i≤xs.length∧Pv i σ H,⟨xs.length,by simp,Nat.zero_le _,h0⟩,?_⟩
 rintro i m σ' H' ⟨rfl,hi,p⟩
 have hq:=hl i σ' H' hi p
 by_cases hlt:i<xs.length
 · refine .inr ⟨⟨xs,xs[i],hq,by simp [hlt]⟩,Pv (i+1),fun σ2 H2 p'=>⟨xs.length - (i+1),by omega,rfl,hlt,p'⟩,fun v H2 y=>?_⟩
   obtain ⟨q,x,rfl,hn,sm,hT,hx⟩:=y
   exact hs i x σ' H' q H2 (hx xs hq) p sm hT
 · have e:i=xs.length:=by omega
   subst e
   exact .inl ⟨⟨xs,hq,Nat.le_refl _⟩,hd σ' H' p⟩
section
variable {K:PySem.W.Frag}{H:Hp}{Q:VK}
end
section
variable {X:Cx}{tg:Expr}
end
section
variable {σ:St} {H:Hp}{R:It→Hp→Prop}{ts:TA}
end
section
variable {X:Cx}
end
section
variable {K:PySem.W.Frag}{H:Hp}{Q:VK}
end
section
variable {X:Cx}{e st:Expr}{te ts:TE}{p2 pos:Pos}
end
section
variable {prog:Program}{w:World}{z TI TO i1 i2 i3 l1 l2 l3:Addr}{xs ys us:Array Value}{st1 st2 st3:Nat→Heap→Prop}
end
section
variable {X:Cx}{elts:List Expr}{x1:Nat}{tpos:Pos}
end
section
variable {X:Cx}{k v:Expr}{pos:Pos}{tk tv:TE}{P:Params}
end
def Each {α β:Type}(R:α→β→Prop) (vs:List α) (xs:List β):Prop:=vs.length=xs.length∧∀ (j:Nat) (v:α) (x:β),vs[j]?=some v→xs[j]?=some x→R v x
section
variable {α β:Type}{R:α→β→Prop}{vs:List α}{xs:List β}
theorem Each.nil:Each R ([]:List α) ([]:List β):=⟨rfl,fun j v x h=>by simp at h⟩
theorem Each.mono {R':α→β→Prop}(h:Each R vs xs) (k:∀ v x,R v x→R' v x):Each R' vs xs:=⟨h.1,fun j v x h1 h2=>k v x (h.2 j v x h1 h2)⟩
theorem Each.append {ws:List α}{ys:List β}(h:Each R vs xs) (k:Each R ws ys):Each R (vs++ws) (xs++ys):=by
 refine ⟨by simp [h.1,k.1],fun j v x h1 h2=>?_⟩
 by_cases hj:j<vs.length
 · rw [List.getElem?_append_left hj] at h1
   rw [List.getElem?_append_left (by rw [← h.1]; exact hj)] at h2
   exact h.2 j v x h1 h2
 · rw [List.getElem?_append_right (by omega)] at h1
   rw [List.getElem?_append_right (by rw [← h.1]; omega),←h.1] at h2
   exact k.2 _ v x h1 h2
theorem Each.snoc {v:α}{x:β}(h:Each R vs xs) (k:R v x):Each R (vs++[v]) (xs++[x]):=h.append ⟨rfl,fun j w y h1 h2=>by
 cases j with
 | zero=>cases h1; cases h2; exact k
 | succ j=>simp at h1⟩
theorem Each.get {j:Nat}{x:β}(h:Each R vs xs) (k:xs[j]?=some x):∃ v,vs[j]?=some v∧R v x:=by
 have hj:j<vs.length:=by rw [h.1]; exact (List.getElem?_eq_some_iff.mp k).1
 exact ⟨vs[j],List.getElem?_eq_getElem hj,h.2 j _ x (List.getElem?_eq_getElem hj) k⟩
end
abbrev RRow:=List Str×Nat
abbrev ce0:=Bool×List RRow
section
variable {f:Nat→Option Nat}{rep rk:Nat→Nat}
end
def hF (d:Addr):List (Str×V):=putF "heads" (.ref d) []
abbrev Pr:=Nat×Nat
section
variable {X:Cx}
end
section
variable {H:Hp}{Q:VK}
end
def TupK (K:PySem.W.Frag) (a:Addr) (xs:List V):Prop:=∃ (o:Obj) (its:Array Value) (n:Nat),K.lookup a=some o∧o.cls=.type "tuple"∧o.data=.seq its n∧its.size≤sizeLine∧Vals xs its.toList
theorem TupK.sq {K:PySem.W.Frag}{a:Addr}{xs:List V}(h:TupK K a xs) (H:Hp):SqT K H a xs:=.inr h
mutual
def Tr.AtK (K:PySem.W.Frag) (H:Hp):Tr→V→Prop
 | .non,v=>v=.non
 | .int i,v=>v=.int i
 | .str s,v=>v=.str s
 | .tup xs,v=>∃ a vs,v=.ref a∧(H a=some (.tup vs)∨TupK K a vs)∧Tr.AtsK K H xs vs
 | .lst _,_=>False
def Tr.AtsK (K:PySem.W.Frag) (H:Hp):List Tr→List V→Prop
 | [],vs=>vs=[]
 | x::xs,vs=>∃ v ws,vs=v::ws∧Tr.AtK K H x v∧Tr.AtsK K H xs ws
end
mutual
theorem Tr.At.toK (K:PySem.W.Frag) {H:Hp}:∀ {x:Tr}{v:V},x.At H v []→x.AtK K H v
 | .non,_,h=>by simp only [Tr.At] at h; simp only [Tr.AtK]; exact h.1
 | .int _,_,h=>by simp only [Tr.At] at h; simp only [Tr.AtK]; exact h.1
 | .str _,_,h=>by simp only [Tr.At] at h; simp only [Tr.AtK]; exact h.1
 | .tup xs,v,h=>by
   simp only [Tr.At] at h
   simp only [Tr.AtK]
   obtain ⟨a,vs,e,g,r⟩:=h
   exact ⟨a,vs,e,.inl g,Tr.Ats.toK K r⟩
 | .lst xs,v,h=>(ba9 (h:=h)).elim
theorem Tr.Ats.toK (K:PySem.W.Frag) {H:Hp}:∀ {xs:List Tr}{vs:List V},Tr.Ats H xs vs []→Tr.AtsK K H xs vs
 | [],_,h=>by simp only [Tr.Ats] at h; simp only [Tr.AtsK]; exact h.1
 | x::xs,vs,h=>by
   simp only [Tr.Ats] at h
   simp only [Tr.AtsK]
   obtain ⟨v,ws,f,g,e,e2,a,b⟩:=h
   have hf:f=[]∧g=[]:=by simpa using e2.symm
   obtain ⟨rfl,rfl⟩:=hf
   exact ⟨v,ws,e,Tr.At.toK K a,Tr.Ats.toK K b⟩
end
section
variable {X:Cx}{pins:List (Addr×Obj)}{σ:St} {H:Hp}{s:Shared}
mutual
theorem Tr.AtK.isIn (I:Inv X pins σ H s):∀ {t:Tr}{v:V}{u:Value},t.AtK X.K H v→RelV v u→Tr.In s.heap t u
 | .non,v,u,h,r=>by
   simp only [Tr.AtK] at h
   subst h
   cases r
   exact rfl
 | .int z,v,u,h,r=>by
   simp only [Tr.AtK] at h
   subst h
   obtain ⟨t,rfl⟩:=r
   exact .inl ⟨t,rfl⟩
 | .str z,v,u,h,r=>by
   simp only [Tr.AtK] at h
   subst h
   obtain ⟨t,rfl⟩:=r
   exact ⟨t,rfl⟩
 | .lst _,v,u,h,r=>by simp only [Tr.AtK] at h
 | .tup ts,v,u,h,r=>by
   simp only [Tr.AtK] at h
   obtain ⟨a,vs,rfl,e1,c1⟩:=h
   cases r
   obtain ⟨is1,q1,p1,_⟩:=I.tuple (show SqT X.K H a vs from e1.elim SqT.of (fun z=>z.sq H))
   simp only [Tr.In]
   exact ⟨a,is1.toArray,rfl,p1,by simpa using Tr.AtsK.isIns I c1 q1⟩
theorem Tr.AtsK.isIns (I:Inv X pins σ H s):∀ {ts:List Tr}{vs:List V}{us:List Value},Tr.AtsK X.K H ts vs→Vals vs us→Tr.Ins s.heap ts us
 | [],vs,us,c,q=>by
   simp only [Tr.AtsK] at c
   subst c
   cases q
   exact rfl
 | t::ts,vs,us,c,q=>by
   simp only [Tr.AtsK] at c
   obtain ⟨v,vs,rfl,a1,b1⟩:=c
   cases q with
   | cons r1 r2 =>
     simp only [Tr.Ins]
     exact ⟨_,_,rfl,Tr.AtK.isIn I a1 r1,Tr.AtsK.isIns I b1 r2⟩
end
end
section
variable {X:Cx}{pins:List (Addr×Obj)}{σ:St} {H:Hp}{s:Shared}{a:Addr}{t:Tr}{y v z:V}{u r:Value}{A:Around}{E:Value→Shared→Prop}{kvs:List (Tr×V)}{m:List (Tr×V×V)}
end
section
variable {X:Cx}{o i e f value:Expr}{pos pos' apos cpos:Pos}{td ty tv tx:TE}{P:Params}
end
section
variable {K:PySem.W.Frag}{P:Params}{σ:St} {H:Hp}{Q:VK}{td ty tx tv:TE}
end
section
variable {prog:Program}{w:World}{A:Around}{E:Value→Shared→Prop}{s:Shared}
end
section
variable {X:Cx}{elts:List Expr}{x1:Nat}{tpos:Pos}
end
theorem bj0 {H:Hp}{Q:VK}{l:Addr}{y:V}{xs:List V}(h1:H l=some (.lst (y::xs))) (h:Q y (upd H l (.lst xs))):bm8 (.ref l) [.int 0] H Q:=⟨l,y::xs,0,0,y,rfl,rfl,h1,by decide,by decide,by simp [seqIndex?],rfl,h⟩
section
variable {prog:Program}{w:World}{A:Around}{E:Value→Shared→Prop}{s:Shared}{d:Addr}{es:Array DictEntry}{ep:Nat}
end
section
variable {prog:Program}{w:World}{A:Around}{E:Value→Shared→Prop}{s:Shared}{d it:Addr}{es:Array DictEntry}{ep i:Nat}
end
section
variable {X:Cx}{P:Params}{o:Expr}{td:TE}{apos cpos:Pos}
end
section
variable {prog:Program}{w:World}{A:Around}{E:Value→Shared→Prop}{s:Shared}{d v:Addr}{es:Array DictEntry}{ep:Nat}
end
section
variable {X:Cx}{P:Params}
end
open AutoSeq1 (wpAny_loadPart')
section
variable {X:Cx}{elts:List Expr}{x1:Nat}{tpos:Pos}
end
section
variable {prog:Program}{w:World}
variable {A:Around}{E:Value→Shared→Prop}{s:Shared}
end
section
variable {prog:Program}{w:World}{A:Around}{R:Result→Shared→Prop}{I:Addr}{fp wr:List Addr}{G:Array GenState→Array GenState→Prop}{n:Nat}{P:Nat→Value→Prop}{St:Nat→Shared→Prop}
end
section
variable {prog:Program}{w:World}{A:Around}{E:Value→Shared→Prop}{s:Shared}
end
section
variable {M:Model}{A:Around}{E:Value→Shared→Prop}{s:Shared}
end
section
variable {prog:Program}{w:World}{A:Around}{E:Value→Shared→Prop}{s:Shared}{S it:Addr}{o:Obj}{es:Array (Int×Value)}{ep:Nat}{t:SetTable}
end
section
variable {prog:Program}{w:World}{A:Around}{E:Value→Shared→Prop}{s:Shared}{S it tp:Addr}{o:Obj}{es:Array (Int×Value)}{ep i:Nat}{t:SetTable}{first:Value}
end
section
variable {prog:Program}{w:World}{A:Around}{E:Value→Shared→Prop}{s:Shared}{S it tp:Addr}{o:Obj}{es:Array (Int×Value)}{ep i:Nat}{t:SetTable}{first:Value}
end
section
variable {prog:Program}{w:World}{A:Around}{E:Value→Shared→Prop}{s:Shared}{S it tp:Addr}{o:Obj}{es:Array (Int×Value)}{ep i:Nat}{t:SetTable}{first:Value}
end
section
variable {prog:Program}{w:World}{A:Around}{E:Value→Shared→Prop}{s:Shared}{S:Addr}{es:Array (Int×Value)}
end
section
variable {prog:Program}{w:World}{A:Around}{E:Value→Shared→Prop}{s:Shared}{S:Addr}{es:Array (Int×Value)}
end
section
variable {X:Cx}{P:Program}{w:World}
end
section
variable {X:Cx}
end
section
variable {rs:List ce0}{many:Nat}{p:Pr}
variable {N k:Nat}{dv:Pr→Option Nat}
end
section
variable {prog:Program}{w:World}{A:Around}{E:Value→Shared→Prop}{s:Shared}
end
section
variable {X:Cx}{P:Params}
end
section
variable {prog:Program}{w:World}{A:Around}{R:Result→Shared→Prop}{J:Addr}{fp wr:List Addr}{n:Nat}{P:Nat→Value→Prop}{St:Nat→Heap→Prop}
end
section
variable {prog:Program}{w:World}{A:Around}{E:Value→Shared→Prop}{s:Shared}
end
section
variable {X:Cx}{e d:Expr}{t tk:TA}{p kp pos:Pos}
end
section
variable {X:Cx}
end
mutual
def toW:Tr→Tw
 | .non=>.sc .non
 | .int i=>.sc (.int i)
 | .str s=>.sc (.str s)
 | .tup ts=>.tup (toWs ts)
 | .lst ts=>.lst (toWs ts)
def toWs:List Tr→List Tw
 | []=>[]
 | t::ts=>toW t::toWs ts
end
mutual
theorem at9 {H:Hp}:∀ {t:Tr}{v:V}{fs:List Addr},t.At H v fs→(toW t).At H v fs
 | .non,v,fs,h=>by
   simp only [Tr.At] at h
   simp only [toW,Tw.At]
   exact ⟨h.1,True.intro,h.2⟩
 | .int i,v,fs,h=>by
   simp only [Tr.At] at h
   simp only [toW,Tw.At]
   exact ⟨h.1,True.intro,h.2⟩
 | .str s,v,fs,h=>by
   simp only [Tr.At] at h
   simp only [toW,Tw.At]
   exact ⟨h.1,True.intro,h.2⟩
 | .tup ts,v,fs,h=>by
   simp only [Tr.At] at h
   simp only [toW,Tw.At]
   obtain ⟨a,vs,e,g,r⟩:=h
   exact ⟨a,vs,e,g,ax3 r⟩
 | .lst ts,v,fs,h=>by
   simp only [Tr.At] at h
   simp only [toW,Tw.At]
   obtain ⟨a,vs,gs,e,g,r,f⟩:=h
   exact ⟨a,vs,gs,e,g,ax3 r,f⟩
theorem ax3 {H:Hp}:∀ {ts:List Tr}{vs:List V}{fs:List Addr},Tr.Ats H ts vs fs→Tw.Ats H (toWs ts) vs fs
 | [],vs,fs,h=>by
   simp only [Tr.Ats] at h
   simp only [toWs,Tw.Ats]
   exact h
 | t::ts,vs,fs,h=>by
   simp only [Tr.Ats] at h
   simp only [toWs,Tw.Ats]
   obtain ⟨v,ws,f,g,e1,e2,a,b⟩:=h
   exact ⟨v,ws,f,g,e1,e2,at9 a,ax3 b⟩
end
section
variable {P:Program}{w:World}{K:PySem.W.Frag}{mg:Str→Option Value}{base:Heap}
end
section
variable {σ:St} {H:Hp}{D:Ends}{C:Addr}{E:XK}{t:TA}{n:Nat}{tb:XK→TS}{ts:TS}
end
section
variable {X:Cx}{k k':Nat}{f f' C C':Addr}{fd fd':FuncData}{ps ps':List Str}{sp sp':Sp}{m:Str}{pos apos:Pos}{e o:Expr}{es:List Expr}{ta:TE}{t:TA}
end
section
variable {σ:St} {H:Hp}{Q:VK}{ta:TE}{t:TA}{m:Str}{C1 C2:Addr}{sp1 sp2:Sp}
end
section
variable {X:Cx}{tg:Expr}
end
section
variable {σ:St} {H:Hp}{R:It→Hp→Prop}{ts:TA}
end
end L2
namespace L2
end L2
namespace L2
open PySem PySem.Spec PyProof.Rows
section
variable {prog:Program}{w:World}{z TI TO i1 i2 l1 l2:Addr}{xs ys:Array Value}{st1 st2:Nat→Heap→Prop}
end
section
variable {X:Cx}{elts:List Expr}{x1:Nat}{tpos:Pos}
end
section
variable {prog:Program}{w:World}
variable {A:Around}{E:Value→Shared→Prop}{s:Shared}
end
section
variable {prog:Program}{w:World}{A:Around}{R:Result→Shared→Prop}{I:Addr}{fp wr:List Addr}{G:Array GenState→Array GenState→Prop}{n:Nat}{P:Nat→Value→Prop}{St:Nat→Shared→Prop}
end
section
variable {prog:Program}{w:World}{A:Around}{E:Value→Shared→Prop}{s:Shared}
end
section
variable {prog:Program}{w:World}{A:Around}{E:Value→Shared→Prop}{s:Shared}{S it tp:Addr}{o:Obj}{es:Array (Int×Value)}{ep i:Nat}{t:SetTable}{first:Value}
end
section
variable {prog:Program}{w:World}{A:Around}{E:Value→Shared→Prop}{s:Shared}{S:Addr}{es:Array (Int×Value)}
end
section
variable {prog:Program}{w:World}{A:Around}{E:Value→Shared→Prop}{s:Shared}{S:Addr}{es:Array (Int×Value)}
end
section
variable {X:Cx}{P:Program}{w:World}
end
section
variable {X:Cx}
end
def PAt (H:Hp) (v:V) (p:List Pt):Prop:=(Tr.tup (p.map Pt.tr)).At H v []
def SAt (H:Hp) (v:V) (s:Stm):Prop:=∃ fs,s.tr.At H v fs
def BAt (H:Hp) (v:V) (b:List Stm):Prop:=∃ fs,(Tr.lst (Stm.trs b)).At H v fs
theorem PAt.same {H H':Hp}{v:V}{p:List Pt}(h:PAt H v p) (s:Same H H'):PAt H' v p:=bt6 h s.tups
theorem SAt.same {H H':Hp}{v:V}{x:Stm}(h:SAt H v x) (s:Same H H'):SAt H' v x:=by
 obtain ⟨fs,h⟩:=h
 exact ⟨fs,h.mono (s.keep _)⟩
theorem BAt.same {H H':Hp}{v:V}{b:List Stm}(h:BAt H v b) (s:Same H H'):BAt H' v b:=by
 obtain ⟨fs,h⟩:=h
 exact ⟨fs,h.mono (s.keep _)⟩
theorem ao8 {H:Hp}{α:Type}{f:α→Tr}{R:V→α→Prop}(hR:∀ v x fs,(f x).At H v fs→R v x):∀ {xs:List α}{ts:List Tr}{vs:List V}{fs:List Addr},ts=xs.map f→Tr.Ats H ts vs fs→Each R vs xs
 | [],_,vs,fs,rfl,h=>by
   simp only [List.map_nil,Tr.Ats] at h
   rw [h.1]
   exact Each.nil
 | x::xs,_,vs,fs,rfl,h=>by
   simp only [List.map_cons,Tr.Ats] at h
   obtain ⟨v,ws,f1,g1,rfl,_,h1,h2⟩:=h
   have:=ao8 hR (xs:=xs) rfl h2
   refine ⟨by simp [this.1],fun j a b e1 e2=>?_⟩
   cases j with
   | zero =>
     simp at e1 e2
     subst e1 e2
     exact hR _ _ _ h1
   | succ j=>exact this.2 j a b (by simpa using e1) (by simpa using e2)
theorem ao9 {H:Hp}{α:Type}{f:α→Tr}{R:V→α→Prop}(hR:∀ v x,R v x→∃ fs,(f x).At H v fs):∀ {xs:List α}{vs:List V},Each R vs xs→∃ fs,Tr.Ats H (xs.map f) vs fs
 | [],[],_=>⟨[],by simp [Tr.Ats]⟩
 | x::xs,v::vs,h=>by
   obtain ⟨f1,h1⟩:=hR v x (h.2 0 v x rfl rfl)
   obtain ⟨f2,h2⟩:=ao9 hR (xs:=xs) (vs:=vs) ⟨by simpa using h.1,fun j a b e1 e2=>h.2 (j+1) a b (by simpa using e1) (by simpa using e2)⟩
   refine ⟨f1++f2,?_⟩
   simp only [List.map_cons,Tr.Ats]
   exact ⟨v,vs,f1,f2,rfl,rfl,h1,h2⟩
 | [],v::vs,h=>absurd h.1 (by simp)
 | x::xs,[],h=>absurd h.1 (by simp)
theorem ap0:∀ b:List Stm,Stm.trs b=b.map Stm.tr
 | []=>rfl
 | s::r=>by rw [Stm.trs,ap0 r]; rfl
theorem ax4:∀ b:List Br,Br.trs b=b.map Br.tr
 | []=>rfl
 | s::r=>by rw [Br.trs,ax4 r]; rfl
theorem bat_iff {H:Hp}{v:V}{b:List Stm}:BAt H v b↔∃ l us,v=.ref l∧H l=some (.lst us)∧Each (SAt H) us b:=by
 constructor
 · rintro ⟨fs,h⟩
   simp only [Tr.At] at h
   obtain ⟨l,us,gs,rfl,e,h,_⟩:=h
   exact ⟨l,us,rfl,e,ao8 (f:=Stm.tr) (fun v x fs h=>⟨fs,h⟩) (ap0 b) h⟩
 · rintro ⟨l,us,rfl,e,h⟩
   obtain ⟨fs,h⟩:=ao9 (f:=Stm.tr) (fun v x h=>h) h
   refine ⟨l::fs,?_⟩
   simp only [Tr.At]
   exact ⟨l,us,fs,rfl,e,by rw [ap0]; exact h,rfl⟩
def BrAt (H:Hp) (v:V) (x:Br):Prop:=match x with | .mk p b=>∃ q pv bv,v=.ref q∧H q=some (.tup [pv,bv])∧PAt H pv p∧BAt H bv b
theorem b08 {H:Hp}:∀ {p:List Pt}{vs:List V}{fs:List Addr},Tr.Ats H (p.map Pt.tr) vs fs→fs=[]
 | [],vs,fs,h=>by
   simp only [List.map_nil,Tr.Ats] at h
   exact h.2
 | x::p,vs,fs,h=>by
   simp only [List.map_cons,Tr.Ats] at h
   obtain ⟨v,ws,f,g,_,rfl,h1,h2⟩:=h
   rw [b08 h2]
   cases x with
   | s z=>simp only [Pt.tr,Tr.At] at h1; simp [h1.2]
   | i z=>simp only [Pt.tr,Tr.At] at h1; simp [h1.2]
theorem c55 {H:Hp}{v:V}{x:Br}{fs:List Addr}(h:x.tr.At H v fs):BrAt H v x:=by
 cases x with
 | mk p b =>
   simp only [Br.tr,Tr.At,Tr.Ats] at h
   obtain ⟨q,vs,rfl,e,v1,w1,f1,g1,rfl,rfl,⟨a,us,rfl,e1,h1⟩,v2,w2,f2,g2,rfl,rfl,⟨l,ws,gs,rfl,e2,h2,rfl⟩,rfl,rfl⟩:=h
   have:=b08 h1
   subst this
   refine ⟨q,_,_,rfl,e,?_,⟨l::gs,?_⟩⟩
   · unfold PAt
     simp only [Tr.At]
     exact ⟨a,us,rfl,e1,h1⟩
   · simp only [Tr.At]
     exact ⟨l,ws,gs,rfl,e2,h2,rfl⟩
theorem ce1 {H:Hp}{v:V}{x:Br}(h:BrAt H v x):∃ fs,x.tr.At H v fs:=by
 cases x with
 | mk p b =>
   obtain ⟨q,pv,bv,rfl,e,h1,⟨fs,h2⟩⟩:=h
   refine ⟨[]++(fs++[]),?_⟩
   simp only [Br.tr,Tr.At,Tr.Ats] at h2 ⊢
   exact ⟨q,_,rfl,e,pv,_,[],_,rfl,rfl,by unfold PAt at h1; simp only [Tr.At] at h1; exact h1,bv,_,fs,[],rfl,rfl,h2,rfl,rfl⟩
theorem sat_loop {H:Hp}{v:V}{b:List Stm}:SAt H v (.loop b)↔∃ a u,v=.ref a∧H a=some (.tup [.str "loop",u])∧BAt H u b:=by
 constructor
 · rintro ⟨fs,h⟩
   simp only [Stm.tr,Tr.At,Tr.Ats] at h
   obtain ⟨a,vs,rfl,e,v1,w1,f1,g1,rfl,rfl,⟨rfl,rfl⟩,v2,w2,f2,g2,rfl,rfl,h2,rfl,rfl⟩:=h
   exact ⟨a,v2,rfl,e,f2,by simp only [Tr.At]; exact h2⟩
 · rintro ⟨a,u,rfl,e,fs,h⟩
   refine ⟨[]++(fs++[]),?_⟩
   simp only [Stm.tr,Tr.At,Tr.Ats] at h ⊢
   exact ⟨a,_,rfl,e,_,_,[],_,rfl,rfl,⟨rfl,rfl⟩,u,_,fs,[],rfl,rfl,h,rfl,rfl⟩
theorem sat_wait {H:Hp}{v:V}{n:Int}{bs:List Br}:SAt H v (.wait n bs)↔∃ a l ws,v=.ref a∧H a=some (.tup [.str "wait",.int n,.ref l])∧H l=some (.lst ws)∧Each (BrAt H) ws bs:=by
 constructor
 · rintro ⟨fs,h⟩
   simp only [Stm.tr,Tr.At,Tr.Ats] at h
   obtain ⟨a,vs,rfl,e,v1,w1,f1,g1,rfl,rfl,⟨rfl,rfl⟩,v2,w2,f2,g2,rfl,rfl,⟨rfl,rfl⟩,v3,w3,f3,g3,rfl,rfl,⟨l,ws,gs,rfl,e2,h2,_⟩,rfl,rfl⟩:=h
   exact ⟨a,l,ws,rfl,e,e2,ao8 (f:=Br.tr) (fun v x fs h=>c55 h) (ax4 bs) h2⟩
 · rintro ⟨a,l,ws,rfl,e,e2,h⟩
   obtain ⟨gs,h⟩:=ao9 (f:=Br.tr) (fun v x h=>ce1 h) h
   refine ⟨[]++([]++((l::gs)++[])),?_⟩
   simp only [Stm.tr,Tr.At,Tr.Ats]
   exact ⟨a,_,rfl,e,_,_,[],_,rfl,rfl,⟨rfl,rfl⟩,_,_,[],_,rfl,rfl,⟨rfl,rfl⟩,_,_,l::gs,[],rfl,rfl,⟨l,ws,gs,rfl,e2,by rw [ax4]; exact h,rfl⟩,rfl,rfl⟩
theorem af9 {H:Hp}{v:V}{c:Cd}{x y:List Stm}(h:SAt H v (.test c x y)):∃ a u1 u2 u3,v=.ref a∧H a=some (.tup [.str "test",u1,u2,u3])∧BAt H u2 x∧BAt H u3 y:=by
 obtain ⟨fs,h⟩:=h
 simp only [Stm.tr,Tr.At,Tr.Ats] at h
 obtain ⟨a,vs,rfl,e,v1,w1,f1,g1,rfl,rfl,⟨rfl,rfl⟩,v2,w2,f2,g2,rfl,rfl,_,v3,w3,f3,g3,rfl,rfl,h3,v4,w4,f4,g4,rfl,rfl,h4,rfl,rfl⟩:=h
 exact ⟨a,v2,v3,v4,rfl,e,⟨f3,by simp only [Tr.At]; exact h3⟩,f4,by simp only [Tr.At]; exact h4⟩
theorem bb3 {H:Hp}{v:V}{k:Str}{r:List Pt}(h:SAt H v (.plain (.s k::r))):∃ a us,v=.ref a∧H a=some (.tup (.str k::us)):=by
 obtain ⟨fs,h⟩:=h
 simp only [Stm.tr,List.map_cons,Tr.At,Tr.Ats,Pt.tr] at h
 obtain ⟨a,vs,rfl,e,v1,w1,f1,g1,rfl,_,⟨rfl,_⟩,_⟩:=h
 exact ⟨a,w1,rfl,e⟩
def a24:Stm→List (List Stm)
 | .loop b=>[b]
 | .wait _ bs=>bs.map fun | .mk _ b=>b
 | .test _ a b=>[a,b]
 | _=>[]
section
variable {X:Cx}
end
section
variable {σ:St} {H:Hp}{nn bb cc:St→Hp→Prop}{rr:VK}{t u:TS}
theorem bn8 (h:∀ N:St→Hp→Prop,(∀ σ H,u ⟨nn,rr,bb,cc⟩ σ H→N σ H)→t ⟨N,rr,bb,cc⟩ σ H):tSeq t u ⟨nn,rr,bb,cc⟩ σ H:=h _ fun _ _ x=>x
theorem bn9 {P N:St→Hp→Prop}(e:∀ σ H,P σ H→N σ H) (h:P σ H):N σ H:=e σ H h
end
abbrev Pl:=Nat×Nat
inductive KS where
 | say (w:Str)
 | hand (l:Int) (w:Str)
 | put (n:Str) (e:Ex)
 | test (c:Cd) (a b:Nat)
 | loop (n:Nat)
 | call (n:Nat)
 | wait (l:Int) (br:List (List Pt×Pl)) (w:Pl)
 | again
 | leave
 | back
 | stop
def plT (p:Pl):Tr:=.tup [.int (p.1:Nat),.int (p.2:Nat)]
def brK (b:List Pt×Pl):Tr:=.tup [.tup (b.1.map Pt.tr),plT b.2]
def KS.word:KS→Str
 | .say _=>"say"
 | .hand _ _=>"hand"
 | .put _ _=>"put"
 | .test _ _ _=>"test"
 | .loop _=>"loop"
 | .call _=>"call"
 | .wait _ _ _=>"wait"
 | .again=>"again"
 | .leave=>"leave"
 | .back=>"back"
 | .stop=>"stop"
def KS.its:KS→List Tr
 | .say w=>[.str w]
 | .hand l w=>[.int l,.str w]
 | .put n e=>[.str n,e.tr]
 | .test c a b=>[c.tr,.int (a:Nat),.int (b:Nat)]
 | .loop n=>[.int (n:Nat)]
 | .call n=>[.int (n:Nat)]
 | .wait l br w=>[.int l,.tup (br.map brK),plT w]
 | _=>[]
def KS.tr (s:KS):Tr:=.tup (.str s.word::s.its)
theorem KS.word_at {H:Hp}{v:V}{s:KS}(h:s.tr.At H v []):∃ a us,v=.ref a∧H a=some (.tup (.str s.word::us))∧Tr.Ats H s.its us []:=by
 obtain ⟨a,vs,rfl,e,h⟩:=at_tup0.mp h
 obtain ⟨v1,w1,hz,h1,h2⟩:=ats_cons0.mp h
 obtain rfl:=at_str0.mp h1
 exact ⟨a,w1,rfl,by rw [e,hz],h2⟩
mutual
def Tr.nl:Tr→Bool
 | .tup xs=>Tr.nls xs
 | .lst _=>false
 | _=>true
def Tr.nls:List Tr→Bool
 | []=>true
 | x::xs=>x.nl && Tr.nls xs
end
mutual
theorem bt7 {H:Hp}:∀ {x:Tr}{v:V}{fs:List Addr},x.nl=true→x.At H v fs→fs=[]
 | .non,_,_,_,h=>by simp only [Tr.At] at h; exact h.2
 | .int _,_,_,_,h=>by simp only [Tr.At] at h; exact h.2
 | .str _,_,_,_,h=>by simp only [Tr.At] at h; exact h.2
 | .tup xs,_,_,n,h=>by
   simp only [Tr.At] at h
   obtain ⟨a,vs,_,_,h⟩:=h
   exact bo0 (by simpa only [Tr.nl] using n) h
 | .lst _,_,_,n,_=>by simp [Tr.nl] at n
theorem bo0 {H:Hp}:∀ {xs:List Tr}{vs:List V}{fs:List Addr},Tr.nls xs=true→Tr.Ats H xs vs fs→fs=[]
 | [],_,_,_,h=>by simp only [Tr.Ats] at h; exact h.2
 | x::xs,_,_,n,h=>by
   simp only [Tr.nls,Bool.and_eq_true] at n
   simp only [Tr.Ats] at h
   obtain ⟨v,ws,f,g,_,rfl,h1,h2⟩:=h
   rw [bt7 n.1 h1,bo0 n.2 h2]
   rfl
end
theorem bb4:∀ e:Ex,e.tr.nl=true
 | .num _=>rfl
 | .box _=>rfl
 | .two k a b=>by simp only [Ex.tr,Tr.nl,Tr.nls,bb4 a,bb4 b]; rfl
theorem bj1:∀ c:Cd,c.tr.nl=true
 | .cmp k a b=>by simp only [Cd.tr,Tr.nl,Tr.nls,bb4 a,bb4 b]; rfl
 | .nt c=>by simp only [Cd.tr,Tr.nl,Tr.nls,bj1 c]; rfl
 | .both c d=>by simp only [Cd.tr,Tr.nl,Tr.nls,bj1 c,bj1 d]; rfl
def patB (p:List Pt):Tr:=.tup (p.map Pt.tr)
def Stm.kd (tn:List Str):Stm→Prop
 | .plain ps=>(∃ w,ps=[.s "say",.s w])∨(∃ l w,ps=[.s "hand",.i l,.s w])∨(∃ w,ps=[.s "call",.s w]∧w∈tn)∨ps=[.s "again"]∨ps=[.s "leave"]∨ps=[.s "back"]∨ps=[.s "stop"]
 | .wait _ bs=>bs.length≤1000
 | _=>True
theorem bj2 {tn:List Str}{ps:List Pt}(h:Stm.kd tn (.plain ps)):∃ k r,ps=.s k::r∧k≠Str.ofString "test"∧k≠Str.ofString "wait"∧k≠Str.ofString "loop":=by
 rcases h with ⟨w,rfl⟩ | ⟨l,w,rfl⟩ | ⟨w,rfl,_⟩ | rfl | rfl | rfl | rfl <;> exact ⟨_,_,rfl,by decide +kernel,by decide +kernel,by decide +kernel⟩
theorem bb5 {H:Hp}{v:V}{n:Str}{e:Ex}(h:SAt H v (.put n e)):(KS.put n e).tr.At H v []:=by
 obtain ⟨fs,h⟩:=h
 have:fs=[]:=bt7 (by simp only [Stm.tr,Tr.nl,Tr.nls,bb4]; rfl) h
 subst this
 exact h
theorem bb6 {H:Hp}{v:V}{c:Cd}{x y:List Stm}(h:SAt H v (.test c x y)):∃ a u1 u2 u3,v=.ref a∧H a=some (.tup [.str "test",u1,u2,u3])∧BAt H u2 x∧BAt H u3 y∧c.tr.At H u1 []:=by
 obtain ⟨fs,h⟩:=h
 simp only [Stm.tr,Tr.At,Tr.Ats] at h
 obtain ⟨a,vs,rfl,e,v1,w1,f1,g1,rfl,rfl,⟨rfl,rfl⟩,v2,w2,f2,g2,rfl,rfl,h2,v3,w3,f3,g3,rfl,rfl,h3,v4,w4,f4,g4,rfl,rfl,h4,rfl,rfl⟩:=h
 obtain rfl:=bt7 (bj1 c) h2
 exact ⟨a,v2,v3,v4,rfl,e,⟨f3,by simp only [Tr.At]; exact h3⟩,⟨f4,by simp only [Tr.At]; exact h4⟩,h2⟩
def Stm.wd:Stm→Str
 | .plain (.s k::_)=>k
 | .plain _=>"stop"
 | .put _ _=>"put"
 | .loop _=>"loop"
 | .wait _ _=>"wait"
 | .test _ _ _=>"test"
theorem an7 {H:Hp}{v:V}{s:Stm}{tn:List Str}(h:SAt H v s) (hk:s.kd tn):∃ a us,v=.ref a∧H a=some (.tup (.str s.wd::us)):=by
 cases s with
 | plain ps =>
   obtain ⟨k,r,rfl,_⟩:=bj2 hk
   obtain ⟨a,us,h1,h2⟩:=bb3 h
   exact ⟨a,us,h1,h2⟩
 | put n e =>
   obtain ⟨a,us,h1,h2,_⟩:=KS.word_at (bb5 h)
   exact ⟨a,us,h1,h2⟩
 | loop b =>
   obtain ⟨a,u,h1,h2,_⟩:=sat_loop.mp h
   exact ⟨a,_,h1,h2⟩
 | wait n bs =>
   obtain ⟨a,l,ws,h1,h2,_⟩:=sat_wait.mp h
   exact ⟨a,_,h1,h2⟩
 | test c x y =>
   obtain ⟨a,u1,u2,u3,h1,h2,_⟩:=af9 h
   exact ⟨a,_,h1,h2⟩
theorem ap1 {s:Stm}{tn:List Str}(hk:s.kd tn) (h:s.wd=Str.ofString "test"):∃ c x y,s=.test c x y:=by
 cases s with
 | test c x y=>exact ⟨c,x,y,rfl⟩
 | plain ps=>obtain ⟨k,r,rfl,h1,h2,h3⟩:=bj2 hk; exact absurd h h1
 | _=>simp only [Stm.wd] at h; exact absurd h (by decide +kernel)
theorem ax5 {s:Stm}{tn:List Str}(hk:s.kd tn) (h:s.wd=Str.ofString "wait"):∃ c x,s=.wait c x:=by
 cases s with
 | wait c x=>exact ⟨c,x,rfl⟩
 | plain ps=>obtain ⟨k,r,rfl,h1,h2,h3⟩:=bj2 hk; exact absurd h h2
 | _=>simp only [Stm.wd] at h; exact absurd h (by decide +kernel)
theorem ap2 {s:Stm}{tn:List Str}(hk:s.kd tn) (h:s.wd=Str.ofString "loop"):∃ c,s=.loop c:=by
 cases s with
 | loop c=>exact ⟨c,rfl⟩
 | plain ps=>obtain ⟨k,r,rfl,h1,h2,h3⟩:=bj2 hk; exact absurd h h3
 | _=>simp only [Stm.wd] at h; exact absurd h (by decide +kernel)
theorem bt8 {s:Stm}(h1:s.wd≠Str.ofString "test") (h2:s.wd≠Str.ofString "wait") (h3:s.wd≠Str.ofString "loop"):a24 s=[]:=by
 cases s <;> first | rfl | exact absurd rfl h1 | exact absurd rfl h2 | exact absurd rfl h3
def Itv (K:PySem.W.Frag) (a:Addr) (n:Nat):It :=
 ⟨fun i H=>i<n∧∃ xs,SqL K H a xs∧xs.length=n,fun i H x H'=>H'=H∧∀ xs,SqL K H a xs→xs[n - 1 - i]?=some x,fun i _=>n=i⟩
theorem bj3 {P:Program}{w:World}{K:PySem.W.Frag}{tg:Expr}(a it:Addr) (n:Nat):Turn P w K tg (Itv K a n) [it] it (fun i h=>h.IsRevIter it a ((n:Int) - 1 - (i:Int))) where
 mem:=by simp
 obj:=fun i h st b hb=>by
  have e:b=it:=by simpa using hb
  subst e
  obtain ⟨o,e,c,d⟩:=st
  exact ⟨o,e,fun v z=>by rw [d] at z; cases z⟩
 keep:=fun i h h' st k=>st.at fun o e=>k it (by simp) o e
 item:=by
  intro X hP hw hK hc i pins s σ H E I hf st hg
  subst hP hw hK
  obtain ⟨hin,xs,hq,hxl⟩:=hg
  obtain ⟨x,hx⟩:∃ x,xs[n - 1 - i]?=some x:=⟨_,List.getElem?_eq_getElem (by omega)⟩
  obtain ⟨its,rv,p,hz⟩:=I.list hq
  obtain ⟨u,hu,ru⟩:=rv.get hx
  obtain ⟨f0,f1,f2,f3,f4,f5⟩:=hf it (by simp)
  have e0:(n:Int) - 1 - (i:Int)=((n - 1 - i:Nat):Int):=by omega
  rw [e0] at st
  refine wpAny_pyNext_rev_item st p.isList (x:=u) (by simpa using hu) fun h' st' sb=>?_
  have I1:Inv X pins σ H { s with heap:=h' }:=I.turned (t':=s.toks) (fun b o hb e=>(sb.2 b hb).trans e) f0 f1 f3 f4 f5
  have st2:=st'
  rw [show ((n - 1 - i:Nat):Int) - 1=(n:Int) - 1 - ((i+1:Nat):Int) by omega] at st2
  obtain ⟨o,e,c,d⟩:=id st'
  exact ⟨u,rfl,bg5 (s:={ s with heap:=h' }) e c d (by decide) ⟨x,H,I1,ru,⟨rfl,fun ys hy=>by rw [I.list_inj hy hq]; exact hx⟩,st2,fun b hb=>(hf b hb).1⟩⟩
 done:=by
  intro X hP hw hK hc i pins s σ H E I hf st hg
  subst hP hw hK
  have hn:n=i:=hg
  subst hn
  obtain ⟨f0,f1,f2,f3,f4,f5⟩:=hf it (by simp)
  rw [show (n:Int) - 1 - (n:Int)=-1 by omega] at st
  exact wpAny_pyNext_rev_end (I.ok.hd hc) st fun h' eb=>⟨rfl,I.turned (t':=s.toks) (fun b o hb e=>eb b o hb e) f0 f1 f3 f4 f5⟩
 self:=fun _ _ _ _ _ st h=>wpAny_pyIter_revIter st h
section
variable {X:Cx}{tg:Expr}
def c56 (K:PySem.W.Frag) (ta:TA):TI:=fun σ H R=>ta σ H fun vs H1=>∃ a xs,vs=[.ref a]∧SqL K H1 a xs∧R (Itv K a xs.length) H1
theorem c57 (K:PySem.W.Frag) {a:Expr}{ta:TA}{p pos:Pos}(hg:Gl X "reversed") (hm:X.mg "reversed"=none) (ha:PA X [a] ta) (hs:starEach [a] X.env=[(false,eval a X.env)]:=by rfl) (hK:X.K=K:=by rfl):PI X tg (.Call (.Name "reversed" p) [a] [] pos) (c56 K ta):=by
 subst hK
 intro pins s σ H R I h
 refine Call_ (aj7 I hg hm boot_reversed (PyProof.Rows.callWith_type1 (thn (ha pos pins s σ H _ I h) ?_) hs rfl))
 rintro us s1 ⟨vs,H1,I1,r1,q1⟩
 obtain ⟨l,xs,e,hq,q⟩:=q1
 subst e
 obtain ⟨u,rfl,ru⟩:=aw2 r1
 cases ru
 obtain ⟨its,rv,pl,hz⟩:=I1.list hq
 have hl:=rv.length
 refine call_reversed_list pl.isList ?_
 have hit:(s1.heap.push (revObj l ((its.toArray.size:Int) - 1))).IsRevIter s1.heap.objs.size l ((xs.length:Int) - 1 - ((0:Nat):Int)):=⟨_,Heap.get?_push_size _ rfl,rfl,by
  have:(its.toArray.size:Int) - 1=(xs.length:Int) - 1 - ((0:Nat):Int):=by simp; omega
  show Data.fields #[.ref l,rawInt ((its.toArray.size:Int) - 1)]=_
  rw [this]⟩
 refine wpAny_pyIter_revIter hit ?_
 refine ⟨s1.heap.objs.size,[s1.heap.objs.size],_,_,H1,rfl,I1.kept (t':=s1.toks) fun b o e=>Heap.get?_push_of_some _ e,bj3 l _ xs.length,hit,fun b hb=>?_,q⟩
 have e:b=s1.heap.objs.size:=by simpa using hb
 subst e
 exact I1.fpOk (Nat.le_refl _) (I1.hok.fresh (Nat.le_refl _))
theorem c58 {K:PySem.W.Frag}{σ:St} {H:Hp}{R:It→Hp→Prop}{ts:TA}(h:ts σ H fun vs H1=>∃ a xs,vs=[.ref a]∧SqL K H1 a xs∧R (Itv K a xs.length) H1):c56 K ts σ H R:=h
theorem bt9 {K:PySem.W.Frag}{a:Addr}{xs:List V}{g:TG}{tb:TS}{D:Ends}{σ:St} {H:Hp}(Pv:Nat→St→Hp→Prop) (h0:Pv 0 σ H) (hl:∀ i σ H,i≤xs.length→Pv i σ H→SqL K H a xs)
 (hs:∀ i x σ H,i<xs.length→xs[xs.length - 1 - i]?=some x→Pv i σ H→g x σ H fun σ2 H2=>tb { D with nx:=Pv (i+1),ct:=Pv (i+1),bk:=D.nx } σ2 H2) (hd:∀ σ H,Pv xs.length σ H→D.nx σ H):b98 (Itv K a xs.length) g tb D σ H:=by
 refine ⟨fun i m σ H=>m=xs.length - i∧i≤xs.length∧Pv i σ H,⟨xs.length,by simp,Nat.zero_le _,h0⟩,?_⟩
 rintro i m σ H ⟨rfl,hi,p⟩
 have q:=hl i σ H hi p
 by_cases hlt:i<xs.length
 · refine .inr ⟨⟨hlt,xs,q,rfl⟩,Pv (i+1),fun σ' H' p'=>⟨xs.length - (i+1),by omega,rfl,hlt,p'⟩,fun x H' y=>?_⟩
   obtain ⟨e,y⟩:=y
   subst e
   exact hs i x σ _ hlt (y xs q) p
 · have e:i=xs.length:=by omega
   subst e
   exact .inl ⟨rfl,hd σ H p⟩
end
def scD:V→PyData
 | .int i=>.int i
 | .str s=>.str s
 | .bl b=>.bool b
 | _=>.none
mutual
def Tw.dat:Tw→PyData
 | .sc v=>scD v
 | .tup xs=>.tuple (Tw.dats xs)
 | .lst xs=>.list (Tw.dats xs)
def Tw.dats:List Tw→List PyData
 | []=>[]
 | x::xs=>x.dat::Tw.dats xs
end
section
variable {X:Cx}{pins:List (Addr×Obj)}{σ:St} {H:Hp}{s:Shared}
theorem bj4 {v:V}{u:Value}(h:Scal v) (r:RelV v u):Reads s.heap u (scD v) []:=by
 cases v with
 | int i=>obtain ⟨t,rfl⟩:=r; exact .int i t
 | str x=>obtain ⟨t,rfl⟩:=r; exact .str x t
 | bl b=>cases r; exact .bool b
 | non=>cases r; exact .none
 | _=>simp [Scal] at h
mutual
theorem Tw.reads (I:Inv X pins σ H s):∀ {t:Tw}{v:V}{fs:List Addr}{u:Value},t.At H v fs→RelV v u→∃ as,Reads s.heap u t.dat as
 | .sc x,v,fs,u,h,r=>by
   simp only [Tw.At] at h
   obtain ⟨rfl,hs,_⟩:=h
   exact ⟨[],bj4 hs r⟩
 | .tup xs,v,fs,u,h,r=>by
   simp only [Tw.At] at h
   obtain ⟨a,vs,rfl,e,q⟩:=h
   cases r
   obtain ⟨is,w,⟨o,h1,h2,n,h3⟩,_⟩:=I.tuple (SqT.of e)
   obtain ⟨as,ha⟩:=Tw.readsAll I q w
   exact ⟨as,.tuple h1 h2 h3 (by simpa using ha)⟩
 | .lst xs,v,fs,u,h,r=>by
   simp only [Tw.At] at h
   obtain ⟨a,vs,gs,rfl,e,q,_⟩:=h
   cases r
   obtain ⟨is,w,p,_⟩:=I.list (SqL.of e)
   obtain ⟨o,h1,h2,n,h3⟩:=p.isList
   obtain ⟨as,ha⟩:=Tw.readsAll I q w
   exact ⟨_,.list h1 h2 h3 (by simpa using ha)⟩
theorem Tw.readsAll (I:Inv X pins σ H s):∀ {ts:List Tw}{vs:List V}{fs:List Addr}{us:List Value},Tw.Ats H ts vs fs→Vals vs us→∃ as,ReadsAll s.heap us (Tw.dats ts) as
 | [],vs,fs,us,h,w=>by
   simp only [Tw.Ats] at h
   obtain ⟨rfl,_⟩:=h
   cases w
   exact ⟨[],.nil⟩
 | t::ts,vs,fs,us,h,w=>by
   simp only [Tw.Ats] at h
   obtain ⟨v,ws,f,g,rfl,_,a,b⟩:=h
   cases w with
   | cons r w =>
     obtain ⟨as,h1⟩:=Tw.reads I a r
     obtain ⟨bs,h2⟩:=Tw.readsAll I b w
     exact ⟨_,.cons h1 h2⟩
end
end
def nbV:V→Prop
 | .int _=>True
 | .str _=>True
 | .non=>True
 | _=>False
mutual
def Tw.nb:Tw→Prop
 | .sc v=>nbV v
 | .tup xs=>Tw.nbs xs
 | .lst xs=>Tw.nbs xs
def Tw.nbs:List Tw→Prop
 | []=>True
 | x::xs=>x.nb∧Tw.nbs xs
end
theorem c59 {a b:V}(ha:nbV a) (hb:nbV b):PyData.eqv (scD a) (scD b)=true↔a=b:=by
 cases a <;> simp only [nbV] at ha <;> cases b <;> simp only [nbV] at hb <;> simp [scD,PyData.eqv]
mutual
theorem Tw.eqv_iff:∀ {t u:Tw},t.nb→u.nb→(PyData.eqv t.dat u.dat=true↔t=u)
 | .sc a,.sc b,h1,h2=>by
   simp only [Tw.nb] at h1 h2
   simp only [Tw.dat,c59 h1 h2,Tw.sc.injEq]
 | .tup xs,.tup ys,h1,h2=>by
   simp only [Tw.nb] at h1 h2
   simp only [Tw.dat,PyData.eqv,Tw.eqvs_iff h1 h2,Tw.tup.injEq]
 | .lst xs,.lst ys,h1,h2=>by
   simp only [Tw.nb] at h1 h2
   simp only [Tw.dat,PyData.eqv,Tw.eqvs_iff h1 h2,Tw.lst.injEq]
 | .sc a,.tup ys,h1,_=>by cases a <;> simp [Tw.nb,nbV] at h1 <;> simp [Tw.dat,scD,PyData.eqv]
 | .sc a,.lst ys,h1,_=>by cases a <;> simp [Tw.nb,nbV] at h1 <;> simp [Tw.dat,scD,PyData.eqv]
 | .tup xs,.sc b,_,h2=>by cases b <;> simp [Tw.nb,nbV] at h2 <;> simp [Tw.dat,scD,PyData.eqv]
 | .lst xs,.sc b,_,h2=>by cases b <;> simp [Tw.nb,nbV] at h2 <;> simp [Tw.dat,scD,PyData.eqv]
 | .tup xs,.lst ys,_,_=>by simp [Tw.dat,PyData.eqv]
 | .lst xs,.tup ys,_,_=>by simp [Tw.dat,PyData.eqv]
theorem Tw.eqvs_iff:∀ {ts us:List Tw},Tw.nbs ts→Tw.nbs us→(PyData.eqvAll (Tw.dats ts) (Tw.dats us)=true↔ts=us)
 | [],[],_,_=>by simp [Tw.dats,PyData.eqvAll]
 | [],u::us,_,_=>by simp [Tw.dats,PyData.eqvAll]
 | t::ts,[],_,_=>by simp [Tw.dats,PyData.eqvAll]
 | t::ts,u::us,h1,h2=>by
   simp only [Tw.nbs] at h1 h2
   simp only [Tw.dats,PyData.eqvAll,Bool.and_eq_true,Tw.eqv_iff h1.1 h2.1,Tw.eqvs_iff h1.2 h2.2,List.cons.injEq]
end
theorem b51:typeLookup (.type "list_reverseiterator") "__len__"=pure none:=by rw [typeLookup_type,builtinLookup_eq_fast]; kernel_rfl
theorem ap3:typeLookup (.type "list_reverseiterator") "__length_hint__"=pure (some (.builtin "list_reverseiterator.__length_hint__")):=by rw [typeLookup_type,builtinLookup_eq_fast]; kernel_rfl
section
variable {prog:Program}{w:World}{A:Around}{E:Value→Shared→Prop}{s:Shared}
theorem bj5 {r:Addr}{Q:Bool→Shared→Prop}(hT:s.TypeIs (.ref r) "list_reverseiterator") (h:Q false s):wpAny (model prog w) A (Builtin.List.listLengthHint (.ref r)) Q E s:=by
 unfold Builtin.List.listLengthHint
 refine wpAny_bind (wpAny_specialOf hT b51 ?_)
 show wpAny _ _ (specialOf (Value.ref r) (Str.ofString "__length_hint__") >>= _) _ _ _
 refine wpAny_bind (wpAny_specialOf hT ap3 ?_)
 generalize hid:("list_reverseiterator.__length_hint__":String)=id0
 wp_delta
 rw [show splitId id0=some ("list_reverseiterator","__length_hint__") from by subst hid; decide +kernel]
 subst hid
 refine wpAny_bind (wpAny_isInstance (T:="list_reverseiterator") (b:=true) hT (by rw [isSubtype_type]; kernel_rfl) ?_)
 refine wpAny_ite_split (fun hab=>absurd hab (by decide)) (fun _=>?_)
 refine wpAny_ite_split (fun _=>?_) (fun hab=>absurd (by decide +kernel) hab)
 refine wpAny_ite_split (fun hab=>absurd hab (by decide)) (fun _=>?_)
 exact wpAny_pure h
theorem au0 {l it:Addr}{items:Array Value}{Q:Value→Shared→Prop}(hh:A.handled=none) (hit:s.heap.IsRevIter it l ((items.size:Int) - 1)) (hl:s.heap.IsList l items) (hn:items.size≤sizeLine) (hne:l≠it)
 (hQ:∀ h' tk acc' c',(∀ b o,b≠it→s.heap.get? b=some o→h'.get? b=some o)→h'.get? s.heap.objs.size=some { cls:=.type "list",dict:=none,data:=.seq acc' c',slots:=#[] }→ItemsOf (fun i v=>items[items.size - 1 - i]?=some v) acc' items.size→Q (.ref s.heap.objs.size) { s with heap:=h',toks:=tk }) :
 wpAny (model prog w) A (call (.type "list") [.ref it]) Q E s:=by
 refine callType_codes (Q₁:=fun obj s₁=>obj=.ref s.heap.objs.size∧s₁={ s with heap:=s.heap.push { cls:=.type "list",data:=.seq #[] } }) F.called_list (F.typeCall_list_1 _) F.entry_list_init
  (code_list_new _ ⟨rfl,rfl⟩) fun obj s₁ h₁=>?_
 obtain ⟨rfl,rfl⟩:=h₁
 have hS:(s.heap.push { cls:=.type "list",data:=.seq #[] }).get? s.heap.objs.size=some { cls:=.type "list",data:=.seq #[] }:=Heap.get?_push_size _ rfl
 have ltI:it<s.heap.objs.size:=by obtain ⟨o,e,_⟩:=hit; exact Heap.lt_size e
 have ltL:l<s.heap.objs.size:=by obtain ⟨o,e,_⟩:=hl; exact Heap.lt_size e
 refine ⟨⟨_,hS,rfl⟩,F.args_list_init_2 _ _,?_⟩
 show wpAny _ _ (do let old←Builtin.List.listItems (.ref s.heap.objs.size); Builtin.List.listUpdate (.ref s.heap.objs.size) (fun _=>#[]); letGo old.toList.reverse; Builtin.List.listExtendWith (.ref s.heap.objs.size) (.ref it) .none) _ _ _
 refine wpAny_bind ?_
 unfold Builtin.List.listItems
 refine wpAny_bind (wpAny_seqItems hS rfl (wpAny_pure ?_))
 show wpAny _ _ (updateSeq s.heap.objs.size (fun _=>#[]) >>= fun _=>letGo (#[]:Array Value).toList.reverse >>= fun _=>Builtin.List.listExtendWith (.ref s.heap.objs.size) (.ref it) .none) _ _ _
 refine wpAny_bind (wpAny_updateSeq hS rfl ?_)
 have hS₂:=Heap.get?_update_self (Obj.mapSeq (fun _=>(#[]:Array Value))) hS rfl
 refine wpAny_bind (wpAny_letGo ?_)
 have oth:∀ b o,b≠s.heap.objs.size→s.heap.get? b=some o→((s.heap.push { cls:=.type "list",data:=.seq #[] }).update s.heap.objs.size (Obj.mapSeq (fun _=>(#[]:Array Value)))).get? b=some o :=
  fun b o hb e=>(Heap.get?_update_other _ _ (Ne.symm hb)).trans (Heap.get?_push_of_some _ e)
 generalize (s.heap.push { cls:=.type "list",data:=.seq #[] }).update s.heap.objs.size (Obj.mapSeq (fun _=>(#[]:Array Value)))=h2' at hS₂ oth ⊢
 have hit2:h2'.IsRevIter it l ((items.size:Int) - 1):=hit.at fun o e=>oth it o (Nat.ne_of_lt ltI) e
 have hl2:h2'.IsList l items:=hl.at fun o e=>oth l o (Nat.ne_of_lt ltL) e
 have hT2:({ s with heap:=h2' }:Shared).TypeIs (.ref it) "list_reverseiterator":=hit2.typeIs
 unfold Builtin.List.listExtendWith
 refine wpAny_bind (wpAny_typeOf hT2 ?_)
 have e1:Builtin.List.listSameRef (.ref s.heap.objs.size) (.ref it)=false:=by
  have:=Nat.ne_of_gt ltI
  simp [Builtin.List.listSameRef,this]
 have e2:(Value.type "list_reverseiterator" == Value.type "list")=false:=by decide
 have e3:(Value.type "list_reverseiterator" == Value.type "tuple")=false:=by decide
 simp only [e1,e2,e3,Bool.or_false,Bool.false_eq_true,if_false]
 refine wpAny_bind (wpAny_pyIter_revIter hit2 ?_)
 refine wpAny_bind (wpAny_holding (bj5 hT2 ?_))
 refine wpAny_ite_split (fun hab=>absurd hab (by decide)) (fun _=>?_)
 have W:=Walks.listRev (prog:=prog) (w:=w) (A:=A.in1.in1) hh it l hne items
 have st0:(0:Nat)≤items.size∧h2'.IsRevIter it l ((items.size:Int) - 1 - ((0:Nat):Int))∧h2'.IsList l items:=⟨Nat.zero_le _,by simpa using hit2,hl2⟩
 have hSf:s.heap.objs.size∉[it,l]:=by
  simp only [List.mem_cons,List.not_mem_nil,or_false,not_or]
  exact ⟨Nat.ne_of_gt ltI,Nat.ne_of_gt ltL⟩
 refine wpAny_pure ⟨plainId_quiet F.plain_extend_loop _,codeAny_extend_loopS W.toS hn _ hSf _ items.size 0 _ _ _ rfl (Nat.zero_le _) st0 hS₂ (ItemsOf.nil _) fun s' acc' c' hm hS' hacc=>?_⟩
 rw [Moved.eq_with hm]
 refine ⟨rfl,hQ s'.heap s'.toks acc' c' (fun b o hb e=>hm.heap b o (fun hmem=>?_) (oth b o (Nat.ne_of_lt (Heap.lt_size e)) e)) hS' hacc⟩
 rcases List.mem_cons.mp hmem with e' | hmem
 · exact absurd (Heap.lt_size e) (by rw [e']; exact Nat.lt_irrefl _)
 · exact hb (List.mem_singleton.mp hmem)
end
def tLR (K:PySem.W.Frag) (ta:TA):TE:=fun σ H Q=>ta σ H fun vs H1=>∃ a xs,vs=[.ref a]∧SqL K H1 a xs∧New H1 (.lst xs.reverse) Q
section
variable {X:Cx}
theorem a59 (K:PySem.W.Frag) {a:Expr}{ta:TA}{p1 p2 pos1 pos2:Pos}(hc:X.calm=true) (hgl:Gl X "list") (hml:X.mg "list"=none) (hg:Gl X "reversed") (hm:X.mg "reversed"=none) (ha:PA X [a] ta) (hs:starEach [a] X.env=[(false,eval a X.env)]:=by rfl) (hs2:starEach [Expr.Call (.Name "reversed" p2) [a] [] pos2] X.env=[(false,eval (.Call (.Name "reversed" p2) [a] [] pos2) X.env)]:=by rfl) (hK:X.K=K:=by rfl):PE X (.Call (.Name "list" p1) [.Call (.Name "reversed" p2) [a] [] pos2] [] pos1) (tLR K ta):=by
 subst hK
 intro pins s σ H Q I h
 refine Call_ (aj7 I hgl hml boot_list ?_)
 refine PyProof.Rows.callWith_type1 ?_ hs2 rfl
 refine Calls.spliced_cons ?_
 refine Call_ (aj7 I hg hm boot_reversed (PyProof.Rows.callWith_type1 (thn (ha pos2 pins s σ H _ I h) ?_) hs rfl))
 rintro us s1 ⟨vs,H1,I1,r1,q1⟩
 obtain ⟨l,xs,e,hq,q⟩:=q1
 subst e
 obtain ⟨u,rfl,ru⟩:=aw2 r1
 cases ru
 obtain ⟨its,rv,pl,hz⟩:=I1.list hq
 refine call_reversed_list pl.isList ?_
 refine Calls.spliced_nil ?_
 have hl:l<s1.heap.objs.size:=by obtain ⟨_,e,_⟩:=pl.isList; exact Heap.lt_size e
 have pk:∀ b o,s1.heap.get? b=some o→(s1.heap.push (revObj l ((its.toArray.size:Int) - 1))).get? b=some o:=fun b o e=>Heap.get?_push_of_some _ e
 have hit:(s1.heap.push (revObj l ((its.toArray.size:Int) - 1))).IsRevIter s1.heap.objs.size l ((its.toArray.size:Int) - 1):=⟨_,Heap.get?_push_size _ rfl,rfl,rfl⟩
 refine au0 (I1.ok.hd hc) hit (pl.isList.at fun o e=>pk l o e) (by rw [List.size_toArray,←rv.length]; exact hz) (Nat.ne_of_lt hl) fun h' tk acc' c' hk hS hacc=>?_
 have fr:=I1.hok.fresh (Nat.le_succ s1.heap.objs.size)
 have hsz:(s1.heap.push (revObj l ((its.toArray.size:Int) - 1))).objs.size=s1.heap.objs.size+1:=by rw [Heap.size_push]
 rw [hsz] at hS ⊢
 refine ⟨.ref _,_,I1.laid (a:=s1.heap.objs.size+1) (o:=.lst xs.reverse) (t':=tk) (fun b o e=>hk b o (Nat.ne_of_lt (Heap.lt_size e)) (pk b o e)) (Nat.le_succ _) ?_,rfl,New.to q _ fr⟩
 refine ⟨by rw [List.length_reverse]; exact hz,acc'.toList,c',?_,by simpa using hS⟩
 have hxl:=rv.length
 have hal:acc'.size=its.length:=by have:=hacc.1; simpa using this
 refine bb1 (by simp [hal,hxl]) fun j x1 x2 hx1 hx2=>?_
 have hj:=(List.getElem?_eq_some_iff.mp hx1).1
 rw [List.length_reverse] at hj
 rw [List.getElem?_reverse hj] at hx1
 have hv:=hacc.2 j x2 (by rw [← Array.getElem?_toList]; exact hx2)
 simp only [List.size_toArray,List.getElem?_toArray,←hxl] at hv
 obtain ⟨u,hu,ru⟩:=rv.get hx1
 rw [hv] at hu
 obtain rfl:=Option.some.inj hu
 exact ru
end
theorem bb7 {K:PySem.W.Frag}{σ:St} {H:Hp}{Q:VK}{ts:TA}(h:ts σ H fun vs H1=>∃ a xs,vs=[.ref a]∧SqL K H1 a xs∧New H1 (.lst xs.reverse) Q):tLR K ts σ H Q:=h
theorem ax6 (n:Nat):sliceBounds none (some 0) (some (-1)) n=((n:Int) - 1,min 0 ((n:Int) - 1),-1):=by
 unfold sliceBounds
 simp
 try omega
theorem b52 (m:Nat):sliceRange (((m+1:Nat):Int) - 1) 0 (-1)=(List.range m).map fun k=>m - k:=by
 unfold sliceRange
 have hc:(if ((-1:Int) > 0) then (if (((m+1:Nat):Int) - 1<0) then ((0:Int) - (((m+1:Nat):Int) - 1)+-1 - 1) / -1 else 0) else (if (((m+1:Nat):Int) - 1 > 0) then (((m+1:Nat):Int) - 1 - 0 - -1 - 1) / - -1 else 0)).toNat=m:=by
  rw [if_neg (by decide)]
  split
  · rw [show (- -1:Int)=1 from rfl,Int.ediv_one]
    omega
  · omega
 simp only [hc]
 refine List.map_congr_left fun k hk=>?_
 have:=List.mem_range.mp hk
 omega
theorem b09 {α β:Type}{f g:α→Option β}:∀ {l:List α},(∀ x∈l,f x=g x)→l.filterMap f=l.filterMap g
 | [],_=>rfl
 | x::l,h=>by
   rw [List.filterMap_cons,List.filterMap_cons,h x (by simp),b09 fun y hy=>h y (by simp [hy])]
theorem bb8 (items:List Value):slicePick items.toArray none (some 0) (some (-1))=(items.drop 1).reverse.toArray:=by
 unfold slicePick
 rw [ax6]
 simp only [List.size_toArray]
 cases items with
 | nil=>rfl
 | cons x items =>
   rw [show min (0:Int) (((x::items).length:Int) - 1)=0 by simp; omega,List.length_cons,b52,List.drop_succ_cons,List.drop_zero]
   congr 1
   refine List.ext_getElem? fun k=>?_
   have e:((List.range items.length).map fun k=>items.length - k).filterMap (fun i=>(x::items).toArray[i]?)=(List.range items.length).filterMap fun k=>items[items.length - 1 - k]?:=by
    rw [List.filterMap_map]
    refine b09 fun k hk=>?_
    have hk:=List.mem_range.mp hk
    show (x::items).toArray[items.length - k]?=_
    rw [List.getElem?_toArray,show items.length - k=(items.length - 1 - k)+1 by omega,List.getElem?_cons_succ]
   rw [e]
   have h:∀ n,n≤items.length→(List.range n).filterMap (fun k=>items[items.length - 1 - k]?)=items.reverse.take n:=fun n=>by
    induction n with
    | zero=>intro _; simp
    | succ n ih =>
      intro hn
      rw [List.range_succ,List.filterMap_append,ih (by omega),List.take_add_one,List.getElem?_reverse (by omega)]
      have:items[items.length - 1 - n]?=some items[items.length - 1 - n]:=List.getElem?_eq_getElem (by omega)
      simp [this]
   rw [h _ (Nat.le_refl _),List.take_of_length_le (by simp)]
def c60 (K:PySem.W.Frag) (te tu ts:TE):TE:=fun σ H Q=>te σ H fun x H1=>tu σ H1 fun z H2=>ts σ H2 fun y H3=>z=.int 0∧y=.int (-1)∧∃ a xs,x=.ref a∧SqL K H3 a xs∧New H3 (.lst (xs.drop 1).reverse) Q
section
variable {X:Cx}{e st up:Expr}{te ts tu:TE}{p2 pos:Pos}
theorem bu0 (K:PySem.W.Frag) (he:PE X e te) (hu:PE X up tu) (hs:PE X st ts) (ht:∀ (o r:Value),letTemporaryGo e o r=pure ():=by intro _ _; rfl) (hK:X.K=K:=by rfl):PE X (.Subscript e (.Slice none (some up) (some st) p2) pos) (c60 K te tu ts):=by
 subst hK
 intro pins s σ H Q I h
 refine wpAny_Subscript_Slice_step PySem.F.slot_list_getitem.lookup (thn (he pins s σ H _ I h) ?_) ht
 rintro v s1 ⟨x,H1,I1,r1,q1⟩
 refine wpAny_Slice ?_
 rw [evalPart_none]
 refine wpAny_pure ?_
 rw [evalPart_some]
 refine thn (hu pins s1 σ H1 _ I1 q1) ?_
 rintro w2 s2 ⟨z,H2,I2,r2,q2⟩
 rw [evalPart_some]
 refine thn (hs pins s2 σ H2 _ I2 q2) ?_
 rintro w3 s3 ⟨y,H3,I3,r3,q3⟩
 obtain ⟨rfl,rfl,a,xs,rfl,hS,q⟩:=q3
 cases r1
 obtain ⟨t,rfl⟩:=r2
 obtain ⟨t3,rfl⟩:=r3
 have I4:Inv X pins σ H3 { s3 with heap:=s3.heap.push { cls:=.type "slice",data:=.fields #[.none,.int 0 t,.int (-1) t3] } }:=I3.kept (t':=s3.toks) fun b ob q=>Heap.get?_push_of_some _ q
 obtain ⟨its,v1,p1,hz⟩:=I4.list hS
 refine ⟨p1.isList.typeIs,wpAny_getItem_list_slice (lo:=none) (hi:=some 0) (st:=some (-1)) p1.isList (Heap.IsSliceOf.new ..) .none (.int _ _) (.int _ _) (by decide) ?_ (by rw [List.size_toArray,←v1.length]; exact hz)⟩
 refine ⟨.ref _,_,I4.laid (t':=s3.toks) (o:=.lst (xs.drop 1).reverse) (fun b ob q=>Heap.get?_push_of_some _ q) (Nat.le_refl _) ?_,rfl,New.to q _ (I4.hok.fresh (Nat.le_refl _))⟩
 rw [bb8]
 exact ⟨by rw [List.length_reverse,List.length_drop]; exact Nat.le_trans (Nat.sub_le _ _) hz,(its.drop 1).reverse,0,(v1.drop 1).reverse,Heap.get?_push_size _ rfl⟩
theorem c61 {K:PySem.W.Frag}{σ:St} {H:Hp}{Q:VK}(h:te σ H fun x H1=>tu σ H1 fun z H2=>ts σ H2 fun y H3=>z=.int 0∧y=.int (-1)∧∃ a xs,x=.ref a∧SqL K H3 a xs∧New H3 (.lst (xs.drop 1).reverse) Q):c60 K te tu ts σ H Q:=h
end
end L2
namespace L2
open PySem
inductive Wd where
 | on | again | leave | back | stop
deriving DecidableEq
def Wd.txt:Wd→Str
 | .on=>"on"
 | .again=>"again"
 | .leave=>"leave"
 | .back=>"back"
 | .stop=>"stop"
theorem a76 {a b:Wd}(h:a.txt=b.txt):a=b:=by
 cases a <;> cases b <;> first | rfl | exact absurd h (by decide +kernel)
def allW:List Wd:=[.on,.again,.leave,.back,.stop]
theorem ap4 (w:Wd):w∈allW:=by cases w <;> simp [allW]
def ordW (l:List Wd):List Wd:=allW.filter fun w=>decide (w∈l)
theorem ordW_mem {l:List Wd}{w:Wd}:w∈ordW l↔w∈l:=by
 unfold ordW
 rw [List.mem_filter,decide_eq_true_eq]
 exact ⟨fun h=>h.2,fun h=>⟨ap4 w,h⟩⟩
theorem bj6 {l:List Wd}:(ordW l).length≤5:=List.length_filter_le _ _
theorem bu1 {l m:List Wd}(h:∀ w,w∈l↔w∈m):ordW l=ordW m:=by
 unfold ordW
 congr 1
 funext w
 rw [Bool.eq_iff_iff,decide_eq_true_eq,decide_eq_true_eq]
 exact h w
def endW (k:Str):Option Wd:=allW.find? fun w=>decide (w.txt=k)
theorem ag0 {k:Str}{w:Wd}(h:endW k=some w):w.txt=k:=by
 have:=List.find?_some h
 simpa using this
theorem au1 {k:Str}(h:endW k=none) (w:Wd):w.txt≠k:=by
 have:=List.find?_eq_none.mp h w (ap4 w)
 simpa using this
abbrev Tks:=List (Str×List Stm)
def a29 (ts:Tks) (n:Str):Option (List Stm):=(ts.find? fun t=>decide (t.1=n)).map (·.2)
def eL (f:Stm→Option (List Wd)):List Stm→List Wd→Option (List Wd)
 | [],e=>some e
 | s::b,e=>if .on∈e then (f s).bind fun r=>eL f b (e.filter (fun w=>decide (w≠.on))++r) else some e
def eBf (f:Stm→Option (List Wd)) (b:List Stm):Option (List Wd):=if b.length≤1000 then (eL f b [.on]).map ordW else none
def ai5 (e:List Wd):List Wd:=(if .leave∈e then [.on] else [])++e.filter (fun w=>decide (w=.back∨w=.stop))
def ag3 (e:List Wd):List Wd:=(if .on∈e∨.back∈e then [.on] else [])++e.filter (fun w=>decide (w=.stop))
def eS (ts:Tks):Nat→Stm→Option (List Wd)
 | 0,_=>none
 | n+1,.wait _ _=>some []
 | n+1,.test _ x y=>(eBf (eS ts n) x).bind fun a=>(eBf (eS ts n) y).map fun b=>a++b
 | n+1,.loop x=>(eBf (eS ts n) x).map ai5
 | n+1,.put _ _=>some [.on]
 | n+1,.plain ps=>match ps with
   | [.s k,.s nm]=>if k="call" then (a29 ts nm).bind fun b=>(eBf (eS ts n) b).map ag3 else if k="say" then some [.on] else none
   | [.s k]=>(endW k).map fun w=>[w]
   | [.s k,.i _,.s _]=>if k="hand" then some [.on] else none
   | _=>none
theorem bb9 {f g:Stm→Option (List Wd)}(h:∀ s r,f s=some r→g s=some r):∀ {b:List Stm}{e r:List Wd},eL f b e=some r→eL g b e=some r
 | [],e,r,h1=>h1
 | s::b,e,r,h1=>by
   unfold eL at h1 ⊢
   split at h1
   · rename_i ho
     rw [if_pos ho]
     obtain ⟨z,h2,h3⟩:=Option.bind_eq_some_iff.mp h1
     exact Option.bind_eq_some_iff.mpr ⟨z,h s z h2,bb9 h h3⟩
   · rename_i ho
     rw [if_neg ho]
     exact h1
theorem ag4 {f g:Stm→Option (List Wd)}(h:∀ s r,f s=some r→g s=some r) {b:List Stm}{r:List Wd}(h1:eBf f b=some r):eBf g b=some r:=by
 unfold eBf at h1 ⊢
 split at h1
 · rename_i hl
   rw [if_pos hl]
   obtain ⟨z,h2,h3⟩:=Option.map_eq_some_iff.mp h1
   exact Option.map_eq_some_iff.mpr ⟨z,bb9 h h2,h3⟩
 · cases h1
theorem al0 (ts:Tks):∀ n s r,eS ts n s=some r→eS ts (n+1) s=some r
 | 0,s,r,h=>by simp [eS] at h
 | n+1,.wait _ _,r,h=>h
 | n+1,.put _ _,r,h=>h
 | n+1,.test c x y,r,h=>by
   obtain ⟨a,h1,h2⟩:=Option.bind_eq_some_iff.mp h
   obtain ⟨b,h3,h4⟩:=Option.map_eq_some_iff.mp h2
   exact Option.bind_eq_some_iff.mpr ⟨a,ag4 (al0 ts n) h1,Option.map_eq_some_iff.mpr ⟨b,ag4 (al0 ts n) h3,h4⟩⟩
 | n+1,.loop x,r,h=>by
   obtain ⟨a,h1,h2⟩:=Option.map_eq_some_iff.mp h
   exact Option.map_eq_some_iff.mpr ⟨a,ag4 (al0 ts n) h1,h2⟩
 | n+1,.plain ps,r,h=>by
   unfold eS at h ⊢
   split at h
   · rename_i k nm
     split at h
     · rename_i hk
       rw [if_pos hk]
       obtain ⟨b,h1,h2⟩:=Option.bind_eq_some_iff.mp h
       obtain ⟨a,h3,h4⟩:=Option.map_eq_some_iff.mp h2
       exact Option.bind_eq_some_iff.mpr ⟨b,h1,Option.map_eq_some_iff.mpr ⟨a,ag4 (al0 ts n) h3,h4⟩⟩
     · rename_i hk
       rw [if_neg hk]
       exact h
   · exact h
   · exact h
   · cases h
theorem ce2 {ts:Tks}{n m:Nat}(hnm:n≤m) {s:Stm}{r:List Wd}(h:eS ts n s=some r):eS ts m s=some r:=by
 obtain ⟨k,rfl⟩:=Nat.exists_eq_add_of_le hnm
 induction k with
 | zero=>exact h
 | succ k ih=>exact al0 ts _ _ _ (ih (Nat.le_add_right _ _))
theorem c62 {ts:Tks}{n m:Nat}(hnm:n≤m) {b:List Stm}{r:List Wd}(h:eBf (eS ts n) b=some r):eBf (eS ts m) b=some r:=ag4 (fun _ _ z=>ce2 hnm z) h
theorem bo1 {ts:Tks}{n m:Nat}{b:List Stm}{r q:List Wd}(h1:eBf (eS ts n) b=some r) (h2:eBf (eS ts m) b=some q):r=q:=by
 have a:=c62 (Nat.le_max_left n m) h1
 have c:=c62 (Nat.le_max_right n m) h2
 rw [a] at c
 exact Option.some.inj c
theorem ai3 {f:Stm→Option (List Wd)}{b:List Stm}{r:List Wd}(h:eBf f b=some r):ordW r=r∧r.length≤5:=by
 unfold eBf at h
 split at h
 · obtain ⟨z,_,rfl⟩:=Option.map_eq_some_iff.mp h
   exact ⟨bu1 fun w=>ordW_mem,bj6⟩
 · cases h
theorem bc0 {e:List Wd}(h:e.length≤5):(ai5 e).length≤6:=by
 unfold ai5
 have:=List.length_filter_le (fun w=>decide (w=Wd.back∨w=Wd.stop)) e
 rw [List.length_append]
 split <;> simp only [List.length_cons,List.length_nil] <;> omega
theorem bc1 {e:List Wd}(h:e.length≤5):(ag3 e).length≤6:=by
 unfold ag3
 have:=List.length_filter_le (fun w=>decide (w=Wd.stop)) e
 rw [List.length_append]
 split <;> simp only [List.length_cons,List.length_nil] <;> omega
theorem c63 {ts:Tks}{n:Nat}{s:Stm}{r:List Wd}(h:eS ts n s=some r):r.length≤10:=by
 cases n with
 | zero=>simp [eS] at h
 | succ n =>
   cases s with
   | wait _ _=>obtain rfl:=Option.some.inj h; simp
   | put _ _=>obtain rfl:=Option.some.inj h; simp
   | test c x y =>
     obtain ⟨a,h1,h2⟩:=Option.bind_eq_some_iff.mp h
     obtain ⟨b,h3,rfl⟩:=Option.map_eq_some_iff.mp h2
     have:=(ai3 h1).2
     have:=(ai3 h3).2
     rw [List.length_append]
     omega
   | loop x =>
     obtain ⟨a,h1,rfl⟩:=Option.map_eq_some_iff.mp h
     have:=bc0 (ai3 h1).2
     omega
   | plain ps =>
     unfold eS at h
     split at h
     · split at h
       · obtain ⟨b,h1,h2⟩:=Option.bind_eq_some_iff.mp h
         obtain ⟨a,h3,rfl⟩:=Option.map_eq_some_iff.mp h2
         have:=bc1 (ai3 h3).2
         omega
       · split at h
         · obtain rfl:=Option.some.inj h; simp
         · cases h
     · obtain ⟨w,_,rfl⟩:=Option.map_eq_some_iff.mp h
       simp
     · split at h
       · obtain rfl:=Option.some.inj h; simp
       · cases h
     · cases h
noncomputable instance stmDec:DecidableEq Stm:=fun _ _=>Classical.propDecidable _
variable {ts:Tks}{G:Bool→Stm→Prop}
theorem loopW_mem {e:List Wd}{w:Wd}:w∈ai5 e↔(w=.on∧.leave∈e)∨((w=.back∨w=.stop)∧w∈e):=by
 unfold ai5
 rw [List.mem_append,List.mem_filter,decide_eq_true_eq]
 constructor
 · rintro (h | h)
   · split at h
     · rename_i hl; exact .inl ⟨List.mem_singleton.mp h,hl⟩
     · cases h
   · exact .inr ⟨h.2,h.1⟩
 · rintro (⟨rfl,h⟩ | ⟨h1,h2⟩)
   · rw [if_pos h]; exact .inl (by simp)
   · exact .inr ⟨h2,h1⟩
theorem callW_mem {e:List Wd}{w:Wd}:w∈ag3 e↔(w=.on∧(.on∈e∨.back∈e))∨(w=.stop∧w∈e):=by
 unfold ag3
 rw [List.mem_append,List.mem_filter,decide_eq_true_eq]
 constructor
 · rintro (h | h)
   · split at h
     · rename_i hl; exact .inl ⟨List.mem_singleton.mp h,hl⟩
     · cases h
   · exact .inr ⟨h.2,h.1⟩
 · rintro (⟨rfl,h⟩ | ⟨h1,h2⟩)
   · rw [if_pos h]; exact .inl (by simp)
   · exact .inr ⟨h2,h1⟩
variable {ts:Tks}{G:Bool→Stm→Prop}
variable {ts:Tks}{G:Bool→Stm→Prop}
variable {ts:Tks}{G:Bool→Stm→Prop}
theorem c64 {p q:Pt}(h:p.tr=q.tr):p=q:=by
 cases p <;> cases q <;> simp [Pt.tr] at h <;> simp [h]
theorem c65 {p:Pt}{xs:List Tr}:p.tr≠.tup xs:=by cases p <;> simp [Pt.tr]
theorem b10 {p:Pt}{xs:List Tr}:p.tr≠.lst xs:=by cases p <;> simp [Pt.tr]
theorem al1:∀ {ps qs:List Pt},ps.map Pt.tr=qs.map Pt.tr→ps=qs
 | [],[],_=>rfl
 | [],_::_,h=>by simp at h
 | _::_,[],h=>by simp at h
 | p::ps,q::qs,h=>by
   simp only [List.map_cons,List.cons.injEq] at h
   rw [c64 h.1,al1 h.2]
theorem bc2 {a b:Bool}(h:ba2 a=ba2 b):a=b:=by
 cases a <;> cases b <;> first | rfl | exact absurd h (by decide +kernel)
theorem bc3 {a b:Bool}(h:aw7 a=aw7 b):a=b:=by
 cases a <;> cases b <;> first | rfl | exact absurd h (by decide +kernel)
theorem au2:∀ {a b:Ex},a.tr=b.tr→a=b
 | .num i,.num j,h=>by simp [Ex.tr] at h; rw [h]
 | .box i,.box j,h=>by simp [Ex.tr] at h; rw [h]
 | .two k a b,.two l c d,h=>by
   simp only [Ex.tr,Tr.tup.injEq,List.cons.injEq,Tr.str.injEq,and_true] at h
   rw [bc2 h.1,au2 h.2.1,au2 h.2.2]
 | .num i,.box j,h=>by simp [Ex.tr] at h
 | .box i,.num j,h=>by simp [Ex.tr] at h
 | .num i,.two _ _ _,h=>by simp [Ex.tr] at h
 | .two _ _ _,.num i,h=>by simp [Ex.tr] at h
 | .box i,.two _ _ _,h=>by simp [Ex.tr] at h
 | .two _ _ _,.box i,h=>by simp [Ex.tr] at h
theorem b11 (k:Bool):aw7 k≠Str.ofString "both":=by cases k <;> decide +kernel
theorem b12:∀ {a b:Cd},a.tr=b.tr→a=b
 | .cmp k a b,.cmp l c d,h=>by
   simp only [Cd.tr,Tr.tup.injEq,List.cons.injEq,Tr.str.injEq,and_true] at h
   rw [bc3 h.1,au2 h.2.1,au2 h.2.2]
 | .nt a,.nt b,h=>by
   simp only [Cd.tr,Tr.tup.injEq,List.cons.injEq,and_true,true_and] at h
   rw [b12 h]
 | .both a b,.both c d,h=>by
   simp only [Cd.tr,Tr.tup.injEq,List.cons.injEq,and_true,true_and] at h
   rw [b12 h.1,b12 h.2]
 | .cmp k a b,.nt _,h=>by simp [Cd.tr] at h
 | .nt _,.cmp _ _ _,h=>by simp [Cd.tr] at h
 | .nt _,.both _ _,h=>by simp [Cd.tr] at h
 | .both _ _,.nt _,h=>by simp [Cd.tr] at h
 | .cmp k a b,.both _ _,h=>by
   simp only [Cd.tr,Tr.tup.injEq,List.cons.injEq,Tr.str.injEq] at h
   exact absurd h.1 (b11 k)
 | .both _ _,.cmp k a b,h=>by
   simp only [Cd.tr,Tr.tup.injEq,List.cons.injEq,Tr.str.injEq] at h
   exact absurd h.1.symm (b11 k)
theorem c66 (e:Ex):∃ xs,e.tr=.tup xs:=by cases e <;> exact ⟨_,rfl⟩
theorem bc4 {ps:List Pt}{s:Stm}(h:(Stm.plain ps).tr=s.tr):∃ qs,s=.plain qs:=by
 cases s with
 | plain qs=>exact ⟨qs,rfl⟩
 | put n e =>
   exfalso
   obtain ⟨xs,he⟩:=c66 e
   simp only [Stm.tr,Tr.tup.injEq,he] at h
   have:(Tr.tup xs)∈ps.map Pt.tr:=by rw [h]; simp
   obtain ⟨p,_,hp⟩:=List.mem_map.mp this
   exact c65 hp
 | test c a b =>
   exfalso
   simp only [Stm.tr,Tr.tup.injEq] at h
   have:(Tr.lst (Stm.trs a))∈ps.map Pt.tr:=by rw [h]; simp
   obtain ⟨p,_,hp⟩:=List.mem_map.mp this
   exact b10 hp
 | loop a =>
   exfalso
   simp only [Stm.tr,Tr.tup.injEq] at h
   have:(Tr.lst (Stm.trs a))∈ps.map Pt.tr:=by rw [h]; simp
   obtain ⟨p,_,hp⟩:=List.mem_map.mp this
   exact b10 hp
 | wait n a =>
   exfalso
   simp only [Stm.tr,Tr.tup.injEq] at h
   have:(Tr.lst (Br.trs a))∈ps.map Pt.tr:=by rw [h]; simp
   obtain ⟨p,_,hp⟩:=List.mem_map.mp this
   exact b10 hp
mutual
theorem bc5:∀ {s q:Stm},s.tr=q.tr→s=q
 | .plain ps,q,h=>by
   obtain ⟨qs,rfl⟩:=bc4 h
   simp only [Stm.tr,Tr.tup.injEq] at h
   rw [al1 h]
 | .put n e,q,h=>by
   cases q with
   | plain ps=>obtain ⟨_,hh⟩:=bc4 h.symm; cases hh
   | put m f =>
     simp only [Stm.tr,Tr.tup.injEq,List.cons.injEq,Tr.str.injEq,and_true,true_and] at h
     rw [h.1,au2 h.2]
   | loop _=>simp [Stm.tr] at h
   | wait _ _=>simp [Stm.tr] at h
   | test _ _ _=>simp [Stm.tr] at h
 | .loop b,q,h=>by
   cases q with
   | plain ps=>obtain ⟨_,hh⟩:=bc4 h.symm; cases hh
   | put m f=>simp [Stm.tr] at h
   | loop c =>
     simp only [Stm.tr,Tr.tup.injEq,List.cons.injEq,Tr.lst.injEq,and_true,true_and] at h
     rw [ac5 h]
   | wait _ _=>simp [Stm.tr] at h
   | test _ _ _=>simp [Stm.tr] at h
 | .wait n bs,q,h=>by
   cases q with
   | plain ps=>obtain ⟨_,hh⟩:=bc4 h.symm; cases hh
   | put m f=>simp [Stm.tr] at h
   | loop c=>simp [Stm.tr] at h
   | wait m cs =>
     simp only [Stm.tr,Tr.tup.injEq,List.cons.injEq,Tr.lst.injEq,Tr.int.injEq,and_true,true_and] at h
     rw [h.1,bc6 h.2]
   | test _ _ _=>simp [Stm.tr] at h
 | .test c a b,q,h=>by
   cases q with
   | plain ps=>obtain ⟨_,hh⟩:=bc4 h.symm; cases hh
   | put m f=>simp [Stm.tr] at h
   | loop c=>simp [Stm.tr] at h
   | wait m cs=>simp [Stm.tr] at h
   | test d x y =>
     simp only [Stm.tr,Tr.tup.injEq,List.cons.injEq,Tr.lst.injEq,and_true,true_and] at h
     rw [b12 h.1,ac5 h.2.1,ac5 h.2.2]
theorem ac5:∀ {s q:List Stm},Stm.trs s=Stm.trs q→s=q
 | [],[],_=>rfl
 | [],_::_,h=>by simp [Stm.trs] at h
 | _::_,[],h=>by simp [Stm.trs] at h
 | s::r,q::t,h=>by
   simp only [Stm.trs,List.cons.injEq] at h
   rw [bc5 h.1,ac5 h.2]
theorem bc6:∀ {s q:List Br},Br.trs s=Br.trs q→s=q
 | [],[],_=>rfl
 | [],_::_,h=>by simp [Br.trs] at h
 | _::_,[],h=>by simp [Br.trs] at h
 | s::r,q::t,h=>by
   simp only [Br.trs,List.cons.injEq] at h
   rw [c67 h.1,bc6 h.2]
theorem c67:∀ {s q:Br},s.tr=q.tr→s=q
 | .mk p b,.mk q c,h=>by
   simp only [Br.tr,Tr.tup.injEq,List.cons.injEq,Tr.lst.injEq,and_true] at h
   rw [al1 h.1,ac5 h.2]
end
mutual
def Stm.sz:Stm→Nat
 | .plain _=>1
 | .put _ _=>1
 | .loop b=>1+Stm.szs b
 | .wait _ bs=>1+Br.szs bs
 | .test _ a b=>1+Stm.szs a+Stm.szs b
def Br.sz:Br→Nat
 | .mk _ b=>Stm.szs b
def Stm.szs:List Stm→Nat
 | []=>0
 | s::r=>s.sz+Stm.szs r
def Br.szs:List Br→Nat
 | []=>0
 | s::r=>s.sz+Br.szs r
end
def clP:List Pt→Nat
 | [.s k,.s _]=>if k="call" then 1 else 0
 | _=>0
mutual
def Stm.cl:Stm→Nat
 | .plain ps=>clP ps
 | .put _ _=>0
 | .loop b=>Stm.cls b
 | .wait _ bs=>Br.cls bs
 | .test _ a b=>Stm.cls a+Stm.cls b
def Br.cl:Br→Nat
 | .mk _ b=>Stm.cls b
def Stm.cls:List Stm→Nat
 | []=>0
 | s::r=>s.cl+Stm.cls r
def Br.cls:List Br→Nat
 | []=>0
 | s::r=>s.cl+Br.cls r
end
def plW (nm:List Str) (lp:Bool) (ps:List Pt):Prop:=ps=[.s "say",.s "on"]∨ps=[.s "hand",.i 3,.s "on"]∨(∃ c∈nm,ps=[.s "call",.s c])∨(lp=true∧(ps=[.s "again"]∨ps=[.s "leave"]))∨ps=[.s "back"]∨ps=[.s "stop"]
variable {ts:Tks}{ns:List Str}
theorem bj7 {f:Stm→Option (List Wd)}:∀ {b:List Stm}{e:List Wd},(∀ s∈b,∃ r,f s=some r)→∃ R,eL f b e=some R
 | [],e,_=>⟨e,rfl⟩
 | s::b,e,h=>by
   unfold eL
   by_cases ho:Wd.on∈e
   · rw [if_pos ho]
     obtain ⟨r,hr⟩:=h s (by simp)
     rw [hr]
     exact bj7 fun x hx=>h x (by simp [hx])
   · rw [if_neg ho]
     exact ⟨e,rfl⟩
theorem ad4 {n:Nat}(w:Wd):eS ts (n+1) (.plain [.s w.txt])=(endW w.txt).map fun w=>[w]:=rfl
theorem bc7 {n:Nat}{x:List Stm}:eS ts (n+1) (.loop x)=(eBf (eS ts n) x).map ai5:=rfl
theorem bc8 {n:Nat}{c:Cd}{x y:List Stm}:eS ts (n+1) (.test c x y)=(eBf (eS ts n) x).bind fun a=>(eBf (eS ts n) y).map fun b=>a++b:=rfl
theorem ap5 {n:Nat}{c:Str}:eS ts (n+1) (.plain [.s "call",.s c])=(a29 ts c).bind fun b=>(eBf (eS ts n) b).map ag3:=by
 show (if Str.ofString "call"=Str.ofString "call" then (a29 ts c).bind fun b=>(eBf (eS ts n) b).map ag3 else if Str.ofString "call"=Str.ofString "say" then some [Wd.on] else none)=_
 rw [if_pos rfl]
theorem ad5 (w:Wd):∃ v,endW w.txt=some v:=by
 cases h:endW w.txt with
 | some v=>exact ⟨v,rfl⟩
 | none=>exact absurd rfl (au1 h w)
end L2
namespace L2
open PySem PySem.Spec PyProof.Rows
mutual
def Tr.lay:Tr→Bool
 | .non=>true
 | .int _=>true
 | .str s=>(PyData.str s).canLay0
 | .tup xs=>Tr.lays xs
 | .lst xs=>Tr.lays xs
def Tr.lays:List Tr→Bool
 | []=>true
 | x::xs=>x.lay && Tr.lays xs
end
mutual
theorem al2:∀ t:Tr,(toW t).dat.canLay0=t.lay
 | .non=>rfl
 | .int _=>rfl
 | .str s=>rfl
 | .tup xs=>by simp only [toW,Tw.dat,Tr.lay,PyData.canLay0,ap6 xs]
 | .lst xs=>by simp only [toW,Tw.dat,Tr.lay,PyData.canLay0,ap6 xs]
theorem ap6:∀ ts:List Tr,PyData.canLayAll0 (Tw.dats (toWs ts))=Tr.lays ts
 | []=>rfl
 | t::ts=>by simp only [toWs,Tw.dats,Tr.lays,PyData.canLayAll0,al2 t,ap6 ts]
end
mutual
theorem ax7:∀ t:Tr,(toW t).dat.depth≤t.h+1
 | .non=>by decide
 | .int _=>by simp [toW,Tw.dat,scD,PyData.depth]
 | .str s=>by simp [toW,Tw.dat,scD,PyData.depth]
 | .tup xs=>by
   have:=ap7 xs
   simp only [toW,Tw.dat,Tr.h,PyData.depth]
   omega
 | .lst xs=>by
   have:=ap7 xs
   simp only [toW,Tw.dat,Tr.h,PyData.depth]
   omega
theorem ap7:∀ ts:List Tr,PyData.depthAll (Tw.dats (toWs ts))≤Tr.hs ts+1
 | []=>by simp [toWs,Tw.dats,PyData.depthAll]
 | t::ts=>by
   have h1:=ax7 t
   have h2:=ap7 ts
   simp only [toWs,Tw.dats,Tr.hs,PyData.depthAll]
   omega
end
mutual
theorem bc9:∀ t:Tr,(toW t).nb
 | .non=>trivial
 | .int _=>trivial
 | .str _=>trivial
 | .tup xs=>by simp only [toW,Tw.nb]; exact ax8 xs
 | .lst xs=>by simp only [toW,Tw.nb]; exact ax8 xs
theorem ax8:∀ ts:List Tr,Tw.nbs (toWs ts)
 | []=>trivial
 | t::ts=>⟨bc9 t,ax8 ts⟩
end
mutual
theorem bd0:∀ {t u:Tr},toW t=toW u→t=u
 | .non,u,h=>by cases u <;> simp [toW] at h; rfl
 | .int _,u,h=>by cases u <;> simp [toW] at h; rw [h]
 | .str _,u,h=>by cases u <;> simp [toW] at h; rw [h]
 | .tup xs,u,h=>by
   cases u with
   | tup ys=>simp only [toW,Tw.tup.injEq] at h; rw [ap8 h]
   | _=>simp [toW] at h
 | .lst xs,u,h=>by
   cases u with
   | lst ys=>simp only [toW,Tw.lst.injEq] at h; rw [ap8 h]
   | _=>simp [toW] at h
theorem ap8:∀ {t u:List Tr},toWs t=toWs u→t=u
 | [],[],_=>rfl
 | [],_::_,h=>by simp [toWs] at h
 | _::_,[],h=>by simp [toWs] at h
 | x::xs,y::ys,h=>by
   simp only [toWs,List.cons.injEq] at h
   rw [bd0 h.1,ap8 h.2]
end
theorem eqv_tr {t u:Tr}:PyData.eqv (toW t).dat (toW u).dat=true↔t=u:=by
 rw [Tw.eqv_iff (bc9 t) (bc9 u)]
 exact ⟨bd0,fun h=>by rw [h]⟩
def LdT (t:Tr):Prop:=t.lay=true∧t.h≤35
section
variable {X:Cx}
theorem ce3 {pins:List (Addr×Obj)}{σ:St} {H:Hp}{s:Shared}(I:Inv X pins σ H s) {A:Around}{t u:Tr}{v w:V}{fs gs:List Addr}{x y:Value}(h1:t.At H v fs) (h2:u.At H w gs) (r1:RelV v x) (r2:RelV w y) (l1:LdT t) (l2:LdT u) (hu:A.units+60<cLine):SeqAt.EqAt A s x y (PyData.eqv (toW t).dat (toW u).dat):=by
 obtain ⟨as,q1⟩:=Tw.reads I (at9 h1) r1
 obtain ⟨bs,q2⟩:=Tw.reads I (at9 h2) r2
 have d1:=ax7 t
 have:=l1.2
 exact SeqAt.eqAt_reads _ _ A s x y as bs q1 q2 (by rw [al2]; exact l1.1) (by rw [al2]; exact l2.1) (by omega)
theorem bd1 {α:Type}{R:V→α→Prop}{vs:List V}{us:List Value}{ts:List α}(h:Each R vs ts) (q:Vals vs us):us.length=ts.length∧∀ (j:Nat) (u:Value) (t:α),us[j]?=some u→ts[j]?=some t→∃ v,R v t∧RelV v u:=by
 have hl:=q.length
 refine ⟨by rw [← hl]; exact h.1,fun j u t hu ht=>?_⟩
 have hj:=(List.getElem?_eq_some_iff.mp hu).1
 obtain ⟨v,hv⟩:∃ v,vs[j]?=some v:=⟨_,List.getElem?_eq_getElem (by omega)⟩
 obtain ⟨u',e1,e2⟩:=q.get hv
 rw [hu] at e1
 obtain rfl:=Option.some.inj e1
 exact ⟨v,h.2 j v t hv ht,e2⟩
open Classical in
end
theorem b13 {ts:List Tr}:Tr.lays ts=true↔∀ t∈ts,t.lay=true:=by
 induction ts with
 | nil=>simp [Tr.lays]
 | cons t ts ih=>simp only [Tr.lays,Bool.and_eq_true,ih,List.mem_cons,forall_eq_or_imp]
theorem ad6 {n:Nat}:∀ {b:List Stm},(∀ s∈b,s.tr.h≤n)→Tr.hs (Stm.trs b)≤n
 | [],_=>by simp [Stm.trs,Tr.hs]
 | s::b,h=>by
   simp only [Stm.trs,Tr.hs]
   exact Nat.max_le.mpr ⟨h s (by simp),ad6 fun x hx=>h x (by simp [hx])⟩
theorem bo2 {n:Nat}:∀ {b:List Br},(∀ s∈b,s.tr.h≤n)→Tr.hs (Br.trs b)≤n
 | [],_=>by simp [Br.trs,Tr.hs]
 | s::b,h=>by
   simp only [Br.trs,Tr.hs]
   exact Nat.max_le.mpr ⟨h s (by simp),bo2 fun x hx=>h x (by simp [hx])⟩
theorem ap9 {b:List Stm}(h:∀ s∈b,s.tr.lay=true):Tr.lays (Stm.trs b)=true:=by
 rw [b13,ap0]
 intro t ht
 obtain ⟨s,hs,rfl⟩:=List.mem_map.mp ht
 exact h s hs
theorem bj8:(Tr.tup [.str (Str.ofString "number"),.int 1]).lay=true∧(Cd.cmp true (.num 1) (.num 2)).tr.lay=true∧(Cd.cmp true (.num 1) (.num 2)).tr.h≤5∧(Ex.num 1).tr.lay=true∧(Ex.num 1).tr.h≤5:=by decide +kernel
theorem al3:∀ w∈["say","on","hand","again","leave","back","stop","call","put","a","loop","test","wait","key","other","called","looped"],(PyData.str (Str.ofString w)).canLay0=true:=by decide +kernel
theorem b14 {ps:List Pt}(h:∀ p∈ps,p.tr.lay=true∧p.tr.h=0):(Stm.plain ps).tr.lay=true∧(Stm.plain ps).tr.h≤1:=by
 constructor
 · simp only [Stm.tr,Tr.lay]
   rw [b13]
   intro t ht
   obtain ⟨p,hp,rfl⟩:=List.mem_map.mp ht
   exact (h p hp).1
 · simp only [Stm.tr,Tr.h]
   have:∀ ps:List Pt,(∀ p∈ps,p.tr.lay=true∧p.tr.h=0)→Tr.hs (ps.map Pt.tr)=0:=fun ps=>by
    induction ps with
    | nil=>intro _; rfl
    | cons p ps ih =>
      intro h
      simp only [List.map_cons,Tr.hs]
      rw [(h p (by simp)).2,ih fun q hq=>h q (by simp [hq])]
      rfl
   rw [this ps h]
   exact Nat.le_refl _
def c68 (K:PySem.W.Frag):R2:=fun x y H Q=>∃ (t:Tr) (ts:List Tr) (a:Addr) (vs:List V),t.AtK K H x∧y=.ref a∧SqL K H a vs∧Tr.AtsK K H ts vs∧t.h≤20∧Tr.hs ts≤20∧Q (.bl (decide (t∈ts))) H
theorem b15 {X:Cx}(K:PySem.W.Frag) (hu:X.A.units+64<cLine) (hK:X.K=K:=by rfl):OpR X (compareOp .In) (c68 K):=by
 classical
 subst hK
 intro pins s σ H x y v u Q I rx ry h
 obtain ⟨t,ts,a,vs,h1,rfl,h2,h3,l1,l2,q⟩:=h
 cases ry
 obtain ⟨its,v1,p1,_⟩:=I.list h2
 have hin:=h1.isIn I rx
 have his:=Tr.AtsK.isIns I h3 v1
 refine SeqAt.in_listAt (fun z=>decide (∃ r,Tr.In s.heap r z∧r=t)) p1.isList (fun z hz=>?_) ?_
 · obtain ⟨r,hr,hz'⟩:=bb2 his (by simpa using hz)
   have:=hz'.eqAt hin (A:=X.A.in1) (by have:=c51 hr; rw [ak8]; omega)
   rw [show decide (∃ q,Tr.In s.heap q z∧q=t)=decide (r=t) from Bool.eq_iff_iff.mpr (by
    simp only [decide_eq_true_iff]
    exact ⟨(by rintro ⟨q,a,b⟩; exact (hz'.inj a).trans b),fun e=>⟨r,hz',e⟩⟩)]
   exact this
 · refine ⟨.bl (decide (t∈ts)),H,I,?_,q⟩
   rw [show its.toArray.any (fun z=>decide (∃ r,Tr.In s.heap r z∧r=t))=decide (t∈ts) from ?_]
   · rfl
   rw [← Array.any_toList,Bool.eq_iff_iff,List.any_eq_true,decide_eq_true_iff]
   constructor
   · rintro ⟨z,hz,e⟩
     obtain ⟨r,hr,rfl⟩:=of_decide_eq_true e
     obtain ⟨r',hm,hr'⟩:=bb2 his (by simpa using hz)
     exact hr'.inj hr ▸ hm
   · intro hm
     obtain ⟨j,hj,rfl⟩:=List.mem_iff_getElem.mp hm
     have hj':j<its.length:=by rw [his.len]; exact hj
     exact ⟨its[j],by simp,decide_eq_true ⟨_,his.get j hj' hj,rfl⟩⟩
theorem bo3 {K:PySem.W.Frag}{H:Hp}{Q:VK}{x:V}{a:Addr}{t:Tr}{ts:List Tr}{vs:List V}(h1:t.AtK K H x) (h2:SqL K H a vs) (h3:Tr.AtsK K H ts vs) (l1:t.h≤20) (l2:Tr.hs ts≤20) (h:Q (.bl (decide (t∈ts))) H):c68 K x (.ref a) H Q:=⟨t,ts,a,vs,h1,rfl,h2,h3,l1,l2,h⟩
end L2
namespace L2
open PySem
inductive Itm where
 | st (s:Stm)
 | lp (x:List Stm)
 | cl
abbrev Pil:=List Itm
def Itm.tr:Itm→Tr
 | .st s=>s.tr
 | .lp x=>.tup [.str "looped",.lst (Stm.trs x)]
 | .cl=>.tup [.str "called"]
def sts (b:List Stm):Pil:=b.map Itm.st
theorem bd2 (a b:List Stm):sts (a++b)=sts a++sts b:=List.map_append
def toL:Pil→Option (List Stm×Pil)
 | []=>none
 | .lp x::p=>some (x,p)
 | .cl::_=>none
 | .st _::p=>toL p
def toC:Pil→Option Pil
 | []=>none
 | .cl::p=>some p
 | .lp _::p=>toC p
 | .st _::p=>toC p
def cont (p:Pil):Wd→Pil
 | .on=>p
 | .again=>match toL p with | some (x,q)=>sts x++.lp x::q | none=>[]
 | .leave=>match toL p with | some (_,q)=>q | none=>[]
 | .back=>(toC p).getD []
 | .stop=>[]
theorem al4 {p:Pil}:∀ b:List Stm,toL (sts b++p)=toL p
 | []=>rfl
 | s::b=>al4 b
theorem ah6 {p:Pil}:∀ b:List Stm,toC (sts b++p)=toC p
 | []=>rfl
 | s::b=>ah6 b
theorem a77 {b:List Stm}{p:Pil}{w:Wd}(h:w≠.on):cont (sts b++p) w=cont p w:=by
 cases w with
 | on=>exact absurd rfl h
 | again=>simp only [cont,al4]
 | leave=>simp only [cont,al4]
 | back=>simp only [cont,ah6]
 | stop=>rfl
def plI (ts:Tks) (p:Pil) (ps:List Pt):List Pil:=match ps with
 | [.s k,.s nm]=>if k="call" then (match a29 ts nm with | some b=>[sts b++.cl::p] | none=>[p]) else [p]
 | [.s k]=>if k="again" then [cont p .again] else if k="leave" then [cont p .leave] else if k="back" then [cont p .back] else if k="stop" then [cont p .stop] else [p]
 | _=>[p]
def onI (ts:Tks) (p:Pil):Itm→List Pil
 | .st (.test _ x y)=>[sts x++p,sts y++p]
 | .st (.loop x)=>[sts x++.lp x::p]
 | .st (.wait _ _)=>[p]
 | .st (.put _ _)=>[p]
 | .st (.plain ps)=>plI ts p ps
 | .lp x=>[sts x++.lp x::p]
 | .cl=>[p]
theorem bu2 {ts:Tks}{p:Pil}{ps:List Pt}:(plI ts p ps).length≤2:=by
 unfold plI
 split
 · split
   · split <;> simp
   · simp
 · repeat' split
   all_goals simp
 · simp
theorem bd3 {ts:Tks}{p:Pil}{s:Itm}:(onI ts p s).length≤2:=by
 cases s with
 | lp x=>simp [onI]
 | cl=>simp [onI]
 | st s =>
   cases s with
   | test c x y=>simp [onI]
   | loop x=>simp [onI]
   | wait n bs=>simp [onI]
   | put n e=>simp [onI]
   | plain ps=>exact bu2
theorem bu3 {ts:Tks}{p:Pil}{k:Str}:plI ts p [.s k]=if k="again" then [cont p .again] else if k="leave" then [cont p .leave] else if k="back" then [cont p .back] else if k="stop" then [cont p .stop] else [p]:=rfl
theorem ab7 {ts:Tks}{p:Pil}{w:Wd}(h:w≠.on):onI ts p (.st (.plain [.s w.txt]))=[cont p w]:=by
 show plI ts p [.s w.txt]=_
 rw [bu3]
 cases w with
 | on=>exact absurd rfl h
 | again=>rw [if_pos (by decide +kernel)]
 | leave=>rw [if_neg (by decide +kernel),if_pos (by decide +kernel)]
 | back=>rw [if_neg (by decide +kernel),if_neg (by decide +kernel),if_pos (by decide +kernel)]
 | stop=>rw [if_neg (by decide +kernel),if_neg (by decide +kernel),if_neg (by decide +kernel),if_pos (by decide +kernel)]
theorem ag5 {ts:Tks}{p:Pil}{c:Str}{b:List Stm}(h:a29 ts c=some b):onI ts p (.st (.plain [.s "call",.s c]))=[sts b++.cl::p]:=by
 show (if Str.ofString "call"=Str.ofString "call" then (match a29 ts c with | some b=>[sts b++Itm.cl::p] | none=>[p]) else [p])=_
 rw [if_pos rfl,h]
def isW:Itm→Bool
 | .st (.wait _ _)=>true
 | _=>false
def isLpI:Itm→Bool
 | .lp _=>true
 | _=>false
def Tm (ts:Tks):Nat→Pil→Prop
 | _,[]=>True
 | 0,s::_=>isW s=true
 | m+1,s::p=>isW s=true∨∀ c∈onI ts p s,Tm ts m c
theorem a84 {ts:Tks}{m:Nat}:Tm ts m []:=by cases m <;> trivial
theorem al5 {ts:Tks}:∀ {m:Nat}{P:Pil},Tm ts m P→Tm ts (m+1) P
 | _,[],_=>a84
 | 0,s::p,h=>.inl h
 | m+1,s::p,h=>h.elim .inl fun h=>.inr fun c hc=>al5 (h c hc)
theorem aa2 {ts:Tks}{m n:Nat}{P:Pil}(h:Tm ts m P) (hn:m≤n):Tm ts n P:=by
 obtain ⟨k,rfl⟩:=Nat.exists_eq_add_of_le hn
 induction k with
 | zero=>exact h
 | succ k ih=>exact al5 (ih (Nat.le_add_right _ _))
theorem am4 {ts:Tks}{m:Nat}{s:Itm}{p:Pil}(h:∀ c∈onI ts p s,Tm ts m c):Tm ts (m+1) (s::p):=.inr h
def wS (nm:List Str):Nat→Bool→Stm→Prop
 | _,lp,.plain ps=>plW nm lp ps
 | _,_,.put n e=>n="a"∧e=.num 1
 | 0,_,.loop _=>False
 | 0,_,.test _ _ _=>False
 | 0,_,.wait _ _=>False
 | k+1,_,.loop x=>x.length≤7∧∀ s∈x,wS nm k true s
 | k+1,lp,.test c x y=>c=.cmp false (.num 0) (.num 1)∧(x.length≤7∧∀ s∈x,wS nm k lp s)∧y.length≤7∧∀ s∈y,wS nm k lp s
 | _+1,_,.wait _ bs=>bs=[]
theorem wS_pl {nm:List Str}{k:Nat}{lp:Bool}{ps:List Pt}:wS nm k lp (.plain ps)↔plW nm lp ps:=by cases k <;> exact Iff.rfl
theorem ah7 {nm:List Str}:∀ (k:Nat) (lp:Bool) (s:Stm),wS nm k lp s→wS nm (k+1) lp s
 | k,lp,.plain ps,h=>wS_pl.mpr (wS_pl.mp h)
 | k,lp,.put n e,h=>by cases k <;> exact h
 | 0,lp,.loop x,h=>h.elim
 | 0,lp,.test c x y,h=>h.elim
 | 0,lp,.wait n bs,h=>h.elim
 | k+1,lp,.loop x,h=>⟨h.1,fun s hs=>ah7 k true s (h.2 s hs)⟩
 | k+1,lp,.test c x y,h=>⟨h.1,⟨h.2.1.1,fun s hs=>ah7 k lp s (h.2.1.2 s hs)⟩,h.2.2.1,fun s hs=>ah7 k lp s (h.2.2.2 s hs)⟩
 | k+1,lp,.wait n bs,h=>h
theorem bj9 {nm:List Str}{k k':Nat}{lp:Bool}{s:Stm}(h:wS nm k lp s) (hk:k≤k'):wS nm k' lp s:=by
 obtain ⟨e,rfl⟩:=Nat.exists_eq_add_of_le hk
 induction e with
 | zero=>exact h
 | succ e ih=>exact ah7 _ _ _ (ih (Nat.le_add_right _ _))
structure TkC (ts:Tks) (ns:List Str):Prop where
 t:∀ i n,ns[i]?=some n→∃ b,a29 ts n=some b∧(b.length≤7∧∀ s∈b,wS (ns.drop (i+1)) 5 false s)∧Stm.szs b≤50∧Stm.cls b≤4
 l:ns.length≤3
variable {ts:Tks}{ns:List Str}
theorem TkC.call (h:TkC ts ns) {j:Nat}{c:Str}(hc:c∈ns.drop j):∃ i b,j≤i∧i<ns.length∧a29 ts c=some b∧(b.length≤7∧∀ s∈b,wS (ns.drop (i+1)) 5 false s)∧Stm.szs b≤50∧Stm.cls b≤4:=by
 obtain ⟨k,hk⟩:=List.mem_iff_getElem?.mp hc
 rw [List.getElem?_drop] at hk
 obtain ⟨b,h1,h2,h3,h4⟩:=h.t _ _ hk
 exact ⟨j+k,b,Nat.le_add_right _ _,(List.getElem?_eq_some_iff.mp hk).1,h1,h2,h3,h4⟩
mutual
def lpsS:Stm→List (List Stm)
 | .plain _=>[]
 | .put _ _=>[]
 | .loop b=>b::lpsB b
 | .wait _ _=>[]
 | .test _ x y=>lpsB x++lpsB y
def lpsB:List Stm→List (List Stm)
 | []=>[]
 | s::b=>lpsS s++lpsB b
end
theorem aq0:∀ a b:List Stm,lpsB (a++b)=lpsB a++lpsB b
 | [],b=>rfl
 | s::a,b=>by simp only [List.cons_append,lpsB,aq0 a b,List.append_assoc]
theorem szsA (a b:List Stm):Stm.szs (a++b)=Stm.szs a+Stm.szs b:=by
 induction a with
 | nil=>simp [Stm.szs]
 | cons x a ih=>simp only [List.cons_append,Stm.szs,ih]; omega
theorem clsA (a b:List Stm):Stm.cls (a++b)=Stm.cls a+Stm.cls b:=by
 induction a with
 | nil=>simp [Stm.cls]
 | cons x a ih=>simp only [List.cons_append,Stm.cls,ih]; omega
theorem bo4 (s:Stm):1≤s.sz:=by cases s <;> simp only [Stm.sz] <;> omega
theorem aq1:∀ b:List Stm,b.length≤Stm.szs b
 | []=>Nat.le_refl _
 | s::b=>by
   have:=aq1 b
   have:=bo4 s
   simp only [List.length_cons,Stm.szs]
   omega
def NDr (ts:Tks) (x:List Stm):Prop:=∃ E,eBf (eS ts 30) x=some E∧.on∉E∧.again∉E
theorem bk0 {f:Stm→Option (List Wd)}{b:List Stm}{e:List Wd}(h:Wd.on∉e):eL f b e=some e:=by
 cases b with
 | nil=>rfl
 | cons s b=>rw [eL,if_neg h]
theorem c69 {f:Stm→Option (List Wd)}:∀ {b:List Stm}{e R e':List Wd},eL f b e=some R→Wd.on∈e→Wd.on∈e'→∃ R',eL f b e'=some R'
 | [],e,R,e',_,_,_=>⟨e',rfl⟩
 | s::b,e,R,e',h,he,he'=>by
   rw [eL,if_pos he] at h
   obtain ⟨r,h1,h2⟩:=Option.bind_eq_some_iff.mp h
   rw [eL,if_pos he',h1]
   show ∃ R',eL f b (e'.filter (fun w=>decide (w≠.on))++r)=some R'
   by_cases hr:Wd.on∈r
   · exact c69 h2 (List.mem_append_right _ hr) (List.mem_append_right _ hr)
   · exact ⟨_,bk0 (fun z=>(List.mem_append.mp z).elim (fun z=>by simp at z) hr)⟩
theorem bu4 {f:Stm→Option (List Wd)}:∀ {b:List Stm}{e R:List Wd},eL f b e=some R→Wd.on∈e→∃ R',eL f b [.on]=some R'∧∀ w,w∈R↔(w∈e∧w≠.on)∨w∈R'
 | [],e,R,h,ho=>by
   obtain rfl:=Option.some.inj h
   refine ⟨[.on],rfl,fun w=>?_⟩
   by_cases hw:w=.on
   · subst hw; simp [ho]
   · simp [hw]
 | s::b,e,R,h,ho=>by
   rw [eL,if_pos ho] at h
   obtain ⟨r,h1,h2⟩:=Option.bind_eq_some_iff.mp h
   have hx:eL f (s::b) [.on]=eL f b r:=by
    rw [eL,if_pos (by simp),h1]
    rfl
   rw [hx]
   by_cases hr:Wd.on∈r
   · obtain ⟨R1,g1,g2⟩:=bu4 h2 (List.mem_append_right _ hr)
     obtain ⟨R2,hR2⟩:=c69 h2 (List.mem_append_right _ hr) hr
     obtain ⟨R3,k1,k2⟩:=bu4 hR2 hr
     rw [g1] at k1
     obtain rfl:=Option.some.inj k1
     refine ⟨R2,hR2,fun w=>?_⟩
     rw [g2,k2,List.mem_append,List.mem_filter,decide_eq_true_eq]
     constructor
     · rintro (⟨h1 | h1,h2⟩ | h1)
       · exact .inl h1
       · exact .inr (.inl ⟨h1,h2⟩)
       · exact .inr (.inr h1)
     · rintro (h1 | h1 | h1)
       · exact .inl ⟨.inl h1,h1.2⟩
       · exact .inl ⟨.inr h1.1,h1.2⟩
       · exact .inr h1
   · have hno:Wd.on∉e.filter (fun w=>decide (w≠.on))++r:=fun z=>(List.mem_append.mp z).elim (fun z=>by simp at z) hr
     rw [bk0 hno] at h2
     obtain rfl:=Option.some.inj h2
     refine ⟨r,bk0 hr,fun w=>?_⟩
     rw [List.mem_append,List.mem_filter,decide_eq_true_eq]
theorem bd4 {f:Stm→Option (List Wd)}{s:Stm}{b:List Stm}{E:List Wd}(h:eBf f (s::b)=some E):∃ r,f s=some r∧(∀ w∈r,w≠.on→w∈E)∧(Wd.on∈r→∃ E',eBf f b=some E'∧∀ w∈E',w∈E)∧∀ w∈E,(w∈r∧w≠.on)∨(Wd.on∈r∧∃ E',eBf f b=some E'∧w∈E'):=by
 unfold eBf at h
 split at h
 · rename_i hl
   obtain ⟨R,h1,rfl⟩:=Option.map_eq_some_iff.mp h
   rw [eL,if_pos (by simp)] at h1
   obtain ⟨r,g1,g2⟩:=Option.bind_eq_some_iff.mp h1
   have g2:eL f b r=some R:=g2
   by_cases hr:Wd.on∈r
   · obtain ⟨R',k1,k2⟩:=bu4 g2 hr
     have hb:eBf f b=some (ordW R'):=by
      unfold eBf
      rw [if_pos (by rw [List.length_cons] at hl; omega),k1]
      rfl
     refine ⟨r,g1,fun w hw hn=>ordW_mem.mpr ((k2 w).mpr (.inl ⟨hw,hn⟩)),fun _=>⟨_,hb,fun w hw=>ordW_mem.mpr ((k2 w).mpr (.inr (ordW_mem.mp hw)))⟩,fun w hw=>?_⟩
     rcases (k2 w).mp (ordW_mem.mp hw) with z | z
     · exact .inl z
     · exact .inr ⟨hr,_,hb,ordW_mem.mpr z⟩
   · rw [bk0 hr] at g2
     obtain rfl:=Option.some.inj g2
     exact ⟨r,g1,fun w hw _=>ordW_mem.mpr hw,fun z=>absurd z hr,fun w hw=>.inl ⟨ordW_mem.mp hw,fun z=>hr (z ▸ ordW_mem.mp hw)⟩⟩
 · cases h
theorem bo5 {f:Stm→Option (List Wd)}{E:List Wd}(h:eBf f []=some E):E=[.on]:=by
 unfold eBf at h
 rw [if_pos (by simp)] at h
 exact (Option.some.inj h).symm
def Cb:Nat→Nat
 | 0=>100
 | d+1=>100+4*Cb d
def Cc:Nat→Nat
 | 0=>0
 | d+1=>Cb d
theorem c70 (d:Nat):Cb d=100+4*Cc d:=by cases d <;> rfl
theorem bd5 {n:Nat}{B:Nat}{P:Stm→Prop}(hs:∀ s p m r,P s→eS ts n s=some r→(∀ w∈r,Tm ts m (cont p w))→Tm ts (m+(2*s.sz+s.cl*B)) (.st s::p)):∀ {b:List Stm}{p:Pil}{m:Nat}{E:List Wd},(∀ s∈b,P s)→eBf (eS ts n) b=some E→(∀ w∈E,Tm ts m (cont p w))→Tm ts (m+(2*Stm.szs b+Stm.cls b*B)) (sts b++p)
 | [],p,m,E,_,h,hw=>by
   rw [bo5 h] at hw
   exact aa2 (hw .on (by simp)) (Nat.le_add_right _ _)
 | s::b,p,m,E,hp,h,hw=>by
   obtain ⟨r,h1,h2,h3,_⟩:=bd4 h
   have:Tm ts ((m+(2*Stm.szs b+Stm.cls b*B))+(2*s.sz+s.cl*B)) (.st s::(sts b++p)):=by
    refine hs s _ _ r (hp s (by simp)) h1 fun w hr=>?_
    by_cases ho:w=.on
    · subst ho
      obtain ⟨E',g1,g2⟩:=h3 hr
      exact bd5 hs (fun x hx=>hp x (by simp [hx])) g1 fun w hw'=>hw w (g2 w hw')
    · rw [a77 ho]
      exact aa2 (hw w (h2 w hr ho)) (Nat.le_add_right _ _)
   refine aa2 this ?_
   simp only [Stm.szs,Stm.cls,Nat.add_mul]
   omega
theorem c71 (hC:TkC ts ns) (hN:∀ c b,a29 ts c=some b→∀ x∈lpsB b,NDr ts x):∀ (n d j k:Nat) (lp:Bool) (s:Stm) (p:Pil) (m:Nat) (r:List Wd),wS (ns.drop j) k lp s→ns.length≤j+d→(∀ x∈lpsS s,NDr ts x)→eS ts n s=some r→(∀ w∈r,Tm ts m (cont p w))→Tm ts (m+(2*s.sz+s.cl*Cc d)) (.st s::p)
 | 0,d,j,k,lp,s,p,m,r,hw,hj,hn,he,ht=>by simp [eS] at he
 | n+1,d,j,k,lp,s,p,m,r,hw,hj,hn,he,ht=>by
   have bd:∀ {d j k:Nat}{lp:Bool}{b:List Stm}{p:Pil}{m:Nat}{E:List Wd},(∀ s∈b,wS (ns.drop j) k lp s)→ns.length≤j+d→(∀ x∈lpsB b,NDr ts x)→eBf (eS ts n) b=some E→(∀ w∈E,Tm ts m (cont p w))→Tm ts (m+(2*Stm.szs b+Stm.cls b*Cc d)) (sts b++p):=fun {d j k lp b p m E} h1 h2 h3 h4 h5 =>
    bd5 (P:=fun s=>wS (ns.drop j) k lp s∧∀ x∈lpsS s,NDr ts x) (fun s p m r hp he ht=>c71 hC hN n d j k lp s p m r hp.1 h2 hp.2 he ht) (fun s hs=>⟨h1 s hs,fun x hx=>h3 x (by
     clear h1 h4 h5
     induction b with
     | nil=>cases hs
     | cons y b ih =>
       rw [lpsB]
       rcases List.mem_cons.mp hs with rfl | hs
       · exact List.mem_append_left _ hx
       · exact List.mem_append_right _ (ih (fun z hz=>h3 z (by rw [lpsB]; exact List.mem_append_right _ hz)) hs))⟩) h4 h5
   cases s with
   | wait a bs=>exact aa2 (m:=0) rfl (Nat.zero_le _)
   | put a e =>
     obtain rfl:=Option.some.inj he
     refine aa2 (am4 (m:=m) fun c hc=>?_) (by simp only [Stm.sz]; omega)
     rw [List.mem_singleton.mp hc]
     exact ht .on (by simp)
   | test c x y =>
     cases k with
     | zero=>exact hw.elim
     | succ k =>
       obtain ⟨A,g1,g2⟩:=Option.bind_eq_some_iff.mp (show ((eBf (eS ts n) x).bind fun a=>(eBf (eS ts n) y).map fun b=>a++b)=some r from he)
       obtain ⟨B,g3,rfl⟩:=Option.map_eq_some_iff.mp g2
       have t1:=bd (p:=p) (m:=m) hw.2.1.2 hj (fun z hz=>hn z (by rw [lpsS]; exact List.mem_append_left _ hz)) g1 fun w hw=>ht w (List.mem_append_left _ hw)
       have t2:=bd (p:=p) (m:=m) hw.2.2.2 hj (fun z hz=>hn z (by rw [lpsS]; exact List.mem_append_right _ hz)) g3 fun w hw=>ht w (List.mem_append_right _ hw)
       refine aa2 (am4 (m:=m+(2*Stm.szs x+Stm.cls x*Cc d)+(2*Stm.szs y+Stm.cls y*Cc d)) fun c hc=>?_) (by simp only [Stm.sz,Stm.cl,Nat.add_mul]; omega)
       have hc:c=sts x++p∨c=sts y++p:=by simpa [onI] using hc
       rcases hc with rfl | rfl
       · exact aa2 t1 (by omega)
       · exact aa2 t2 (by omega)
   | loop x =>
     cases k with
     | zero=>exact hw.elim
     | succ k =>
       obtain ⟨A,g1,rfl⟩:=Option.map_eq_some_iff.mp (show (eBf (eS ts n) x).map ai5=some r from he)
       obtain ⟨E,e1,e2,e3⟩:=hn x (by rw [lpsS]; exact List.mem_cons_self)
       obtain rfl:=bo1 e1 g1
       have t1:=bd (p:=.lp x::p) (m:=m) hw.2 hj (fun z hz=>hn z (by rw [lpsS]; exact List.mem_cons_of_mem _ hz)) g1 fun w hw=>by
        cases w with
        | on=>exact absurd hw e2
        | again=>exact absurd hw e3
        | leave=>exact ht .on (loopW_mem.mpr (.inl ⟨rfl,hw⟩))
        | back=>exact ht .back (loopW_mem.mpr (.inr ⟨.inl rfl,hw⟩))
        | stop=>exact a84
       refine aa2 (am4 (m:=m+(2*Stm.szs x+Stm.cls x*Cc d)) fun c hc=>?_) (by simp only [Stm.sz,Stm.cl]; omega)
       rw [List.mem_singleton.mp hc]
       exact t1
   | plain ps =>
     rcases wS_pl.mp hw with rfl | rfl | ⟨c,hc,rfl⟩ | hrest
     · obtain rfl:=Option.some.inj (show some [Wd.on]=some r from he)
       refine aa2 (am4 (m:=m) fun c hc=>?_) (by simp only [Stm.sz]; omega)
       have hc:c∈[p]:=hc
       rw [List.mem_singleton.mp hc]
       exact ht .on (by simp)
     · obtain rfl:=Option.some.inj (show some [Wd.on]=some r from he)
       refine aa2 (am4 (m:=m) fun c hc=>?_) (by simp only [Stm.sz]; omega)
       have hc:c∈[p]:=hc
       rw [List.mem_singleton.mp hc]
       exact ht .on (by simp)
     · obtain ⟨i,b,h1,h2,h3,h4,h5,h6⟩:=hC.call hc
       rw [ap5,h3] at he
       obtain ⟨A,g1,rfl⟩:=Option.map_eq_some_iff.mp (show (eBf (eS ts n) b).map ag3=some r from he)
       obtain ⟨d,rfl⟩:∃ e,d=e+1:=⟨d - 1,by omega⟩
       have t1:=bd (d:=d) (j:=i+1) (p:=.cl::p) (m:=m+1) h4.2 (by omega) (hN c b h3) g1 fun w hw=>by
        cases w with
        | on=>exact am4 fun c hc=>by rw [List.mem_singleton.mp hc]; exact ht .on (callW_mem.mpr (.inl ⟨rfl,.inl hw⟩))
        | again=>exact a84
        | leave=>exact a84
        | back=>exact al5 (ht .on (callW_mem.mpr (.inl ⟨rfl,.inr hw⟩)))
        | stop=>exact a84
       have hb:=Nat.mul_le_mul_right (Cc d) h6
       have e1:=c70 d
       have e2:(Stm.plain [Pt.s "call",Pt.s c]).cl=1:=rfl
       refine aa2 (am4 (m:=m+1+(2*Stm.szs b+Stm.cls b*Cc d)) fun q hq=>?_) (by
        have e3:Cc (d+1)=Cb d:=rfl
        rw [e2,e3]
        simp only [Stm.sz]
        omega)
       rw [ag5 h3] at hq
       rw [List.mem_singleton.mp hq]
       exact t1
     · obtain ⟨v,hv,rfl⟩:∃ v:Wd,v≠.on∧ps=[.s v.txt]:=by
        rcases hrest with ⟨_,rfl | rfl⟩ | rfl | rfl
        · exact ⟨.again,by decide,rfl⟩
        · exact ⟨.leave,by decide,rfl⟩
        · exact ⟨.back,by decide,rfl⟩
        · exact ⟨.stop,by decide,rfl⟩
       rw [ad4] at he
       obtain ⟨u,hu⟩:=ad5 v
       rw [hu] at he
       obtain rfl:=a76 (ag0 hu)
       obtain rfl:=Option.some.inj he
       refine aa2 (am4 (m:=m) fun c hc=>?_) (by simp only [Stm.sz]; omega)
       rw [ab7 hv] at hc
       rw [List.mem_singleton.mp hc]
       exact ht _ (by simp)
variable {ts:Tks}{ns:List Str}
structure Sgm (N:List Stm→Prop) (ns:List Str) (d k:Nat) (lp:Bool) (b:List Stm):Prop where
 w:∃ j,ns.length≤j+d∧∀ s∈b,wS (ns.drop j) k lp s
 z:Stm.szs b≤50
 c:Stm.cls b≤4
 n:∀ x∈lpsB b,N x
inductive WP (N:List Stm→Prop) (ns:List Str):Nat→Nat→Pil→Prop
 | bot {d:Nat}{b:List Stm}(hd:d≤2) (h:Sgm N ns d 5 false b):WP N ns d 5 (sts b)
 | lp {d k:Nat}{b x:List Stm}{P:Pil}(hk:k<5) (h:Sgm N ns d k true b) (hx:Sgm N ns d k true x) (hn:N x) (h2:WP N ns d (k+1) P):WP N ns d k (sts b++.lp x::P)
 | cl {d k:Nat}{b:List Stm}{P:Pil}(h:Sgm N ns d 5 false b) (h2:WP N ns (d+1) k P):WP N ns d 5 (sts b++.cl::P)
variable {N:List Stm→Prop}
theorem WP.lv {d k:Nat}{P:Pil}(h:WP N ns d k P):d≤2∧k≤5:=by
 induction h with
 | bot hd _=>exact ⟨hd,Nat.le_refl _⟩
 | lp hk _ _ _ _ ih=>exact ⟨ih.1,by omega⟩
 | cl _ _ ih=>exact ⟨by omega,Nat.le_refl _⟩
theorem bd6 {d k:Nat}{lp:Bool}:Sgm N ns d k lp []:=⟨⟨ns.length,by omega,fun s h=>(by cases h)⟩,Nat.zero_le _,Nat.zero_le _,fun x h=>(by cases h)⟩
theorem Sgm.tl {d k:Nat}{lp:Bool}{s:Stm}{b:List Stm}(h:Sgm N ns d k lp (s::b)):Sgm N ns d k lp b:=by
 obtain ⟨j,h1,h2⟩:=h.w
 have hz:=h.z
 have hc:=h.c
 simp only [Stm.szs,Stm.cls] at hz hc
 exact ⟨⟨j,h1,fun x hx=>h2 x (by simp [hx])⟩,by omega,by omega,fun x hx=>h.n x (by rw [lpsB]; exact List.mem_append_right _ hx)⟩
theorem bu5 {d k:Nat}{P:Pil}(h:WP N ns d k P):∀ q,toC P=some q→∃ d' k',WP N ns d' k' q:=by
 induction h with
 | bot hd h=>intro q hq; rw [show sts _=sts _++[] from (List.append_nil _).symm,ah6] at hq; cases hq
 | lp hk h hx hn h2 ih=>intro q hq; rw [ah6] at hq; exact ih q hq
 | cl h h2 ih=>intro q hq; rw [ah6] at hq; obtain rfl:=Option.some.inj hq; exact ⟨_,_,h2⟩
theorem ax9:WP N ns 0 5 ([]:Pil):=WP.bot (b:=[]) (by omega) bd6
theorem bk1 {d k:Nat}{P:Pil}(h:WP N ns d k P):∃ d' k',WP N ns d' k' ((toC P).getD []):=by
 cases e:toC P with
 | none=>exact ⟨0,5,ax9⟩
 | some q=>exact bu5 h q e
def Ok1 (ts:Tks) (p:Pil):Itm→Prop
 | .st (.plain ps)=>(ps=[.s "again"]→∃ x q,toL p=some (x,q))∧∀ c,ps=[.s "call",.s c]→∃ b,a29 ts c=some b
 | _=>True
theorem al6 {d k:Nat}{c c':Pil}(h:c∈[c']) (w:WP N ns d k c'):∃ d k,WP N ns d k c:=by
 rw [List.mem_singleton.mp h]
 exact ⟨_,_,w⟩
theorem aq2 (hC:TkC ts ns) (hN:∀ c b,a29 ts c=some b→∀ x∈lpsB b,N x) {d k:Nat}{lp:Bool}{s:Stm}{b:List Stm}{R:Pil}(hk:k≤5) (h:Sgm N ns d k lp (s::b)) (W:∀ b',Sgm N ns d k lp b'→WP N ns d k (sts b'++R)) (hL:lp=true→∃ x q,toL R=some (x,q)∧(∃ d' k',WP N ns d' k' q)∧∃ d' k',WP N ns d' k' (sts x++.lp x::q)):Ok1 ts (sts b++R) (.st s)∧∀ c∈onI ts (sts b++R) (.st s),∃ d' k',WP N ns d' k' c:=by
 obtain ⟨j,h1,h2⟩:=h.w
 have hs:=h2 s (by simp)
 have hz:=h.z
 have hc:=h.c
 simp only [Stm.szs,Stm.cls] at hz hc
 have base:=W b h.tl
 cases s with
 | wait n bs=>exact ⟨trivial,fun c hc=>al6 hc (base)⟩
 | put n e=>exact ⟨trivial,fun c hc=>al6 hc (base)⟩
 | test c0 x y =>
   cases k with
   | zero=>exact hs.elim
   | succ k =>
     simp only [Stm.sz,Stm.cl] at hz hc
     have hn:=h.n
     simp only [lpsB,lpsS] at hn
     have sg:∀ u,(u=x∨u=y)→Sgm N ns d (k+1) lp (u++b):=fun u hu=>⟨⟨j,h1,fun z hm=>by
      rcases List.mem_append.mp hm with hm | hm
      · rcases hu with rfl | rfl
        · exact ah7 _ _ _ (hs.2.1.2 z hm)
        · exact ah7 _ _ _ (hs.2.2.2 z hm)
      · exact h2 z (by simp [hm])⟩,by rw [szsA]; rcases hu with rfl | rfl <;> omega,by rw [clsA]; rcases hu with rfl | rfl <;> omega,fun z hm=>hn z (by
      rw [aq0] at hm
      simp only [List.mem_append] at hm ⊢
      rcases hm with hm | hm
      · rcases hu with rfl | rfl
        · exact .inl (.inl hm)
        · exact .inl (.inr hm)
      · exact .inr hm)⟩
     refine ⟨trivial,fun c hc=>?_⟩
     have hc:c=sts x++(sts b++R)∨c=sts y++(sts b++R):=by simpa [onI] using hc
     rcases hc with rfl | rfl
     · have:=W _ (sg x (.inl rfl)); rw [bd2,List.append_assoc] at this; exact ⟨_,_,this⟩
     · have:=W _ (sg y (.inr rfl)); rw [bd2,List.append_assoc] at this; exact ⟨_,_,this⟩
 | loop x =>
   cases k with
   | zero=>exact hs.elim
   | succ k =>
     simp only [Stm.sz,Stm.cl] at hz hc
     have hn:=h.n
     simp only [lpsB,lpsS] at hn
     have sx:Sgm N ns d k true x:=⟨⟨j,h1,hs.2⟩,by omega,by omega,fun z hz=>hn z (by simp [hz])⟩
     exact ⟨trivial,fun c hc=>al6 hc (WP.lp (by omega) sx sx (hn x (by simp)) base)⟩
 | plain ps =>
   have lp':=base
   rcases wS_pl.mp hs with rfl | rfl | ⟨c,hcm,rfl⟩ | hrest
   · refine ⟨⟨fun z=>by simp at z,fun c z=>absurd (List.cons.inj z).1 (by simp; decide +kernel)⟩,fun c hc=>al6 (show c∈[sts b++R] from hc) base⟩
   · refine ⟨⟨fun z=>by simp at z,fun c z=>absurd (List.cons.inj z).1 (by simp; decide +kernel)⟩,fun c hc=>al6 (show c∈[sts b++R] from hc) base⟩
   · obtain ⟨i,b2,g1,g2,g3,g4,g5,g6⟩:=hC.call hcm
     obtain ⟨d,rfl⟩:∃ e,d=e+1:=⟨d - 1,by omega⟩
     refine ⟨⟨fun z=>by simp at z,fun c' z=>⟨b2,by rw [← g3]; simp at z; rw [z]⟩⟩,fun q hq=>?_⟩
     rw [ag5 g3] at hq
     rw [List.mem_singleton.mp hq]
     exact ⟨_,_,WP.cl ⟨⟨i+1,by omega,g4.2⟩,g5,g6,hN c b2 g3⟩ base⟩
   · obtain ⟨v,hv,rfl,hvl⟩:∃ v:Wd,v≠.on∧ps=[.s v.txt]∧(v=.again∨v=.leave→lp=true):=by
      rcases hrest with ⟨hl,rfl | rfl⟩ | rfl | rfl
      · exact ⟨.again,by decide,rfl,fun _=>hl⟩
      · exact ⟨.leave,by decide,rfl,fun _=>hl⟩
      · exact ⟨.back,by decide,rfl,fun z=>by rcases z with z | z <;> cases z⟩
      · exact ⟨.stop,by decide,rfl,fun z=>by rcases z with z | z <;> cases z⟩
     refine ⟨⟨fun z=>?_,fun c z=>by simp at z⟩,fun c hc=>?_⟩
     · obtain ⟨x,q,h3,_⟩:=hL (hvl (.inl (a76 (b:=.again) (by have:=z; simp at this; exact this))))
       exact ⟨x,q,by rw [al4]; exact h3⟩
     · rw [ab7 hv,a77 hv] at hc
       rw [List.mem_singleton.mp hc]
       cases v with
       | on=>exact absurd rfl hv
       | again =>
         obtain ⟨x,q,h3,_,h5⟩:=hL (hvl (.inl rfl))
         simp only [cont,h3]
         exact h5
       | leave =>
         obtain ⟨x,q,h3,h4,_⟩:=hL (hvl (.inr rfl))
         simp only [cont,h3]
         exact h4
       | back =>
         obtain ⟨d',k',h6⟩:=bk1 base
         rw [ah6] at h6
         exact ⟨d',k',h6⟩
       | stop=>exact ⟨0,5,ax9⟩
theorem aq3 (hC:TkC ts ns) (hN:∀ c b,a29 ts c=some b→∀ x∈lpsB b,N x) {d k:Nat}{s:Itm}{p:Pil}(h:WP N ns d k (s::p)):Ok1 ts p s∧∀ c∈onI ts p s,∃ d' k',WP N ns d' k' c:=by
 have hkk:=h.lv
 generalize hP:s::p=P at h
 cases h with
 | bot hd hS =>
   rename_i b
   cases b with
   | nil=>cases hP
   | cons s' b =>
     obtain ⟨rfl,rfl⟩:=List.cons.inj hP
     have:=aq2 hC hN (R:=[]) (Nat.le_refl _) hS (fun b' h=>by rw [List.append_nil]; exact WP.bot hd h) (fun z=>by cases z)
     rw [List.append_nil] at this
     exact this
 | lp hk hS hx hn h2 =>
   rename_i b x P'
   have W:∀ b',Sgm N ns d k true b'→WP N ns d k (sts b'++Itm.lp x::P'):=fun b' h=>WP.lp hk h hx hn h2
   cases b with
   | nil =>
     obtain ⟨rfl,rfl⟩:=List.cons.inj hP
     exact ⟨trivial,fun c hc=>al6 hc (W x hx)⟩
   | cons s' b =>
     obtain ⟨rfl,rfl⟩:=List.cons.inj hP
     exact aq2 hC hN (by omega) hS W (fun _=>⟨x,P',rfl,⟨_,_,h2⟩,⟨_,_,W x hx⟩⟩)
 | cl hS h2 =>
   rename_i k' b P'
   cases b with
   | nil =>
     obtain ⟨rfl,rfl⟩:=List.cons.inj hP
     exact ⟨trivial,fun c hc=>al6 hc (h2)⟩
   | cons s' b =>
     obtain ⟨rfl,rfl⟩:=List.cons.inj hP
     exact aq2 hC hN (Nat.le_refl _) hS (fun b' h=>WP.cl h h2) (fun z=>by cases z)
theorem c72 (h:TkC ts ns):∀ (n d j k:Nat) (lp:Bool) (s:Stm),6*d+k<n→ns.length≤j+d→k≤5→wS (ns.drop j) k lp s→∃ r,eS ts n s=some r:=by
 have ex:∀ {f:Stm→Option (List Wd)}{b:List Stm},b.length≤7→(∀ s∈b,∃ r,f s=some r)→∃ R,eBf f b=some R:=fun {f b} hl h=>by
  obtain ⟨R,hR⟩:=bj7 (e:=[.on]) h
  unfold eBf
  rw [if_pos (by omega),hR]
  exact ⟨_,rfl⟩
 intro n
 induction n with
 | zero=>intro d j k lp s hn; omega
 | succ n ih =>
   intro d j k lp s hn hj hk hw
   cases s with
   | plain ps =>
     rcases wS_pl.mp hw with rfl | rfl | ⟨c,hc,rfl⟩ | ⟨_,rfl | rfl⟩ | rfl | rfl
     · exact ⟨[.on],rfl⟩
     · exact ⟨[.on],rfl⟩
     · obtain ⟨i,b,h1,h2,h3,h4,_⟩:=h.call hc
       obtain ⟨R,hR⟩:=ex (f:=eS ts n) h4.1 fun s hs=>ih (d - 1) (i+1) 5 false s (by omega) (by omega) (by omega) (h4.2 s hs)
       exact ⟨ag3 R,by rw [ap5,h3]; simp [hR]⟩
     · obtain ⟨v,hv⟩:=ad5 .again; exact ⟨[v],by rw [show eS ts _ (.plain [.s "again"])=_ from ad4 Wd.again,hv]; rfl⟩
     · obtain ⟨v,hv⟩:=ad5 .leave; exact ⟨[v],by rw [show eS ts _ (.plain [.s "leave"])=_ from ad4 Wd.leave,hv]; rfl⟩
     · obtain ⟨v,hv⟩:=ad5 .back; exact ⟨[v],by rw [show eS ts _ (.plain [.s "back"])=_ from ad4 Wd.back,hv]; rfl⟩
     · obtain ⟨v,hv⟩:=ad5 .stop; exact ⟨[v],by rw [show eS ts _ (.plain [.s "stop"])=_ from ad4 Wd.stop,hv]; rfl⟩
   | put n e=>exact ⟨_,rfl⟩
   | wait n bs=>exact ⟨_,rfl⟩
   | loop x =>
     cases k with
     | zero=>exact hw.elim
     | succ k =>
       obtain ⟨R,hR⟩:=ex (f:=eS ts n) hw.1 fun s hs=>ih d j k true s (by omega) hj (by omega) (hw.2 s hs)
       exact ⟨ai5 R,by rw [bc7,hR]; rfl⟩
   | test c x y =>
     cases k with
     | zero=>exact hw.elim
     | succ k =>
       obtain ⟨R,hR⟩:=ex (f:=eS ts n) hw.2.1.1 fun s hs=>ih d j k lp s (by omega) hj (by omega) (hw.2.1.2 s hs)
       obtain ⟨R2,hR2⟩:=ex (f:=eS ts n) hw.2.2.1 fun s hs=>ih d j k lp s (by omega) hj (by omega) (hw.2.2.2 s hs)
       exact ⟨R++R2,by rw [bc8,hR,hR2]; rfl⟩
theorem Sgm.e (hC:TkC ts ns) {d k:Nat}{lp:Bool}{b:List Stm}(hd:d≤2) (hk:k≤5) (h:Sgm N ns d k lp b):∃ E,eBf (eS ts 30) b=some E:=by
 obtain ⟨j,h1,h2⟩:=h.w
 obtain ⟨R,hR⟩:=bj7 (e:=[.on]) (f:=eS ts 30) (b:=b) fun s hs=>c72 hC 30 d j k lp s (by omega) h1 hk (h2 s hs)
 have:=aq1 b
 have:=h.z
 unfold eBf
 rw [if_pos (by omega),hR]
 exact ⟨_,rfl⟩
theorem Sgm.T (hC:TkC ts ns) (hN:∀ c b,a29 ts c=some b→∀ x∈lpsB b,NDr ts x) {d k:Nat}{lp:Bool}{b:List Stm}(h:Sgm (NDr ts) ns d k lp b) {E:List Wd}(hE:eBf (eS ts 30) b=some E) {p:Pil}{m:Nat}(ht:∀ w∈E,Tm ts m (cont p w)):Tm ts (m+Cb d) (sts b++p):=by
 obtain ⟨j,h1,h2⟩:=h.w
 have hz:=h.z
 have hc:=h.c
 have:=bd5 (ts:=ts) (n:=30) (B:=Cc d) (P:=fun s=>wS (ns.drop j) k lp s∧∀ x∈lpsS s,NDr ts x) (fun s p m r hp he ht=>c71 hC hN 30 d j k lp s p m r hp.1 h1 hp.2 he ht) (b:=b) (fun s hs=>⟨h2 s hs,fun x hx=>h.n x (by
  clear hE ht h h2 hz hc
  induction b with
  | nil=>cases hs
  | cons y b ih =>
    rw [lpsB]
    rcases List.mem_cons.mp hs with rfl | hs
    · exact List.mem_append_left _ hx
    · exact List.mem_append_right _ (ih hs))⟩) hE ht
 refine aa2 this ?_
 have:=Nat.mul_le_mul_right (Cc d) hc
 rw [c70]
 omega
def Gb (d k:Nat):Nat:=(if d=2 then 2100 else if d=1 then 23606 else 28712)+(5 - k)*(2*Cb d+1)
theorem ce4 (hC:TkC ts ns) (hN:∀ c b,a29 ts c=some b→∀ x∈lpsB b,NDr ts x) {d k:Nat}{P:Pil}(h:WP (NDr ts) ns d k P):∃ M,M≤Gb d k∧∀ w,Tm ts M (cont P w):=by
 induction h with
 | bot hd h =>
   rename_i d b
   obtain ⟨E,hE⟩:=h.e hC hd (Nat.le_refl _)
   have t:=h.T hC hN hE (p:=[]) (m:=0) fun w _=>by cases w <;> exact a84
   rw [List.append_nil,Nat.zero_add] at t
   refine ⟨Cb d,?_,fun w=>?_⟩
   · have:d=0∨d=1∨d=2:=by omega
     rcases this with rfl | rfl | rfl <;> decide
   · cases w with
     | on=>exact t
     | again=>rw [show sts b=sts b++[] from (List.append_nil _).symm,a77 (by decide)]; exact a84
     | leave=>rw [show sts b=sts b++[] from (List.append_nil _).symm,a77 (by decide)]; exact a84
     | back=>rw [show sts b=sts b++[] from (List.append_nil _).symm,a77 (by decide)]; exact a84
     | stop=>exact a84
 | lp hk h hx hn h2 ih =>
   rename_i d k b x P
   obtain ⟨M,hM,ht⟩:=ih
   have hd:=h2.lv.1
   obtain ⟨E,hE⟩:=h.e hC hd (by omega)
   obtain ⟨A,hA,a1,a2⟩:=hn
   have tx:Tm ts (M+Cb d) (sts x++.lp x::P):=hx.T hC hN hA fun w hw=>by
    cases w with
    | on=>exact absurd hw a1
    | again=>exact absurd hw a2
    | leave=>exact ht .on
    | back=>exact ht .back
    | stop=>exact a84
   have tl:∀ w,Tm ts (M+Cb d+1) (cont (.lp x::P) w):=fun w=>by
    cases w with
    | on=>exact am4 fun c hc=>by rw [List.mem_singleton.mp hc]; exact tx
    | again=>exact al5 tx
    | leave=>exact aa2 (ht .on) (by omega)
    | back=>exact aa2 (ht .back) (by omega)
    | stop=>exact a84
   refine ⟨M+Cb d+1+Cb d,?_,fun w=>?_⟩
   · unfold Gb at hM ⊢
     have e:5 - k=(5 - (k+1))+1:=by omega
     rw [e,Nat.add_mul]
     omega
   · by_cases ho:w=.on
     · subst ho
       exact h.T hC hN hE fun w _=>tl w
     · rw [a77 ho]
       exact aa2 (tl w) (by omega)
 | cl h h2 ih =>
   rename_i d k b P
   obtain ⟨M,hM,ht⟩:=ih
   have hd:=h2.lv.1
   obtain ⟨E,hE⟩:=h.e hC (by omega) (Nat.le_refl _)
   have tl:∀ w,Tm ts (M+1) (cont (.cl::P) w):=fun w=>by
    cases w with
    | on=>exact am4 fun c hc=>by rw [List.mem_singleton.mp hc]; exact ht .on
    | again=>exact a84
    | leave=>exact a84
    | back=>exact al5 (ht .on)
    | stop=>exact a84
   refine ⟨M+1+Cb d,?_,fun w=>?_⟩
   · unfold Gb at hM ⊢
     have:(5 - k)*(2*Cb (d+1)+1)≤5*(2*Cb (d+1)+1):=Nat.mul_le_mul_right _ (by omega)
     have hd2:d=0∨d=1:=by omega
     rcases hd2 with rfl | rfl
     · simp only [Cb] at *; simp at *; omega
     · simp only [Cb] at *; simp at *; omega
   · by_cases ho:w=.on
     · subst ho
       exact h.T hC hN hE fun w _=>tl w
     · rw [a77 ho]
       exact aa2 (tl w) (by omega)
theorem bk2 (hC:TkC ts ns) (hN:∀ c b,a29 ts c=some b→∀ x∈lpsB b,NDr ts x) {d k:Nat}{P:Pil}(h:WP (NDr ts) ns d k P):Tm ts 60000 P:=by
 obtain ⟨M,hM,ht⟩:=ce4 hC hN h
 refine aa2 (ht .on) (Nat.le_trans hM ?_)
 obtain ⟨h1,h2⟩:=h.lv
 unfold Gb
 have:(5 - k)*(2*Cb d+1)≤5*(2*Cb d+1):=Nat.mul_le_mul_right _ (by omega)
 have hd2:d=0∨d=1∨d=2:=by omega
 rcases hd2 with rfl | rfl | rfl <;> (simp only [Cb] at *; simp at *; omega)
variable {ts:Tks}{ns:List Str}
inductive Pth (ts:Tks):Pil→Pil→Prop
 | refl (P:Pil):Pth ts P P
 | go {s:Itm}{p c Q:Pil}(h1:isLpI s=false) (h2:isW s=false) (hc:c∈onI ts p s) (h:Pth ts c Q):Pth ts (s::p) Q
theorem Pth.trans {P Q R:Pil}(h:Pth ts P Q) (g:Pth ts Q R):Pth ts P R:=by
 induction h with
 | refl _=>exact g
 | go h1 h2 hc _ ih=>exact .go h1 h2 hc (ih g)
def GoTo (ts:Tks) (P p:Pil) (w:Wd):Prop:=if w=.again then ∃ q,Pth ts P (.st (.plain [.s "again"])::q)∧toL q=toL p else Pth ts P (cont p w)
theorem GoTo.pre {P P' p:Pil}{w:Wd}(h:Pth ts P P') (g:GoTo ts P' p w):GoTo ts P p w:=by
 unfold GoTo at g ⊢
 split at g
 · rename_i hw
   rw [if_pos hw]
   obtain ⟨q,h1,h2⟩:=g
   exact ⟨q,h.trans h1,h2⟩
 · rename_i hw
   rw [if_neg hw]
   exact h.trans g
theorem GoTo.of {P p:Pil}{w:Wd}(hw:w≠.again):GoTo ts P p w↔Pth ts P (cont p w):=by unfold GoTo; rw [if_neg hw]
theorem bk3 {P p:Pil}{b:List Stm}{w:Wd}(hw:w≠.on):GoTo ts P (sts b++p) w↔GoTo ts P p w:=by
 unfold GoTo
 split
 · rw [al4]
 · rw [a77 hw]
theorem bu6 {n:Nat}{P:Stm→Prop}(hs:∀ s p r w,P s→eS ts n s=some r→w∈r→GoTo ts (.st s::p) p w):∀ {b:List Stm}{p:Pil}{E:List Wd}{w:Wd},(∀ s∈b,P s)→eBf (eS ts n) b=some E→w∈E→GoTo ts (sts b++p) p w
 | [],p,E,w,_,h,hw=>by
   rw [bo5 h] at hw
   rw [List.mem_singleton.mp hw]
   exact (GoTo.of (by decide)).mpr (.refl _)
 | s::b,p,E,w,hp,h,hw=>by
   obtain ⟨r,h1,_,_,h4⟩:=bd4 h
   rcases h4 w hw with ⟨g1,g2⟩ | ⟨g1,E',g2,g3⟩
   · exact (bk3 g2).mp (hs s (sts b++p) r w (hp s (by simp)) h1 g1)
   · exact GoTo.pre ((GoTo.of (by decide)).mp (hs s (sts b++p) r .on (hp s (by simp)) h1 g1)) (bu6 hs (fun x hx=>hp x (by simp [hx])) g2 g3)
theorem stmR (hC:TkC ts ns):∀ (n j k:Nat) (lp:Bool) (s:Stm) (p:Pil) (r:List Wd) (w:Wd),wS (ns.drop j) k lp s→eS ts n s=some r→w∈r→GoTo ts (.st s::p) p w
 | 0,j,k,lp,s,p,r,w,hw,he,hr=>by simp [eS] at he
 | n+1,j,k,lp,s,p,r,w,hw,he,hr=>by
   have bd:∀ {j k:Nat}{lp:Bool}{b:List Stm}{p:Pil}{E:List Wd}{w:Wd},(∀ s∈b,wS (ns.drop j) k lp s)→eBf (eS ts n) b=some E→w∈E→GoTo ts (sts b++p) p w:=fun {j k lp b p E w} h1 h2 h3 =>
    bu6 (P:=fun s=>wS (ns.drop j) k lp s) (fun s p r w hp he hr=>stmR hC n j k lp s p r w hp he hr) h1 h2 h3
   have go1:∀ {s:Stm}{p c:Pil},isW (.st s)=false→c∈onI ts p (.st s)→Pth ts (.st s::p) c:=fun h hc=>.go rfl h hc (.refl _)
   cases s with
   | wait a bs=>obtain rfl:=Option.some.inj he; cases hr
   | put a e =>
     obtain rfl:=Option.some.inj he
     rw [List.mem_singleton.mp hr]
     exact (GoTo.of (by decide)).mpr (go1 rfl (by simp [onI,cont]))
   | test c x y =>
     cases k with
     | zero=>exact hw.elim
     | succ k =>
       obtain ⟨A,g1,g2⟩:=Option.bind_eq_some_iff.mp (show ((eBf (eS ts n) x).bind fun a=>(eBf (eS ts n) y).map fun b=>a++b)=some r from he)
       obtain ⟨B,g3,rfl⟩:=Option.map_eq_some_iff.mp g2
       rcases List.mem_append.mp hr with hr | hr
       · exact GoTo.pre (go1 rfl (by simp [onI])) (bd hw.2.1.2 g1 hr)
       · exact GoTo.pre (go1 (c:=sts y++p) rfl (by simp [onI])) (bd hw.2.2.2 g3 hr)
   | loop x =>
     cases k with
     | zero=>exact hw.elim
     | succ k =>
       obtain ⟨A,g1,rfl⟩:=Option.map_eq_some_iff.mp (show (eBf (eS ts n) x).map ai5=some r from he)
       have st:Pth ts (.st (.loop x)::p) (sts x++.lp x::p):=go1 rfl (by simp [onI])
       rcases loopW_mem.mp hr with ⟨rfl,hm⟩ | ⟨rfl | rfl,hm⟩
       · exact (GoTo.of (by decide)).mpr (st.trans ((GoTo.of (by decide)).mp (bd (p:=.lp x::p) hw.2 g1 hm)))
       · exact (GoTo.of (by decide)).mpr (st.trans ((GoTo.of (by decide)).mp (bd (p:=.lp x::p) hw.2 g1 hm)))
       · exact (GoTo.of (by decide)).mpr (st.trans ((GoTo.of (by decide)).mp (bd (p:=.lp x::p) hw.2 g1 hm)))
   | plain ps =>
     rcases wS_pl.mp hw with rfl | rfl | ⟨c,hc,rfl⟩ | hrest
     · obtain rfl:=Option.some.inj (show some [Wd.on]=some r from he)
       rw [List.mem_singleton.mp hr]
       exact (GoTo.of (by decide)).mpr (go1 rfl (show p∈[p] by simp))
     · obtain rfl:=Option.some.inj (show some [Wd.on]=some r from he)
       rw [List.mem_singleton.mp hr]
       exact (GoTo.of (by decide)).mpr (go1 rfl (show p∈[p] by simp))
     · obtain ⟨i,b,h1,h2,h3,h4,_⟩:=hC.call hc
       rw [ap5,h3] at he
       obtain ⟨A,g1,rfl⟩:=Option.map_eq_some_iff.mp (show (eBf (eS ts n) b).map ag3=some r from he)
       have st:Pth ts (.st (.plain [.s "call",.s c])::p) (sts b++.cl::p):=go1 rfl (by rw [ag5 h3]; simp)
       rcases callW_mem.mp hr with ⟨rfl,hm | hm⟩ | ⟨rfl,hm⟩
       · exact (GoTo.of (by decide)).mpr (st.trans (((GoTo.of (by decide)).mp (bd (p:=.cl::p) h4.2 g1 hm)).trans (.go rfl rfl (by simp [onI,cont]) (.refl _))))
       · exact (GoTo.of (by decide)).mpr (st.trans ((GoTo.of (by decide)).mp (bd (p:=.cl::p) h4.2 g1 hm)))
       · exact (GoTo.of (by decide)).mpr (st.trans ((GoTo.of (by decide)).mp (bd (p:=.cl::p) h4.2 g1 hm)))
     · obtain ⟨v,hv,rfl⟩:∃ v:Wd,v≠.on∧ps=[.s v.txt]:=by
        rcases hrest with ⟨_,rfl | rfl⟩ | rfl | rfl
        · exact ⟨.again,by decide,rfl⟩
        · exact ⟨.leave,by decide,rfl⟩
        · exact ⟨.back,by decide,rfl⟩
        · exact ⟨.stop,by decide,rfl⟩
       rw [ad4] at he
       obtain ⟨u,hu⟩:=ad5 v
       rw [hu] at he
       obtain rfl:=a76 (ag0 hu)
       obtain rfl:=Option.some.inj he
       obtain rfl:=List.mem_singleton.mp hr
       by_cases ha:w=.again
       · subst ha
         unfold GoTo
         rw [if_pos rfl]
         exact ⟨p,.refl _,rfl⟩
       · exact (GoTo.of ha).mpr (go1 rfl (by rw [ab7 hv]; simp))
def sufI (f:Stm→List Pil):List Stm→List Pil
 | []=>[]
 | s::b=>sts (s::b)::((f s).map (·++sts b)++sufI f b)
def innI (ts:Tks):Nat→Stm→List Pil
 | 0,_=>[]
 | n+1,.test _ x y=>sufI (innI ts n) x++sufI (innI ts n) y
 | n+1,.loop x=>[.lp x]::(sufI (innI ts n) x).map (·++[.lp x])
 | _+1,.wait _ _=>[]
 | _+1,.put _ _=>[]
 | n+1,.plain ps=>match ps with
   | [.s k,.s nm]=>if k="call" then (match a29 ts nm with | some b=>[.cl]::(sufI (innI ts n) b).map (·++[.cl]) | none=>[]) else []
   | _=>[]
theorem ag6 {f:Stm→List Pil}{b:List Stm}(h:b≠[]):sts b∈sufI f b:=by
 cases b with
 | nil=>exact absurd rfl h
 | cons s b=>exact List.mem_cons_self
theorem aq4 {f:Stm→List Pil}(hf:∀ s,[]∉f s):∀ {b:List Stm},[]∉sufI f b
 | [],h=>by cases h
 | s::b,h=>by
   rcases List.mem_cons.mp h with h | h
   · cases h
   · rcases List.mem_append.mp h with h | h
     · obtain ⟨x,hx,e⟩:=List.mem_map.mp h
       have:=List.append_eq_nil_iff.mp e
       rw [this.1] at hx
       exact hf s hx
     · exact aq4 hf h
theorem aq5:∀ (n:Nat) (s:Stm),[]∉innI ts n s
 | 0,s,h=>by simp [innI] at h
 | n+1,.test _ x y,h=>by
   rcases List.mem_append.mp h with h | h
   · exact aq4 (aq5 n) h
   · exact aq4 (aq5 n) h
 | n+1,.loop x,h=>by
   rcases List.mem_cons.mp h with h | h
   · cases h
   · obtain ⟨x,_,e⟩:=List.mem_map.mp h
     simp at e
 | _+1,.wait _ _,h=>by cases h
 | _+1,.put _ _,h=>by cases h
 | n+1,.plain ps,h=>by
   unfold innI at h
   split at h
   · split at h
     · split at h
       · rcases List.mem_cons.mp h with h | h
         · cases h
         · obtain ⟨x,_,e⟩:=List.mem_map.mp h
           simp at e
       · cases h
     · cases h
   · cases h
def ClI (F:List Pil) (q c:Pil):Prop:=(∃ π∈F,c=π++q)∨∃ w,c=cont q w
theorem bo6 {f:Stm→List Pil}(hf:∀ s,[]∉f s) {P:Stm→Prop}
 (h1:∀ s q,P s→∀ c∈onI ts q (.st s),ClI (f s) q c)
 (h2:∀ s q,P s→∀ h t,(h::t)∈f s→∀ c∈onI ts (t++q) h,ClI (f s) q c) :
 ∀ {b:List Stm}{p:Pil},(∀ s∈b,P s)→∀ h t,(h::t)∈sufI f b→∀ c∈onI ts (t++p) h,ClI (sufI f b) p c
 | [],p,_,h,t,hm,_,_=>by cases hm
 | s::b,p,hp,h,t,hm,c,hc=>by
   have up:∀ {c},ClI (f s) (sts b++p) c→ClI (sufI f (s::b)) p c:=fun {c} z=>by
    rcases z with ⟨π,hπ,rfl⟩ | ⟨w,rfl⟩
    · exact .inl ⟨π++sts b,List.mem_cons_of_mem _ (List.mem_append_left _ (List.mem_map.mpr ⟨π,hπ,rfl⟩)),by rw [List.append_assoc]⟩
    · by_cases hw:w=.on
      · subst hw
        by_cases hn:b=[]
        · subst hn; exact .inr ⟨.on,rfl⟩
        · exact .inl ⟨sts b,List.mem_cons_of_mem _ (List.mem_append_right _ (ag6 hn)),rfl⟩
      · exact .inr ⟨w,a77 hw⟩
   rcases List.mem_cons.mp hm with e | hm
   · obtain ⟨rfl,rfl⟩:=List.cons.inj e
     exact up (h1 s (sts b++p) (hp s (by simp)) c hc)
   · rcases List.mem_append.mp hm with hm | hm
     · obtain ⟨π,hπ,e⟩:=List.mem_map.mp hm
       cases π with
       | nil=>exact absurd hπ (hf s)
       | cons h' t' =>
         obtain ⟨rfl,rfl⟩:=List.cons.inj e
         rw [show t'.append (sts b)++p=t'++(sts b++p) from List.append_assoc t' (sts b) p] at hc
         exact up (h2 s (sts b++p) (hp s (by simp)) _ _ hπ c hc)
     · rcases bo6 hf h1 h2 (fun x hx=>hp x (by simp [hx])) h t hm c hc with ⟨π,hπ,e⟩ | z
       · exact .inl ⟨π,List.mem_cons_of_mem _ (List.mem_append_right _ hπ),e⟩
       · exact .inr z
theorem bu7 (hC:TkC ts ns):∀ (n d j k:Nat) (lp:Bool) (s:Stm),wS (ns.drop j) k lp s→ns.length≤j+d→k≤5→6*d+k<n→(∀ q,∀ c∈onI ts q (.st s),ClI (innI ts n s) q c)∧∀ q h t,(h::t)∈innI ts n s→∀ c∈onI ts (t++q) h,ClI (innI ts n s) q c
 | 0,d,j,k,lp,s,hw,hj,hk,hn=>by omega
 | n+1,d,j,k,lp,s,hw,hj,hk,hn=>by
   have bd:∀ {d j k:Nat}{lp:Bool}{b:List Stm}{p:Pil},(∀ s∈b,wS (ns.drop j) k lp s)→ns.length≤j+d→k≤5→6*d+k<n→∀ h t,(h::t)∈sufI (innI ts n) b→∀ c∈onI ts (t++p) h,ClI (sufI (innI ts n) b) p c:=fun {d j k lp b p} h1 h2 h3 h4 =>
    bo6 (aq5 n) (fun s q g=>(bu7 hC n d j k lp s g h2 h3 h4).1 q) (fun s q g=>(bu7 hC n d j k lp s g h2 h3 h4).2 q) h1
   have mk:∀ {m:Itm}{x:List Stm}{q:Pil}(F:List Pil),F=[m]::(sufI (innI ts n) x).map (·++[m])→(∀ h t,(h::t)∈sufI (innI ts n) x→∀ c∈onI ts (t++m::q) h,ClI (sufI (innI ts n) x) (m::q) c)→(∀ w,ClI F q (cont (m::q) w))→(∀ c∈onI ts q m,ClI F q c)→∀ h t,(h::t)∈F→∀ c∈onI ts (t++q) h,ClI F q c:=fun {m x q} F hF hb hw h0 h t ht c hc=>by
    subst hF
    rcases List.mem_cons.mp ht with e | ht
    · obtain ⟨rfl,rfl⟩:=List.cons.inj e
      exact h0 c hc
    · obtain ⟨π,hπ,e⟩:=List.mem_map.mp ht
      cases π with
      | nil=>exact absurd hπ (aq4 (aq5 n))
      | cons h' t' =>
        obtain ⟨rfl,rfl⟩:=List.cons.inj e
        rw [show t'.append [m]++q=t'++(m::q) from List.append_assoc t' [m] q] at hc
        rcases hb h' t' hπ c hc with ⟨π,h1,e⟩ | ⟨w,rfl⟩
        · exact .inl ⟨π++[m],List.mem_cons_of_mem _ (List.mem_map.mpr ⟨π,h1,rfl⟩),by rw [e,List.append_assoc]; rfl⟩
        · exact hw w
   have pre:∀ {m:Itm}{x:List Stm}{q:Pil},ClI ([m]::(sufI (innI ts n) x).map (·++[m])) q (sts x++m::q):=fun {m x q}=>by
    by_cases hn:x=[]
    · subst hn; exact .inl ⟨[m],List.mem_cons_self,rfl⟩
    · exact .inl ⟨sts x++[m],List.mem_cons_of_mem _ (List.mem_map.mpr ⟨sts x,ag6 hn,rfl⟩),by rw [List.append_assoc]; rfl⟩
   have one:∀ {F:List Pil}{q c:Pil},c∈[q]→ClI F q c:=fun {F q c} h=>by rw [List.mem_singleton.mp h]; exact .inr ⟨.on,rfl⟩
   cases s with
   | wait a bs=>exact ⟨fun q c hc=>one hc,fun q h t hm=>(by cases hm)⟩
   | put a e=>exact ⟨fun q c hc=>one hc,fun q h t hm=>(by cases hm)⟩
   | test c0 x y =>
     cases k with
     | zero=>exact hw.elim
     | succ k =>
       have le:∀ {c p:Pil},ClI (sufI (innI ts n) x) p c→ClI (innI ts (n+1) (.test c0 x y)) p c:=fun {c p} z=>by
        rcases z with ⟨π,h,e⟩ | z
        · exact .inl ⟨π,List.mem_append_left _ h,e⟩
        · exact .inr z
       have ri:∀ {c p:Pil},ClI (sufI (innI ts n) y) p c→ClI (innI ts (n+1) (.test c0 x y)) p c:=fun {c p} z=>by
        rcases z with ⟨π,h,e⟩ | z
        · exact .inl ⟨π,List.mem_append_right _ h,e⟩
        · exact .inr z
       refine ⟨fun q c hc=>?_,fun q h t hm c hc=>?_⟩
       · have hc:c=sts x++q∨c=sts y++q:=by simpa [onI] using hc
         rcases hc with rfl | rfl
         · by_cases hn:x=[]
           · subst hn; exact .inr ⟨.on,rfl⟩
           · exact le (.inl ⟨sts x,ag6 hn,rfl⟩)
         · by_cases hn:y=[]
           · subst hn; exact .inr ⟨.on,rfl⟩
           · exact ri (.inl ⟨sts y,ag6 hn,rfl⟩)
       · rcases List.mem_append.mp hm with hm | hm
         · exact le (bd hw.2.1.2 hj (by omega) (by omega) h t hm c hc)
         · exact ri (bd hw.2.2.2 hj (by omega) (by omega) h t hm c hc)
   | loop x =>
     cases k with
     | zero=>exact hw.elim
     | succ k =>
       refine ⟨fun q c hc=>?_,fun q h t hm c hc=>mk (m:=.lp x) (x:=x) _ rfl (bd hw.2 hj (by omega) (by omega)) (fun w=>?_) (fun c hc=>?_) h t hm c hc⟩
       · rw [List.mem_singleton.mp (show c∈[sts x++Itm.lp x::q] from hc)]
         exact pre
       · cases w with
         | on=>exact .inl ⟨[.lp x],List.mem_cons_self,rfl⟩
         | again=>exact pre
         | leave=>exact .inr ⟨.on,rfl⟩
         | back=>exact .inr ⟨.back,rfl⟩
         | stop=>exact .inr ⟨.stop,rfl⟩
       · rw [List.mem_singleton.mp (show c∈[sts x++Itm.lp x::q] from hc)]
         exact pre
   | plain ps =>
     rcases wS_pl.mp hw with rfl | rfl | ⟨c,hc,rfl⟩ | hrest
     · exact ⟨fun q c hc=>one hc,fun q h t hm=>(by unfold innI at hm; dsimp only at hm; rw [if_neg (by decide +kernel)] at hm; cases hm)⟩
     · exact ⟨fun q c hc=>one hc,fun q h t hm=>(by simp [innI] at hm)⟩
     · obtain ⟨i,b,h1,h2,h3,h4,_⟩:=hC.call hc
       have eF:innI ts (n+1) (.plain [.s "call",.s c])=[.cl]::(sufI (innI ts n) b).map (·++[.cl]):=by
        conv=>lhs; unfold innI
        dsimp only
        rw [if_pos rfl,h3]
       rw [eF]
       refine ⟨fun q c' hc'=>?_,fun q h t hm c' hc'=>mk (m:=.cl) (x:=b) _ rfl (bd (d:=d - 1) (j:=i+1) h4.2 (by omega) (by omega) (by omega)) (fun w=>?_) (fun c hc=>?_) h t hm c' hc'⟩
       · rw [ag5 h3] at hc'
         rw [List.mem_singleton.mp hc']
         exact pre
       · cases w with
         | on=>exact .inl ⟨[.cl],List.mem_cons_self,rfl⟩
         | again=>exact .inr ⟨.stop,rfl⟩
         | leave=>exact .inr ⟨.stop,rfl⟩
         | back=>exact .inr ⟨.on,rfl⟩
         | stop=>exact .inr ⟨.stop,rfl⟩
       · exact one hc
     · obtain ⟨v,hv,rfl⟩:∃ v:Wd,v≠.on∧ps=[.s v.txt]:=by
        rcases hrest with ⟨_,rfl | rfl⟩ | rfl | rfl
        · exact ⟨.again,by decide,rfl⟩
        · exact ⟨.leave,by decide,rfl⟩
        · exact ⟨.back,by decide,rfl⟩
        · exact ⟨.stop,by decide,rfl⟩
       refine ⟨fun q c hc=>?_,fun q h t hm=>(by simp [innI] at hm)⟩
       rw [ab7 hv] at hc
       exact .inr ⟨v,List.mem_singleton.mp hc⟩
def Lb:Nat→Nat
 | 0=>0
 | d+1=>100+4*(Lb d+1)
theorem b16 {B:Nat}{P:Stm→Prop}{f:Stm→List Pil}(h:∀ s,P s→1+(f s).length≤2*s.sz+s.cl*(B+1)):∀ {b:List Stm},(∀ s∈b,P s)→(sufI f b).length≤2*Stm.szs b+Stm.cls b*(B+1)
 | [],_=>Nat.zero_le _
 | s::b,hp=>by
   have h1:=h s (hp s (by simp))
   have h2:=b16 h (b:=b) fun x hx=>hp x (by simp [hx])
   simp only [sufI,List.length_cons,List.length_append,List.length_map,Stm.szs,Stm.cls,Nat.add_mul]
   omega
theorem b17 (hC:TkC ts ns):∀ (n d j k:Nat) (lp:Bool) (s:Stm),wS (ns.drop j) k lp s→ns.length≤j+d→1+(innI ts n s).length≤2*s.sz+s.cl*(Lb d+1)
 | 0,d,j,k,lp,s,hw,hj=>by
   have:=bo4 s
   simp only [innI,List.length_nil]
   omega
 | n+1,d,j,k,lp,s,hw,hj=>by
   have bd:∀ {d j k:Nat}{lp:Bool}{b:List Stm},(∀ s∈b,wS (ns.drop j) k lp s)→ns.length≤j+d→(sufI (innI ts n) b).length≤2*Stm.szs b+Stm.cls b*(Lb d+1):=fun {d j k lp b} h1 h2 =>
    b16 (P:=fun s=>wS (ns.drop j) k lp s) (fun s hs=>b17 hC n d j k lp s hs h2) h1
   cases s with
   | wait a bs=>simp only [innI,Stm.sz,List.length_nil]; omega
   | put a e=>simp only [innI,Stm.sz,List.length_nil]; omega
   | test c x y =>
     cases k with
     | zero=>exact hw.elim
     | succ k =>
       have h1:=bd hw.2.1.2 hj
       have h2:=bd hw.2.2.2 hj
       simp only [innI,Stm.sz,Stm.cl,List.length_append,Nat.add_mul] at *
       omega
   | loop x =>
     cases k with
     | zero=>exact hw.elim
     | succ k =>
       have h1:=bd hw.2 hj
       simp only [innI,Stm.sz,Stm.cl,List.length_cons,List.length_map] at *
       omega
   | plain ps =>
     have other:∀ {ps:List Pt},innI ts (n+1) (.plain ps)=[]→1+(innI ts (n+1) (.plain ps)).length≤2*(Stm.plain ps).sz+(Stm.plain ps).cl*(Lb d+1):=fun {ps} e=>by
      rw [e]
      simp only [Stm.sz,List.length_nil]
      omega
     rcases wS_pl.mp hw with rfl | rfl | ⟨c,hc,rfl⟩ | hrest
     · exact other (by unfold innI; dsimp only; rw [if_neg (by decide +kernel)])
     · exact other (by simp [innI])
     · obtain ⟨i,b,h1,h2,h3,h4,h5,h6⟩:=hC.call hc
       obtain ⟨d,rfl⟩:∃ e,d=e+1:=⟨d - 1,by omega⟩
       have eF:innI ts (n+1) (.plain [.s "call",.s c])=[.cl]::(sufI (innI ts n) b).map (·++[.cl]):=by
        conv=>lhs; unfold innI
        dsimp only
        rw [if_pos rfl,h3]
       have e2:(Stm.plain [Pt.s "call",Pt.s c]).cl=1:=rfl
       have e3:Lb (d+1)=100+4*(Lb d+1):=rfl
       have h7:=bd (d:=d) h4.2 (by omega)
       have h8:=Nat.mul_le_mul_right (Lb d+1) h6
       rw [eF,e2,e3]
       simp only [Stm.sz,List.length_cons,List.length_map]
       omega
     · rcases hrest with ⟨_,rfl | rfl⟩ | rfl | rfl <;> exact other (by simp [innI])
def Hit (x:List Stm) (P:Pil):Prop:=P=[.lp x]∨∃ q,P=.st (.plain [.s "again"])::q∧toL q=some (x,[])
def VisK (met todo:List Pil) (c:Pil):Prop:=c∈met∨c∈todo∨c=[]∨∃ s p,c=s::p∧isW s=true
structure DfK (ts:Tks) (ns:List Str) (x:List Stm) (S met todo:List Pil):Prop where
 a:VisK met todo (sts x++[.lp x])
 b:∀ s p,(s::p)∈met→isLpI s=false→∀ c∈onI ts p s,VisK met todo c
 c:∀ P∈met,¬ Hit x P
 e:∀ P,P∈met∨P∈todo→(P∈S∨P=[])∧∃ d k,WP (fun _=>True) ns d k P
 nd:met.Nodup
 nn:[]∉met
 q:(3*(S.length - met.length)+todo.length)≤3*S.length+1
variable {x:List Stm}{S met todo:List Pil}
theorem VisK.mv {met' todo':List Pil}(h:∀ c,c∈met∨c∈todo→VisK met' todo' c) {c:Pil}(z:VisK met todo c):VisK met' todo' c:=by
 rcases z with z | z | z | z
 · exact h c (.inl z)
 · exact h c (.inr z)
 · exact .inr (.inr (.inl z))
 · exact .inr (.inr (.inr z))
theorem DfK.skip {P:Pil}(h:DfK ts ns x S met (todo++[P])) (hP:VisK met todo P):DfK ts ns x S met todo:=by
 have mv:∀ {c},VisK met (todo++[P]) c→VisK met todo c:=fun {c} z=>z.mv fun c hc=>by
  rcases hc with hc | hc
  · exact .inl hc
  · rcases List.mem_append.mp hc with hc | hc
    · exact .inr (.inl hc)
    · rw [List.mem_singleton.mp hc]; exact hP
 have:=h.q
 exact ⟨mv h.a,fun s p hm hl c hc=>mv (h.b s p hm hl c hc),h.c,fun Q hQ=>h.e Q (hQ.elim .inl fun z=>.inr (List.mem_append_left _ z)),h.nd,h.nn,by rw [List.length_append,List.length_singleton] at this; omega⟩
noncomputable instance pilDec:DecidableEq Pil:=fun _ _=>Classical.propDecidable _
theorem bo7 {S met:List Pil}(hd:met.Nodup) (hr:∀ y∈met,y∈S) {p:Pil}(hp:p∈S) (hn:p∉met):met.length<S.length:=by
 have:(p::met).length≤S.length:=List.Nodup.length_le_of_subset (List.nodup_cons.mpr ⟨hn,hd⟩) (fun y hy=>by
  rcases List.mem_cons.mp hy with rfl | hy
  · exact hp
  · exact hr y hy)
 rw [List.length_cons] at this
 exact this
theorem DfK.inS (h:DfK ts ns x S met todo) {P:Pil}(hP:P∈met):P∈S:=by
 rcases (h.e P (.inl hP)).1 with z | z
 · exact z
 · rw [z] at hP; exact absurd hP h.nn
theorem DfK.new (hC:TkC ts ns) {s:Itm}{p:Pil}(h:DfK ts ns x S met (todo++[s::p])) (hS:∀ s p,(s::p)∈S→∀ c∈onI ts p s,c∈S∨c=[]) (hm:(s::p)∉met) (hw:isW s=false) (hH:¬ Hit x (s::p)):DfK ts ns x S (met++[s::p]) (todo++(if isLpI s=true then [] else onI ts p s)):=by
 have inS:(s::p)∈S:=by
  rcases (h.e (s::p) (.inr (by simp))).1 with z | z
  · exact z
  · cases z
 have mv:∀ {c},VisK met (todo++[s::p]) c→VisK (met++[s::p]) (todo++(if isLpI s=true then [] else onI ts p s)) c:=fun {c} z=>z.mv fun c hc=>by
  rcases hc with hc | hc
  · exact .inl (List.mem_append_left _ hc)
  · rcases List.mem_append.mp hc with hc | hc
    · exact .inr (.inl (List.mem_append_left _ hc))
    · exact .inl (List.mem_append_right _ hc)
 refine ⟨mv h.a,fun s' p' hm' hl c hc=>?_,fun P hP=>?_,fun P hP=>?_,?_,?_,?_⟩
 · rcases List.mem_append.mp hm' with hm' | hm'
   · exact mv (h.b s' p' hm' hl c hc)
   · obtain ⟨rfl,rfl⟩:=List.cons.inj (List.mem_singleton.mp hm')
     refine .inr (.inl (List.mem_append_right _ ?_))
     rw [if_neg (by rw [hl]; decide)]
     exact hc
 · rcases List.mem_append.mp hP with hP | hP
   · exact h.c P hP
   · rw [List.mem_singleton.mp hP]; exact hH
 · have:(P∈met∨P∈todo++[s::p])∨P∈onI ts p s:=by
    rcases hP with hP | hP
    · rcases List.mem_append.mp hP with hP | hP
      · exact .inl (.inl hP)
      · exact .inl (.inr (List.mem_append_right _ hP))
    · rcases List.mem_append.mp hP with hP | hP
      · exact .inl (.inr (List.mem_append_left _ hP))
      · split at hP
        · cases hP
        · exact .inr hP
   rcases this with z | z
   · exact h.e P z
   · obtain ⟨_,d,k,hW⟩:=h.e (s::p) (.inr (by simp))
     exact ⟨hS s p inS P z,(aq3 hC (fun _ _ _ _ _=>trivial) hW).2 P z⟩
 · rw [List.nodup_append]
   exact ⟨h.nd,by simp,fun a ha b hb z=>hm (by rw [← List.mem_singleton.mp hb,←z]; exact ha)⟩
 · intro hm'
   rcases List.mem_append.mp hm' with hm' | hm'
   · exact h.nn hm'
   · cases List.mem_singleton.mp hm'
 · have:=h.q
   have lt:=bo7 h.nd (fun y hy=>h.inS hy) inS hm
   have l1:=bd3 (ts:=ts) (p:=p) (s:=s)
   simp only [List.length_append,List.length_singleton] at *
   split
   · simp only [List.length_nil]; omega
   · omega
theorem DfK.no {P Q:Pil}(h:DfK ts ns x S met []) (hp:Pth ts P Q) (hQ:Hit x Q):VisK met [] P→False:=by
 have top:∀ {s:Itm}{p:Pil},Hit x (s::p)→isW s=false:=fun {s p} z=>by
  rcases z with z | ⟨q,z,_⟩
  · obtain ⟨rfl,_⟩:=List.cons.inj z; rfl
  · obtain ⟨rfl,_⟩:=List.cons.inj z; rfl
 induction hp with
 | refl P =>
   intro v
   rcases v with v | v | rfl | ⟨s,p,rfl,hs⟩
   · exact h.c P v hQ
   · cases v
   · rcases hQ with z | ⟨q,z,_⟩ <;> cases z
   · rw [top hQ] at hs; cases hs
 | go h1 h2 hc _ ih =>
   intro v
   rcases v with v | v | v | ⟨s,p,e,hs⟩
   · exact ih hQ (h.b _ _ v h1 _ hc)
   · cases v
   · cases v
   · obtain ⟨rfl,_⟩:=List.cons.inj e
     rw [h2] at hs; cases hs
theorem bu8 (hC:TkC ts ns) {n j k:Nat}{lp:Bool}(hw:∀ s∈x,wS (ns.drop j) k lp s) {E:List Wd}(he:eBf (eS ts n) x=some E) (hd:.on∈E∨.again∈E):∃ Q,Pth ts (sts x++[.lp x]) Q∧Hit x Q:=by
 have bd:∀ {w:Wd},w∈E→GoTo ts (sts x++[Itm.lp x]) [.lp x] w:=fun h =>
  bu6 (P:=fun s=>wS (ns.drop j) k lp s) (fun s p r w hp he hr=>stmR hC n j k lp s p r w hp he hr) hw he h
 rcases hd with h | h
 · exact ⟨[.lp x],(GoTo.of (by decide)).mp (bd h),.inl rfl⟩
 · have:=bd h
   unfold GoTo at this
   rw [if_pos rfl] at this
   obtain ⟨q,h1,h2⟩:=this
   exact ⟨_,h1,.inr ⟨q,rfl,h2⟩⟩
theorem DfK.start (hS:(sts x++[Itm.lp x])∈S) {d k:Nat}(hW:WP (fun _=>True) ns d k (sts x++[Itm.lp x])):DfK ts ns x S [] [sts x++[.lp x]] :=
 ⟨.inr (.inl (by simp)),fun s p h=>(by cases h),fun P h=>(by cases h),fun P hP=>by
  rcases hP with hP | hP
  · cases hP
  · rw [List.mem_singleton.mp hP]; exact ⟨.inl hS,d,k,hW⟩,by simp,by simp,by simp⟩
def Spl (ts:Tks) (x:List Stm):List Pil:=innI ts 30 (.loop x)
theorem c73 (hC:TkC ts ns) {d k:Nat}(hd:d≤2) (hk:k≤4) {N:List Stm→Prop}(h:Sgm N ns d k true x) (hl:x.length≤7):(sts x++[Itm.lp x])∈Spl ts x∧(∀ s p,(s::p)∈Spl ts x→∀ c∈onI ts p s,c∈Spl ts x∨c=[])∧(Spl ts x).length≤3000∧∀ P∈Spl ts x,∃ q,P=q++[.lp x]:=by
 obtain ⟨j,h1,h2⟩:=h.w
 have hw:wS (ns.drop j) (k+1) true (.loop x):=⟨hl,h2⟩
 obtain ⟨c1,c2⟩:=bu7 hC 30 d j (k+1) true (.loop x) hw h1 (by omega) (by omega)
 have tr:∀ {c:Pil},ClI (innI ts 30 (.loop x)) [] c→c∈Spl ts x∨c=[]:=fun {c} z=>by
  rcases z with ⟨π,hπ,rfl⟩ | ⟨w,rfl⟩
  · rw [List.append_nil]; exact .inl hπ
  · right; cases w <;> rfl
 refine ⟨?_,fun s p hm c hc=>tr (c2 [] s p hm c (by rw [List.append_nil]; exact hc)),?_,fun P hP=>?_⟩
 · rcases tr (c1 [] (sts x++[.lp x]) (by simp [onI])) with z | z
   · exact z
   · simp at z
 · have:=b17 hC 30 d j (k+1) true (.loop x) hw h1
   have hz:=h.z
   have hc:=h.c
   simp only [Stm.sz,Stm.cl] at this
   have h8:=Nat.mul_le_mul_right (Lb d+1) hc
   have hd2:d=0∨d=1∨d=2:=by omega
   unfold Spl
   rcases hd2 with rfl | rfl | rfl <;> (simp only [Lb] at *; omega)
 · rcases List.mem_cons.mp (show P∈[Itm.lp x]::(sufI (innI ts 29) x).map (·++[Itm.lp x]) from hP) with e | e
   · exact ⟨[],e⟩
   · obtain ⟨π,_,rfl⟩:=List.mem_map.mp e
     exact ⟨π,rfl⟩
end L2
namespace L2
open PySem PySem.Spec PyProof.Rows
def TAt (H:Hp) (v:V) (t:Tr):Prop:=∃ fs,t.At H v fs
theorem TAt.same {H H':Hp}{v:V}{t:Tr}(h:TAt H v t) (s:Same H H'):TAt H' v t:=by
 obtain ⟨fs,h⟩:=h
 exact ⟨fs,h.mono (s.keep _)⟩
open Classical in
noncomputable def pBl (p:Prop):Bool:=decide p
theorem pBlT {p:Prop}(h:p):pBl p=true:=by unfold pBl; exact @decide_eq_true _ (Classical.propDecidable _) h
theorem bd7 {p:Prop}:pBl p=true↔p:=by unfold pBl; exact @decide_eq_true_iff _ (Classical.propDecidable _)
theorem pBlF {p:Prop}(h:¬ p):pBl p=false:=by unfold pBl; exact @decide_eq_false _ (Classical.propDecidable _) h
def bd8 (K:PySem.W.Frag):R2:=fun x y H Q=>∃ (t:Tr) (ts:List Tr) (a:Addr) (vs:List V),TAt H x t∧y=.ref a∧SqL K H a vs∧Each (TAt H) vs ts∧LdT t∧(∀ p∈ts,LdT p)∧Q (.bl (!pBl (t∈ts))) H
section
variable {X:Cx}
open Classical in
theorem b53 (K:PySem.W.Frag) (hu:X.A.units+64<cLine) (hK:X.K=K:=by rfl):OpR X (compareOp .NotIn) (bd8 K):=by
 subst hK
 intro pins s σ H x y v u Q I rx ry h
 obtain ⟨t,ts,a,vs,⟨fs,h1⟩,rfl,h2,h3,l1,l2,q⟩:=h
 cases ry
 obtain ⟨its,v1,p1,_⟩:=I.list h2
 obtain ⟨hl,hit⟩:=bd1 h3 v1
 refine SeqAt.notIn_listAt (fun z=>decide (∃ j:Nat,its[j]?=some z∧ts[j]?=some t)) p1.isList (fun y hy=>?_) ?_
 · obtain ⟨j,hj,rfl⟩:=List.mem_iff_getElem.mp (show y∈its by simpa using hy)
   have e1:its[j]?=some its[j]:=List.getElem?_eq_getElem hj
   have get:∀ (k:Nat) (z:Value),its[k]?=some z→∃ p,ts[k]?=some p∧SeqAt.EqAt X.A.in1 s z v (PyData.eqv (toW p).dat (toW t).dat):=fun k z hz=>by
    have hk:=(List.getElem?_eq_some_iff.mp hz).1
    obtain ⟨p,hp⟩:∃ p,ts[k]?=some p:=⟨_,List.getElem?_eq_getElem (by omega)⟩
    obtain ⟨w,⟨gs,hw⟩,rw_⟩:=hit k z p hz hp
    exact ⟨p,hp,ce3 I hw h1 rw_ rx (l2 p (List.mem_of_getElem? hp)) l1 (by rw [ak8]; omega)⟩
   by_cases hex:∃ k:Nat,its[k]?=some its[j]∧ts[k]?=some t
   · rw [decide_eq_true hex]
     obtain ⟨k,k1,k2⟩:=hex
     obtain ⟨p,hp,he⟩:=get k _ k1
     rw [k2] at hp
     obtain rfl:=Option.some.inj hp
     rw [show PyData.eqv (toW t).dat (toW t).dat=true from eqv_tr.mpr rfl] at he
     exact he
   · rw [decide_eq_false hex]
     obtain ⟨p,hp,he⟩:=get j _ e1
     have:PyData.eqv (toW p).dat (toW t).dat=false:=by
      rw [Bool.eq_false_iff]
      intro z
      exact hex ⟨j,e1,by rw [hp,eqv_tr.mp z]⟩
     rw [this] at he
     exact he
 · refine ⟨.bl (!pBl (t∈ts)),H,I,?_,q⟩
   have e:its.toArray.any (fun z=>decide (∃ j:Nat,its[j]?=some z∧ts[j]?=some t))=pBl (t∈ts):=by
    rw [Bool.eq_iff_iff,bd7,←Array.any_toList,show its.toArray.toList=its from rfl,List.any_eq_true]
    constructor
    · rintro ⟨z,_,hz⟩
      obtain ⟨j,_,h2⟩:=of_decide_eq_true hz
      exact List.mem_of_getElem? h2
    · intro hm
      obtain ⟨j,hj⟩:=List.mem_iff_getElem?.mp hm
      have hjl:=(List.getElem?_eq_some_iff.mp hj).1
      exact ⟨its[j]'(by omega),List.getElem_mem _,decide_eq_true ⟨j,List.getElem?_eq_getElem _,hj⟩⟩
   rw [e]
   rfl
def c74:R2:=fun x y H Q=>∃ (t u:Tr),TAt H x t∧TAt H y u∧LdT t∧LdT u∧Q (.bl (pBl (t=u))) H
theorem b18 (hu:X.A.units+64<cLine):OpR X (compareOp .Eq) c74:=by
 intro pins s σ H x y v u Q I rx ry h
 obtain ⟨t,m,⟨fs,h1⟩,⟨gs,h2⟩,l1,l2,q⟩:=h
 obtain ⟨as,r1⟩:=Tw.reads I (at9 h1) rx
 obtain ⟨bs,r2⟩:=Tw.reads I (at9 h2) ry
 have d1:=ax7 t
 have:=l1.2
 refine SeqAt.rcAt_reads (A:=X.A) r1 r2 (by rw [al2]; exact l1.1) (by rw [al2]; exact l2.1) (by omega) X.prog X.w X.xe (EP X pins σ Q) ⟨.bl _,H,I,rfl,?_⟩
 have e:PyData.eqv (toW t).dat (toW m).dat=pBl (t=m):=by
  rw [Bool.eq_iff_iff,eqv_tr,bd7]
 rw [e]
 exact q
end
theorem bk4 {K:PySem.W.Frag}{H:Hp}{Q:VK}{x:V}{a:Addr}{t:Tr}{ts:List Tr}{vs:List V}(h1:TAt H x t) (h2:SqL K H a vs) (h3:Each (TAt H) vs ts) (l1:LdT t) (l2:∀ p∈ts,LdT p) (h:Q (.bl (!pBl (t∈ts))) H):bd8 K x (.ref a) H Q:=⟨t,ts,a,vs,h1,rfl,h2,h3,l1,l2,h⟩
theorem bo8 {H:Hp}{Q:VK}{x y:V}{t u:Tr}(h1:TAt H x t) (h2:TAt H y u) (l1:LdT t) (l2:LdT u) (h:Q (.bl (pBl (t=u))) H):c74 x y H Q:=⟨t,u,h1,h2,l1,l2,h⟩
def ItOk (ns:List Str):Itm→Prop
 | .st s=>∃ j k lp,k≤5∧wS (ns.drop j) k lp s
 | .lp x=>∀ s∈x,∃ j k lp,k≤5∧wS (ns.drop j) k lp s
 | .cl=>True
theorem ay0 {N:List Stm→Prop}{ns:List Str}{d k:Nat}{P:Pil}(h:WP N ns d k P):∀ i∈P,ItOk ns i:=by
 have sg:∀ {d k:Nat}{lp:Bool}{b:List Stm},k≤5→Sgm N ns d k lp b→∀ i∈sts b,ItOk ns i:=fun {d k lp b} hk h i hi=>by
  obtain ⟨s,hs,rfl⟩:=List.mem_map.mp hi
  obtain ⟨j,_,h2⟩:=h.w
  exact ⟨j,k,lp,hk,h2 s hs⟩
 induction h with
 | bot hd h=>exact sg (Nat.le_refl _) h
 | lp hk h hx hn h2 ih =>
   intro i hi
   rcases List.mem_append.mp hi with hi | hi
   · exact sg (by omega) h i hi
   · rcases List.mem_cons.mp hi with rfl | hi
     · obtain ⟨j,_,h3⟩:=hx.w
       exact fun s hs=>⟨j,_,true,by omega,h3 s hs⟩
     · exact ih i hi
 | cl h h2 ih =>
   intro i hi
   rcases List.mem_append.mp hi with hi | hi
   · exact sg (Nat.le_refl _) h i hi
   · rcases List.mem_cons.mp hi with rfl | hi
     · trivial
     · exact ih i hi
theorem bk5:(Cd.cmp false (.num 0) (.num 1)).tr.lay=true∧(Cd.cmp false (.num 0) (.num 1)).tr.h≤5:=by decide +kernel
theorem ce5 {nm:List Str}(hn:∀ c∈nm,(PyData.str c).canLay0=true):∀ (k:Nat) (lp:Bool) (s:Stm),wS nm k lp s→s.tr.lay=true∧s.tr.h≤7+4*k:=by
 have W:=al3
 have pl:∀ {ps:List Pt}{k:Nat},(∀ p∈ps,p.tr.lay=true∧p.tr.h=0)→(Stm.plain ps).tr.lay=true∧(Stm.plain ps).tr.h≤7+4*k:=fun {ps k} h=>⟨(b14 h).1,by have:=(b14 h).2; omega⟩
 have S:∀ w∈["say","on","hand","again","leave","back","stop","call","put","a","loop","test","wait","key","other","called","looped"],(Pt.s (Str.ofString w)).tr.lay=true∧(Pt.s (Str.ofString w)).tr.h=0:=fun w h=>⟨W w h,rfl⟩
 have pls:∀ {lp:Bool}{k:Nat}{ps:List Pt},plW nm lp ps→(Stm.plain ps).tr.lay=true∧(Stm.plain ps).tr.h≤7+4*k:=fun {lp k ps} hw=>by
  rcases hw with rfl | rfl | ⟨c,hc,rfl⟩ | ⟨_,rfl | rfl⟩ | rfl | rfl
  · refine pl fun p hp=>?_
    simp only [List.mem_cons,List.not_mem_nil,or_false] at hp
    rcases hp with rfl | rfl
    · exact S "say" (by decide)
    · exact S "on" (by decide)
  · refine pl fun p hp=>?_
    simp only [List.mem_cons,List.not_mem_nil,or_false] at hp
    rcases hp with rfl | rfl | rfl
    · exact S "hand" (by decide)
    · exact ⟨rfl,rfl⟩
    · exact S "on" (by decide)
  · refine pl fun p hp=>?_
    simp only [List.mem_cons,List.not_mem_nil,or_false] at hp
    rcases hp with rfl | rfl
    · exact S "call" (by decide)
    · exact ⟨hn c hc,rfl⟩
  · exact pl fun p hp=>by rw [List.mem_singleton.mp hp]; exact S "again" (by decide)
  · exact pl fun p hp=>by rw [List.mem_singleton.mp hp]; exact S "leave" (by decide)
  · exact pl fun p hp=>by rw [List.mem_singleton.mp hp]; exact S "back" (by decide)
  · exact pl fun p hp=>by rw [List.mem_singleton.mp hp]; exact S "stop" (by decide)
 have pt:∀ {k:Nat}{lp:Bool}{n:Str}{e:Ex},wS nm k lp (.put n e)→(Stm.put n e).tr.lay=true∧(Stm.put n e).tr.h≤7+4*k:=fun {k lp n e} hw=>by
  have hw:n="a"∧e=.num 1:=by cases k <;> exact hw
  obtain ⟨rfl,rfl⟩:=hw
  obtain ⟨_,_,_,h1,h2⟩:=bj8
  refine ⟨?_,?_⟩
  · simp only [Stm.tr,Tr.lay,Tr.lays,Bool.and_eq_true]
    exact ⟨W "put" (by decide),W "a" (by decide),h1,trivial⟩
  · simp only [Stm.tr,Tr.h,Tr.hs]
    have:max 0 (max 0 (max (Ex.num 1).tr.h 0))≤5:=by omega
    omega
 intro k
 induction k with
 | zero =>
   intro lp s hw
   cases s with
   | plain ps=>exact pls (wS_pl.mp hw)
   | put n e=>exact pt hw
   | loop x=>exact hw.elim
   | wait n bs=>exact hw.elim
   | test c x y=>exact hw.elim
 | succ k ih =>
   intro lp s hw
   cases s with
   | plain ps=>exact pls (wS_pl.mp hw)
   | put n e=>exact pt hw
   | loop x =>
     have h1:=ap9 fun s hs=>(ih true s (hw.2 s hs)).1
     have h2:=ad6 fun s hs=>(ih true s (hw.2 s hs)).2
     refine ⟨?_,?_⟩
     · simp only [Stm.tr,Tr.lay,Tr.lays,Bool.and_eq_true]
       exact ⟨W "loop" (by decide),h1,trivial⟩
     · simp only [Stm.tr,Tr.h,Tr.hs]
       omega
   | wait n bs =>
     obtain rfl:bs=[]:=hw
     refine ⟨?_,?_⟩
     · simp only [Stm.tr,Br.trs,Tr.lay,Tr.lays,Bool.and_eq_true]
       exact ⟨W "wait" (by decide),trivial,trivial,trivial⟩
     · simp only [Stm.tr,Br.trs,Tr.h,Tr.hs]
       omega
   | test c x y =>
     obtain ⟨rfl,hx,hy⟩:=hw
     obtain ⟨c1,c2⟩:=bk5
     have h1:=ap9 fun s hs=>(ih lp s (hx.2 s hs)).1
     have h2:=ad6 fun s hs=>(ih lp s (hx.2 s hs)).2
     have h3:=ap9 fun s hs=>(ih lp s (hy.2 s hs)).1
     have h4:=ad6 fun s hs=>(ih lp s (hy.2 s hs)).2
     refine ⟨?_,?_⟩
     · simp only [Stm.tr,Tr.lay,Tr.lays,Bool.and_eq_true]
       exact ⟨W "test" (by decide),c1,h1,h3,trivial⟩
     · simp only [Stm.tr,Tr.h,Tr.hs]
       omega
theorem bu9 {ns:List Str}(hn:∀ c∈ns,(PyData.str c).canLay0=true) {i:Itm}(h:ItOk ns i):i.tr.lay=true∧i.tr.h≤29:=by
 have st:∀ {s:Stm},(∃ j k lp,k≤5∧wS (ns.drop j) k lp s)→s.tr.lay=true∧s.tr.h≤27:=fun {s} ⟨j,k,lp,hk,hw⟩=>by
  obtain ⟨h1,h2⟩:=ce5 (fun c hc=>hn c (List.mem_of_mem_drop hc)) k lp s hw
  exact ⟨h1,by omega⟩
 cases i with
 | st s=>exact ⟨(st h).1,Nat.le_trans (st h).2 (by decide)⟩
 | lp x =>
   have h1:=ap9 (b:=x) fun s hs=>(st (h s hs)).1
   have h2:=ad6 (n:=27) (b:=x) fun s hs=>(st (h s hs)).2
   refine ⟨?_,?_⟩
   · simp only [Itm.tr,Tr.lay,Tr.lays,Bool.and_eq_true]
     exact ⟨al3 "looped" (by decide),h1,trivial⟩
   · simp only [Itm.tr,Tr.h,Tr.hs]
     omega
 | cl=>exact ⟨by simp only [Itm.tr,Tr.lay,Tr.lays,Bool.and_eq_true]; exact ⟨al3 "called" (by decide),trivial⟩,by decide⟩
def pTr (P:Pil):Tr:=.lst (P.reverse.map Itm.tr)
theorem b19 {ns:List Str}(hn:∀ c∈ns,(PyData.str c).canLay0=true):∀ {P:Pil},(∀ i∈P,ItOk ns i)→LdT (.lst (P.map Itm.tr))
 | [],_=>⟨rfl,by decide⟩
 | i::P,h=>by
   obtain ⟨a1,a2⟩:=b19 hn (P:=P) fun j hj=>h j (by simp [hj])
   obtain ⟨b1,b2⟩:=bu9 hn (h i (by simp))
   refine ⟨?_,?_⟩
   · simp only [List.map_cons,Tr.lay,Tr.lays,Bool.and_eq_true] at a1 ⊢
     exact ⟨b1,a1⟩
   · simp only [List.map_cons,Tr.h,Tr.hs] at a2 ⊢
     omega
theorem bo9 {ns:List Str}(hn:∀ c∈ns,(PyData.str c).canLay0=true) {P:Pil}(h:∀ i∈P,ItOk ns i):LdT (pTr P):=b19 hn fun i hi=>h i (List.mem_reverse.mp hi)
theorem bk6 {nm:List Str}{k:Nat}{lp:Bool}{s:Stm}(h:wS nm k lp s):s.tr≠Itm.cl.tr∧∀ x,s.tr≠(Itm.lp x).tr:=by
 cases s with
 | plain ps =>
   refine ⟨fun z=>?_,fun x z=>?_⟩
   · have z:ps.map Pt.tr=[Pt.s "called"].map Pt.tr:=by
      simpa [Stm.tr,Itm.tr,Pt.tr] using z
     have:=al1 z
     rcases wS_pl.mp h with e | e | ⟨c,_,e⟩ | ⟨_,e | e⟩ | e | e <;> rw [this] at e <;> simp at e <;> exact absurd e (by decide +kernel)
   · have z:ps.map Pt.tr=[Tr.str "looped",Tr.lst (Stm.trs x)]:=by simpa [Stm.tr,Itm.tr] using z
     have:Tr.lst (Stm.trs x)∈ps.map Pt.tr:=by rw [z]; simp
     obtain ⟨p,_,hp⟩:=List.mem_map.mp this
     exact b10 hp
 | put n e=>exact ⟨fun z=>by simp [Stm.tr,Itm.tr] at z,fun x z=>by simp [Stm.tr,Itm.tr] at z⟩
 | loop b=>exact ⟨fun z=>by simp [Stm.tr,Itm.tr] at z,fun x z=>by simp [Stm.tr,Itm.tr] at z; exact absurd z.1 (by decide +kernel)⟩
 | wait n bs=>exact ⟨fun z=>by simp [Stm.tr,Itm.tr] at z,fun x z=>by simp [Stm.tr,Itm.tr] at z⟩
 | test c a b=>exact ⟨fun z=>by simp [Stm.tr,Itm.tr] at z,fun x z=>by simp [Stm.tr,Itm.tr] at z⟩
theorem bd9 {ns:List Str}{a b:Itm}(ha:ItOk ns a) (hb:ItOk ns b) (h:a.tr=b.tr):a=b:=by
 cases a with
 | st s =>
   obtain ⟨_,_,_,_,hw⟩:=ha
   cases b with
   | st q=>rw [bc5 h]
   | lp x=>exact absurd h ((bk6 hw).2 x)
   | cl=>exact absurd h (bk6 hw).1
 | lp x =>
   cases b with
   | st q=>obtain ⟨_,_,_,_,hw⟩:=hb; exact absurd h.symm ((bk6 hw).2 x)
   | lp y =>
     simp only [Itm.tr,Tr.tup.injEq,List.cons.injEq,Tr.lst.injEq,and_true,true_and] at h
     rw [ac5 h]
   | cl=>simp [Itm.tr] at h
 | cl =>
   cases b with
   | st q=>obtain ⟨_,_,_,_,hw⟩:=hb; exact absurd h.symm (bk6 hw).1
   | lp y=>simp [Itm.tr] at h
   | cl=>rfl
theorem b20 {ns:List Str}:∀ {a b:Pil},(∀ i∈a,ItOk ns i)→(∀ i∈b,ItOk ns i)→a.map Itm.tr=b.map Itm.tr→a=b
 | [],[],_,_,_=>rfl
 | [],_::_,_,_,h=>by simp at h
 | _::_,[],_,_,h=>by simp at h
 | x::a,y::b,ha,hb,h=>by
   simp only [List.map_cons,List.cons.injEq] at h
   rw [bd9 (ha x (by simp)) (hb y (by simp)) h.1,b20 (fun i hi=>ha i (by simp [hi])) (fun i hi=>hb i (by simp [hi])) h.2]
theorem bv0 {ns:List Str}{a b:Pil}(ha:∀ i∈a,ItOk ns i) (hb:∀ i∈b,ItOk ns i) (h:pTr a=pTr b):a=b:=by
 unfold pTr at h
 rw [Tr.lst.injEq] at h
 have:=b20 (fun i hi=>ha i (List.mem_reverse.mp hi)) (fun i hi=>hb i (List.mem_reverse.mp hi)) h
 simpa using congrArg List.reverse this
theorem be0 {ns:List Str}{a:Pil}{bs:List Pil}(ha:∀ i∈a,ItOk ns i) (hb:∀ b∈bs,∀ i∈b,ItOk ns i):pTr a∈bs.map pTr↔a∈bs:=by
 constructor
 · intro h
   obtain ⟨b,h1,h2⟩:=List.mem_map.mp h
   rw [← bv0 (hb b h1) ha h2]; exact h1
 · intro h
   exact List.mem_map.mpr ⟨a,h,rfl⟩
end L2
local macro_rules | `(tactic| walk_at "side") => `(tactic| first | exact ⟨by decide, by decide, by decide⟩ | exact ⟨by decide, by decide⟩ | exact .inr (.inr ⟨by decide, by decide⟩) | exact .inr (.inl ⟨by decide, by decide⟩) | decide | omega | exact L2.le_line (by simp only [List.length_cons, List.length_nil]; omega))
local macro_rules | `(tactic| walk_at "o") => `(tactic| first | exact Or.inl rfl | exact Or.inr rfl)
local macro_rules | `(tactic| walk_at "step") => do
  let mut acc ← `(tactic| ((with_reducible refine L2.i_rgA ?k ?l ?_); (case k => walk_at "side"); (case l => walk_at "side")))
  for s in ("i_rI ao1 bn8 cb4 i_c i_op i_un i_rU cb5 bs8 cb6 cb7 cb8 c23 i_bl cb9 i_if cc0 c24 c25 c26 ba0 c27 cc1 i_cb c28 cc2 cc3 cc4 c30 cc5 i_or cc6 cc7 i_lc c31 bs9 c32 cc8 cc9 i_bm cd0 i_sl bi4 c33 cd1 cd2 cd3 c34 bn4 c36 bt0 cd4 cd7 c43 c40 c41 c38 c44 i_tB bi9 c49 c48 cd9 c52 c53 c54 c58 bb7 c61 c29 bn9".splitOn " ").reverse do
    let n := Lean.mkIdent (Lean.Name.str `L2 s)
    if s == "i_rI" || s == "ao1" || s == "c29" then acc ← `(tactic| first | ((with_reducible refine $n ?k ?_); (case k => walk_at "side")) | $acc:tactic)
    else if s == "bn8" then acc ← `(tactic| first | ((with_reducible refine $n ?_); intro _ _) | $acc:tactic)
    else if s == "bn9" then acc ← `(tactic| first | ((with_reducible refine' $n ?k ?_); (case k => assumption)) | $acc:tactic)
    else acc ← `(tactic| first | with_reducible refine $n ?_ | $acc:tactic)
  `(tactic| first | ((with_reducible refine L2.i_name ?_); dsimp only [List.set_cons_zero, List.set_cons_succ]) | ((with_reducible refine' L2.i_var ?k ?_); (case k => rfl)) | $acc:tactic)
local macro_rules | `(tactic| walk_at "run") => `(tactic| (repeat walk_at "step"))
local macro_rules | `(tactic| walk_at "go") => do
  let ids := (("L2.start List.map_cons List.map_nil List.length_cons List.length_nil List.replicate List.cons_append List.nil_append Nat.reduceSub Nat.reduceAdd L2.nox_K L2.wish_K L2.cxOf_K L2.cxC_K".splitOn " ").map fun s => Lean.mkIdent s.toName).toArray
  `(tactic| (simp only [$[$ids:term],*]; walk_at "run"))
namespace K16
open PySem L2
theorem sc_bodies_of:FnScope ["statement","kind"] ["statement"] (a06 ad9):=⟨rfl,rfl,rfl,by decide +kernel,rfl,by decide +kernel,by decide +kernel⟩
theorem sc_statements_in:FnScope ["body","found","statement","inner"] ["body"] (a06 ab0):=⟨rfl,rfl,rfl,by decide +kernel,rfl,by decide +kernel,by decide +kernel⟩
theorem ai6:FnScope ["pattern"] ["pattern"] (a06 ab1):=⟨rfl,rfl,rfl,by decide +kernel,rfl,by decide +kernel,by decide +kernel⟩
theorem sc_names_in:FnScope ["thing","kind"] ["thing"] (a06 an1):=⟨rfl,rfl,rfl,by decide +kernel,rfl,by decide +kernel,by decide +kernel⟩
theorem sc_faults:FnScope ["script","found","name","body","look"] ["script"] (a06 az8):=⟨rfl,rfl,rfl,by decide +kernel,rfl,by decide +kernel,by decide +kernel⟩
theorem bk7:FnScope ["script"] ["script"] (a06 b84):=⟨rfl,rfl,rfl,by decide +kernel,rfl,by decide +kernel,by decide +kernel⟩
theorem sc_head_faults:FnScope ["script","found"] ["script"] (a06 a75):=⟨rfl,rfl,rfl,by decide +kernel,rfl,by decide +kernel,by decide +kernel⟩
theorem sc_names_met_again:FnScope ["things","names"] ["things"] (a06 a51):=⟨rfl,rfl,rfl,by decide +kernel,rfl,by decide +kernel,by decide +kernel⟩
theorem ac8:FnScope ["self","talk","script"] ["self","talk","script"] (a06 a44):=⟨rfl,rfl,rfl,by decide +kernel,rfl,by decide +kernel,by decide +kernel⟩
theorem ai7:FnScope ["self","word","what"] ["self","word","what"] (a06 ab2):=⟨rfl,rfl,rfl,by decide +kernel,rfl,by decide +kernel,by decide +kernel⟩
theorem sc_TalkLook_look_body:FnScope ["self","body","in_loop","statement"] ["self","body","in_loop"] (a06 a74):=⟨rfl,rfl,rfl,by decide +kernel,rfl,by decide +kernel,by decide +kernel⟩
theorem sc_TalkLook_look_statement:FnScope ["self","statement","in_loop","kind","body"] ["self","statement","in_loop"] (a06 a54):=⟨rfl,rfl,rfl,by decide +kernel,rfl,by decide +kernel,by decide +kernel⟩
theorem sc_TalkLook_look_names:FnScope ["self","names","name"] ["self","names"] (a06 a70):=⟨rfl,rfl,rfl,by decide +kernel,rfl,by decide +kernel,by decide +kernel⟩
theorem sc_TalkLook_look_wait:FnScope ["self","statement","in_loop","patterns","place","branch"] ["self","statement","in_loop"] (a06 a53):=⟨rfl,rfl,rfl,by decide +kernel,rfl,by decide +kernel,by decide +kernel⟩
theorem sc_first_talk:FnScope ["talks","name","place","talk"] ["talks","name"] (a06 ai2):=⟨rfl,rfl,rfl,by decide +kernel,rfl,by decide +kernel,by decide +kernel⟩
theorem sc_round_faults:FnScope ["talks","called"] ["talks"] (a06 a65):=⟨rfl,rfl,rfl,by decide +kernel,rfl,by decide +kernel,by decide +kernel⟩
theorem sc_called_talks:FnScope ["talks","body","numbers"] ["talks","body"] (a06 a66):=⟨rfl,rfl,rfl,by decide +kernel,rfl,by decide +kernel,by decide +kernel⟩
theorem sc_comes_round:FnScope ["talk","called","reached","ahead","number"] ["talk","called"] (a06 ae9):=⟨rfl,rfl,rfl,by decide +kernel,rfl,by decide +kernel,by decide +kernel⟩
theorem sc_dry_faults:FnScope ["talks","found","known","name","body","loops"] ["talks"] (a06 a88):=⟨rfl,rfl,rfl,by decide +kernel,rfl,by decide +kernel,by decide +kernel⟩
theorem sc_is_dry:FnScope ["loop","talks","known","ends"] ["loop","talks","known"] (a06 az9):=⟨rfl,rfl,rfl,by decide +kernel,rfl,by decide +kernel,by decide +kernel⟩
theorem sc_ends_of_body:FnScope ["body","talks","known","ends","statement"] ["body","talks","known"] (a06 a67):=⟨rfl,rfl,rfl,by decide +kernel,rfl,by decide +kernel,by decide +kernel⟩
theorem sc_ends_of_statement:FnScope ["statement","talks","known","kind","ends"] ["statement","talks","known"] (a06 a80):=⟨rfl,rfl,rfl,by decide +kernel,rfl,by decide +kernel,by decide +kernel⟩
theorem au3:FnScope ["ends","kept"] ["ends","kept"] (a06 ae0):=⟨rfl,rfl,rfl,by decide +kernel,rfl,by decide +kernel,by decide +kernel⟩
theorem al7:FnScope ["name","talks","known"] ["name","talks","known"] (a06 ad2):=⟨rfl,rfl,rfl,by decide +kernel,rfl,by decide +kernel,by decide +kernel⟩
theorem am5:FnScope ["script","k"] ["script","k"] (a06 af0):=⟨rfl,rfl,rfl,by decide +kernel,rfl,by decide +kernel,by decide +kernel⟩
theorem sc_law_mixed:FnScope ["cell","k","number"] ["cell","k"] (a06 ak4):=⟨rfl,rfl,rfl,by decide +kernel,rfl,by decide +kernel,by decide +kernel⟩
theorem sc_law_deck:FnScope ["script","numbers","cell","number","k"] ["script"] (a06 an2):=⟨rfl,rfl,rfl,by decide +kernel,rfl,by decide +kernel,by decide +kernel⟩
theorem sc_law_digit:FnScope ["deck","many","digit"] ["deck","many"] (a06 ak5):=⟨rfl,rfl,rfl,by decide +kernel,rfl,by decide +kernel,by decide +kernel⟩
theorem sc_law_loop:FnScope ["deck","later","deep","body","at"] ["deck","later","deep"] (a06 an3):=⟨rfl,rfl,rfl,by decide +kernel,rfl,by decide +kernel,by decide +kernel⟩
theorem sc_law_one:FnScope ["deck","later","looped","deep","kind","one","other"] ["deck","later","looped","deep"] (a06 as8):=⟨rfl,rfl,rfl,by decide +kernel,rfl,by decide +kernel,by decide +kernel⟩
theorem sc_law_some:FnScope ["deck","later","looped","deep","body","k"] ["deck","later","looped","deep"] (a06 an4):=⟨rfl,rfl,rfl,by decide +kernel,rfl,by decide +kernel,by decide +kernel⟩
theorem sc_law_talks:FnScope ["deck","names","talks"] ["deck"] (a06 ae1):=⟨rfl,rfl,rfl,by decide +kernel,rfl,by decide +kernel,by decide +kernel⟩
theorem sc_law_to:FnScope ["pile","mark","talk"] ["pile","mark","talk"] (a06 b00):=⟨rfl,rfl,rfl,by decide +kernel,rfl,by decide +kernel,by decide +kernel⟩
theorem sc_law_on:FnScope ["talks","pile","statement","ways","kind","both"] ["talks","pile","statement","ways"] (a06 b01):=⟨rfl,rfl,rfl,by decide +kernel,rfl,by decide +kernel,by decide +kernel⟩
theorem sc_law_rests:FnScope ["talks","ways","pile","k","steps"] ["talks","ways"] (a06 ak6):=⟨rfl,rfl,rfl,by decide +kernel,rfl,by decide +kernel,by decide +kernel⟩
theorem sc_law_comes_back:FnScope ["talks","body","mark","some","met","pile","near"] ["talks","body"] (a06 aa4):=⟨rfl,rfl,rfl,by decide +kernel,rfl,by decide +kernel,by decide +kernel⟩
theorem sc_law_loops:FnScope ["body","found","statement"] ["body"] (a06 ak7):=⟨rfl,rfl,rfl,by decide +kernel,rfl,by decide +kernel,by decide +kernel⟩
theorem sc_law:FnScope ["script","talks","last","ways","name","body","loop"] ["script"] (a06 br5):=⟨rfl,rfl,rfl,by decide +kernel,rfl,by decide +kernel,by decide +kernel⟩
theorem Txt.d_ENDS {K:PySem.W.Frag}{mg:Str→Option Value}{t:Adr}(T:Txt K mg t):TupK K t.ad_ENDS [.str "on",.str "again",.str "leave",.str "back",.str "stop"]:=by obtain ⟨_,its,nn,_,h1,h2,h3⟩:=T.dd_ENDS; exact ⟨_,its,nn,h1,rfl,rfl,h2,h3⟩
theorem Txt.d_NONE {K:PySem.W.Frag}{mg:Str→Option Value}{t:Adr}(T:Txt K mg t):TupK K t.ad_NONE [.str "none"]:=by obtain ⟨_,its,nn,_,h1,h2,h3⟩:=T.dd_NONE; exact ⟨_,its,nn,h1,rfl,rfl,h2,h3⟩
section
variable {P:Program}{w:World}{K:PySem.W.Frag}{mg:Str→Option Value}{base:Heap}{t:Adr}
def woO (d:Option Addr) (H:Hp):Hp:=fun a=>if d=some a then none else H a
theorem woG {d:Option Addr}{H:Hp}{a:Addr}(h:d≠some a):woO d H a=H a:=if_neg h
theorem woU {x:Addr}{H:Hp}{o:HO}:woO (some x) (upd H x o)=woO (some x) H:=funext fun a=>by
 unfold woO
 by_cases h:some x=some a
 · rw [if_pos h,if_pos h]
 · rw [if_neg h,if_neg h,a12 (fun z=>h (by rw [z]))]
theorem woS {d:Option Addr}{H H':Hp}(s:Same H H'):Same (woO d H) (woO d H'):=fun a o e=>by
 unfold woO at e ⊢
 by_cases h:d=some a
 · rw [if_pos h] at e; cases e
 · rw [if_neg h] at e ⊢
   exact s _ _ e
theorem woL {d:Option Addr}{H:Hp}:Same (woO d H) H:=fun a o e=>by
 unfold woO at e
 by_cases h:d=some a
 · rw [if_pos h] at e; cases e
 · rw [if_neg h] at e
   exact e
theorem woX {k:Addr}{H:Hp}(h:H k=none):woO (some k) H=H:=funext fun a=>by
 unfold woO
 by_cases e:some k=some a
 · rw [if_pos e,←Option.some.inj e,h]
 · rw [if_neg e]
def wdsV (E:List Wd):List V:=a27 (E.map Wd.txt)
def KS (kd:Addr) (H H':Hp):Prop:=Same (woO (some kd) H) (woO (some kd) H')
theorem KS.of {kd:Addr}{H H':Hp}(s:Same H H'):KS kd H H':=woS s
theorem KS.trans {kd:Addr}{H H' H2:Hp}(a:KS kd H H') (b:KS kd H' H2):KS kd H H2:=Same.trans a b
theorem KS.at {kd:Addr}{H H':Hp}(s:KS kd H H') {a:Addr}{o:HO}(h:a≠kd) (e:H a=some o):H' a=some o:=by
 have:=s a o (by rw [woG (fun z=>h (Option.some.inj z).symm)]; exact e)
 rw [woG (fun z=>h (Option.some.inj z).symm)] at this
 exact this
def TkN (H:Hp) (v:V) (x:Str×List Stm):Prop:=∃ a u,v=.ref a∧H a=some (.tup [.str x.1,u])∧BAt H u x.2
theorem TkN.same {H H':Hp}{v:V}{x:Str×List Stm}(h:TkN H v x) (s:Same H H'):TkN H' v x:=by
 obtain ⟨a,u,z1,z2,z3⟩:=h
 exact ⟨a,u,z1,s _ _ z2,z3.same s⟩
def TksAt (H:Hp) (v:V) (ts:Tks):Prop:=∃ lt tvs,v=.ref lt∧H lt=some (.lst tvs)∧Each (TkN H) tvs ts∧ts.length≤100
theorem TksAt.same {H H':Hp}{v:V}{ts:Tks}(h:TksAt H v ts) (s:Same H H'):TksAt H' v ts:=by
 obtain ⟨lt,tvs,z1,z2,z3,z4⟩:=h
 exact ⟨lt,tvs,z1,s _ _ z2,z3.mono fun _ _ z=>z.same s,z4⟩
structure KnAt (p:Addr→Prop) (ts:Tks) (H:Hp) (kd:Addr) (kvs:List (Key×V)):Prop where
 h:H kd=some (.dK kvs)
 x:∀ a,p a→H a≠none
 n:(kvs.map (·.1)).Nodup
 k:∀ k∈kvs.map (·.1),∃ nm∈ts.map (·.1),k=Sum.inr nm
 v:∀ nm v,valV kvs (Sum.inr nm)=some v→∃ l b n E,v=.ref l∧(l≠kd∧¬ p l)∧a29 ts nm=some b∧eBf (eS ts n) b=some E∧H l=some (.lst (wdsV E))
theorem KnAt.len {p:Addr→Prop}{ts:Tks}{H:Hp}{kd:Addr}{kvs:List (Key×V)}(h:KnAt p ts H kd kvs):kvs.length≤ts.length:=by
 have:=List.Nodup.length_le_of_subset h.n (l₂:=(ts.map (·.1)).map (fun n=>(Sum.inr n:Key))) (fun k hk=>by
  obtain ⟨nm,h1,rfl⟩:=h.k k hk
  exact List.mem_map.mpr ⟨nm,h1,rfl⟩)
 simpa using this
theorem KnAt.same {p:Addr→Prop}{ts:Tks}{H H':Hp}{kd:Addr}{kvs:List (Key×V)}(h:KnAt p ts H kd kvs) (s:Same H H'):KnAt p ts H' kd kvs :=
 ⟨s _ _ h.h,fun a ha z=>(by
  cases e:H a with
  | none=>exact h.x a ha e
  | some o=>rw [s _ _ e] at z; cases z),h.n,h.k,fun nm v hv=>by
  obtain ⟨l,b,n,E,z1,z2,z3,z4,z5⟩:=h.v nm v hv
  exact ⟨l,b,n,E,z1,z2,z3,z4,s _ _ z5⟩⟩
def bv1 (K:PySem.W.Frag):Sp:=fun vs H Q _=>∃ (a k:Addr) (E M:List Wd),vs=[.ref a,.ref k]∧H a=some (.lst (wdsV E))∧H k=some (.tup (wdsV M))∧E.length≤100∧∀ l H',H l=none→Same H H'→H' l=some (.lst (wdsV (E.filter fun w=>decide (w∈M))))→Q (.ref l) H'
theorem strs_at {ys:List Str}{i:Nat}{v:V}(h:(a27 ys)[i]?=some v):∃ y,ys[i]?=some y∧v=.str y:=by
 unfold a27 at h
 rw [List.getElem?_map] at h
 obtain ⟨w,h1,h2⟩:=Option.map_eq_some_iff.mp h
 exact ⟨w,h1,h2.symm⟩
theorem be1 {E:List Wd}{i:Nat}{v:V}(h:(wdsV E)[i]?=some v):∃ w,E[i]?=some w∧v=.str w.txt:=by
 obtain ⟨y,h1,rfl⟩:=strs_at h
 rw [List.getElem?_map] at h1
 obtain ⟨w,h2,rfl⟩:=Option.map_eq_some_iff.mp h1
 exact ⟨w,h2,rfl⟩
theorem be2 (E:List Wd) (w:Wd):inV (.str w.txt) (wdsV E)=decide (w∈E):=by
 unfold wdsV
 rw [aj2,decide_eq_decide,List.mem_map]
 exact ⟨fun ⟨x,h1,h2⟩=>by rw [← a76 h2]; exact h1,fun h=>⟨w,h,rfl⟩⟩
theorem a46 (E:List Wd):(wdsV E).length=E.length:=by simp [wdsV,a27]
theorem aj3 (E:List Wd):(wdsV E).all ae7=true:=by simp [wdsV,a27,ae7]
theorem au4 (T:Txt K mg t):FnOk P w K mg base CX0 1 t.a_kept_ends t.fd_kept_ends ["ends","kept"] (bv1 K):=by
 refine T.f_kept_ends.F.ok au3 (fun vs H Q E h=>?_) (fun cdv A outer s H vs Q E hr h=>?_)
 · obtain ⟨a,k,E,M,rfl,_⟩:=h
   rfl
 · obtain ⟨a,k,E,M,rfl,ha,hk,hl,q⟩:=h
   refine ⟨_,(@a04 _ _ _ (@a14 _ _ _ _ (af3 (Nt:=["word"]) (Nf:=["kept"]) (caps:=[1]) rfl (a45 (sc:=a06 ae0) rfl rfl (by decide +kernel) (by decide +kernel) (by decide +kernel) rfl (by decide +kernel)) (a25 K (pv 0)) (fun _ _ _ _ _=>(a16 (i:=0) (show (["word","kept"]:List Str).Nodup by decide +kernel) rfl (by walk_at "o"))) (fun _ _ _ _ _=>(@aa0 _ _ _ (@a07 _ _ _ _ _ _ _ _ (ad3 K) (pv 0) (pv 1) (by with_unfolding_all rfl)))) (fun _ _ _ _ _=>(pv 0))))),?_⟩
   have sl:(1000000:Nat)≤sizeLine:=le_line (Nat.le_refl _)
   walk_at "go"
   refine ⟨⟨_,SqL.of ha⟩,a81 (xs:=wdsV E) (le_line (by rw [a46]; omega)) (fun i acc H'=>H=H'∧acc=wdsV ((E.take i).filter fun w=>decide (w∈M))∧i≤E.length) ⟨rfl,rfl,Nat.zero_le _⟩ (fun i acc H' zz=>by
    obtain ⟨rfl,rfl,hi⟩:=zz
    have:=List.length_filter_le (fun w=>decide (w∈M)) (E.take i)
    rw [List.length_take] at this
    exact ⟨by rw [a46]; omega,SqL.of ha⟩) ?_ ?_⟩
   · rintro i x acc H' hx ⟨rfl,rfl,hi⟩
     obtain ⟨w,hw,rfl⟩:=be1 hx
     have hil:=(List.getElem?_eq_some_iff.mp hw).1
     walk_at "run"
     refine ⟨k,wdsV M,rfl,.inr (SqT.of hk),rfl,aj3 M,?_⟩
     rw [be2]
     walk_at "run"
     rw [if_neg Bool.false_ne_true]
     have e:(E.take (i+1)).filter (fun w=>decide (w∈M))=(E.take i).filter (fun w=>decide (w∈M))++(if w∈M then [w] else []):=by
      rw [List.take_add_one,hw,Option.toList_some,List.filter_append]
      by_cases h:w∈M
      · rw [if_pos h]; simp [h]
      · rw [if_neg h]; simp [h]
     rw [e]
     by_cases h:w∈M
     · rw [if_pos (decide_eq_true h),if_pos h]
       walk_at "run"
       exact ⟨rfl,by simp [wdsV,a27],hil⟩
     · rw [if_neg (by simp [h]),if_neg h,List.append_nil]
       exact ⟨rfl,rfl,hil⟩
   · rintro acc H' ⟨rfl,rfl,_⟩ p H1 f1 s1 e1
     rw [a46,List.take_length] at e1
     exact q p H1 f1 s1 e1
theorem be3 {ts:Tks}{nm:Str}:∀ {i:Nat}{x:Str×List Stm},ts[i]?=some x→x.1=nm→(∀ j x,j<i→ts[j]?=some x→x.1≠nm)→a29 ts nm=some x.2:=by
 induction ts with
 | nil=>intro i x h; simp at h
 | cons y ts ih =>
   intro i x h hn hj
   cases i with
   | zero =>
     simp at h
     subst h
     unfold a29
     rw [List.find?_cons_of_pos (by simpa using hn)]
     rfl
   | succ i =>
     have h0:=hj 0 y (by omega) rfl
     have:=ih (i:=i) (x:=x) (by simpa using h) hn fun j z hj' hz=>hj (j+1) z (by omega) (by simpa using hz)
     unfold a29 at this ⊢
     rw [List.find?_cons_of_neg (by simpa using h0)]
     exact this
def bk8 (K:PySem.W.Frag):Sp:=fun vs H Q _=>∃ (tv:V) (nm:Str) (ts:Tks) (b:List Stm),vs=[tv,.str nm]∧TksAt H tv ts∧a29 ts nm=some b∧∀ (i:Nat) (x:Str×List Stm) (H':Hp),Same H H'→ts[i]?=some x→x.2=b→x.1=nm→Q (.int (i:Nat)) H'
theorem ag7 (T:Txt K mg t):FnOk P w K mg base CX0 1 t.a_first_talk t.fd_first_talk ["talks","name"] (bk8 K):=by
 refine T.f_first_talk.F.ok sc_first_talk (fun vs H Q E h=>?_) (fun cdv A outer s H vs Q E hr h=>?_)
 · obtain ⟨tv,nm,ts,b,rfl,_⟩:=h
   rfl
 · obtain ⟨tv,nm,ts,b,rfl,⟨lt,tvs,rfl,ht,hE,hl⟩,hf,q⟩:=h
   refine ⟨_,(@a02 _ _ _ _ _ (@a69 _ _ _ _ _ _ _ _ PassesOwn.never rfl (ao3 K rfl T.z_enumerate (@a00 _ _ _ _ _ (pv 0) (@a01 _) (by rfl))) (a93 K (n:=2) rfl (a34 (a16 (i:=2) sc_first_talk.nd rfl (by walk_at "o")) (a34 (a16 (i:=3) sc_first_talk.nd rfl (by walk_at "o")) (@a91 _)))) (@a04 _ _ _ (@a30 _ _ _ _ _ _ _ _ (@a07 _ _ _ _ _ _ _ _ a36 (@a15 _ _ _ _ _ _ _ (a10 K) (pv 3) (@a03 _ _ _ _) (fun _ _=>rfl)) (pv 1) (nomark _)) (@a04 _ _ _ (@a14 _ _ _ _ (pv 2))) (@a11 _))) (by intro _; rfl))
    (@a04 _ _ _ (@a14 _ _ _ _ (@az4 _ _ _)))),?_⟩
   have sl:(1000000:Nat)≤sizeLine:=le_line (Nat.le_refl _)
   walk_at "go"
   refine ⟨⟨_,SqL.of ht⟩,b07 (K:=K) (a:=lt) (xs:=tvs) (fun i σ H'=>Same H H'∧i≤ts.length∧(∀ j x,j<i→ts[j]?=some x→x.1≠nm)∧∃ y1 y2,σ=[some (.ref lt),some (.str nm),y1,y2]) ⟨Same.refl _,Nat.zero_le _,fun j x h=>absurd h (Nat.not_lt_zero _),_,_,rfl⟩ (fun i σ H' _ zz=>by obtain ⟨z,_⟩:=zz; exact SqL.of (z _ _ ht)) ?_ ?_⟩
   · rintro i v σ H2 pq H3 hv ⟨s2,hi,hno,y1,y2,rfl⟩ s3 e3
     have hil:i<ts.length:=by rw [← hE.1]; exact (List.getElem?_eq_some_iff.mp hv).1
     obtain ⟨x,hx⟩:∃ x,ts[i]?=some x:=⟨_,List.getElem?_eq_getElem hil⟩
     obtain ⟨a,u,rfl,ea,_⟩:=hE.2 i v x hv hx
     refine ⟨_,_,rfl,SqT.of e3,rfl,?_⟩
     walk_at "run"
     have s23:=s2.trans s3
     refine a22 (SqT.of (s23 _ _ ea)) (a05 (j:=0) rfl) ?_
     walk_at "run"
     by_cases h:x.1=nm
     · refine a28 h ?_
       walk_at "run"
       have:=be3 hx h hno
       rw [hf] at this
       exact q i x H3 s23 hx (Option.some.inj this).symm h
     · refine a23 h ?_
       walk_at "run"
       refine ⟨s23,hil,fun j y hj hy=>?_,_,_,rfl⟩
       by_cases hji:j=i
       · subst hji
         rw [hx] at hy
         rw [← Option.some.inj hy]
         exact h
       · exact hno j y (by omega) hy
   · rintro σ H2 ⟨s2,_,hno,y1,y2,rfl⟩
     exfalso
     unfold a29 at hf
     obtain ⟨x,hx,rfl⟩:=Option.map_eq_some_iff.mp hf
     have hm:=List.mem_of_find?_eq_some hx
     have hp:=List.find?_some hx
     obtain ⟨j,hj⟩:=List.mem_iff_getElem?.mp hm
     exact hno j x (by rw [hE.1]; exact (List.getElem?_eq_some_iff.mp hj).1) hj (by simpa using hp)
theorem bp0 {H:Hp}:∀ {ps:List Pt}{vs:List V}{fs:List Addr},Tr.Ats H (ps.map Pt.tr) vs fs→vs=ps.map Pt.v
 | [],vs,fs,h=>by
   simp only [List.map_nil,Tr.Ats] at h
   exact h.1
 | p::ps,vs,fs,h=>by
   simp only [List.map_cons,Tr.Ats] at h
   obtain ⟨v,ws,f,g,rfl,_,h1,h2⟩:=h
   rw [bp0 h2]
   cases p with
   | s z=>simp only [Pt.tr,Tr.At] at h1; rw [h1.1]; rfl
   | i z=>simp only [Pt.tr,Tr.At] at h1; rw [h1.1]; rfl
theorem b21 {H:Hp}{v:V}{ps:List Pt}(h:SAt H v (.plain ps)):∃ a,v=.ref a∧H a=some (.tup (ps.map Pt.v)):=by
 obtain ⟨fs,h⟩:=h
 simp only [Stm.tr,Tr.At] at h
 obtain ⟨a,vs,rfl,e,h2⟩:=h
 rw [bp0 h2] at e
 exact ⟨a,rfl,e⟩
theorem b22 {H:Hp}{a:Addr}{ps:List Pt}(e:H a=some (.tup (ps.map Pt.v))):SAt H (.ref a) (.plain ps):=by
 have:∀ ps:List Pt,Tr.Ats H (ps.map Pt.tr) (ps.map Pt.v) []:=fun ps=>by
  induction ps with
  | nil=>simp [Tr.Ats]
  | cons p ps ih =>
    simp only [List.map_cons,Tr.Ats]
    refine ⟨_,_,[],[],rfl,rfl,?_,ih⟩
    cases p with
    | s z=>simp [Pt.tr,Pt.v,Tr.At]
    | i z=>simp [Pt.tr,Pt.v,Tr.At]
 refine ⟨[],?_⟩
 simp only [Stm.tr,Tr.At]
 exact ⟨a,_,rfl,e,this ps⟩
theorem bk9 {H:Hp}{v:V}{n:Str}{e:Ex}(h:SAt H v (.put n e)):∃ a u,v=.ref a∧H a=some (.tup [.str "put",.str n,u]):=by
 obtain ⟨fs,h⟩:=h
 simp only [Stm.tr,Tr.At,Tr.Ats] at h
 obtain ⟨a,vs,rfl,e1,v1,w1,f1,g1,rfl,rfl,⟨rfl,rfl⟩,v2,w2,f2,g2,rfl,rfl,⟨rfl,rfl⟩,v3,w3,f3,g3,rfl,rfl,_,rfl,rfl⟩:=h
 exact ⟨a,v3,rfl,e1⟩
theorem au5 {κ:Type} [DecidableEq κ] {kvs:List (κ×V)}{k:κ}{v:V}:(putK kvs k v).map (·.1)=if k∈kvs.map (·.1) then kvs.map (·.1) else kvs.map (·.1)++[k]:=by
 unfold putK
 by_cases h:k∈kvs.map (·.1)
 · rw [if_pos h,if_pos ?_]
   · rw [List.map_map]
     refine List.map_congr_left fun x _=>?_
     simp only [Function.comp]
     split
     · rfl
     · rfl
   · rw [List.any_eq_true]
     obtain ⟨x,hx,e⟩:=List.mem_map.mp h
     exact ⟨x,hx,decide_eq_true e⟩
 · rw [if_neg h,if_neg ?_]
   · simp
   · rw [List.any_eq_true]
     rintro ⟨x,hx,e⟩
     exact h (List.mem_map.mpr ⟨x,hx,of_decide_eq_true e⟩)
theorem KnAt.put {p:Addr→Prop}{ts:Tks}{H:Hp}{kd l:Addr}{kvs:List (Key×V)}{nm:Str}{b:List Stm}{n:Nat}{E:List Wd}(h:KnAt p ts H kd kvs) (hn:nm∈ts.map (·.1)) (hl:l≠kd∧¬ p l) (hf:a29 ts nm=some b) (he:eBf (eS ts n) b=some E) (e:H l=some (.lst (wdsV E))):KnAt p ts (upd H kd (.dK (putK kvs (Sum.inr nm) (.ref l)))) kd (putK kvs (Sum.inr nm) (.ref l)):=by
 refine ⟨a17,fun a ha z=>?_,?_,fun k hk=>?_,fun nm' v hv=>?_⟩
 · by_cases e:a=kd
   · rw [e,a17] at z; cases z
   · rw [a12 e] at z; exact h.x a ha z
 · rw [au5]
   split
   · exact h.n
   · rename_i hm
     rw [List.nodup_append]
     exact ⟨h.n,by simp,fun a ha b hb z=>hm (by rw [← List.mem_singleton.mp hb,←z]; exact ha)⟩
 · rw [au5] at hk
   split at hk
   · exact h.k k hk
   · rcases List.mem_append.mp hk with hk | hk
     · exact h.k k hk
     · exact ⟨nm,hn,List.mem_singleton.mp hk⟩
 · rw [aj1] at hv
   split at hv
   · rename_i hh
     obtain rfl:=Sum.inr.inj hh
     obtain rfl:=Option.some.inj hv
     exact ⟨l,b,n,E,rfl,hl,hf,he,by rw [a12 hl.1]; exact e⟩
   · obtain ⟨l',b',n',E',z1,z2,z3,z4,z5⟩:=h.v nm' v hv
     exact ⟨l',b',n',E',z1,z2,z3,z4,by rw [a12 z2.1]; exact z5⟩
theorem b54 {ts:Tks}{nm:Str}{b:List Stm}(h:a29 ts nm=some b):nm∈ts.map (·.1):=by
 unfold a29 at h
 obtain ⟨x,hx,_⟩:=Option.map_eq_some_iff.mp h
 have:=List.find?_some hx
 exact List.mem_map.mpr ⟨x,List.mem_of_find?_eq_some hx,by simpa using this⟩
theorem ae3 (a b:List Wd):wdsV a++wdsV b=wdsV (a++b):=by simp [wdsV,a27]
theorem bv2 (k:Str):inV (.str k) (wdsV allW)=(endW k).isSome:=by
 unfold wdsV
 rw [aj2,Bool.eq_iff_iff,decide_eq_true_iff,List.mem_map]
 constructor
 · rintro ⟨w,_,rfl⟩
   cases h:endW w.txt with
   | some v=>rfl
   | none=>exact absurd rfl (au1 h w)
 · intro h
   obtain ⟨w,hw⟩:=Option.isSome_iff_exists.mp h
   exact ⟨w,ap4 w,ag0 hw⟩
theorem bl0 {K:PySem.W.Frag}{p:Addr}{H:Hp}{Q:VK}{k:Str}(h1:SqT K H p (wdsV allW)) (h:Q (.bl (endW k).isSome) H):rIn K false (.str k) (.ref p) H Q:=⟨p,wdsV allW,rfl,.inr h1,rfl,aj3 _,by rw [if_neg Bool.false_ne_true,bv2]; exact h⟩
theorem an8 {K:PySem.W.Frag}{p:Addr}{H:Hp}{Q:VK}{E:List Wd}(w:Wd) (h1:H p=some (.lst (wdsV E))) (h:Q (.bl (decide (w∈E))) H):rIn K false (.str w.txt) (.ref p) H Q:=⟨p,wdsV E,rfl,.inl (SqL.of h1),rfl,aj3 _,by rw [if_neg Bool.false_ne_true,be2]; exact h⟩
theorem c75 {K:PySem.W.Frag}{p:Addr}{H:Hp}{Q:VK}{E:List Wd}(w:Wd) (h1:H p=some (.lst (wdsV E))) (h:Q (.bl (!decide (w∈E))) H):rIn K true (.str w.txt) (.ref p) H Q:=⟨p,wdsV E,rfl,.inl (SqL.of h1),rfl,aj3 _,by rw [if_pos rfl,be2]; exact h⟩
theorem aa3 {kd l:Addr}{H H2:Hp}{o:HO}(hk:H2 kd=some o) (s:KS kd H H2) (f:H2 l=none):H l=none:=by
 cases h:H l with
 | none=>rfl
 | some o' =>
   exfalso
   by_cases hz:l=kd
   · rw [hz,hk] at f; cases f
   · rw [s.at hz h] at f; cases f
theorem b23 (E:List Wd):E.filter (fun w=>decide (w∈[Wd.back,Wd.stop]))=E.filter (fun w=>decide (w=.back∨w=.stop)):=by
 congr 1
 funext w
 simp
theorem aq6 (E:List Wd):E.filter (fun w=>decide (w∈[Wd.stop]))=E.filter (fun w=>decide (w=.stop)):=by
 congr 1
 funext w
 simp
def bl2 (K:PySem.W.Frag) (d:Nat):Sp:=fun vs H Q _=>∃ (bv tv:V) (kd:Addr) (kvs:List (Key×V)) (b:List Stm) (ts:Tks) (n:Nat) (E:List Wd) (p:Addr→Prop),vs=[bv,tv,.ref kd]∧BAt (woO (some kd) H) bv b∧TksAt (woO (some kd) H) tv ts∧KnAt p ts H kd kvs∧n<d∧eBf (eS ts n) b=some E∧∀ l H' kvs',KS kd H H'→KnAt p ts H' kd kvs'→H l=none→H' l=some (.lst (wdsV E))→Q (.ref l) H'
def c76 (K:PySem.W.Frag) (d:Nat):Sp:=fun vs H Q _=>∃ (sv tv:V) (kd:Addr) (kvs:List (Key×V)) (s:Stm) (ts:Tks) (n:Nat) (r:List Wd) (p:Addr→Prop),vs=[sv,tv,.ref kd]∧SAt (woO (some kd) H) sv s∧TksAt (woO (some kd) H) tv ts∧KnAt p ts H kd kvs∧n<d∧eS ts n s=some r∧∀ l H' kvs',KS kd H H'→KnAt p ts H' kd kvs'→H l=none→H' l=some (.lst (wdsV r))→Q (.ref l) H'
def c77 (K:PySem.W.Frag) (d:Nat):Sp:=fun vs H Q _=>∃ (nm:Str) (tv:V) (kd:Addr) (kvs:List (Key×V)) (b:List Stm) (ts:Tks) (n:Nat) (E:List Wd) (p:Addr→Prop),vs=[.str nm,tv,.ref kd]∧a29 ts nm=some b∧TksAt (woO (some kd) H) tv ts∧KnAt p ts H kd kvs∧n<d∧eBf (eS ts n) b=some E∧∀ l H' kvs',KS kd H H'→KnAt p ts H' kd kvs'→l≠kd→H' l=some (.lst (wdsV E))→Q (.ref l) H'
theorem al8 (T:Txt K mg t) {d:Nat}(G_ends_of_body:FnOk P w K mg base CX0 (3*d+1) t.a_ends_of_body t.fd_ends_of_body ["body","talks","known"] (bl2 K d)):FnOk P w K mg base CX0 (3*d+2) t.a_ends_of_talk t.fd_ends_of_talk ["name","talks","known"] (c77 K d):=by
 have G_first_talk:=ag7 (P:=P) (w:=w) (base:=base) T
 refine T.f_ends_of_talk.F.ok al7 (fun vs H Q E h=>?_) (fun cdv A outer s H vs Q E hr h=>?_)
 · obtain ⟨nm,tv,kd,kvs,b,ts,n,E0,p,rfl,_⟩:=h
   rfl
 · obtain ⟨nm,tv,kd,kvs,b,ts,n,E0,p,rfl,hf,ht,hk,hn,he,q⟩:=h
   refine ⟨_,(@a41 _ _ _ _ _ (@a30 _ _ _ _ _ _ _ _ (by1 (b93 (by exact bh5 hr) (pv 0) (pv 2))) (@a04 _ _ _ (bs0 (by exact bh5 hr) (pv 2) (pv 0) (@a09 _ _ _ _ _ _ _ _ _ _ _ _ _ _ _ _ G_ends_of_body (hr.mono (by omega)) rfl T.f_ends_of_body.m T.f_ends_of_body.F.kp T.f_ends_of_body.b .nil a19 (@a00 _ _ _ _ _ (@a15 _ _ _ _ _ _ _ (a10 K) (@a15 _ _ _ _ _ _ _ (a20 K) (pv 1) (@a09 _ _ _ _ _ _ _ _ _ _ _ _ _ _ _ _ G_first_talk (hr.mono (by omega)) rfl T.f_first_talk.m T.f_first_talk.F.kp T.f_first_talk.b .nil a19 (@a00 _ _ _ _ _ (pv 1) (@a00 _ _ _ _ _ (pv 0) (@a01 _) (by rfl)) (by rfl)) (by decide) (by rfl) (by rfl)) (fun _ _=>rfl)) (@a03 _ _ _ _) (fun _ _=>rfl)) (@a00 _ _ _ _ _ (pv 1) (@a00 _ _ _ _ _ (pv 2) (@a01 _) (by rfl)) (by rfl)) (by rfl)) (by decide) (by rfl) (by rfl)) rfl)) (@a11 _))
    (@a04 _ _ _ (@a14 _ _ _ _ (@b92 _ _ _ _ _ _ (by exact bh5 hr) (pv 2) (pv 0) (fun _ _=>rfl))))),?_⟩
   have sl:(1000000:Nat)≤sizeLine:=le_line (Nat.le_refl _)
   walk_at "go"
   refine a95 (fun σ' H'=>σ'=[some (.str nm),some tv,some (.ref kd)]∧∃ kvs',KS kd H H'∧KnAt p ts H' kd kvs'∧(valV kvs' (Sum.inr nm)).isSome=true) ?_ ?_
   · walk_at "run"
     refine ⟨kd,_,rfl,DGet.k (k:=Sum.inr nm) hk.h,?_⟩
     walk_at "run"
     cases hv0:valV kvs (Sum.inr nm) with
     | some v =>
       rw [if_neg (by simp)]
       walk_at "run"
       exact ⟨rfl,kvs,Same.refl _,hk,by rw [hv0]; rfl⟩
     | none =>
       rw [if_pos (by simp)]
       walk_at "run"
       refine ⟨tv,nm,ts,b,rfl,ht.same woL,hf,fun i x H1 s1 hx e1 e2=>?_⟩
       obtain ⟨lt,tvs,htv,h1,h2,h3⟩:=id ht
       subst htv
       have hil:=(List.getElem?_eq_some_iff.mp hx).1
       obtain ⟨v,hv⟩:∃ v,tvs[i]?=some v:=⟨_,List.getElem?_eq_getElem (by rw [h2.1]; exact hil)⟩
       obtain ⟨a,u,rfl,ea,hb⟩:=h2.2 i v x hv hx
       refine a55 (SqL.of (s1 _ _ (woL _ _ h1))) (a05 (j:=i) hv) ?_
       walk_at "run"
       refine a22 (SqT.of (s1 _ _ (woL _ _ ea))) (a05 (j:=1) rfl) ?_
       walk_at "run"
       rw [e1] at hb
       refine ⟨u,.ref lt,kd,kvs,b,ts,n,E0,p,rfl,hb.same (woS s1),ht.same (woS s1),hk.same s1,hn,he,fun l H2 kvs2 s2 k2 hl0 e3=>?_⟩
       walk_at "run"
       have hlk:l≠kd:=fun z=>by rw [z,s1 _ _ hk.h] at hl0; cases hl0
       have:=k2.len
       have:=h3
       refine ⟨kd,_,rfl,DPut.k (k:=Sum.inr nm) k2.h (by omega),?_⟩
       have k3:=k2.put (b54 hf) ⟨hlk,fun z=>(hk.same s1).x l z hl0⟩ hf he e3
       have s3:KS kd H (upd H2 kd (.dK (putK kvs2 (Sum.inr nm) (.ref l)))):=by
        have:=(KS.of s1).trans s2
        unfold KS at this ⊢
        rw [woU]
        exact this
       refine ⟨rfl,_,s3,k3,?_⟩
       rw [aj1,if_pos rfl]
       rfl
   rintro σ' H1 ⟨rfl,kvs1,s1,k1,hv⟩
   walk_at "run"
   obtain ⟨v,hv⟩:=Option.isSome_iff_exists.mp hv
   obtain ⟨l,b',n',E',rfl,z2,z3,z4,z5⟩:=k1.v nm v hv
   rw [hf] at z3
   obtain rfl:=Option.some.inj z3
   obtain rfl:=bo1 he z4
   have hD:=DGet.k (k:=Sum.inr nm) k1.h
   rw [hv] at hD
   exact ⟨kd,_,rfl,hD,q l H1 kvs1 s1 k1 z2.1 z5⟩
theorem ac9 (T:Txt K mg t) {d:Nat}(G_ends_of_body:FnOk P w K mg base CX0 (3*d+1) t.a_ends_of_body t.fd_ends_of_body ["body","talks","known"] (bl2 K d)) (G_ends_of_talk:FnOk P w K mg base CX0 (3*d+2) t.a_ends_of_talk t.fd_ends_of_talk ["name","talks","known"] (c77 K d)):FnOk P w K mg base CX0 (3*d+3) t.a_ends_of_statement t.fd_ends_of_statement ["statement","talks","known"] (c76 K (d+1)):=by
 have G_kept_ends:=au4 (P:=P) (w:=w) (base:=base) T
 refine T.f_ends_of_statement.F.ok sc_ends_of_statement (fun vs H Q E h=>?_) (fun cdv A outer s H vs Q E hr h=>?_)
 · obtain ⟨sv,tv,kd,kvs,s0,ts,n,r,p,rfl,_⟩:=h
   rfl
 · obtain ⟨sv,tv,kd,kvs,s0,ts,n,r,p,rfl,hs,ht,hk,hn,he,q⟩:=h
   refine ⟨_,(@a02 _ _ _ _ _ (@a18 _ _ 3 _ _ _ _ sc_ends_of_statement.nd rfl (by walk_at "o") (@a15 _ _ _ _ _ _ _ (a10 K) (pv 0) (@a03 _ _ _ _) (fun _ _=>rfl)) (by rfl) (by walk_at "o"))
    (@a02 _ _ _ _ _ (@a30 _ _ _ _ _ _ _ _ (@a07 _ _ _ _ _ _ _ _ a36 (pv 3) (@a08 _ _ _ _) (nomark _)) (@a04 _ _ _ (@a14 _ _ _ _ (@a13 _ _ _ _ (@a01 _)))) (@a11 _))
    (@a02 _ _ _ _ _ (@a30 _ _ _ _ _ _ _ _ (@a07 _ _ _ _ _ _ _ _ a36 (pv 3) (@a08 _ _ _ _) (nomark _)) (@a04 _ _ _ (@a14 _ _ _ _ (@a33 _ _ _ _ _ _ _ _ a21 (@a09 _ _ _ _ _ _ _ _ _ _ _ _ _ _ _ _ G_ends_of_body (hr.mono (by omega)) rfl T.f_ends_of_body.m T.f_ends_of_body.F.kp T.f_ends_of_body.b .nil a19 (@a00 _ _ _ _ _ (@a15 _ _ _ _ _ _ _ (a10 K) (pv 0) (@a03 _ _ _ _) (fun _ _=>rfl)) (@a00 _ _ _ _ _ (pv 1) (@a00 _ _ _ _ _ (pv 2) (@a01 _) (by rfl)) (by rfl)) (by rfl)) (by decide) (by rfl) (by rfl)) (@a09 _ _ _ _ _ _ _ _ _ _ _ _ _ _ _ _ G_ends_of_body (hr.mono (by omega)) rfl T.f_ends_of_body.m T.f_ends_of_body.F.kp T.f_ends_of_body.b .nil a19 (@a00 _ _ _ _ _ (@a15 _ _ _ _ _ _ _ (a10 K) (pv 0) (@a03 _ _ _ _) (fun _ _=>rfl)) (@a00 _ _ _ _ _ (pv 1) (@a00 _ _ _ _ _ (pv 2) (@a01 _) (by rfl)) (by rfl)) (by rfl)) (by decide) (by rfl) (by rfl))))) (@a11 _))
    (@a02 _ _ _ _ _ (@a30 _ _ _ _ _ _ _ _ (@a07 _ _ _ _ _ _ _ _ a36 (pv 3) (@a08 _ _ _ _) (nomark _)) (@a02 _ _ _ _ _ (@a18 _ _ 4 _ _ _ _ sc_ends_of_statement.nd rfl (by walk_at "o") (@a09 _ _ _ _ _ _ _ _ _ _ _ _ _ _ _ _ G_ends_of_body (hr.mono (by omega)) rfl T.f_ends_of_body.m T.f_ends_of_body.F.kp T.f_ends_of_body.b .nil a19 (@a00 _ _ _ _ _ (@a15 _ _ _ _ _ _ _ (a10 K) (pv 0) (@a03 _ _ _ _) (fun _ _=>rfl)) (@a00 _ _ _ _ _ (pv 1) (@a00 _ _ _ _ _ (pv 2) (@a01 _) (by rfl)) (by rfl)) (by rfl)) (by decide) (by rfl) (by rfl)) (by rfl) (by walk_at "o"))
     (@a04 _ _ _ (@a14 _ _ _ _ (@a33 _ _ _ _ _ _ _ _ a21 (@az5 _ _ _ _ _ _ _ _ (@a07 _ _ _ _ _ _ _ _ (ad3 K) (@a08 _ _ _ _) (pv 4) (by with_unfolding_all rfl)) (@a13 _ _ _ _ (@a00 _ _ _ _ _ (@a08 _ _ _ _) (@a01 _) (by rfl))) (@a13 _ _ _ _ (@a01 _))) (@a09 _ _ _ _ _ _ _ _ _ _ _ _ _ _ _ _ G_kept_ends (hr.mono (by omega)) rfl T.f_kept_ends.m T.f_kept_ends.F.kp T.f_kept_ends.b .nil a19 (@a00 _ _ _ _ _ (pv 4) (@a00 _ _ _ _ _ (@a26 _ _ _ _ _ (@a00 _ _ _ _ _ (@a08 _ _ _ _) (@a00 _ _ _ _ _ (@a08 _ _ _ _) (@a01 _) (by rfl)) (by rfl))) (@a01 _) (by rfl)) (by rfl)) (by decide) (by rfl) (by rfl)))))) (@a11 _))
    (@a02 _ _ _ _ _ (@a30 _ _ _ _ _ _ _ _ (@a07 _ _ _ _ _ _ _ _ a36 (pv 3) (@a08 _ _ _ _) (nomark _)) (@a02 _ _ _ _ _ (@a18 _ _ 4 _ _ _ _ sc_ends_of_statement.nd rfl (by walk_at "o") (@a09 _ _ _ _ _ _ _ _ _ _ _ _ _ _ _ _ G_ends_of_talk (hr.mono (by omega)) rfl T.f_ends_of_talk.m T.f_ends_of_talk.F.kp T.f_ends_of_talk.b .nil a19 (@a00 _ _ _ _ _ (@a15 _ _ _ _ _ _ _ (a10 K) (pv 0) (@a03 _ _ _ _) (fun _ _=>rfl)) (@a00 _ _ _ _ _ (pv 1) (@a00 _ _ _ _ _ (pv 2) (@a01 _) (by rfl)) (by rfl)) (by rfl)) (by decide) (by rfl) (by rfl)) (by rfl) (by walk_at "o"))
     (@a04 _ _ _ (@a14 _ _ _ _ (@a33 _ _ _ _ _ _ _ _ a21 (@az5 _ _ _ _ _ _ _ _ (@PW.pt _ _ _ (@bq2 _ _ _ _ _ _ _ (@a07 _ _ _ _ _ _ _ _ (ad3 K) (@a08 _ _ _ _) (pv 4) (by with_unfolding_all rfl)) (@b64 _ _ _ _ (@a07 _ _ _ _ _ _ _ _ (ad3 K) (@a08 _ _ _ _) (pv 4) (by with_unfolding_all rfl))))) (@a13 _ _ _ _ (@a00 _ _ _ _ _ (@a08 _ _ _ _) (@a01 _) (by rfl))) (@a13 _ _ _ _ (@a01 _))) (@a09 _ _ _ _ _ _ _ _ _ _ _ _ _ _ _ _ G_kept_ends (hr.mono (by omega)) rfl T.f_kept_ends.m T.f_kept_ends.F.kp T.f_kept_ends.b .nil a19 (@a00 _ _ _ _ _ (pv 4) (@a00 _ _ _ _ _ (@a26 _ _ _ _ _ (@a00 _ _ _ _ _ (@a08 _ _ _ _) (@a01 _) (by rfl))) (@a01 _) (by rfl)) (by rfl)) (by decide) (by rfl) (by rfl)))))) (@a11 _))
    (@a02 _ _ _ _ _ (@a30 _ _ _ _ _ _ _ _ (@a07 _ _ _ _ _ _ _ _ (ad3 K) (pv 3) (aw0 (by rfl) T.m_ENDS (by exact T.r_ENDS)) (by with_unfolding_all rfl)) (@a04 _ _ _ (@a14 _ _ _ _ (@a13 _ _ _ _ (@a00 _ _ _ _ _ (pv 3) (@a01 _) (by rfl))))) (@a11 _))
    (@a04 _ _ _ (@a14 _ _ _ _ (@a13 _ _ _ _ (@a00 _ _ _ _ _ (@a08 _ _ _ _) (@a01 _) (by rfl))))))))))),?_⟩
   have sl:(1000000:Nat)≤sizeLine:=le_line (Nat.le_refl _)
   walk_at "go"
   have hs':=hs.same woL
   have fin:∀ l H',Same H H'→H l=none→H' l=some (.lst (wdsV r))→Q (.ref l) H':=fun l H' s e1 e2=>q l H' kvs (KS.of s) (hk.same s) e1 e2
   have kinds:∀ {k:Str}{w:Str},¬ w=k→w≠k:=fun h=>h
   cases n with
   | zero=>simp [eS] at he
   | succ m =>
   cases s0 with
   | wait k bs =>
     obtain ⟨a,l,ws,rfl,e,_,_⟩:=sat_wait.mp hs'
     obtain rfl:=Option.some.inj he
     refine a22 (SqT.of e) (a05 (j:=0) rfl) ?_
     walk_at "run"
     rw [if_pos (by simp)]
     walk_at "run"
     intro l H1 f1 s1 e1
     exact fin l H1 s1 f1 e1
   | put k x =>
     obtain ⟨a,u,rfl,e⟩:=bk9 hs'
     obtain rfl:=Option.some.inj he
     refine a22 (SqT.of e) (a05 (j:=0) rfl) ?_
     walk_at "run"
     rw [if_neg (by decide +kernel)]
     walk_at "run"
     rw [if_neg (by decide +kernel)]
     walk_at "run"
     rw [if_neg (by decide +kernel)]
     walk_at "run"
     rw [if_neg (by decide +kernel)]
     walk_at "run"
     refine bl0 (T.d_ENDS.sq _) ?_
     walk_at "run"
     rw [if_neg (by decide +kernel)]
     walk_at "run"
     intro l H1 f1 s1 e1
     exact fin l H1 s1 f1 e1
   | test c x y =>
     obtain ⟨a,u1,u2,u3,rfl,e,h1,h2⟩:=af9 hs
     have e':=woL _ _ e
     obtain ⟨E1,g1,g2⟩:=Option.bind_eq_some_iff.mp he
     obtain ⟨E2,g3,rfl⟩:=Option.map_eq_some_iff.mp g2
     refine a22 (SqT.of e') (a05 (j:=0) rfl) ?_
     walk_at "run"
     rw [if_neg (by decide +kernel)]
     walk_at "run"
     rw [if_pos (by simp)]
     walk_at "run"
     refine a22 (SqT.of e') (a05 (j:=2) rfl) ?_
     walk_at "run"
     refine ⟨u2,tv,kd,kvs,x,ts,m,E1,p,rfl,h1,ht,hk,by omega,g1,fun l1 H1 kvs1 s1 k1 f1 e1=>?_⟩
     have n1:l1≠kd:=fun z=>by rw [z,hk.h] at f1; cases f1
     walk_at "run"
     refine a22 (SqT.of (woL _ _ (s1 _ _ e))) (a05 (j:=3) rfl) ?_
     walk_at "run"
     refine ⟨u3,tv,kd,kvs1,y,ts,m,E2,p,rfl,h2.same s1,ht.same s1,k1,by omega,g3,fun l2 H2 kvs2 s2 k2 f2 e2=>?_⟩
     walk_at "run"
     have b1:=(ai3 g1).2
     have b2:=(ai3 g3).2
     refine a31 (s2.at n1 e1) e2 (by rw [a46,a46]; omega) ?_
     intro l3 H3 f3 s3 e3
     rw [ae3] at e3
     have f0:H l3=none:=aa3 k2.h (s1.trans s2) f3
     exact q l3 H3 kvs2 ((s1.trans s2).trans (KS.of s3)) (k2.same s3) f0 e3
   | loop x =>
     obtain ⟨a,u,rfl,e,h1⟩:=sat_loop.mp hs
     have e':=woL _ _ e
     obtain ⟨E1,g1,rfl⟩:=Option.map_eq_some_iff.mp he
     refine a22 (SqT.of e') (a05 (j:=0) rfl) ?_
     walk_at "run"
     rw [if_neg (by decide +kernel)]
     walk_at "run"
     rw [if_neg (by decide +kernel)]
     walk_at "run"
     rw [if_pos (by simp)]
     walk_at "run"
     refine a22 (SqT.of e') (a05 (j:=1) rfl) ?_
     walk_at "run"
     refine ⟨u,tv,kd,kvs,x,ts,m,E1,p,rfl,h1,ht,hk,by omega,g1,fun l1 H1 kvs1 s1 k1 f1 e1=>?_⟩
     walk_at "run"
     have b1:=(ai3 g1).2
     refine an8 .leave e1 ?_
     walk_at "run"
     by_cases hl:Wd.leave∈E1
     · rw [if_pos (decide_eq_true hl)]
       walk_at "run"
       intro l2 H2 f2 s2 e2
       walk_at "run"
       intro tp H3 f3 s3 e3
       walk_at "run"
       refine ⟨l1,tp,E1,[.back,.stop],rfl,(s2.trans s3) _ _ e1,e3,by omega,fun l4 H4 f4 s4 e4=>?_⟩
       walk_at "run"
       have s14:=s2.trans (s3.trans s4)
       refine a31 ((s3.trans s4) _ _ e2) e4 (by rw [a46]; have:=List.length_filter_le (fun w=>decide (w∈[Wd.back,.stop])) E1; simp only [List.length_cons,List.length_nil]; omega) ?_
       intro l5 H5 f5 s5 e5
       refine q l5 H5 kvs1 (s1.trans (KS.of (s14.trans s5))) (k1.same (s14.trans s5)) (aa3 (s14 _ _ k1.h) (s1.trans (KS.of s14)) f5) ?_
       rw [e5,b23]
       unfold ai5
       rw [if_pos hl,←ae3]
       rfl
     · rw [if_neg (by simp [hl])]
       walk_at "run"
       intro l2 H2 f2 s2 e2
       walk_at "run"
       intro tp H3 f3 s3 e3
       walk_at "run"
       refine ⟨l1,tp,E1,[.back,.stop],rfl,(s2.trans s3) _ _ e1,e3,by omega,fun l4 H4 f4 s4 e4=>?_⟩
       walk_at "run"
       have s14:=s2.trans (s3.trans s4)
       refine a31 ((s3.trans s4) _ _ e2) e4 (by rw [a46]; have:=List.length_filter_le (fun w=>decide (w∈[Wd.back,.stop])) E1; simp only [List.length_cons,List.length_nil]; omega) ?_
       intro l5 H5 f5 s5 e5
       refine q l5 H5 kvs1 (s1.trans (KS.of (s14.trans s5))) (k1.same (s14.trans s5)) (aa3 (s14 _ _ k1.h) (s1.trans (KS.of s14)) f5) ?_
       rw [e5,b23]
       unfold ai5
       rw [if_neg hl,←ae3]
       rfl
   | plain ps =>
     obtain ⟨a,rfl,e⟩:=b21 hs'
     unfold eS at he
     split at he
     · rename_i k nm
       have e:H a=some (.tup [.str k,.str nm]):=e
       refine a22 (SqT.of e) (a05 (j:=0) rfl) ?_
       walk_at "run"
       split at he
       · rename_i hk'
         subst hk'
         obtain ⟨b,g1,g2⟩:=Option.bind_eq_some_iff.mp he
         obtain ⟨E1,g3,rfl⟩:=Option.map_eq_some_iff.mp g2
         have b1:=(ai3 g3).2
         rw [if_neg (by decide +kernel)]
         walk_at "run"
         rw [if_neg (by decide +kernel)]
         walk_at "run"
         rw [if_neg (by decide +kernel)]
         walk_at "run"
         rw [if_pos (by simp)]
         walk_at "run"
         refine a22 (SqT.of e) (a05 (j:=1) rfl) ?_
         walk_at "run"
         refine ⟨nm,tv,kd,kvs,b,ts,m,E1,p,rfl,g1,ht,hk,by omega,g3,fun l1 H1 kvs1 s1 k1 n1 e1=>?_⟩
         walk_at "run"
         refine an8 .on e1 ?_
         walk_at "run"
         by_cases ho:Wd.on∈E1
         · rw [if_pos (decide_eq_true ho),if_pos rfl]
           walk_at "run"
           intro l2 H2 f2 s2 e2
           walk_at "run"
           intro tp H3 f3 s3 e3
           walk_at "run"
           refine ⟨l1,tp,E1,[.stop],rfl,(s2.trans s3) _ _ e1,e3,by omega,fun l4 H4 f4 s4 e4=>?_⟩
           walk_at "run"
           have s14:=s2.trans (s3.trans s4)
           refine a31 ((s3.trans s4) _ _ e2) e4 (by rw [a46]; have:=List.length_filter_le (fun w=>decide (w∈[Wd.stop])) E1; simp only [List.length_cons,List.length_nil]; omega) ?_
           intro l5 H5 f5 s5 e5
           refine q l5 H5 kvs1 (s1.trans (KS.of (s14.trans s5))) (k1.same (s14.trans s5)) (aa3 (s14 _ _ k1.h) (s1.trans (KS.of s14)) f5) ?_
           rw [e5,aq6]
           unfold ag3
           rw [if_pos (.inl ho),←ae3]
           rfl
         · rw [if_neg (by simp [ho])]
           walk_at "run"
           refine an8 .back e1 ?_
           walk_at "run"
           by_cases hb:Wd.back∈E1
           · rw [if_pos (decide_eq_true hb)]
             walk_at "run"
             intro l2 H2 f2 s2 e2
             walk_at "run"
             intro tp H3 f3 s3 e3
             walk_at "run"
             refine ⟨l1,tp,E1,[.stop],rfl,(s2.trans s3) _ _ e1,e3,by omega,fun l4 H4 f4 s4 e4=>?_⟩
             walk_at "run"
             have s14:=s2.trans (s3.trans s4)
             refine a31 ((s3.trans s4) _ _ e2) e4 (by rw [a46]; have:=List.length_filter_le (fun w=>decide (w∈[Wd.stop])) E1; simp only [List.length_cons,List.length_nil]; omega) ?_
             intro l5 H5 f5 s5 e5
             refine q l5 H5 kvs1 (s1.trans (KS.of (s14.trans s5))) (k1.same (s14.trans s5)) (aa3 (s14 _ _ k1.h) (s1.trans (KS.of s14)) f5) ?_
             rw [e5,aq6]
             unfold ag3
             rw [if_pos (.inr hb),←ae3]
             rfl
           · rw [if_neg (by simp [hb])]
             walk_at "run"
             intro l2 H2 f2 s2 e2
             walk_at "run"
             intro tp H3 f3 s3 e3
             walk_at "run"
             refine ⟨l1,tp,E1,[.stop],rfl,(s2.trans s3) _ _ e1,e3,by omega,fun l4 H4 f4 s4 e4=>?_⟩
             walk_at "run"
             have s14:=s2.trans (s3.trans s4)
             refine a31 ((s3.trans s4) _ _ e2) e4 (by rw [a46]; have:=List.length_filter_le (fun w=>decide (w∈[Wd.stop])) E1; simp only [List.length_cons,List.length_nil]; omega) ?_
             intro l5 H5 f5 s5 e5
             refine q l5 H5 kvs1 (s1.trans (KS.of (s14.trans s5))) (k1.same (s14.trans s5)) (aa3 (s14 _ _ k1.h) (s1.trans (KS.of s14)) f5) ?_
             rw [e5,aq6]
             unfold ag3
             rw [if_neg (fun z=>z.elim ho hb),←ae3]
             rfl
       · rename_i hk'
         split at he
         · rename_i hk2
           subst hk2
           obtain rfl:=Option.some.inj he
           rw [if_neg (by decide +kernel)]
           walk_at "run"
           rw [if_neg (by decide +kernel)]
           walk_at "run"
           rw [if_neg (by decide +kernel)]
           walk_at "run"
           rw [if_neg (by decide +kernel)]
           walk_at "run"
           refine bl0 (T.d_ENDS.sq _) ?_
           walk_at "run"
           rw [if_neg (by decide +kernel)]
           walk_at "run"
           intro l H1 f1 s1 e1
           exact fin l H1 s1 f1 e1
         · cases he
     · rename_i k
       obtain ⟨v,hv,rfl⟩:=Option.map_eq_some_iff.mp he
       have hkv:=ag0 hv
       subst hkv
       have e:H a=some (.tup [.str v.txt]):=e
       refine a22 (SqT.of e) (a05 (j:=0) rfl) ?_
       walk_at "run"
       have hno:v.txt≠"wait"∧v.txt≠"test"∧v.txt≠"loop"∧v.txt≠"call":=by cases v <;> decide +kernel
       rw [if_neg (by simpa using hno.1)]
       walk_at "run"
       rw [if_neg (by simpa using hno.2.1)]
       walk_at "run"
       rw [if_neg (by simpa using hno.2.2.1)]
       walk_at "run"
       rw [if_neg (by simpa using hno.2.2.2)]
       walk_at "run"
       refine bl0 (T.d_ENDS.sq _) ?_
       walk_at "run"
       rw [if_pos (by rw [hv]; rfl)]
       walk_at "run"
       intro l H1 f1 s1 e1
       exact fin l H1 s1 f1 e1
     · rename_i k i z
       split at he
       · rename_i hk2
         subst hk2
         obtain rfl:=Option.some.inj he
         have e:H a=some (.tup [.str "hand",.int i,.str z]):=e
         refine a22 (SqT.of e) (a05 (j:=0) rfl) ?_
         walk_at "run"
         rw [if_neg (by decide +kernel)]
         walk_at "run"
         rw [if_neg (by decide +kernel)]
         walk_at "run"
         rw [if_neg (by decide +kernel)]
         walk_at "run"
         rw [if_neg (by decide +kernel)]
         walk_at "run"
         refine bl0 (T.d_ENDS.sq _) ?_
         walk_at "run"
         rw [if_neg (by decide +kernel)]
         walk_at "run"
         intro l H1 f1 s1 e1
         exact fin l H1 s1 f1 e1
       · cases he
     · cases he
theorem al9 (T:Txt K mg t) {d:Nat}(G_ends_of_statement:FnOk P w K mg base CX0 (3*d+3) t.a_ends_of_statement t.fd_ends_of_statement ["statement","talks","known"] (c76 K (d+1))):FnOk P w K mg base CX0 (3*d+4) t.a_ends_of_body t.fd_ends_of_body ["body","talks","known"] (bl2 K (d+1)):=by
 refine T.f_ends_of_body.F.ok sc_ends_of_body (fun vs H Q E h=>?_) (fun cdv A outer s H vs Q E hr h=>?_)
 · obtain ⟨bv,tv,kd,kvs,b,ts,n,E0,p,rfl,_⟩:=h
   rfl
 · obtain ⟨bv,tv,kd,kvs,b,ts,n,E0,p,rfl,hb,ht,hk,hn,he,q⟩:=h
   refine ⟨_,(@a02 _ _ _ _ _ (@a18 _ _ 3 _ _ _ _ sc_ends_of_body.nd rfl (by walk_at "o") (@a13 _ _ _ _ (@a00 _ _ _ _ _ (@a08 _ _ _ _) (@a01 _) (by rfl))) (by rfl) (by walk_at "o"))
    (@a02 _ _ _ _ _ (@a69 _ _ _ _ _ _ _ _ PassesOwn.never rfl (a25 K (pv 0)) (a16 (i:=4) sc_ends_of_body.nd rfl (by walk_at "o")) (@a02 _ _ _ _ _ (@a30 _ _ _ _ _ _ _ _ (@a07 _ _ _ _ _ _ _ _ (af5 K) (@a08 _ _ _ _) (pv 3) (by with_unfolding_all rfl)) (@a04 _ _ _ (@bg4 _ _)) (@a11 _))
     (@a04 _ _ _ (@a18 _ _ 3 _ _ _ _ sc_ends_of_body.nd rfl (by walk_at "o") (@a33 _ _ _ _ _ _ _ _ a21 (af3 (Nt:=["word"]) (Nf:=[]) (caps:=[]) rfl (a45 (sc:=a06 a67) rfl rfl (by decide +kernel) (by decide +kernel) (by decide +kernel) rfl (by decide +kernel)) (a25 K (pv 3)) (fun _ _ _ _ _=>(a16 (i:=0) (show (["word"]:List Str).Nodup by decide +kernel) rfl (by walk_at "o"))) (fun _ _ _ _ _=>(@aa0 _ _ _ (@a07 _ _ _ _ _ _ _ _ b71 (pv 0) (@a08 _ _ _ _) (nomark _)))) (fun _ _ _ _ _=>(pv 0))) (@a09 _ _ _ _ _ _ _ _ _ _ _ _ _ _ _ _ G_ends_of_statement (hr.mono (by omega)) rfl T.f_ends_of_statement.m T.f_ends_of_statement.F.kp T.f_ends_of_statement.b .nil a19 (@a00 _ _ _ _ _ (pv 4) (@a00 _ _ _ _ _ (pv 1) (@a00 _ _ _ _ _ (pv 2) (@a01 _) (by rfl)) (by rfl)) (by rfl)) (by decide) (by rfl) (by rfl))) (by rfl) (by walk_at "o")))) (by intro _; rfl))
    (@a04 _ _ _ (@a14 _ _ _ _ (af3 (Nt:=["word"]) (Nf:=["ends"]) (caps:=[3]) rfl (a45 (sc:=a06 a67) rfl rfl (by decide +kernel) (by decide +kernel) (by decide +kernel) rfl (by decide +kernel)) (bs6 K (aw0 (by rfl) T.m_ENDS (by exact T.r_ENDS))) (fun _ _ _ _ _=>(a16 (i:=0) (show (["word","ends"]:List Str).Nodup by decide +kernel) rfl (by walk_at "o"))) (fun _ _ _ _ _=>(@aa0 _ _ _ (@a07 _ _ _ _ _ _ _ _ (ad3 K) (pv 0) (pv 1) (by with_unfolding_all rfl)))) (fun _ _ _ _ _=>(pv 0))))))),?_⟩
   have sl:(1000000:Nat)≤sizeLine:=le_line (Nat.le_refl _)
   obtain ⟨bl,us,rfl,eb,hE⟩:=bat_iff.mp hb
   have hbl:b.length≤1000∧∃ R,eL (eS ts n) b [.on]=some R∧E0=ordW R:=by
    unfold eBf at he
    split at he
    · rename_i h
      obtain ⟨R,h1,h2⟩:=Option.map_eq_some_iff.mp he
      exact ⟨h,R,h1,h2.symm⟩
    · cases he
   obtain ⟨hbl,R,hR,rfl⟩:=hbl
   have hlt:=ht
   walk_at "go"
   intro le1 H1 f1 s1 e1
   walk_at "run"
   rename_i Nx hNx
   have fin:∀ (le:Addr) (kvs':List (Key×V)) (y:Option V) (H':Hp),KS kd H H'→KnAt p ts H' kd kvs'→le≠kd→H' le=some (.lst (wdsV R))→Nx [some (.ref bl),some tv,some (.ref kd),some (.ref le),y] H':=fun le kvs' y H' s k nl e=>by
    refine hNx _ _ ?_
    walk_at "run"
    refine ⟨⟨_,T.d_ENDS.sq _⟩,c22 (xs:=wdsV allW) (le_line (by rw [a46]; decide)) (fun i acc H2=>H'=H2∧i≤allW.length∧acc=wdsV ((allW.take i).filter fun w=>decide (w∈R))) ⟨rfl,Nat.zero_le _,rfl⟩ (fun i acc H2 zz=>by
     obtain ⟨rfl,hi,rfl⟩:=zz
     have:=List.length_filter_le (fun w=>decide (w∈R)) (allW.take i)
     rw [List.length_take] at this
     exact ⟨by rw [a46]; omega,T.d_ENDS.sq _⟩) ?_ ?_⟩
    · rintro i x acc H2 hx ⟨rfl,hi,rfl⟩
      obtain ⟨v,hv,rfl⟩:=be1 hx
      have hil:=(List.getElem?_eq_some_iff.mp hv).1
      walk_at "run"
      refine an8 v e ?_
      walk_at "run"
      have e3:(allW.take (i+1)).filter (fun w=>decide (w∈R))=(allW.take i).filter (fun w=>decide (w∈R))++(if v∈R then [v] else []):=by
       rw [List.take_add_one,hv,Option.toList_some,List.filter_append]
       by_cases h:v∈R
       · rw [if_pos h]; simp [h]
       · rw [if_neg h]; simp [h]
      rw [e3]
      by_cases h:v∈R
      · rw [if_pos (decide_eq_true h),if_pos h]
        walk_at "run"
        exact ⟨rfl,hil,by simp [wdsV,a27]⟩
      · rw [if_neg (by simp [h]),if_neg h,List.append_nil]
        exact ⟨rfl,hil,rfl⟩
    · rintro acc H2 ⟨rfl,_,rfl⟩ p9 H9 f9 s9 e9
      rw [a46,List.take_length] at e9
      exact q p9 H9 kvs' (s.trans (KS.of s9)) (k.same s9) (aa3 k.h s f9) e9
   have hnk:∀ {H2:Hp}{kvs2:List (Key×V)}{l:Addr},KnAt p ts H2 kd kvs2→H2 l=none→l≠kd:=fun k f z=>by rw [z,k.h] at f; cases f
   refine ⟨⟨_,SqL.of (s1 _ _ (woL _ _ eb))⟩,a60 (K:=K) (a:=bl) (xs:=us) (fun i σ H'=>i≤b.length∧∃ (e:List Wd) (le:Addr) (kvs':List (Key×V)),KS kd H H'∧KnAt p ts H' kd kvs'∧le≠kd∧H' le=some (.lst (wdsV e))∧e.length≤1+10*i∧eL (eS ts n) (b.drop i) e=some R∧∃ y,σ=[some (.ref bl),some tv,some (.ref kd),some (.ref le),y]) ⟨Nat.zero_le _,[.on],le1,kvs,KS.of s1,hk.same s1,hnk hk f1,e1,by simp,hR,_,rfl⟩ (fun i σ H' _ zz=>by obtain ⟨_,e,le,kvs',z,_⟩:=zz; exact SqL.of (woL _ _ (z _ _ eb))) ?_ ?_⟩
   · rintro i sv σ H2 hsv ⟨hi,e,le,kvs2,s2,k2,nl,e2,hel,heL,y,rfl⟩
     have hil:i<b.length:=by rw [← hE.1]; exact (List.getElem?_eq_some_iff.mp hsv).1
     obtain ⟨st,hst⟩:∃ st,b[i]?=some st:=⟨_,List.getElem?_eq_getElem hil⟩
     have hsat:=hE.2 i sv st hsv hst
     have hdr:b.drop i=st::b.drop (i+1):=by
      obtain ⟨h1,h2⟩:=List.getElem?_eq_some_iff.mp hst
      rw [← h2]
      exact List.drop_eq_getElem_cons h1
     rw [hdr] at heL
     unfold eL at heL
     walk_at "run"
     refine c75 .on e2 ?_
     walk_at "run"
     by_cases ho:Wd.on∈e
     · rw [if_neg (by simp [ho])]
       rw [if_pos ho] at heL
       obtain ⟨r,g1,g2⟩:=Option.bind_eq_some_iff.mp heL
       have hrl:=c63 g1
       walk_at "run"
       refine ⟨⟨_,SqL.of e2⟩,a81 (xs:=wdsV e) (le_line (by rw [a46]; omega)) (fun i acc H3=>H2=H3∧i≤e.length∧acc=wdsV ((e.take i).filter fun w=>decide (w≠.on))) ⟨rfl,Nat.zero_le _,rfl⟩ (fun i acc H3 zz=>by
        obtain ⟨rfl,hi,rfl⟩:=zz
        have:=List.length_filter_le (fun w=>decide (w≠Wd.on)) (e.take i)
        rw [List.length_take] at this
        exact ⟨by rw [a46]; omega,SqL.of e2⟩) ?_ ?_⟩
       · rintro j x acc H3 hx ⟨rfl,hj,rfl⟩
         obtain ⟨v,hv,rfl⟩:=be1 hx
         have hil:=(List.getElem?_eq_some_iff.mp hv).1
         walk_at "run"
         have e3:(e.take (j+1)).filter (fun w=>decide (w≠Wd.on))=(e.take j).filter (fun w=>decide (w≠Wd.on))++(if v=Wd.on then [] else [v]):=by
          rw [List.take_add_one,hv,Option.toList_some,List.filter_append]
          by_cases h:v=Wd.on
          · rw [if_pos h]; simp [h]
          · rw [if_neg h]; simp [h]
         rw [e3]
         by_cases h:v=Wd.on
         · subst h
           rw [if_neg (by simp [Wd.txt]),if_pos rfl,List.append_nil]
           exact ⟨rfl,hil,rfl⟩
         · rw [if_pos (by simpa using fun z:v.txt=Str.ofString "on"=>h (a76 (b:=.on) z)),if_neg h]
           walk_at "run"
           exact ⟨rfl,hil,by simp [wdsV,a27]⟩
       · rintro acc H3 ⟨rfl,_,rfl⟩ p9 H9 f9 s9 e9
         rw [a46,List.take_length] at e9
         walk_at "run"
         refine ⟨sv,tv,kd,kvs2,st,ts,n,r,p,rfl,hsat.same (s2.trans (KS.of s9)),ht.same (s2.trans (KS.of s9)),k2.same s9,hn,g1,fun l4 H4 kvs4 s4 k4 f4 e4=>?_⟩
         walk_at "run"
         have n9:p9≠kd:=hnk k2 f9
         have fl:=List.length_filter_le (fun w=>decide (w≠Wd.on)) e
         refine a31 (s4.at n9 e9) e4 (by rw [a46,a46]; omega) ?_
         intro l5 H5 f5 s5 e5
         walk_at "run"
         rw [ae3] at e5
         exact ⟨hil,_,l5,kvs4,s2.trans ((KS.of s9).trans (s4.trans (KS.of s5))),k4.same s5,hnk k4 f5,e5,by rw [List.length_append]; omega,g2,_,rfl⟩
     · rw [if_pos (by simp [ho])]
       rw [if_neg ho] at heL
       obtain rfl:=Option.some.inj heL
       refine ba0 ?_
       exact fin le kvs2 _ H2 s2 k2 nl e2
   · rintro σ H2 ⟨_,e,le,kvs2,s2,k2,nl,e2,_,heL,y,rfl⟩
     rw [hE.1,List.drop_length] at heL
     obtain rfl:=Option.some.inj heL
     exact fin le kvs2 y H2 s2 k2 nl e2
theorem a85 (T:Txt K mg t):∀ d:Nat,FnOk P w K mg base CX0 (3*d+1) t.a_ends_of_body t.fd_ends_of_body ["body","talks","known"] (bl2 K d)
 | 0=>vac fun vs H Q E ⟨_,_,_,_,_,_,_,_,_,_,_,_,_,h,_⟩=>Nat.not_lt_zero _ h
 | d+1=>al9 T (ac9 T (a85 T d) (al8 T (a85 T d)))
def bv3 (K:PySem.W.Frag):Sp:=fun vs H Q _=>∃ (v:V) (x:Stm) (G:Hp) (tn:List Str),vs=[v]∧Same G H∧SAt G v x∧x.kd tn∧∀ l us H',H l=none→Same H H'→H' l=some (.lst us)→Each (BAt G) us (a24 x)→Q (.ref l) H'
theorem ai4 (T:Txt K mg t):FnOk P w K mg base CX0 1 t.a_bodies_of t.fd_bodies_of ["statement"] (bv3 K):=by
 refine T.f_bodies_of.F.ok sc_bodies_of (fun vs H Q E h=>?_) (fun cdv A outer s H vs Q E hr h=>?_)
 · obtain ⟨v,x,G,tn,rfl,_⟩:=h
   rfl
 · obtain ⟨v,x,G,tn,rfl,sG,hx,hp,q⟩:=h
   refine ⟨_,(@a02 _ _ _ _ _ (@a18 _ _ 1 _ _ _ _ sc_bodies_of.nd rfl (by walk_at "o") (@a15 _ _ _ _ _ _ _ (a10 K) (pv 0) (@a03 _ _ _ _) (fun _ _=>rfl)) (by rfl) (by walk_at "o"))
    (@a02 _ _ _ _ _ (@a30 _ _ _ _ _ _ _ _ (@a07 _ _ _ _ _ _ _ _ a36 (pv 1) (@a08 _ _ _ _) (nomark _)) (@a04 _ _ _ (@a14 _ _ _ _ (@a13 _ _ _ _ (@a00 _ _ _ _ _ (@a15 _ _ _ _ _ _ _ (a10 K) (pv 0) (@a03 _ _ _ _) (fun _ _=>rfl)) (@a00 _ _ _ _ _ (@a15 _ _ _ _ _ _ _ (a10 K) (pv 0) (@a03 _ _ _ _) (fun _ _=>rfl)) (@a01 _) (by rfl)) (by rfl))))) (@a11 _))
    (@a02 _ _ _ _ _ (@a30 _ _ _ _ _ _ _ _ (@a07 _ _ _ _ _ _ _ _ a36 (pv 1) (@a08 _ _ _ _) (nomark _)) (@a04 _ _ _ (@a14 _ _ _ _ (af3 (Nt:=["pattern","body"]) (Nf:=[]) (caps:=[]) rfl (a45 (sc:=a06 ad9) rfl rfl (by decide +kernel) (by decide +kernel) (by decide +kernel) rfl (by decide +kernel)) (a25 K (@a15 _ _ _ _ _ _ _ (a10 K) (pv 0) (@a03 _ _ _ _) (fun _ _=>rfl))) (fun _ _ _ _ _=>(a93 K (n:=2) rfl (a34 (a16 (i:=0) (show (["pattern","body"]:List Str).Nodup by decide +kernel) rfl (by walk_at "o")) (a34 (a16 (i:=1) (show (["pattern","body"]:List Str).Nodup by decide +kernel) rfl (by walk_at "o")) (@a91 _))))) (fun _ _ _ _ _=>(@a92 _)) (fun _ _ _ _ _=>(pv 1))))) (@a11 _))
    (@a02 _ _ _ _ _ (@a30 _ _ _ _ _ _ _ _ (@a07 _ _ _ _ _ _ _ _ a36 (pv 1) (@a08 _ _ _ _) (nomark _)) (@a04 _ _ _ (@a14 _ _ _ _ (@a13 _ _ _ _ (@a00 _ _ _ _ _ (@a15 _ _ _ _ _ _ _ (a10 K) (pv 0) (@a03 _ _ _ _) (fun _ _=>rfl)) (@a01 _) (by rfl))))) (@a11 _))
    (@a04 _ _ _ (@a14 _ _ _ _ (@a13 _ _ _ _ (@a01 _)))))))),?_⟩
   have sl:(1000000:Nat)≤sizeLine:=le_line (Nat.le_refl _)
   obtain ⟨a,us,rfl,ha⟩:=an7 hx hp
   walk_at "go"
   refine a22 (SqT.of (sG _ _ ha)) (a05 (j:=0) rfl) ?_
   walk_at "run"
   by_cases w1:x.wd=Str.ofString "test"
   · refine a28 w1 ?_
     walk_at "run"
     obtain ⟨c,y,z,rfl⟩:=ap1 hp w1
     obtain ⟨a,u1,u2,u3,hz,e,h2,h3⟩:=af9 hx
     cases hz
     refine a22 (SqT.of (sG _ _ e)) (a05 (j:=2) rfl) ?_
     walk_at "run"
     refine a22 (SqT.of (sG _ _ e)) (a05 (j:=3) rfl) ?_
     walk_at "run"
     intro p1 H1 f1 s1 e1
     exact q p1 _ H1 f1 s1 e1 ((Each.nil.snoc h2).snoc h3)
   refine a23 w1 ?_
   walk_at "run"
   by_cases w2:x.wd=Str.ofString "wait"
   · refine a28 w2 ?_
     walk_at "run"
     obtain ⟨n,bs,rfl⟩:=ax5 hp w2
     obtain ⟨a,l,ws,hz,e,el,hw⟩:=sat_wait.mp hx
     cases hz
     have wl:ws.length=bs.length:=hw.1
     have bl:bs.length≤1000:=hp
     refine a22 (SqT.of (sG _ _ e)) (a05 (j:=2) rfl) ?_
     refine ⟨_,rfl,⟨_,SqL.of (sG _ _ el)⟩,ao2 (xs:=ws) (by omega) (fun i acc H'=>H'=H∧i≤ws.length∧acc.length=i∧Each (BAt G) acc ((a24 (.wait n bs)).take i)) ⟨rfl,Nat.zero_le _,rfl,by simpa using Each.nil⟩ (fun i acc H' ⟨e0,_,ea,_⟩=>⟨by omega,e0 ▸ SqL.of (sG _ _ el)⟩) ?_ ?_⟩
     · rintro i w acc H' hw' ⟨rfl,hi,ea,hE⟩
       have hi':=(List.getElem?_eq_some_iff.mp hw').1
       obtain ⟨br,hbr⟩:∃ br,bs[i]?=some br:=⟨_,List.getElem?_eq_getElem (by omega)⟩
       have hB:=hw.2 i w br hw' hbr
       obtain ⟨pp,bb⟩:=br
       obtain ⟨qv,pv,bv,rfl,eq,hp1,hb1⟩:=hB
       refine ⟨qv,_,_,rfl,SqT.of (sG _ _ eq),?_⟩
       walk_at "run"
       refine ⟨rfl,hi',by simp [ea],?_⟩
       rw [List.take_add_one,show (a24 (.wait n bs))[i]?=some bb by unfold a24; rw [List.getElem?_map,hbr]; rfl,Option.toList_some]
       exact hE.snoc hb1
     · rintro acc H' ⟨rfl,_,ea,hE⟩ p1 H1 f1 s1 e1
       rw [wl,show (a24 (.wait n bs)).take bs.length=a24 (.wait n bs) from List.take_of_length_le (by simp [a24])] at hE
       walk_at "run"
       exact q p1 _ H1 f1 s1 e1 hE
   refine a23 w2 ?_
   walk_at "run"
   by_cases w3:x.wd=Str.ofString "loop"
   · refine a28 w3 ?_
     walk_at "run"
     obtain ⟨b,rfl⟩:=ap2 hp w3
     obtain ⟨a,u,hz,e,hb⟩:=sat_loop.mp hx
     cases hz
     refine a22 (SqT.of (sG _ _ e)) (a05 (j:=1) rfl) ?_
     walk_at "run"
     intro p1 H1 f1 s1 e1
     exact q p1 _ H1 f1 s1 e1 (Each.nil.snoc hb)
   refine a23 w3 ?_
   walk_at "run"
   intro p1 H1 f1 s1 e1
   exact q p1 [] H1 f1 s1 e1 (by rw [bt8 w1 w2 w3]; exact Each.nil)
theorem ah8 {us:List V}{k:Nat}:cutV us none (some (k:Int))=us.take k:=by
 unfold cutV
 have h0:HT.sIx us.length 0 (none:Option Int)=0:=rfl
 have h1:HT.sIx us.length us.length (some (k:Int))=min k us.length:=by
  unfold HT.sIx
  simp only
  split <;> omega
 rw [h0,h1,List.drop_zero,Nat.sub_zero]
 rcases Nat.le_total k us.length with h | h
 · rw [Nat.min_eq_left h]
 · rw [Nat.min_eq_right h,List.take_of_length_le (Nat.le_refl _),List.take_of_length_le h]
theorem ag8 {α β:Type}{R:α→β→Prop}{vs:List α}{xs:List β}(h:Each R vs xs) (k:Nat):Each R (vs.take k) (xs.take k):=by
 refine ⟨by rw [List.length_take,List.length_take,h.1],fun j v x h1 h2=>?_⟩
 rw [List.getElem?_take] at h1 h2
 split at h1
 · rename_i hj
   rw [if_pos hj] at h2
   exact h.2 j v x h1 h2
 · cases h1
theorem au6 {us:List V}{k:Nat}:cutV us (some (k:Int)) none=us.drop k:=by
 unfold cutV
 rw [HT.sIx_none,HT.sIx_nat]
 by_cases h:k≤us.length
 · rw [Nat.min_eq_left h,List.take_of_length_le (by simp)]
 · rw [Nat.min_eq_right (by omega),List.drop_of_length_le (Nat.le_refl _),List.drop_of_length_le (by omega)]
   simp
theorem au7 {α β:Type}{R:α→β→Prop}{vs:List α}{xs:List β}(h:Each R vs xs) (k:Nat):Each R (vs.drop k) (xs.drop k):=by
 refine ⟨by rw [List.length_drop,List.length_drop,h.1],fun j v x h1 h2=>?_⟩
 rw [List.getElem?_drop] at h1 h2
 exact h.2 _ v x h1 h2
theorem b24 {α β:Type}{R:α→β→Prop}{vs:List α}{xs:List β}(h:Each R vs xs):Each R vs.reverse xs.reverse:=by
 refine ⟨by rw [List.length_reverse,List.length_reverse,h.1],fun j v x h1 h2=>?_⟩
 have l1:j<vs.length:=by have:=(List.getElem?_eq_some_iff.mp h1).1; simpa using this
 have l2:j<xs.length:=by have:=(List.getElem?_eq_some_iff.mp h2).1; simpa using this
 rw [List.getElem?_reverse l1] at h1
 rw [List.getElem?_reverse l2,←h.1] at h2
 exact h.2 _ v x h1 h2
theorem a63 {H H':Hp}{d:Addr}{o:HO}(s:Same H H') (f:H d=none):Same H (upd H' d o):=fun a x e=>by
 rw [a12 (fun z=>by rw [z,f] at e; cases e)]
 exact s _ _ e
theorem a42 {H H':Hp}{a:Addr}(s:Same H H') (f:H' a=none):H a=none:=by
 cases h:H a with
 | none=>rfl
 | some o=>rw [s _ _ h] at f; cases f
def Nmd (H:Hp) (v:V) (n:Str):Prop:=∃ a r,v=.ref a∧H a=some (.tup (.str n::r))
theorem Nmd.same {H H':Hp}{v:V}{n:Str}(h:Nmd H v n) (s:Same H H'):Nmd H' v n:=by
 obtain ⟨a,r,rfl,e⟩:=h
 exact ⟨a,r,rfl,s _ _ e⟩
def c78 (K:PySem.W.Frag):Sp:=fun vs H Q _=>∃ (l:Addr) (us:List V) (ns:List Str),vs=[.ref l]∧H l=some (.lst us)∧Each (Nmd H) us ns∧ns.Nodup∧ns.length≤1000∧∀ p H',Same H H'→H p=none→H' p=some (.lst [])→Q (.ref p) H'
theorem ag9 (T:Txt K mg t):FnOk P w K mg base CX0 1 t.a_names_met_again t.fd_names_met_again ["things"] (c78 K):=by
 refine T.f_names_met_again.F.ok sc_names_met_again (fun vs H Q E h=>?_) (fun cdv A outer s H vs Q E hr h=>?_)
 · obtain ⟨l,us,ns,rfl,_⟩:=h
   rfl
 · obtain ⟨l,us,ns,rfl,e0,hE,hu,hl,q⟩:=h
   refine ⟨_,(@a02 _ _ _ _ _ (@a18 _ _ 1 _ _ _ _ sc_names_met_again.nd rfl (by walk_at "o") (af3 (Nt:=["thing"]) (Nf:=[]) (caps:=[]) rfl (a45 (sc:=a06 a51) rfl rfl (by decide +kernel) (by decide +kernel) (by decide +kernel) rfl (by decide +kernel)) (a25 K (pv 0)) (fun _ _ _ _ _=>(a16 (i:=0) (show (["thing"]:List Str).Nodup by decide +kernel) rfl (by walk_at "o"))) (fun _ _ _ _ _=>(@a92 _)) (fun _ _ _ _ _=>(@a15 _ _ _ _ _ _ _ (a10 K) (pv 0) (@a03 _ _ _ _) (fun _ _=>rfl)))) (by rfl) (by walk_at "o"))
    (@a04 _ _ _ (@a14 _ _ _ _ (af3 (Nt:=["place","name"]) (Nf:=["names"]) (caps:=[1]) rfl (a45 (sc:=a06 a51) rfl rfl (by decide +kernel) (by decide +kernel) (by decide +kernel) rfl (by decide +kernel)) (ao3 K rfl T.z_enumerate (@a00 _ _ _ _ _ (pv 1) (@a01 _) (by rfl))) (fun _ _ _ _ _=>(a93 K (n:=2) rfl (a34 (a16 (i:=0) (show (["place","name","names"]:List Str).Nodup by decide +kernel) rfl (by walk_at "o")) (a34 (a16 (i:=1) (show (["place","name","names"]:List Str).Nodup by decide +kernel) rfl (by walk_at "o")) (@a91 _))))) (fun _ _ _ _ _=>(@aa0 _ _ _ (@a07 _ _ _ _ _ _ _ _ (ad3 K) (pv 1) (@a39 _ _ _ _ _ _ _ _ _ _ (a40 K) (pv 2) (@a57 _) (@a48 _ _ _ (pv 0))) (by with_unfolding_all rfl)))) (fun _ _ _ _ _=>(pv 1)))))),?_⟩
   have sl:(1000000:Nat)≤sizeLine:=le_line (Nat.le_refl _)
   walk_at "go"
   refine ⟨⟨us,SqL.of e0⟩,a81 (xs:=us) (by rw [hE.1]; omega) (fun i acc H'=>H'=H∧acc=a27 (ns.take i)) ⟨rfl,rfl⟩ (fun i acc H' ⟨h1,h2⟩=>⟨by rw [h2]; unfold a27; rw [List.length_map,List.length_take]; exact Nat.min_le_left _ _,by rw [h1]; exact SqL.of e0⟩) ?_ ?_⟩
   · rintro i x acc H' hx ⟨rfl,rfl⟩
     obtain ⟨n,hn⟩:∃ n,ns[i]?=some n:=⟨_,List.getElem?_eq_getElem (by rw [← hE.1]; exact (List.getElem?_eq_some_iff.mp hx).1)⟩
     obtain ⟨a,r,rfl,ea⟩:=hE.2 i _ _ hx hn
     walk_at "run"
     refine a22 (SqT.of ea) (a05 (j:=0) rfl) ?_
     refine ⟨rfl,?_⟩
     rw [List.take_add_one,hn]
     unfold a27
     rw [List.map_append]
     rfl
   · rintro acc H' ⟨rfl,rfl⟩ nl H1 f1 s1 e1
     rw [hE.1,List.take_of_length_le (Nat.le_refl _)] at e1
     walk_at "run"
     refine ⟨⟨_,SqL.of e1⟩,ba6 (xs:=a27 ns) (by unfold a27; rw [List.length_map]; omega) (fun i acc H'=>Same H1 H'∧acc=[]) ⟨Same.refl _,rfl⟩ (fun i acc H' ⟨h1,h2⟩=>⟨by rw [h2]; exact Nat.zero_le _,SqL.of (h1 _ _ e1)⟩) ?_ ?_⟩
     · rintro i x acc Ha H2 hx ⟨sa,rfl⟩ sb
       have s2:=sa.trans sb
       obtain ⟨n,hn,rfl⟩:∃ n,ns[i]?=some n∧x=.str n:=by
        unfold a27 at hx
        rw [List.getElem?_map] at hx
        cases e:ns[i]? with
        | none=>rw [e] at hx; cases hx
        | some n=>rw [e] at hx; exact ⟨n,rfl,(Option.some.inj hx).symm⟩
       walk_at "run"
       refine ac7 (SqL.of (s2 _ _ e1)) ?_
       rw [ah8,show (a27 ns).take i=a27 (ns.take i) from (by unfold a27; rw [List.map_take])]
       intro p4 H4 f4 s4 e4
       refine cd5 (SqL.of e4) ?_
       walk_at "run"
       refine a23 (fun z=>?_) ?_
       · obtain ⟨k,hk⟩:=List.mem_iff_getElem?.mp z
         rw [List.getElem?_take] at hk
         split at hk
         · rename_i hki
           have hil:=(List.getElem?_eq_some_iff.mp hn).1
           have:=(List.getElem?_inj (by omega) hu).mp (hk.trans hn.symm)
           omega
         · cases hk
       · exact ⟨s2.trans s4,rfl⟩
     · rintro acc H2 ⟨s2,rfl⟩ p H3 f3 s3 e3
       have s:=s1.trans (s2.trans s3)
       refine q p H3 s ?_ e3
       cases h:H' p with
       | none=>rfl
       | some o=>rw [(s1.trans s2) _ _ h] at f3; cases f3
def ce6 (K:PySem.W.Frag):Sp:=fun vs H Q _=>∃ (sp bl tl:Addr) (bs us:List V) (bn tn:List Str),vs=[.ref sp]∧H sp=some (.tup [.ref bl,.ref tl])∧H bl=some (.lst bs)∧Each (Nmd H) bs bn∧bn.Nodup∧bn.length≤1000∧H tl=some (.lst us)∧Each (Nmd H) us tn∧tn.Nodup∧tn.length≤1000∧tn≠[]∧∀ p H',Same H H'→H p=none→H' p=some (.lst [])→Q (.ref p) H'
theorem am6 (T:Txt K mg t):FnOk P w K mg base CX0 2 t.a_head_faults t.fd_head_faults ["script"] (ce6 K):=by
 have G_names_met_again:=ag9 (P:=P) (w:=w) (base:=base) T
 refine T.f_head_faults.F.ok sc_head_faults (fun vs H Q E h=>?_) (fun cdv A outer s H vs Q E hr h=>?_)
 · obtain ⟨sp,bl,tl,bs,us,bn,tn,rfl,_⟩:=h
   rfl
 · obtain ⟨sp,bl,tl,bs,us,bn,tn,rfl,e0,eb,hb,hbu,hbl,et,ht,htu,htl,htn,q⟩:=h
   refine ⟨_,(@a02 _ _ _ _ _ (b94 (i:=1) (Nt:=["name"]) (Nf:=[]) (caps:=[]) rfl (a45 (sc:=a06 a75) rfl rfl (by decide +kernel) (by decide +kernel) (by decide +kernel) rfl (by decide +kernel)) (a25 K (@a09 _ _ _ _ _ _ _ _ _ _ _ _ _ _ _ _ G_names_met_again (hr.mono (by omega)) rfl T.f_names_met_again.m T.f_names_met_again.F.kp T.f_names_met_again.b .nil a19 (@a00 _ _ _ _ _ (@a15 _ _ _ _ _ _ _ (a10 K) (pv 0) (@a03 _ _ _ _) (fun _ _=>rfl)) (@a01 _) (by rfl)) (by decide) (by rfl) (by rfl))) (fun _ _ _ _ _=>(a16 (i:=0) (show (["name"]:List Str).Nodup by decide +kernel) rfl (by walk_at "o"))) (fun _ _ _ _ _=>(@a92 _)) (fun _ _ _ _ _=>(@a26 _ _ _ _ _ (@a00 _ _ _ _ _ (@a08 _ _ _ _) (@a00 _ _ _ _ _ (@a08 _ _ _ _) (@a00 _ _ _ _ _ (pv 0) (@a01 _) (by rfl)) (by rfl)) (by rfl)))) sc_head_faults.nd rfl (by walk_at "o") rfl)
    (@a02 _ _ _ _ _ (@a32 _ _ _ _ (@a83 _ K _ _ _ _ _ _ _ _ _ _ _ PySem.F.plainAttrs_list PySem.F.slot_list_extend PySem.F.type_list_extend a79 (pv 1) (@a00 _ _ _ _ _ (af3 (Nt:=["name"]) (Nf:=[]) (caps:=[]) rfl (a45 (sc:=a06 a75) rfl rfl (by decide +kernel) (by decide +kernel) (by decide +kernel) rfl (by decide +kernel)) (a25 K (@a09 _ _ _ _ _ _ _ _ _ _ _ _ _ _ _ _ G_names_met_again (hr.mono (by omega)) rfl T.f_names_met_again.m T.f_names_met_again.F.kp T.f_names_met_again.b .nil a19 (@a00 _ _ _ _ _ (@a15 _ _ _ _ _ _ _ (a10 K) (pv 0) (@a03 _ _ _ _) (fun _ _=>rfl)) (@a01 _) (by rfl)) (by decide) (by rfl) (by rfl))) (fun _ _ _ _ _=>(a16 (i:=0) (show (["name"]:List Str).Nodup by decide +kernel) rfl (by walk_at "o"))) (fun _ _ _ _ _=>(@a92 _)) (fun _ _ _ _ _=>(@a26 _ _ _ _ _ (@a00 _ _ _ _ _ (pv 0) (@a00 _ _ _ _ _ (@a08 _ _ _ _) (@a00 _ _ _ _ _ (pv 0) (@a01 _) (by rfl)) (by rfl)) (by rfl))))) (@a01 _) (by rfl)) (by rfl) (by rfl) (by rfl) (by rfl) (by rfl) (by rfl)) (by rfl))
    (@a41 _ _ _ _ _ (@a30 _ _ _ _ _ _ _ _ (@a07 _ _ _ _ _ _ _ _ a36 (@a50 _ _ _ _ _ _ _ _ _ (a82 K) (by rfl) T.z_len ab4 (@a00 _ _ _ _ _ (@a15 _ _ _ _ _ _ _ (a10 K) (pv 0) (@a03 _ _ _ _) (fun _ _=>rfl)) (@a01 _) (by rfl)) (by decide) (by decide) (by rfl) (by rfl)) (@a03 _ _ _ _) (nomark _)) (@a04 _ _ _ (@a32 _ _ _ _ (@a83 _ K _ _ _ _ _ _ _ _ _ _ _ PySem.F.plainAttrs_list PySem.F.slot_list_append PySem.F.type_list_append a78 (pv 1) (@a00 _ _ _ _ _ (@a26 _ _ _ _ _ (@a00 _ _ _ _ _ (@a08 _ _ _ _) (@a00 _ _ _ _ _ (@a08 _ _ _ _) (@a00 _ _ _ _ _ (@a08 _ _ _ _) (@a01 _) (by rfl)) (by rfl)) (by rfl))) (@a01 _) (by rfl)) (by rfl) (by rfl) (by rfl) (by rfl) (by rfl) (by rfl)) (by rfl))) (@a11 _))
    (@a04 _ _ _ (@a14 _ _ _ _ (pv 1)))))),?_⟩
   have sl:(1000000:Nat)≤sizeLine:=le_line (Nat.le_refl _)
   walk_at "go"
   refine a22 (SqT.of e0) (a05 (j:=0) rfl) ?_
   walk_at "run"
   refine ⟨bl,bs,bn,rfl,eb,hb,hbu,hbl,fun p1 H1 s1 f1 e1=>?_⟩
   refine ⟨p1,rfl,⟨[],SqL.of e1⟩,a81 (xs:=[]) (Nat.zero_le _) (fun i acc H'=>H'=H1∧acc=[]) ⟨rfl,rfl⟩ (fun i acc H' ⟨h1,h2⟩=>⟨by rw [h2]; exact Nat.zero_le _,by rw [h1]; exact SqL.of e1⟩) (fun i x acc H' hx _=>by cases hx) ?_⟩
   rintro acc H' ⟨rfl,rfl⟩ fl H2 f2 s2 e2
   walk_at "run"
   have s12:=s1.trans s2
   refine ab6 (SqL.of e2) ?_
   walk_at "run"
   refine a22 (SqT.of (s12 _ _ e0)) (a05 (j:=1) rfl) ?_
   walk_at "run"
   refine ⟨tl,us,tn,rfl,s12 _ _ et,ht.mono fun _ _ z=>z.same s12,htu,htl,fun p3 H3 s3 f3 e3=>?_⟩
   refine ⟨p3,rfl,⟨[],SqL.of e3⟩,a81 (xs:=[]) (Nat.zero_le _) (fun i acc H'=>H'=H3∧acc=[]) ⟨rfl,rfl⟩ (fun i acc H' ⟨h1,h2⟩=>⟨by rw [h2]; exact Nat.zero_le _,by rw [h1]; exact SqL.of e3⟩) (fun i x acc H' hx _=>by cases hx) ?_⟩
   rintro acc H' ⟨rfl,rfl⟩ l4 H4 f4 s4 e4
   walk_at "run"
   have s24:=s3.trans s4
   refine aa1 (s24 _ _ e2) e4 ?_ ?_
   · simp
   walk_at "run"
   have ff:H fl=none:=a42 s1 f2
   have s15:Same H (upd H4 fl (.lst ([]++[]))):=a63 (s12.trans s24) ff
   have e5:upd H4 fl (.lst ([]++[])) fl=some (.lst []):=a17
   generalize upd H4 fl (.lst ([]++[]))=H5 at s15 e5 ⊢
   refine a95 (fun σ' H'=>σ'=[some (.ref sp),some (.ref fl)]∧H'=H5) ?_ ?_
   · walk_at "run"
     refine a22 (SqT.of (s15 _ _ e0)) (a05 (j:=1) rfl) ?_
     walk_at "run"
     refine ab5 (SqL.of (s15 _ _ et)) ?_
     walk_at "run"
     refine a23 (fun z=>htn ?_) ⟨rfl,rfl⟩
     have:=ht.1
     exact List.eq_nil_of_length_eq_zero (by omega)
   · rintro σ' H' ⟨rfl,rfl⟩
     walk_at "run"
     exact q fl _ s15 ff e5
mutual
def allS:Stm→List Stm
 | .plain ps=>[.plain ps]
 | .put n e=>[.put n e]
 | .loop b=>.loop b::allB b
 | .wait n bs=>.wait n bs::allR bs
 | .test c x y=>.test c x y::(allB x++allB y)
def allB:List Stm→List Stm
 | []=>[]
 | s::b=>allS s++allB b
def allR:List Br→List Stm
 | []=>[]
 | .mk _ b::bs=>allB b++allR bs
end
def a86:List (List Stm)→List Stm
 | []=>[]
 | b::bs=>allB b++a86 bs
theorem an9 (s:Stm):allS s=s::a86 (a24 s):=by
 cases s with
 | plain ps=>rfl
 | put n e=>rfl
 | loop b=>simp [allS,a24,a86]
 | test c x y=>simp [allS,a24,a86]
 | wait n bs =>
   have:∀ bs:List Br,allR bs=a86 (a24 (.wait n bs)):=fun bs=>by
    induction bs with
    | nil=>rfl
    | cons x bs ih =>
      cases x with
      | mk p b =>
        have e:a24 (.wait n (.mk p b::bs))=b::a24 (.wait n bs):=by simp [a24]
        rw [e,allR,a86,ih]
   rw [allS,this]
theorem bv4 {b:List Stm}{s:Stm}(h:s∈b):s.tr.h≤Tr.hs (Stm.trs b):=by
 induction b with
 | nil=>cases h
 | cons x b ih =>
   simp only [Stm.trs,Tr.hs]
   rcases List.mem_cons.mp h with rfl | h
   · exact Nat.le_max_left _ _
   · exact Nat.le_trans (ih h) (Nat.le_max_right _ _)
theorem ce7 {s:Stm}{b:List Stm}(h:b∈a24 s):Tr.hs (Stm.trs b)<s.tr.h:=by
 cases s with
 | plain ps=>cases h
 | put n e=>cases h
 | loop x =>
   rw [List.mem_singleton.mp h]
   simp only [Stm.tr,Tr.h,Tr.hs]
   omega
 | test c x y =>
   simp only [a24,List.mem_cons,List.not_mem_nil,or_false] at h
   rcases h with rfl | rfl <;> (simp only [Stm.tr,Tr.h,Tr.hs]; omega)
 | wait n bs =>
   simp only [Stm.tr,Tr.h,Tr.hs]
   have:∀ bs:List Br,b∈a24 (.wait n bs)→Tr.hs (Stm.trs b)<Tr.hs (Br.trs bs):=fun bs=>by
    induction bs with
    | nil=>intro h; cases h
    | cons x bs ih =>
      cases x with
      | mk p z =>
        intro h
        have e:a24 (.wait n (.mk p z::bs))=z::a24 (.wait n bs):=by simp [a24]
        rw [e] at h
        simp only [Br.trs,Br.tr,Tr.hs,Tr.h]
        rcases List.mem_cons.mp h with rfl | h
        · omega
        · have:=ih h; omega
   have:=this bs h
   omega
theorem b25 (a b:List Stm):allB (a++b)=allB a++allB b:=by
 induction a with
 | nil=>rfl
 | cons x a ih=>simp only [List.cons_append,allB,ih,List.append_assoc]
theorem au8 (a b:List (List Stm)):a86 (a++b)=a86 a++a86 b:=by
 induction a with
 | nil=>rfl
 | cons x a ih=>simp only [List.cons_append,a86,ih,List.append_assoc]
def KdB (tn:List Str) (b:List Stm):Prop:=∀ s∈allB b,s.kd tn
theorem be4 {b:List Stm}{s x:Stm}(h:s∈b) (hx:x∈allS s):x∈allB b:=by
 induction b with
 | nil=>cases h
 | cons y b ih =>
   rw [allB]
   rcases List.mem_cons.mp h with rfl | h
   · exact List.mem_append_left _ hx
   · exact List.mem_append_right _ (ih h)
theorem be5 {bs:List (List Stm)}{b:List Stm}{x:Stm}(h:b∈bs) (hx:x∈allB b):x∈a86 bs:=by
 induction bs with
 | nil=>cases h
 | cons y bs ih =>
   rw [a86]
   rcases List.mem_cons.mp h with rfl | h
   · exact List.mem_append_left _ hx
   · exact List.mem_append_right _ (ih h)
theorem be6 {b:List Stm}(i:Nat):(allB (b.take i)).length≤(allB b).length:=by
 have:=b25 (b.take i) (b.drop i)
 rw [List.take_append_drop] at this
 rw [this,List.length_append]
 omega
theorem b55 {b:List (List Stm)}(i:Nat):(a86 (b.take i)).length≤(a86 b).length:=by
 have:=au8 (b.take i) (b.drop i)
 rw [List.take_append_drop] at this
 rw [this,List.length_append]
 omega
def c79 (K:PySem.W.Frag) (d:Nat):Sp:=fun vs H Q _=>∃ (v:V) (b:List Stm) (G:Hp) (tn:List Str),vs=[v]∧Tr.hs (Stm.trs b)<d∧Same G H∧BAt G v b∧KdB tn b∧(allB b).length≤100000∧∀ l us H',H l=none→Same H H'→H' l=some (.lst us)→Each (SAt G) us (allB b)→Q (.ref l) H'
theorem aa5 (T:Txt K mg t):∀ d:Nat,FnOk P w K mg base CX0 (d+2) t.a_statements_in t.fd_statements_in ["body"] (c79 K d):=by
 intro d
 induction d with
 | zero=>exact vac (fun vs H Q E ⟨_,_,_,_,_,h,_⟩=>Nat.not_lt_zero _ h)
 | succ d G_statements_in =>
   have G_bodies_of:=ai4 (P:=P) (w:=w) (base:=base) T
   refine T.f_statements_in.F.ok sc_statements_in (fun vs H Q E h=>?_) (fun cdv A outer s H vs Q E hr h=>?_)
   · obtain ⟨v,b,G,tn,rfl,_⟩:=h
     rfl
   · obtain ⟨v,b,G,tn,rfl,hd,sG,hb,hk,hl,q⟩:=h
     obtain ⟨bl,us,rfl,eb,hE⟩:=bat_iff.mp hb
     refine ⟨_,(@a02 _ _ _ _ _ (@a18 _ _ 1 _ _ _ _ sc_statements_in.nd rfl (by walk_at "o") (@a13 _ _ _ _ (@a01 _)) (by rfl) (by walk_at "o"))
     (@a02 _ _ _ _ _ (@a69 _ _ _ _ _ _ _ _ PassesOwn.never rfl (a25 K (pv 0)) (a16 (i:=2) sc_statements_in.nd rfl (by walk_at "o")) (@a02 _ _ _ _ _ (@a32 _ _ _ _ (@a83 _ K _ _ _ _ _ _ _ _ _ _ _ PySem.F.plainAttrs_list PySem.F.slot_list_append PySem.F.type_list_append a78 (pv 1) (@a00 _ _ _ _ _ (pv 2) (@a01 _) (by rfl)) (by rfl) (by rfl) (by rfl) (by rfl) (by rfl) (by rfl)) (by rfl))
      (@a04 _ _ _ (@a69 _ _ _ _ _ _ _ _ PassesOwn.never rfl (a25 K (@a09 _ _ _ _ _ _ _ _ _ _ _ _ _ _ _ _ G_bodies_of (hr.mono (by omega)) rfl T.f_bodies_of.m T.f_bodies_of.F.kp T.f_bodies_of.b .nil a19 (@a00 _ _ _ _ _ (pv 2) (@a01 _) (by rfl)) (by decide) (by rfl) (by rfl))) (a16 (i:=3) sc_statements_in.nd rfl (by walk_at "o")) (@a04 _ _ _ (@a32 _ _ _ _ (@a83 _ K _ _ _ _ _ _ _ _ _ _ _ PySem.F.plainAttrs_list PySem.F.slot_list_extend PySem.F.type_list_extend a79 (pv 1) (@a00 _ _ _ _ _ (@a09 _ _ _ _ _ _ _ _ _ _ _ _ _ _ _ _ G_statements_in (hr.mono (by omega)) rfl T.f_statements_in.m T.f_statements_in.F.kp T.f_statements_in.b .nil a19 (@a00 _ _ _ _ _ (pv 3) (@a01 _) (by rfl)) (by decide) (by rfl) (by rfl)) (@a01 _) (by rfl)) (by rfl) (by rfl) (by rfl) (by rfl) (by rfl) (by rfl)) (by rfl))) (by intro _; rfl)))) (by intro _; rfl))
     (@a04 _ _ _ (@a14 _ _ _ _ (pv 1))))),?_⟩
     have sl:(1000000:Nat)≤sizeLine:=le_line (Nat.le_refl _)
     walk_at "go"
     intro fl H1 f1 s1 e1
     walk_at "run"
     refine ⟨⟨us,SqL.of (s1 _ _ (sG _ _ eb))⟩,a60 (xs:=us) (fun i σ H'=>i≤us.length∧∃ vs y2 y3,σ=[some (.ref bl),some (.ref fl),y2,y3]∧Same H H'∧H' fl=some (.lst vs)∧Each (SAt G) vs (allB (b.take i))) ⟨Nat.zero_le _,[],_,_,rfl,s1,e1,Each.nil⟩ (fun i σ H' _ zz=>by obtain ⟨_,_,_,_,_,z,_⟩:=zz; exact SqL.of (z _ _ (sG _ _ eb))) ?_ ?_⟩
     · rintro i sv σ' H2 hi ⟨hib,vs,y2,y3,rfl,s2,e2,hE2⟩
       obtain ⟨st,hst⟩:∃ st,b[i]?=some st:=⟨_,List.getElem?_eq_getElem (by rw [← hE.1]; exact (List.getElem?_eq_some_iff.mp hi).1)⟩
       have hs:=hE.2 i _ _ hi hst
       have hmem:=List.mem_of_getElem? hst
       have hlt:=(List.getElem?_eq_some_iff.mp hi).1
       have hvl:=hE2.1
       have h1:=be6 (b:=b) (i+1)
       have h2:allB (b.take (i+1))=allB (b.take i)++allS st:=by
        rw [List.take_add_one,hst,b25]
        simp [allB]
       rw [h2,List.length_append] at h1
       have h3:(allS st).length=1+(a86 (a24 st)).length:=by rw [an9,List.length_cons]; omega
       walk_at "run"
       refine ab6 (SqL.of e2) ?_
       walk_at "run"
       refine ac3 e2 (by omega) ?_
       walk_at "run"
       have s3:Same H (upd H2 fl (.lst (vs++[sv]))):=a63 s2 f1
       have e3:upd H2 fl (.lst (vs++[sv])) fl=some (.lst (vs++[sv])):=a17
       generalize upd H2 fl (.lst (vs++[sv]))=H3 at s3 e3 ⊢
       have hkS:∀ x∈allS st,x.kd tn:=fun x hx=>hk x (be4 hmem hx)
       refine ⟨sv,st,G,tn,rfl,sG.trans s3,hs,hkS st (by rw [an9]; exact List.mem_cons_self),fun l4 us4 H4 f4 s4 e4 hE4=>?_⟩
       have hst':=bv4 hmem
       refine ⟨l4,rfl,⟨us4,SqL.of e4⟩,a60 (xs:=us4) (fun i2 σ H'=>i2≤us4.length∧∃ vs y3,σ=[some (.ref bl),some (.ref fl),some sv,y3]∧Same H H'∧H' l4=some (.lst us4)∧l4≠fl∧H' fl=some (.lst vs)∧Each (SAt G) vs (allB (b.take i)++(st::a86 ((a24 st).take i2)))) ⟨Nat.zero_le _,_,_,rfl,s3.trans s4,e4,fun z=>(by rw [z,e3] at f4; cases f4),s4 _ _ e3,hE2.snoc hs⟩ (fun i σ H' _ zz=>by obtain ⟨_,_,_,_,_,z,_⟩:=zz; exact SqL.of z) ?_ ?_⟩
       · rintro i2 bv σ' H5 hi2 ⟨hib2,vs,y3,rfl,s5,e5,nl5,e5f,hE5⟩
         obtain ⟨bb,hbb⟩:∃ bb,(a24 st)[i2]?=some bb:=⟨_,List.getElem?_eq_getElem (by rw [← hE4.1]; exact (List.getElem?_eq_some_iff.mp hi2).1)⟩
         have hbm:=List.mem_of_getElem? hbb
         have hlt2:=(List.getElem?_eq_some_iff.mp hi2).1
         have hh:=ce7 hbm
         have hl5:=hE5.1
         have g1:=b55 (b:=a24 st) (i2+1)
         have g2:a86 ((a24 st).take (i2+1))=a86 ((a24 st).take i2)++allB bb:=by
          rw [List.take_add_one,hbb,au8]
          simp [a86]
         rw [g2,List.length_append] at g1
         walk_at "run"
         refine ab6 (SqL.of e5f) ?_
         walk_at "run"
         refine ⟨bv,bb,G,tn,rfl,by omega,sG.trans s5,hE4.2 i2 _ _ hi2 hbb,fun x hx=>hkS x (by rw [an9]; exact List.mem_cons_of_mem _ (be5 hbm hx)),by omega,fun l6 us6 H6 f6 s6 e6 hE6=>?_⟩
         have hl6:=hE6.1
         walk_at "run"
         refine aa1 (s6 _ _ e5f) e6 (by rw [List.length_append,List.length_cons] at hl5; omega) ?_
         refine ⟨by omega,vs++us6,_,rfl,a63 (s5.trans s6) f1,by rw [a12 nl5]; exact s6 _ _ e5,nl5,a17,?_⟩
         rw [g2,show allB (b.take i)++st::(a86 ((a24 st).take i2)++allB bb)=(allB (b.take i)++st::a86 ((a24 st).take i2))++allB bb by simp]
         exact hE5.append hE6
       · rintro σ' H5 ⟨_,vs,y3,rfl,s5,e5,nl5,e5f,hE5⟩
         refine ⟨by omega,vs,_,_,rfl,s5,e5f,?_⟩
         rw [hE4.1,List.take_of_length_le (Nat.le_refl _),←an9,←h2] at hE5
         exact hE5
     · rintro σ' H2 ⟨_,vs,y2,y3,rfl,s2,e2,hE2⟩
       walk_at "run"
       rw [hE.1,List.take_of_length_le (Nat.le_refl _)] at hE2
       exact q fl vs H2 f1 s2 e2 hE2
def ae4 (c:Str) (b:List Stm):Prop:=Stm.plain [.s "call",.s c]∈allB b
theorem aq7 {tn:List Str}{s:Stm}(h:s.kd tn) (hw:s.wd=Str.ofString "call"):∃ c,s=.plain [.s "call",.s c]:=by
 cases s with
 | put n e=>exact absurd hw (by simp only [Stm.wd]; decide +kernel)
 | loop b=>exact absurd hw (by simp only [Stm.wd]; decide +kernel)
 | wait n bs=>exact absurd hw (by simp only [Stm.wd]; decide +kernel)
 | test c x y=>exact absurd hw (by simp only [Stm.wd]; decide +kernel)
 | plain ps =>
   rcases h with ⟨w,rfl⟩ | ⟨l,w,rfl⟩ | ⟨w,rfl,_⟩ | rfl | rfl | rfl | rfl
   · exact absurd hw (by simp only [Stm.wd]; decide +kernel)
   · exact absurd hw (by simp only [Stm.wd]; decide +kernel)
   · exact ⟨w,rfl⟩
   all_goals exact absurd hw (by simp only [Stm.wd]; decide +kernel)
def ce8 (K:PySem.W.Frag):Sp:=fun vs H Q _=>∃ (tv bv:V) (ts:Tks) (b:List Stm) (tn:List Str),vs=[tv,bv]∧TksAt H tv ts∧BAt H bv b∧KdB tn b∧Tr.hs (Stm.trs b)<100∧(allB b).length≤100000∧(∀ c,ae4 c b→∃ x,a29 ts c=some x)∧∀ l (ks:List Nat) H',H l=none→Same H H'→H' l=some (.lst (a58 ks))→ks.length≤(allB b).length→(∀ k∈ks,∃ x,ts[k]?=some x∧ae4 x.1 b)→Q (.ref l) H'
theorem am0 (T:Txt K mg t):FnOk P w K mg base CX0 105 t.a_called_talks t.fd_called_talks ["talks","body"] (ce8 K):=by
 have G_first_talk:=ag7 (P:=P) (w:=w) (base:=base) T
 have G_statements_in:=aa5 (P:=P) (w:=w) (base:=base) T
 refine T.f_called_talks.F.ok sc_called_talks (fun vs H Q E h=>?_) (fun cdv A outer s H vs Q E hr h=>?_)
 · obtain ⟨tv,bv,ts,b,tn,rfl,_⟩:=h
   rfl
 · obtain ⟨tv,bv,ts,b,tn,rfl,hts,hb,hk,hd,hl,hc,q⟩:=h
   replace G_statements_in:=G_statements_in 100
   refine ⟨_,(@a02 _ _ _ _ _ (b94 (i:=2) (Nt:=["statement"]) (Nf:=["talks"]) (caps:=[0]) rfl (a45 (sc:=a06 a66) rfl rfl (by decide +kernel) (by decide +kernel) (by decide +kernel) rfl (by decide +kernel)) (a25 K (@a09 _ _ _ _ _ _ _ _ _ _ _ _ _ _ _ _ G_statements_in (hr.mono (by omega)) rfl T.f_statements_in.m T.f_statements_in.F.kp T.f_statements_in.b .nil a19 (@a00 _ _ _ _ _ (pv 1) (@a01 _) (by rfl)) (by decide) (by rfl) (by rfl))) (fun _ _ _ _ _=>(a16 (i:=0) (show (["statement","talks"]:List Str).Nodup by decide +kernel) rfl (by walk_at "o"))) (fun _ _ _ _ _=>(@aa0 _ _ _ (@a07 _ _ _ _ _ _ _ _ a36 (@a15 _ _ _ _ _ _ _ (a10 K) (pv 0) (@a03 _ _ _ _) (fun _ _=>rfl)) (@a08 _ _ _ _) (nomark _)))) (fun _ _ _ _ _=>(@a09 _ _ _ _ _ _ _ _ _ _ _ _ _ _ _ _ G_first_talk (hr.mono (by omega)) rfl T.f_first_talk.m T.f_first_talk.F.kp T.f_first_talk.b .nil a19 (@a00 _ _ _ _ _ (pv 1) (@a00 _ _ _ _ _ (@a15 _ _ _ _ _ _ _ (a10 K) (pv 0) (@a03 _ _ _ _) (fun _ _=>rfl)) (@a01 _) (by rfl)) (by rfl)) (by decide) (by rfl) (by rfl))) sc_called_talks.nd rfl (by walk_at "o") rfl)
    (@a04 _ _ _ (@a14 _ _ _ _ (af3 (Nt:=["number"]) (Nf:=[]) (caps:=[]) rfl (a45 (sc:=a06 a66) rfl rfl (by decide +kernel) (by decide +kernel) (by decide +kernel) rfl (by decide +kernel)) (a25 K (pv 2)) (fun _ _ _ _ _=>(a16 (i:=0) (show (["number"]:List Str).Nodup by decide +kernel) rfl (by walk_at "o"))) (fun _ _ _ _ _=>(@aa0 _ _ _ (@a07 _ _ _ _ _ _ _ _ bi6 (pv 0) (@az4 _ _ _) (nomark _)))) (fun _ _ _ _ _=>(pv 0)))))),?_⟩
   have sl:(1000000:Nat)≤sizeLine:=le_line (Nat.le_refl _)
   walk_at "go"
   refine ⟨bv,b,H,tn,rfl,hd,Same.refl _,hb,hk,hl,fun l1 us H1 f1 s1 e1 hE=>?_⟩
   have hul:=hE.1
   refine ⟨l1,rfl,⟨us,SqL.of e1⟩,a81 (xs:=us) (by omega) (fun i acc H'=>Same H1 H'∧∃ ks:List Nat,acc=a58 ks∧ks.length≤i∧∀ k∈ks,∃ x,ts[k]?=some x∧ae4 x.1 b) ⟨Same.refl _,[],rfl,Nat.zero_le _,fun k h=>(by cases h)⟩ (fun i acc H' ⟨h1,ks,h2,h3,_⟩=>⟨by rw [h2,a71]; exact h3,SqL.of (h1 _ _ e1)⟩) ?_ ?_⟩
   · rintro i v acc H2 hv ⟨s2,ks,rfl,hkl,hks⟩
     obtain ⟨st,hst⟩:∃ st,(allB b)[i]?=some st:=⟨_,List.getElem?_eq_getElem (by rw [← hE.1]; exact (List.getElem?_eq_some_iff.mp hv).1)⟩
     have hmem:=List.mem_of_getElem? hst
     obtain ⟨a,r,rfl,ea⟩:=an7 (hE.2 i _ _ hv hst) (hk st hmem)
     have sH2:=s1.trans s2
     walk_at "run"
     refine a22 (SqT.of (sH2 _ _ ea)) (a05 (j:=0) rfl) ?_
     walk_at "run"
     by_cases h1:st.wd=Str.ofString "call"
     · refine a28 h1 ?_
       walk_at "run"
       obtain ⟨c,rfl⟩:=aq7 (hk st hmem) h1
       obtain ⟨a',hz,ea'⟩:=b21 (hE.2 i _ _ hv hst)
       cases hz
       refine a22 (SqT.of (sH2 _ _ ea')) (a05 (j:=1) rfl) ?_
       walk_at "run"
       obtain ⟨bb,hbb⟩:=hc c hmem
       refine ⟨tv,c,ts,bb,rfl,hts.same sH2,hbb,fun j x H3 s3 hj hx2 hx1=>?_⟩
       refine ⟨s2.trans s3,ks++[j],ac4 ks j,by rw [List.length_append,List.length_singleton]; omega,fun k hk'=>?_⟩
       rcases List.mem_append.mp hk' with hk' | hk'
       · exact hks k hk'
       · rw [List.mem_singleton.mp hk']
         exact ⟨x,hj,by rw [hx1]; exact hmem⟩
     · refine a23 h1 ?_
       exact ⟨s2,ks,rfl,by omega,hks⟩
   · rintro acc H2 ⟨s2,ks,rfl,hkl,hks⟩ l3 H3 f3 s3 e3
     walk_at "run"
     have sH3:=(s1.trans s2).trans s3
     refine ⟨⟨_,SqL.of e3⟩,a81 (xs:=a58 ks) (by rw [a71]; omega) (fun i acc H'=>H'=H3∧acc=a58 (ks.take i)) ⟨rfl,rfl⟩ (fun i acc H' ⟨h1,h2⟩=>⟨by rw [h2,a71,List.length_take]; exact Nat.min_le_left _ _,by rw [h1]; exact SqL.of e3⟩) ?_ ?_⟩
     · rintro i x acc H' hx ⟨rfl,rfl⟩
       obtain ⟨k,hk2,rfl⟩:∃ k,ks[i]?=some k∧x=.int (k:Nat):=by
        unfold a58 at hx
        rw [List.getElem?_map] at hx
        cases e:ks[i]? with
        | none=>rw [e] at hx; cases hx
        | some k=>rw [e] at hx; exact ⟨k,rfl,(Option.some.inj hx).symm⟩
       walk_at "run"
       try rw [if_pos (by simp)]
       try walk_at "run"
       refine ⟨rfl,?_⟩
       rw [List.take_add_one,hk2]
       exact ac4 _ _
     · rintro acc H' ⟨rfl,rfl⟩ l5 H5 f5 s5 e5
       rw [a71,List.take_of_length_le (Nat.le_refl _)] at e5
       refine q l5 ks H5 (a42 sH3 f5) (sH3.trans s5) e5 (by omega) hks
def bv5 (H:Hp) (v:V) (ks:List Nat):Prop:=∃ a,v=.ref a∧H a=some (.lst (a58 ks))
theorem b26 (ks:List Nat):a58 ks=(ks.map fun k=>((k:Nat):Int)).map V.int:=by simp [a58]
theorem nats_mem {k:Nat}{ks:List Nat}:((k:Nat):Int)∈(ks.map fun k=>((k:Nat):Int))↔k∈ks:=by
 rw [List.mem_map]
 exact ⟨fun ⟨x,h1,h2⟩=>by rw [← Int.ofNat.inj h2]; exact h1,fun h=>⟨k,h,rfl⟩⟩
def crM (N r a:Nat):Nat:=(N - r)*1001+a
theorem bv6 {N r a m:Nat}(h:m=a+1):crM N r a<crM N r m:=by unfold crM; omega
theorem bv7 {N r a b m q:Nat}(h:m=a+1) (hr:r<N) (hb:b≤1000) (hq:q=r+1):crM N q (a+b)<crM N r m:=by unfold crM; omega
def ce9 (K:PySem.W.Frag):Sp:=fun vs H Q _=>∃ (t:Nat) (cl:Addr) (us:List V) (Ks:List (List Nat)) (rk:Nat→Nat),vs=[.int (t:Nat),.ref cl]∧H cl=some (.lst us)∧Each (bv5 H) us Ks∧Ks.length≤100∧(∀ ks∈Ks,ks.length≤1000∧∀ k∈ks,k<Ks.length)∧(∀ i ks,Ks[i]?=some ks→∀ k∈ks,rk i<rk k)∧t<Ks.length∧∀ H',Same H H'→Q (.bl false) H'
theorem am7 (T:Txt K mg t):FnOk P w K mg base CX0 1 t.a_comes_round t.fd_comes_round ["talk","called"] (ce9 K):=by
 refine T.f_comes_round.F.ok sc_comes_round (fun vs H Q E h=>?_) (fun cdv A outer s H vs Q E hr h=>?_)
 · obtain ⟨t0,cl,us,Ks,rk,rfl,_⟩:=h
   rfl
 · obtain ⟨t0,cl,us,Ks,rk,rfl,e0,hE,hl,hK,hrk,ht,q⟩:=h
   refine ⟨_,(@a02 _ _ _ _ _ (@a18 _ _ 2 _ _ _ _ sc_comes_round.nd rfl (by walk_at "o") (@a13 _ _ _ _ (@a01 _)) (by rfl) (by walk_at "o"))
    (@a02 _ _ _ _ _ (@a18 _ _ 3 _ _ _ _ sc_comes_round.nd rfl (by walk_at "o") (@ak1 _ _ _ _ _ _ _ _ _ (b05 K) (by rfl) T.z_list b99 (@a00 _ _ _ _ _ (@a15 _ _ _ _ _ _ _ (a20 K) (pv 1) (pv 0) (fun _ _=>rfl)) (@a01 _) (by rfl)) (by decide) (by decide) (by rfl) (by rfl)) (by rfl) (by walk_at "o"))
    (@a02 _ _ _ _ _ (@ai9 _ _ _ _ _ _ PassesOwn.never (@a07 _ _ _ _ _ _ _ _ aw1 (@a50 _ _ _ _ _ _ _ _ _ (a82 K) (by rfl) T.z_len ab4 (@a00 _ _ _ _ _ (pv 3) (@a01 _) (by rfl)) (by decide) (by decide) (by rfl) (by rfl)) (@a03 _ _ _ _) (nomark _)) (@a02 _ _ _ _ _ (@a18 _ _ 4 _ _ _ _ sc_comes_round.nd rfl (by walk_at "o") (aw6 K PySem.F.plainAttrs_list PySem.F.slot_list_pop PySem.F.type_list_pop b81 (pv 3)) (by rfl) (by walk_at "o"))
     (@a04 _ _ _ (@a30 _ _ _ _ _ _ _ _ (@a07 _ _ _ _ _ _ _ _ (af5 K) (pv 4) (pv 2) (by with_unfolding_all rfl)) (@a02 _ _ _ _ _ (@a32 _ _ _ _ (@a83 _ K _ _ _ _ _ _ _ _ _ _ _ PySem.F.plainAttrs_list PySem.F.slot_list_append PySem.F.type_list_append a78 (pv 2) (@a00 _ _ _ _ _ (pv 4) (@a01 _) (by rfl)) (by rfl) (by rfl) (by rfl) (by rfl) (by rfl) (by rfl)) (by rfl))
      (@a04 _ _ _ (@a32 _ _ _ _ (@a83 _ K _ _ _ _ _ _ _ _ _ _ _ PySem.F.plainAttrs_list PySem.F.slot_list_extend PySem.F.type_list_extend a79 (pv 3) (@a00 _ _ _ _ _ (@a15 _ _ _ _ _ _ _ (a20 K) (pv 1) (pv 4) (fun _ _=>rfl)) (@a01 _) (by rfl)) (by rfl) (by rfl) (by rfl) (by rfl) (by rfl) (by rfl)) (by rfl)))) (@a11 _)))))
    (@a04 _ _ _ (@a14 _ _ _ _ (@aj9 _ _ _ _ _ _ _ _ (ad3 K) (pv 0) (pv 2) (by with_unfolding_all rfl))))))),?_⟩
   have sl:(1000000:Nat)≤sizeLine:=le_line (Nat.le_refl _)
   walk_at "go"
   intro rl H1 f1 s1 e1
   walk_at "run"
   obtain ⟨k0,hk0⟩:∃ ks,Ks[t0]?=some ks:=⟨_,List.getElem?_eq_getElem ht⟩
   obtain ⟨v0,hv0,a0,rfl,ea0⟩:=hE.get hk0
   refine a55 (SqL.of (s1 _ _ e0)) (a05 hv0) ?_
   walk_at "run"
   refine ba1 (SqL.of (s1 _ _ ea0)) ?_
   intro al H2 f2 s2 e2
   walk_at "run"
   have hne:rl≠al:=fun z=>by rw [← z,e1] at f2; cases f2
   have fr:=a42 (Same.refl _) f1
   have fa:=a42 s1 f2
   obtain ⟨hkl,hkk⟩:=hK k0 (List.mem_of_getElem? hk0)
   obtain ⟨Pv,hPv⟩:∃ Pv:Nat→St→Hp→Prop,Pv=(fun n σ' H'=>∃ (re ah:List Nat) (y:Option V),n=crM Ks.length re.length ah.length∧σ'=[some (.int (t0:Nat)),some (.ref cl),some (.ref rl),some (.ref al),y]∧Same H H'∧H' rl=some (.lst (a58 re))∧H' al=some (.lst (a58 ah))∧re.Nodup∧(∀ k∈re,k<Ks.length∧rk t0<rk k)∧(∀ k∈ah,k<Ks.length∧rk t0<rk k)∧ah.length+(Ks.length - re.length)*1000≤101000):=⟨_,rfl⟩
   refine ao5 Pv (crM Ks.length 0 k0.length) (by rw [hPv]; exact ⟨[],k0,_,rfl,rfl,s1.trans s2,s2 _ _ e1,e2,List.nodup_nil,fun k h=>(by cases h),fun k h=>⟨hkk k h,hrk t0 k0 hk0 k h⟩,by rw [List.length_nil]; omega⟩) ?_
   intro n σ' H3 hI
   rw [hPv] at hI
   obtain ⟨re,ah,y,hn,rfl,s3,er,ea,hnd,hre,hah,hsz⟩:=hI
   walk_at "run"
   refine ab5 (SqL.of ea) ?_
   walk_at "run"
   rw [a71]
   rcases List.eq_nil_or_concat ah with rfl | ⟨ah,k1,hcc⟩
   · refine a23 (by simp) ?_
     walk_at "run"
     refine cd8 (ns:=re.map fun k=>((k:Nat):Int)) (SqL.of (by rw [← b26]; exact er)) ?_
     rw [decide_eq_false (fun z=>by have:=(hre t0 (nats_mem.mp z)).2; omega)]
     exact q _ s3
   · rw [List.concat_eq_append] at hcc
     subst hcc
     refine a28 (by simp) ?_
     refine ⟨fun σ' H'=>∃ m',m'<n∧Pv m' σ' H',fun σ' H' z=>z,?_⟩
     walk_at "run"
     refine ab6 (SqL.of ea) ?_
     refine bt1 (by rw [ea,←ac4]) ?_
     walk_at "run"
     have hl1:(ah++[k1]).length=ah.length+1:=by rw [List.length_append,List.length_singleton]
     rw [hl1] at hsz
     obtain ⟨hk1,hk2⟩:=hah k1 (by simp)
     have hah':∀ k∈ah,k<Ks.length∧rk t0<rk k:=fun k hk=>hah k (by simp [hk])
     have s4:Same H (upd H3 al (.lst (a58 ah))):=a63 s3 fa
     have r4:upd H3 al (.lst (a58 ah)) rl=some (.lst (a58 re)):=by rw [a12 hne]; exact er
     have a4:upd H3 al (.lst (a58 ah)) al=some (.lst (a58 ah)):=a17
     generalize upd H3 al (.lst (a58 ah))=H4 at s4 r4 a4 ⊢
     refine bi7 (ns:=re.map fun k=>((k:Nat):Int)) (SqL.of (by rw [← b26]; exact r4)) ?_
     walk_at "run"
     by_cases hm:k1∈re
     · rw [decide_eq_true (nats_mem.mpr hm),if_neg (by simp)]
       refine ⟨crM Ks.length re.length ah.length,by rw [hn]; exact bv6 hl1,?_⟩
       rw [hPv]
       exact ⟨re,ah,_,rfl,rfl,s4,r4,a4,hnd,hre,hah',by omega⟩
     · rw [decide_eq_false (fun z=>hm (nats_mem.mp z)),if_pos (by simp)]
       obtain ⟨ks,hks⟩:∃ ks,Ks[k1]?=some ks:=⟨_,List.getElem?_eq_getElem hk1⟩
       obtain ⟨v1,hv1,a1,rfl,ea1⟩:=hE.get hks
       obtain ⟨hl1',hl2⟩:=hK ks (List.mem_of_getElem? hks)
       have hrl:re.length<Ks.length:=by
        have:(k1::re).Nodup:=List.nodup_cons.mpr ⟨hm,hnd⟩
        have:=List.Nodup.length_le_of_subset this (l₂:=List.range Ks.length) (fun x hx=>by
         rw [List.mem_range]
         rcases List.mem_cons.mp hx with rfl | hx
         · exact hk1
         · exact (hre x hx).1)
        rw [List.length_cons,List.length_range] at this
        omega
       walk_at "run"
       refine ab6 (SqL.of r4) ?_
       walk_at "run"
       refine ac3 r4 (by rw [a71]; omega) ?_
       rw [ac4]
       have s5:Same H (upd H4 rl (.lst (a58 (re++[k1])))):=a63 s4 fr
       have a5:upd H4 rl (.lst (a58 (re++[k1]))) al=some (.lst (a58 ah)):=by rw [a12 hne.symm]; exact a4
       have r5:upd H4 rl (.lst (a58 (re++[k1]))) rl=some (.lst (a58 (re++[k1]))):=a17
       generalize upd H4 rl (.lst (a58 (re++[k1])))=H5 at s5 a5 r5 ⊢
       walk_at "run"
       refine ab6 (SqL.of a5) ?_
       walk_at "run"
       refine a55 (SqL.of (s5 _ _ e0)) (a05 hv1) ?_
       walk_at "run"
       refine aa1 a5 (s5 _ _ ea1) (by rw [a71,a71]; omega) ?_
       have ee:a58 ah++a58 ks=a58 (ah++ks):=by simp [a58]
       rw [ee]
       have hl2':(re++[k1]).length=re.length+1:=by rw [List.length_append,List.length_singleton]
       refine ⟨crM Ks.length (re++[k1]).length (ah++ks).length,by rw [hn,List.length_append (as:=ah)]; exact bv7 hl1 hrl hl1' hl2',?_⟩
       rw [hPv]
       refine ⟨re++[k1],ah++ks,_,rfl,rfl,a63 s5 fa,by rw [a12 hne]; exact r5,a17,?_,fun k hk=>?_,fun k hk=>?_,?_⟩
       · rw [List.nodup_append]
         exact ⟨hnd,by simp,fun a ha b hb z=>hm (by rw [← List.mem_singleton.mp hb,←z]; exact ha)⟩
       · rcases List.mem_append.mp hk with hk | hk
         · exact hre k hk
         · rw [List.mem_singleton.mp hk]; exact ⟨hk1,hk2⟩
       · rcases List.mem_append.mp hk with hk | hk
         · exact hah' k hk
         · exact ⟨hl2 k hk,Nat.lt_trans hk2 (hrk k1 ks hks k hk)⟩
       · rw [List.length_append,hl2']; omega
theorem b56:∀ e:Ex,e.tr.h≤2*e.h+2
 | .num _=>by simp [Ex.tr,Tr.h,Tr.hs]
 | .box _=>by simp [Ex.tr,Tr.h,Tr.hs]
 | .two _ a b=>by
   have h1:=b56 a
   have h2:=b56 b
   simp only [Ex.tr,Tr.h,Tr.hs,Ex.h]
   omega
theorem bl3:∀ c:Cd,c.tr.h≤2*c.hh+2
 | .cmp _ a b=>by
   have h1:=b56 a
   have h2:=b56 b
   simp only [Cd.tr,Tr.h,Tr.hs,Cd.hh]
   omega
 | .nt c=>by
   have h1:=bl3 c
   simp only [Cd.tr,Tr.h,Tr.hs,Cd.hh]
   omega
 | .both c d=>by
   have h1:=bl3 c
   have h2:=bl3 d
   simp only [Cd.tr,Tr.h,Tr.hs,Cd.hh]
   omega
structure ThO (bn:List Str) (x:Th):Prop where
 h:x.hh<10
 z:x.sz≤1000
 n:∀ n∈x.names,n∈bn
def plO (tn:List Str) (lp:Bool) (ps:List Pt):Prop:=(∃ w,ps=[.s "say",.s w])∨(∃ l w,ps=[.s "hand",.i l,.s w])∨(∃ c∈tn,ps=[.s "call",.s c])∨(lp=true∧(ps=[.s "again"]∨ps=[.s "leave"]))∨ps=[.s "back"]∨ps=[.s "stop"]
def ptsB:List Br→List (List Pt)
 | []=>[]
 | .mk p _::bs=>p::ptsB bs
theorem b27:∀ bs:List Br,(ptsB bs).length=bs.length
 | []=>rfl
 | .mk p b::bs=>by simp [ptsB,b27 bs]
def okS (L:Nat) (bn tn:List Str):Nat→Bool→Stm→Prop
 | _,lp,.plain ps=>plO tn lp ps
 | _,_,.put n e=>n∈bn∧ThO bn (.ex e)
 | 0,_,.loop _=>False
 | 0,_,.test _ _ _=>False
 | 0,_,.wait _ _=>False
 | k+1,_,.loop x=>x.length≤L∧∀ s∈x,okS L bn tn k true s
 | k+1,lp,.test c x y=>ThO bn (.cd c)∧(x.length≤L∧∀ s∈x,okS L bn tn k lp s)∧y.length≤L∧∀ s∈y,okS L bn tn k lp s
 | k+1,lp,.wait n bs=>bs.length≤L∧(ptsB bs).Nodup∧(n=0→[.s "none"]∉ptsB bs)∧∀ b∈bs,∃ p x,b=.mk p x∧(x.length≤L∧∀ s∈x,okS L bn tn k lp s)
def okB (L:Nat) (bn tn:List Str) (k:Nat) (lp:Bool) (b:List Stm):Prop:=b.length≤L∧∀ s∈b,okS L bn tn k lp s
theorem okS_pl {L:Nat}{bn tn:List Str}{k:Nat}{lp:Bool}{ps:List Pt}:okS L bn tn k lp (.plain ps)↔plO tn lp ps:=by cases k <;> exact Iff.rfl
theorem okS_put {L:Nat}{bn tn:List Str}{k:Nat}{lp:Bool}{n:Str}{e:Ex}:okS L bn tn k lp (.put n e)↔n∈bn∧ThO bn (.ex e):=by cases k <;> exact Iff.rfl
theorem bl4 {L:Nat}{bn tn tn':List Str}(hs:∀ c∈tn,c∈tn'):∀ (k k':Nat),k≤k'→∀ (lp lp':Bool),(lp=true→lp'=true)→∀ s,okS L bn tn k lp s→okS L bn tn' k' lp' s:=by
 intro k
 induction k with
 | zero =>
   intro k' hk lp lp' hl s h
   cases s with
   | plain ps =>
     rw [okS_pl] at h ⊢
     rcases h with h | h | ⟨c,h1,h2⟩ | ⟨h1,h2⟩ | h
     · exact .inl h
     · exact .inr (.inl h)
     · exact .inr (.inr (.inl ⟨c,hs c h1,h2⟩))
     · exact .inr (.inr (.inr (.inl ⟨hl h1,h2⟩)))
     · exact .inr (.inr (.inr (.inr h)))
   | put n e=>rw [okS_put] at h ⊢; exact h
   | loop _=>exact h.elim
   | test _ _ _=>exact h.elim
   | wait _ _=>exact h.elim
 | succ k ih =>
   intro k' hk lp lp' hl s h
   cases s with
   | plain ps =>
     rw [okS_pl] at h ⊢
     rcases h with h | h | ⟨c,h1,h2⟩ | ⟨h1,h2⟩ | h
     · exact .inl h
     · exact .inr (.inl h)
     · exact .inr (.inr (.inl ⟨c,hs c h1,h2⟩))
     · exact .inr (.inr (.inr (.inl ⟨hl h1,h2⟩)))
     · exact .inr (.inr (.inr (.inr h)))
   | put n e=>rw [okS_put] at h ⊢; exact h
   | loop x =>
     cases k' with
     | zero=>omega
     | succ k'=>exact ⟨h.1,fun s hs'=>ih k' (by omega) true true id s (h.2 s hs')⟩
   | test c x y =>
     cases k' with
     | zero=>omega
     | succ k'=>exact ⟨h.1,⟨h.2.1.1,fun s hs'=>ih k' (by omega) lp lp' hl s (h.2.1.2 s hs')⟩,h.2.2.1,fun s hs'=>ih k' (by omega) lp lp' hl s (h.2.2.2 s hs')⟩
   | wait n bs =>
     cases k' with
     | zero=>omega
     | succ k' =>
       refine ⟨h.1,h.2.1,h.2.2.1,fun b hb=>?_⟩
       obtain ⟨p,x,e,h1,h2⟩:=h.2.2.2 b hb
       exact ⟨p,x,e,h1,fun s hs'=>ih k' (by omega) lp lp' hl s (h2 s hs')⟩
theorem aj4 {L:Nat}{bn tn tn':List Str}(hs:∀ c∈tn,c∈tn') {k k':Nat}(hk:k≤k') {lp lp':Bool}(hl:lp=true→lp'=true) {b:List Stm}(h:okB L bn tn k lp b):okB L bn tn' k' lp' b:=⟨h.1,fun s z=>bl4 hs k k' hk lp lp' hl s (h.2 s z)⟩
theorem bv8 {L:Nat}{bn tn:List Str}{k:Nat}{lp:Bool}{s:Stm}(h:okS L bn tn k lp s):∀ b∈a24 s,∃ j lp',k=j+1∧okB L bn tn j lp' b:=by
 intro b hb
 cases s with
 | plain ps=>cases hb
 | put n e=>cases hb
 | loop x =>
   cases k with
   | zero=>exact h.elim
   | succ k=>rw [List.mem_singleton.mp hb]; exact ⟨k,true,rfl,h⟩
 | test c x y =>
   cases k with
   | zero=>exact h.elim
   | succ k =>
     simp only [a24,List.mem_cons,List.not_mem_nil,or_false] at hb
     rcases hb with rfl | rfl
     · exact ⟨k,lp,rfl,h.2.1⟩
     · exact ⟨k,lp,rfl,h.2.2⟩
 | wait n bs =>
   cases k with
   | zero=>exact h.elim
   | succ k =>
     obtain ⟨br,hbr,rfl⟩:=List.mem_map.mp hb
     obtain ⟨p,x,rfl,hx⟩:=h.2.2.2 br hbr
     exact ⟨k,lp,rfl,hx⟩
theorem bv9 {L:Nat}(hL:L≤1000) {bn tn:List Str}{k:Nat}{lp:Bool}{s:Stm}(h:okS L bn tn k lp s):s.kd tn:=by
 cases s with
 | plain ps =>
   rcases okS_pl.mp h with h | h | ⟨c,h1,h2⟩ | ⟨_,h | h⟩ | h | h
   · exact .inl h
   · exact .inr (.inl h)
   · exact .inr (.inr (.inl ⟨c,h2,h1⟩))
   · exact .inr (.inr (.inr (.inl h)))
   · exact .inr (.inr (.inr (.inr (.inl h))))
   · exact .inr (.inr (.inr (.inr (.inr (.inl h)))))
   · exact .inr (.inr (.inr (.inr (.inr (.inr h)))))
 | wait n bs =>
   cases k with
   | zero=>exact h.elim
   | succ k=>exact Nat.le_trans h.1 hL
 | _=>exact trivial
theorem aq8 {b:List Stm}{x:Stm}(h:x∈allB b):∃ s∈b,x∈allS s:=by
 induction b with
 | nil=>cases h
 | cons y b ih =>
   rw [allB] at h
   rcases List.mem_append.mp h with h | h
   · exact ⟨y,List.mem_cons_self,h⟩
   · obtain ⟨s,h1,h2⟩:=ih h
     exact ⟨s,List.mem_cons_of_mem _ h1,h2⟩
theorem b28 {bs:List (List Stm)}{x:Stm}(h:x∈a86 bs):∃ b∈bs,x∈allB b:=by
 induction bs with
 | nil=>cases h
 | cons y b ih =>
   rw [a86] at h
   rcases List.mem_append.mp h with h | h
   · exact ⟨y,List.mem_cons_self,h⟩
   · obtain ⟨s,h1,h2⟩:=ih h
     exact ⟨s,List.mem_cons_of_mem _ h1,h2⟩
theorem bp1 {L:Nat}{bn tn:List Str}:∀ (k:Nat) (lp:Bool) (s:Stm),okS L bn tn k lp s→∀ x∈allS s,∃ j lp',j≤k∧okS L bn tn j lp' x:=by
 intro k
 induction k with
 | zero =>
   intro lp s h x hx
   rw [an9] at hx
   rcases List.mem_cons.mp hx with rfl | hx
   · exact ⟨0,lp,Nat.le_refl _,h⟩
   · obtain ⟨b,hb,_⟩:=b28 hx
     obtain ⟨j,_,hj,_⟩:=bv8 h b hb
     omega
 | succ k ih =>
   intro lp s h x hx
   rw [an9] at hx
   rcases List.mem_cons.mp hx with rfl | hx
   · exact ⟨k+1,lp,Nat.le_refl _,h⟩
   · obtain ⟨b,hb,hx⟩:=b28 hx
     obtain ⟨j,lp',hj,hB⟩:=bv8 h b hb
     obtain rfl:j=k:=by omega
     obtain ⟨s',hs',hx'⟩:=aq8 hx
     obtain ⟨i,lp2,hi,hz⟩:=ih lp' s' (hB.2 s' hs') x hx'
     exact ⟨i,lp2,Nat.le_succ_of_le hi,hz⟩
theorem bp2 {L:Nat}(hL:L≤1000) {bn tn:List Str}{k:Nat}{lp:Bool}{b:List Stm}(h:okB L bn tn k lp b):KdB tn b:=fun x hx=>by
 obtain ⟨s,hs,hx⟩:=aq8 hx
 obtain ⟨j,lp',_,hz⟩:=bp1 k lp s (h.2 s hs) x hx
 exact bv9 hL hz
theorem b57:∀ p:List Pt,Tr.hs (p.map Pt.tr)≤0
 | []=>Nat.le_refl _
 | x::p=>by
   have:=b57 p
   have h:x.tr.h=0:=by cases x <;> rfl
   simp only [List.map_cons,Tr.hs,h]
   omega
theorem cf0 {L:Nat}{bn tn:List Str}:∀ (k:Nat) (lp:Bool) (s:Stm),okS L bn tn k lp s→s.tr.h≤24+4*k:=by
 intro k
 induction k with
 | zero =>
   intro lp s h
   cases s with
   | plain ps=>have:=b57 ps; simp only [Stm.tr,Tr.h]; omega
   | put n e =>
     have h1:=(okS_put.mp h).2.h
     have h2:=b56 e
     simp only [Th.hh] at h1
     simp only [Stm.tr,Tr.h,Tr.hs]
     omega
   | loop _=>exact h.elim
   | test _ _ _=>exact h.elim
   | wait _ _=>exact h.elim
 | succ k ih =>
   intro lp s h
   cases s with
   | plain ps=>have:=b57 ps; simp only [Stm.tr,Tr.h]; omega
   | put n e =>
     have h1:=(okS_put.mp h).2.h
     have h2:=b56 e
     simp only [Th.hh] at h1
     simp only [Stm.tr,Tr.h,Tr.hs]
     omega
   | loop x =>
     have:=ad6 (b:=x) (n:=24+4*k) fun s hs=>ih true s (h.2 s hs)
     simp only [Stm.tr,Tr.h,Tr.hs]
     omega
   | test c x y =>
     have h1:=h.1.h
     have h0:=bl3 c
     simp only [Th.hh] at h1
     have h2:=ad6 (b:=x) (n:=24+4*k) fun s hs=>ih lp s (h.2.1.2 s hs)
     have h3:=ad6 (b:=y) (n:=24+4*k) fun s hs=>ih lp s (h.2.2.2 s hs)
     simp only [Stm.tr,Tr.h,Tr.hs]
     omega
   | wait n bs =>
     have:=bo2 (b:=bs) (n:=26+4*k) fun s hs=>by
      obtain ⟨p,x,rfl,_,hx⟩:=h.2.2.2 s hs
      have h1:=ad6 fun s hs=>ih lp s (hx s hs)
      have h2:=b57 p
      simp only [Br.tr,Tr.h,Tr.hs]
      omega
     simp only [Stm.tr,Tr.h,Tr.hs]
     omega
def c80 (K:PySem.W.Frag) (d:Nat):Sp:=fun vs H Q _=>∃ (v:V) (x:Th),vs=[v]∧x.At H v∧x.hh<d∧x.sz≤10000∧∀ l H',H l=none→Same H H'→H' l=some (.lst (a27 x.names))→Q (.ref l) H'
theorem ay1 (T:Txt K mg t):∀ d:Nat,FnOk P w K mg base CX0 (d+1) t.a_names_in t.fd_names_in ["thing"] (c80 K d):=by
 intro d
 induction d with
 | zero=>exact vac (fun vs H Q E ⟨_,_,_,_,h,_⟩=>Nat.not_lt_zero _ h)
 | succ d G_names_in =>
   refine T.f_names_in.F.ok sc_names_in (fun vs H Q E h=>?_) (fun cdv A outer s H vs Q E hr h=>?_)
   · obtain ⟨v,x,rfl,_⟩:=h
     rfl
   · obtain ⟨v,x,rfl,hx,hh,hz,q⟩:=h
     refine ⟨_,(@a02 _ _ _ _ _ (@a18 _ _ 1 _ _ _ _ sc_names_in.nd rfl (by walk_at "o") (@a15 _ _ _ _ _ _ _ (a10 K) (pv 0) (@a03 _ _ _ _) (fun _ _=>rfl)) (by rfl) (by walk_at "o"))
     (@a02 _ _ _ _ _ (@a30 _ _ _ _ _ _ _ _ (@a07 _ _ _ _ _ _ _ _ a36 (pv 1) (@a08 _ _ _ _) (nomark _)) (@a04 _ _ _ (@a14 _ _ _ _ (@a13 _ _ _ _ (@a01 _)))) (@a11 _))
     (@a02 _ _ _ _ _ (@a30 _ _ _ _ _ _ _ _ (@a07 _ _ _ _ _ _ _ _ a36 (pv 1) (@a08 _ _ _ _) (nomark _)) (@a04 _ _ _ (@a14 _ _ _ _ (@a13 _ _ _ _ (@a00 _ _ _ _ _ (@a15 _ _ _ _ _ _ _ (a10 K) (pv 0) (@a03 _ _ _ _) (fun _ _=>rfl)) (@a01 _) (by rfl))))) (@a11 _))
     (@a02 _ _ _ _ _ (@a30 _ _ _ _ _ _ _ _ (@a07 _ _ _ _ _ _ _ _ a36 (pv 1) (@a08 _ _ _ _) (nomark _)) (@a04 _ _ _ (@a14 _ _ _ _ (@a09 _ _ _ _ _ _ _ _ _ _ _ _ _ _ _ _ G_names_in (hr.mono (by omega)) rfl T.f_names_in.m T.f_names_in.F.kp T.f_names_in.b .nil a19 (@a00 _ _ _ _ _ (@a15 _ _ _ _ _ _ _ (a10 K) (pv 0) (@a03 _ _ _ _) (fun _ _=>rfl)) (@a01 _) (by rfl)) (by decide) (by rfl) (by rfl)))) (@a11 _))
     (@a04 _ _ _ (@a14 _ _ _ _ (@a33 _ _ _ _ _ _ _ _ a21 (@a09 _ _ _ _ _ _ _ _ _ _ _ _ _ _ _ _ G_names_in (hr.mono (by omega)) rfl T.f_names_in.m T.f_names_in.F.kp T.f_names_in.b .nil a19 (@a00 _ _ _ _ _ (@a15 _ _ _ _ _ _ _ (a10 K) (pv 0) (@a03 _ _ _ _) (fun _ _=>rfl)) (@a01 _) (by rfl)) (by decide) (by rfl) (by rfl)) (@a09 _ _ _ _ _ _ _ _ _ _ _ _ _ _ _ _ G_names_in (hr.mono (by omega)) rfl T.f_names_in.m T.f_names_in.F.kp T.f_names_in.b .nil a19 (@a00 _ _ _ _ _ (@a15 _ _ _ _ _ _ _ (a10 K) (pv 0) (@a03 _ _ _ _) (fun _ _=>rfl)) (@a01 _) (by rfl)) (by decide) (by rfl) (by rfl))))))))),?_⟩
     walk_at "go"
     rcases Th.view hx with ⟨i,a,rfl,rfl,ha⟩ | ⟨n,a,rfl,rfl,ha⟩ | ⟨c,a,v1,rfl,rfl,ha,h1⟩ | ⟨m,sg,x1,x2,a,v1,v2,W⟩
     · refine a22 (SqT.of ha) (a05 (j:=0) rfl) ?_
       walk_at "run"
       refine a28 rfl ?_
       walk_at "run"
       intro p H1 f1 s1 e1
       exact q p H1 f1 s1 e1
     · refine a22 (SqT.of ha) (a05 (j:=0) rfl) ?_
       walk_at "run"
       refine a23 (by decide +kernel) ?_
       walk_at "run"
       refine a28 rfl ?_
       walk_at "run"
       refine a22 (SqT.of ha) (a05 (j:=1) rfl) ?_
       walk_at "run"
       intro p H1 f1 s1 e1
       exact q p H1 f1 s1 e1
     · refine a22 (SqT.of ha) (a05 (j:=0) rfl) ?_
       walk_at "run"
       refine a23 (by decide +kernel) ?_
       walk_at "run"
       refine a23 (by decide +kernel) ?_
       walk_at "run"
       refine a28 rfl ?_
       walk_at "run"
       refine a22 (SqT.of ha) (a05 (j:=1) rfl) ?_
       walk_at "run"
       simp only [Th.hh,Cd.hh,Th.sz,Cd.sz] at hh hz
       exact ⟨v1,.cd c,rfl,h1,by simp only [Th.hh]; omega,by simp only [Th.sz]; omega,q⟩
     · obtain ⟨rfl,ha,h1,h2,n1,n2,n3,hn,k1,k2,ksz,_,_,_,_⟩:=W
       refine a22 (SqT.of ha) (a05 (j:=0) rfl) ?_
       walk_at "run"
       refine a23 n1 ?_
       walk_at "run"
       refine a23 n2 ?_
       walk_at "run"
       refine a23 n3 ?_
       walk_at "run"
       refine a22 (SqT.of ha) (a05 (j:=1) rfl) ?_
       walk_at "run"
       refine ⟨v1,x1,rfl,h1,by omega,by omega,fun l1 H1 f1 s1 e1=>?_⟩
       walk_at "run"
       refine a22 (SqT.of (s1 _ _ ha)) (a05 (j:=2) rfl) ?_
       walk_at "run"
       refine ⟨v2,x2,rfl,h2.mono s1.tups,by omega,by omega,fun l2 H2 f2 s2 e2=>?_⟩
       have b1:=x1.names_le
       have b2:=x2.names_le
       refine a31 (s2 _ _ e1) e2 (le_line (by simp only [a27,List.length_map]; omega)) ?_
       intro l3 H3 f3 s3 e3
       rw [ba3,←hn] at e3
       exact q l3 H3 (s1.free (s2.free f3)) (s1.trans (s2.trans s3)) e3
theorem cf1 {H:Hp}{v:V}{n:Str}{e:Ex}(h:SAt H v (.put n e)):∃ a u,v=.ref a∧H a=some (.tup [.str "put",.str n,u])∧(Th.ex e).At H u:=by
 obtain ⟨a,vs,rfl,e1,h⟩:=at_tup0.mp (show (Tr.tup [.str (Str.ofString "put"),.str n,e.tr]).At H v [] from bb5 h)
 obtain ⟨v1,w1,rfl,h1,h⟩:=ats_cons0.mp h
 obtain ⟨v2,w2,rfl,h2,h⟩:=ats_cons0.mp h
 obtain ⟨v3,w3,rfl,h3,h⟩:=ats_cons0.mp h
 obtain rfl:=ats_nil0.mp h
 obtain rfl:=at_str0.mp h1
 obtain rfl:=at_str0.mp h2
 exact ⟨a,v3,rfl,e1,at8 h3⟩
theorem cf2 {H:Hp}{v:V}{c:Cd}{x y:List Stm}(h:SAt H v (.test c x y)):∃ a u1 u2 u3,v=.ref a∧H a=some (.tup [.str "test",u1,u2,u3])∧(Th.cd c).At H u1:=by
 obtain ⟨a,u1,u2,u3,rfl,e,_,_,h⟩:=bb6 h
 exact ⟨a,u1,u2,u3,rfl,e,b06 h⟩
def lkS (a b c d:V):List (Str×V):=putF "found" d (putF "talk_names" c (putF "box_names" b (putF "talk" a [])))
theorem be7 (a b c d:V):(lkS a b c d).lookup ("found":Str)=some d:=by
 unfold lkS
 rw [a35,if_pos rfl]
theorem c81 (a b c d:V):(lkS a b c d).lookup ("talk_names":Str)=some c:=by
 unfold lkS
 rw [a35,if_neg (by decide +kernel),a35,if_pos rfl]
theorem c82 (a b c d:V):(lkS a b c d).lookup ("box_names":Str)=some b:=by
 unfold lkS
 rw [a35,if_neg (by decide +kernel),a35,if_neg (by decide +kernel),a35,if_pos rfl]
theorem am1 {m:Str}(a b c d:V) (h1:m≠"found") (h2:m≠"talk_names") (h3:m≠"box_names") (h4:m≠"talk"):(lkS a b c d).lookup m=none:=by
 unfold lkS
 rw [a35,if_neg h1,a35,if_neg h2,a35,if_neg h3,a35,if_neg h4]
 rfl
structure LkO (C:Addr) (H:Hp) (p:Addr) (bn tn:List Str):Prop where
 ex:∃ dx a bl tl fl,H p=some (.ins C dx (lkS a (.ref bl) (.ref tl) (.ref fl)))∧H bl=some (.lst (a27 bn))∧H tl=some (.lst (a27 tn))∧H fl=some (.lst [])
theorem LkO.same {C:Addr}{H H':Hp}{p:Addr}{bn tn:List Str}(h:LkO C H p bn tn) (s:Same H H'):LkO C H' p bn tn:=by
 obtain ⟨dx,a,bl,tl,fl,h1,h2,h3,h4⟩:=h.ex
 exact ⟨dx,a,bl,tl,fl,s _ _ h1,s _ _ h2,s _ _ h3,s _ _ h4⟩
def bw0 (K:PySem.W.Frag) (C:Addr):Sp:=fun vs H Q _=>∃ (p dx sp bl tl:Addr) (nm:V) (bs us:List V) (bn tn:List Str),vs=[.ref p,nm,.ref sp]∧H p=some (.ins C dx [])∧H sp=some (.tup [.ref bl,.ref tl])∧H bl=some (.lst bs)∧Each (Nmd H) bs bn∧bn.length≤1000∧H tl=some (.lst us)∧Each (Nmd H) us tn∧tn.length≤1000∧∀ H',LkO C H' p bn tn→(∀ x o,H x=some o→x≠p→H' x=some o)→Q .non H'
theorem ad0 (T:Txt K mg t):FnOk P w K mg base CX0 1 t.a_TalkLook___init__ t.fd_TalkLook___init__ ["self","talk","script"] (bw0 K t.c_TalkLook):=by
 refine T.f_TalkLook___init__.F.ok ac8 (fun vs H Q E h=>?_) (fun cdv A outer s H vs Q E hr h=>?_)
 · obtain ⟨p,dx,sp,bl,tl,nm,bs,us,bn,tn,rfl,_⟩:=h
   rfl
 · obtain ⟨p,dx,sp,bl,tl,nm,bs,us,bn,tn,rfl,hp,e0,eb,hb,hbl,et,ht,htl,q⟩:=h
   refine ⟨_,(@a02 _ _ _ _ _ (ao7 K (pv 0) (pv 1) rfl)
    (@a02 _ _ _ _ _ (ao7 K (pv 0) (af3 (Nt:=["box"]) (Nf:=[]) (caps:=[]) rfl (a45 (sc:=a06 a44) rfl rfl (by decide +kernel) (by decide +kernel) (by decide +kernel) rfl (by decide +kernel)) (a25 K (@a15 _ _ _ _ _ _ _ (a10 K) (pv 2) (@a03 _ _ _ _) (fun _ _=>rfl))) (fun _ _ _ _ _=>(a16 (i:=0) (show (["box"]:List Str).Nodup by decide +kernel) rfl (by walk_at "o"))) (fun _ _ _ _ _=>(@a92 _)) (fun _ _ _ _ _=>(@a15 _ _ _ _ _ _ _ (a10 K) (pv 0) (@a03 _ _ _ _) (fun _ _=>rfl)))) rfl)
    (@a02 _ _ _ _ _ (ao7 K (pv 0) (af3 (Nt:=["named"]) (Nf:=[]) (caps:=[]) rfl (a45 (sc:=a06 a44) rfl rfl (by decide +kernel) (by decide +kernel) (by decide +kernel) rfl (by decide +kernel)) (a25 K (@a15 _ _ _ _ _ _ _ (a10 K) (pv 2) (@a03 _ _ _ _) (fun _ _=>rfl))) (fun _ _ _ _ _=>(a16 (i:=0) (show (["named"]:List Str).Nodup by decide +kernel) rfl (by walk_at "o"))) (fun _ _ _ _ _=>(@a92 _)) (fun _ _ _ _ _=>(@a15 _ _ _ _ _ _ _ (a10 K) (pv 0) (@a03 _ _ _ _) (fun _ _=>rfl)))) rfl)
    (@a04 _ _ _ (ao7 K (pv 0) (@a13 _ _ _ _ (@a01 _)) rfl))))),?_⟩
   have sl:(1000000:Nat)≤sizeLine:=le_line (Nat.le_refl _)
   walk_at "go"
   refine ⟨p,_,dx,_,rfl,hp,T.cl_TalkLook,T.n_TalkLook_talk,by decide,?_⟩
   have k1:∀ x o,H x=some o→x≠p→upd H p (.ins t.c_TalkLook dx (putF "talk" nm [])) x=some o:=fun x o e z=>by rw [a12 z]; exact e
   have e1:upd H p (.ins t.c_TalkLook dx (putF "talk" nm [])) p=some (.ins t.c_TalkLook dx (putF "talk" nm [])):=a17
   generalize upd H p (.ins t.c_TalkLook dx (putF "talk" nm []))=H1 at k1 e1 ⊢
   walk_at "run"
   have nT:∀ {x:Addr}{vs:List V},H x=some (.tup vs)→H1 x=some (.tup vs):=fun e=>k1 _ _ e (aj6 e hp (fun z=>nomatch z))
   have nL:∀ {x:Addr}{vs:List V},H x=some (.lst vs)→H1 x=some (.lst vs):=fun e=>k1 _ _ e (aj6 e hp (fun z=>nomatch z))
   refine a22 (SqT.of (nT e0)) (a05 (j:=0) rfl) ?_
   walk_at "run"
   refine ⟨⟨bs,SqL.of (nL eb)⟩,a81 (xs:=bs) (by rw [hb.1]; omega) (fun i acc H'=>H'=H1∧acc=a27 (bn.take i)) ⟨rfl,rfl⟩ (fun i acc H' ⟨h1,h2⟩=>⟨by rw [h2]; unfold a27; rw [List.length_map,List.length_take]; exact Nat.min_le_left _ _,by rw [h1]; exact SqL.of (nL eb)⟩) ?_ ?_⟩
   · rintro i x acc H' hx ⟨rfl,rfl⟩
     obtain ⟨n,hn⟩:∃ n,bn[i]?=some n:=⟨_,List.getElem?_eq_getElem (by rw [← hb.1]; exact (List.getElem?_eq_some_iff.mp hx).1)⟩
     obtain ⟨a,r,rfl,ea⟩:=hb.2 i _ _ hx hn
     walk_at "run"
     refine a22 (SqT.of (nT ea)) (a05 (j:=0) rfl) ?_
     refine ⟨rfl,?_⟩
     rw [List.take_add_one,hn]
     unfold a27
     rw [List.map_append]
     rfl
   · rintro acc H' ⟨rfl,rfl⟩ nb H2 f2 s2 e2
     rw [hb.1,List.take_of_length_le (Nat.le_refl _)] at e2
     walk_at "run"
     have p2:=s2 _ _ e1
     refine ⟨p,_,dx,_,rfl,p2,T.cl_TalkLook,T.n_TalkLook_box_names,(by have h1:=a47 "talk" nm []; rw [List.length_nil] at h1; omega),?_⟩
     have np2:nb≠p:=aj6 e2 p2 (fun z=>nomatch z)
     have k3:∀ x o,H x=some o→x≠p→upd H2 p (.ins t.c_TalkLook dx (putF "box_names" (.ref nb) (putF "talk" nm []))) x=some o:=fun x o e z=>by rw [a12 z]; exact s2 _ _ (k1 _ _ e z)
     have e3:upd H2 p (.ins t.c_TalkLook dx (putF "box_names" (.ref nb) (putF "talk" nm []))) p=some (.ins t.c_TalkLook dx (putF "box_names" (.ref nb) (putF "talk" nm []))):=a17
     have g3:upd H2 p (.ins t.c_TalkLook dx (putF "box_names" (.ref nb) (putF "talk" nm []))) nb=some (.lst (a27 bn)):=by rw [a12 np2]; exact e2
     generalize upd H2 p (.ins t.c_TalkLook dx (putF "box_names" (.ref nb) (putF "talk" nm [])))=H3 at k3 e3 g3 ⊢
     walk_at "run"
     have nT3:∀ {x:Addr}{vs:List V},H x=some (.tup vs)→H3 x=some (.tup vs):=fun e=>k3 _ _ e (aj6 e hp (fun z=>nomatch z))
     have nL3:∀ {x:Addr}{vs:List V},H x=some (.lst vs)→H3 x=some (.lst vs):=fun e=>k3 _ _ e (aj6 e hp (fun z=>nomatch z))
     refine a22 (SqT.of (nT3 e0)) (a05 (j:=1) rfl) ?_
     walk_at "run"
     refine ⟨⟨us,SqL.of (nL3 et)⟩,a81 (xs:=us) (by rw [ht.1]; omega) (fun i acc H'=>H'=H3∧acc=a27 (tn.take i)) ⟨rfl,rfl⟩ (fun i acc H' ⟨h1,h2⟩=>⟨by rw [h2]; unfold a27; rw [List.length_map,List.length_take]; exact Nat.min_le_left _ _,by rw [h1]; exact SqL.of (nL3 et)⟩) ?_ ?_⟩
     · rintro i x acc H' hx ⟨rfl,rfl⟩
       obtain ⟨n,hn⟩:∃ n,tn[i]?=some n:=⟨_,List.getElem?_eq_getElem (by rw [← ht.1]; exact (List.getElem?_eq_some_iff.mp hx).1)⟩
       obtain ⟨a,r,rfl,ea⟩:=ht.2 i _ _ hx hn
       walk_at "run"
       refine a22 (SqT.of (nT3 ea)) (a05 (j:=0) rfl) ?_
       refine ⟨rfl,?_⟩
       rw [List.take_add_one,hn]
       unfold a27
       rw [List.map_append]
       rfl
     · rintro acc H' ⟨rfl,rfl⟩ nt H4 f4 s4 e4
       rw [ht.1,List.take_of_length_le (Nat.le_refl _)] at e4
       walk_at "run"
       have p4:=s4 _ _ e3
       refine ⟨p,_,dx,_,rfl,p4,T.cl_TalkLook,T.n_TalkLook_talk_names,(by have h1:=a47 "talk" nm []; have h2:=a47 "box_names" (V.ref nb) (putF "talk" nm []); rw [List.length_nil] at h1; omega),?_⟩
       have np4:nt≠p:=aj6 e4 p4 (fun z=>nomatch z)
       have nbp:nb≠p:=aj6 g3 e3 (fun z=>nomatch z)
       have g4:=s4 _ _ g3
       have k5:∀ x o,H x=some o→x≠p→upd H4 p (.ins t.c_TalkLook dx (putF "talk_names" (.ref nt) (putF "box_names" (.ref nb) (putF "talk" nm [])))) x=some o:=fun x o e z=>by rw [a12 z]; exact s4 _ _ (k3 _ _ e z)
       have e5:upd H4 p (.ins t.c_TalkLook dx (putF "talk_names" (.ref nt) (putF "box_names" (.ref nb) (putF "talk" nm [])))) p=some (.ins t.c_TalkLook dx (putF "talk_names" (.ref nt) (putF "box_names" (.ref nb) (putF "talk" nm [])))):=a17
       have g5:upd H4 p (.ins t.c_TalkLook dx (putF "talk_names" (.ref nt) (putF "box_names" (.ref nb) (putF "talk" nm [])))) nb=some (.lst (a27 bn)):=by rw [a12 nbp]; exact g4
       have h5:upd H4 p (.ins t.c_TalkLook dx (putF "talk_names" (.ref nt) (putF "box_names" (.ref nb) (putF "talk" nm [])))) nt=some (.lst (a27 tn)):=by rw [a12 np4]; exact e4
       generalize upd H4 p (.ins t.c_TalkLook dx (putF "talk_names" (.ref nt) (putF "box_names" (.ref nb) (putF "talk" nm []))))=H5 at k5 e5 g5 h5 ⊢
       walk_at "run"
       intro fl H6 f6 s6 e6
       walk_at "run"
       have p6:=s6 _ _ e5
       have np6:fl≠p:=aj6 e6 p6 (fun z=>nomatch z)
       have np5:nt≠p:=np4
       refine ⟨p,_,dx,_,rfl,p6,T.cl_TalkLook,T.n_TalkLook_found,(by have h1:=a47 "talk" nm []; have h2:=a47 "box_names" (V.ref nb) (putF "talk" nm []); have h3:=a47 "talk_names" (V.ref nt) (putF "box_names" (V.ref nb) (putF "talk" nm [])); rw [List.length_nil] at h1; omega),?_⟩
       refine q _ ⟨dx,nm,nb,nt,fl,a17,?_,?_,?_⟩ fun x o e z=>?_
       · rw [a12 nbp]; exact s6 _ _ g5
       · rw [a12 np5]; exact s6 _ _ h5
       · rw [a12 np6]; exact e6
       · rw [a12 z]; exact s6 _ _ (k5 _ _ e z)
def bw1:Sp:=fun vs H Q _=>∃ a b c,vs=[a,b,c]∧False
theorem a73 (T:Txt K mg t):FnOk P w K mg base CX0 1 t.a_TalkLook_tell t.fd_TalkLook_tell ["self","word","what"] bw1:=by
 refine T.f_TalkLook_tell.F.ok ai7 (fun vs H Q E h=>?_) (fun cdv A outer s H vs Q E hr h=>?_)
 · obtain ⟨a,b,c,rfl,_⟩:=h
   rfl
 · obtain ⟨a,b,c,rfl,z⟩:=h
   exact z.elim
def c83:Sp:=fun vs H Q _=>∃ a,vs=[a]∧False
theorem ai8 (T:Txt K mg t):FnOk P w K mg base CX0 1 t.a_shown_pattern t.fd_shown_pattern ["pattern"] c83:=by
 refine T.f_shown_pattern.F.ok ai6 (fun vs H Q E h=>?_) (fun cdv A outer s H vs Q E hr h=>?_)
 · obtain ⟨a,rfl,_⟩:=h
   rfl
 · obtain ⟨a,rfl,z⟩:=h
   exact z.elim
theorem au9 {K:PySem.W.Frag}{H:Hp}{Q:VK}{p:Addr}{ys:List Str}{w:Str}(h1:SqL K H p (a27 ys)) (h:Q (.bl (!decide (w∈ys))) H):rIn K true (.str w) (.ref p) H Q:=⟨p,a27 ys,rfl,.inl h1,rfl,at4 ys,by rw [if_pos rfl,aj2]; exact h⟩
def c84 (K:PySem.W.Frag) (C:Addr):Sp:=fun vs H Q _=>∃ (p nl:Addr) (bn tn ys:List Str),vs=[.ref p,.ref nl]∧LkO C H p bn tn∧H nl=some (.lst (a27 ys))∧(∀ y∈ys,y∈bn)∧Q .non H
theorem aa7 (T:Txt K mg t):FnOk P w K mg base CX0 2 t.a_TalkLook_look_names t.fd_TalkLook_look_names ["self","names"] (c84 K t.c_TalkLook):=by
 have G_TalkLook_tell:=a73 (P:=P) (w:=w) (base:=base) T
 refine T.f_TalkLook_look_names.F.ok sc_TalkLook_look_names (fun vs H Q E h=>?_) (fun cdv A outer s H vs Q E hr h=>?_)
 · obtain ⟨p,nl,bn,tn,ys,rfl,_⟩:=h
   rfl
 · obtain ⟨p,nl,bn,tn,ys,rfl,hL,hn,hy,q⟩:=h
   refine ⟨_,(@a04 _ _ _ (@a69 _ _ _ _ _ _ _ _ PassesOwn.never rfl (a25 K (pv 1)) (a16 (i:=2) sc_TalkLook_look_names.nd rfl (by walk_at "o")) (@a04 _ _ _ (@a30 _ _ _ _ _ _ _ _ (@a07 _ _ _ _ _ _ _ _ (af5 K) (pv 2) (ax2 K (pv 0) rfl) (by with_unfolding_all rfl)) (@a04 _ _ _ (@a32 _ _ _ _ (a72 (pv 0) T.cl_TalkLook T.f_TalkLook_tell.M G_TalkLook_tell (hr.mono (by omega)) T.f_TalkLook_tell.b .nil a19 (@a00 _ _ _ _ _ (@a08 _ _ _ _) (@a00 _ _ _ _ _ (pv 2) (@a01 _) (by rfl)) (by rfl))) (by rfl))) (@a11 _))) (by intro _; rfl))),?_⟩
   have sl:(1000000:Nat)≤sizeLine:=le_line (Nat.le_refl _)
   obtain ⟨dx,a,bl,tl,fl,h1,h2,h3,h4⟩:=hL.ex
   walk_at "go"
   refine ⟨⟨_,SqL.of hn⟩,a60 (xs:=a27 ys) (fun i σ H'=>H'=H∧∃ y,σ=[some (.ref p),some (.ref nl),y]) ⟨rfl,_,rfl⟩ (fun i σ H' _ zz=>by rw [zz.1]; exact SqL.of hn) ?_ ?_⟩
   · rintro i x σ H' hx ⟨rfl,y,rfl⟩
     obtain ⟨n,hn',rfl⟩:=strs_at hx
     walk_at "run"
     refine ⟨p,_,dx,_,_,rfl,h1,T.cl_TalkLook,T.n_TalkLook_box_names,c82 _ _ _ _,?_⟩
     refine au9 (SqL.of h2) ?_
     rw [decide_eq_true (hy n (List.mem_of_getElem? hn'))]
     walk_at "run"
     exact ⟨rfl,_,rfl⟩
   · rintro σ H' ⟨rfl,y,rfl⟩
     walk_at "run"
     exact q
theorem ay2 {H:Hp}:∀ {vs:List V}{ps:List (List Pt)},Each (PAt H) vs ps→Tr.Ats H (ps.map patB) vs []
 | [],[],_=>by simp [Tr.Ats]
 | v::vs,p::ps,h=>by
   have h0:=h.2 0 v p rfl rfl
   have h1:=ay2 (vs:=vs) (ps:=ps) ⟨by simpa using h.1,fun j a b e1 e2=>h.2 (j+1) a b (by simpa using e1) (by simpa using e2)⟩
   simp only [List.map_cons,Tr.Ats]
   exact ⟨v,vs,[],[],rfl,rfl,h0,h1⟩
 | [],p::ps,h=>absurd h.1 (by simp)
 | v::vs,[],h=>absurd h.1 (by simp)
theorem bl5 {p q:List Pt}(h:patB p=patB q):p=q:=by
 unfold patB at h
 injection h with h
 exact al1 h
theorem ay3:∀ ps:List (List Pt),Tr.hs (ps.map patB)≤1
 | []=>by simp [Tr.hs]
 | p::ps=>by
   have h1:=b57 p
   have h2:=ay3 ps
   simp only [List.map_cons,Tr.hs,patB,Tr.h]
   omega
theorem patB_mem {p:List Pt}{ps:List (List Pt)}:patB p∈ps.map patB↔p∈ps:=by
 rw [List.mem_map]
 exact ⟨fun ⟨q,h1,h2⟩=>by rw [← bl5 h2]; exact h1,fun h=>⟨p,h,rfl⟩⟩
theorem b29 {bs:List Br}{i:Nat}{p:List Pt}{b:List Stm}(h:bs[i]?=some (.mk p b)):(ptsB bs)[i]?=some p:=by
 induction bs generalizing i with
 | nil=>cases h
 | cons x bs ih =>
   cases x with
   | mk q c =>
     cases i with
     | zero=>simp at h; simp [ptsB,h.1]
     | succ i=>simp at h; simp [ptsB,ih h]
theorem cf3 {K:PySem.W.Frag}{H:Hp}{a:Addr}{z:Str}(h:TupK K a [.str z]):(Tr.tup [.str z]).AtK K H (.ref a):=by
 simp only [Tr.AtK,Tr.AtsK]
 exact ⟨_,_,rfl,.inr h,_,_,rfl,rfl,rfl⟩
def b30 (K:PySem.W.Frag) (C:Addr) (d:Nat):Sp:=fun vs H Q _=>∃ (p:Addr) (bv:V) (lp:Bool) (bn tn:List Str) (b:List Stm) (k L:Nat),vs=[.ref p,bv,.bl lp]∧LkO C H p bn tn∧BAt H bv b∧okB L bn tn k lp b∧L≤1000∧k<d∧∀ H',Same H H'→Q .non H'
def bp3 (K:PySem.W.Frag) (C:Addr) (d:Nat):Sp:=fun vs H Q _=>∃ (p:Addr) (v:V) (lp:Bool) (bn tn:List Str) (s:Stm) (k L:Nat),vs=[.ref p,v,.bl lp]∧LkO C H p bn tn∧SAt H v s∧okS L bn tn k lp s∧L≤1000∧k<d∧∀ H',Same H H'→Q .non H'
def bp4 (K:PySem.W.Frag) (C:Addr) (d:Nat):Sp:=fun vs H Q _=>∃ (p:Addr) (v:V) (lp:Bool) (bn tn:List Str) (n:Int) (bs:List Br) (k L:Nat),vs=[.ref p,v,.bl lp]∧LkO C H p bn tn∧SAt H v (.wait n bs)∧okS L bn tn k lp (.wait n bs)∧L≤1000∧k<d∧∀ H',Same H H'→Q .non H'
theorem c85 {tn:List Str}{s:Stm}(hk:s.kd tn) (h:s.wd=Str.ofString "put"):∃ n e,s=.put n e:=by
 cases s with
 | put n e=>exact ⟨n,e,rfl⟩
 | plain ps =>
   rcases hk with ⟨w,rfl⟩ | ⟨l,w,rfl⟩ | ⟨w,rfl,_⟩ | rfl | rfl | rfl | rfl <;> exact absurd h (by simp only [Stm.wd]; decide +kernel)
 | _=>exact absurd h (by simp only [Stm.wd]; decide +kernel)
theorem cf4 {L:Nat}{bn tn:List Str}{k:Nat}{lp:Bool}{s:Stm}(h:okS L bn tn (k+1) lp s):∀ b∈a24 s,okB L bn tn k (lp || decide (s.wd=Str.ofString "loop")) b:=by
 intro b hb
 cases s with
 | plain ps=>cases hb
 | put n e=>cases hb
 | loop x =>
   rw [List.mem_singleton.mp hb,show decide ((Stm.loop x).wd=Str.ofString "loop")=true from decide_eq_true rfl,Bool.or_true]
   exact h
 | test c x y =>
   simp only [a24,List.mem_cons,List.not_mem_nil,or_false] at hb
   rcases hb with rfl | rfl
   · exact aj4 (fun _ z=>z) (Nat.le_refl _) (fun z=>by rw [z,Bool.true_or]) h.2.1
   · exact aj4 (fun _ z=>z) (Nat.le_refl _) (fun z=>by rw [z,Bool.true_or]) h.2.2
 | wait n bs =>
   obtain ⟨br,hbr,rfl⟩:=List.mem_map.mp hb
   obtain ⟨p,x,rfl,hx⟩:=h.2.2.2 br hbr
   exact aj4 (fun _ z=>z) (Nat.le_refl _) (fun z=>by rw [z,Bool.true_or]) hx
theorem ab8 (T:Txt K mg t) {d:Nat}(G_TalkLook_look_body:FnOk P w K mg base CX0 (3*d+20) t.a_TalkLook_look_body t.fd_TalkLook_look_body ["self","body","in_loop"] (b30 K t.c_TalkLook d)):FnOk P w K mg base CX0 (3*d+21) t.a_TalkLook_look_wait t.fd_TalkLook_look_wait ["self","statement","in_loop"] (bp4 K t.c_TalkLook (d+1)):=by
 have G_TalkLook_tell:=a73 (P:=P) (w:=w) (base:=base) T
 have G_shown_pattern:=ai8 (P:=P) (w:=w) (base:=base) T
 refine T.f_TalkLook_look_wait.F.ok sc_TalkLook_look_wait (fun vs H Q E h=>?_) (fun cdv A outer s H vs Q E hr h=>?_)
 · obtain ⟨p,v,lp,bn,tn,n,bs,k,L,rfl,_⟩:=h
   rfl
 · obtain ⟨p,v,lp,bn,tn,n,bs,k,L,rfl,hL,hs,hw,hL1,hk,q⟩:=h
   refine ⟨_,(@a02 _ _ _ _ _ (b94 (i:=3) (Nt:=["pattern","body"]) (Nf:=[]) (caps:=[]) rfl (a45 (sc:=a06 a53) rfl rfl (by decide +kernel) (by decide +kernel) (by decide +kernel) rfl (by decide +kernel)) (a25 K (@a15 _ _ _ _ _ _ _ (a10 K) (pv 1) (@a03 _ _ _ _) (fun _ _=>rfl))) (fun _ _ _ _ _=>(a93 K (n:=2) rfl (a34 (a16 (i:=0) (show (["pattern","body"]:List Str).Nodup by decide +kernel) rfl (by walk_at "o")) (a34 (a16 (i:=1) (show (["pattern","body"]:List Str).Nodup by decide +kernel) rfl (by walk_at "o")) (@a91 _))))) (fun _ _ _ _ _=>(@a92 _)) (fun _ _ _ _ _=>(pv 0)) sc_TalkLook_look_wait.nd rfl (by walk_at "o") rfl)
    (@a41 _ _ _ _ _ (@a30 _ _ _ _ _ _ _ _ (@aw9 _ _ _ (@PW.pt _ _ _ (@a68 _ _ _ _ _ _ _ (@a07 _ _ _ _ _ _ _ _ a36 (@a15 _ _ _ _ _ _ _ (a10 K) (pv 1) (@a03 _ _ _ _) (fun _ _=>rfl)) (@a03 _ _ _ _) (nomark _)) (@a56 _ _ _ _ (@a07 _ _ _ _ _ _ _ _ (b15 K (by exact hr.units)) (aw0 (by rfl) T.m_NONE (by exact T.r_NONE)) (pv 3) (by with_unfolding_all rfl)))))) (@a04 _ _ _ (@a32 _ _ _ _ (a72 (pv 0) T.cl_TalkLook T.f_TalkLook_tell.M G_TalkLook_tell (hr.mono (by omega)) T.f_TalkLook_tell.b .nil a19 (@a00 _ _ _ _ _ (@a08 _ _ _ _) (@a00 _ _ _ _ _ (@a08 _ _ _ _) (@a01 _) (by rfl)) (by rfl))) (by rfl))) (@a11 _))
    (@a04 _ _ _ (@a69 _ _ _ _ _ _ _ _ PassesOwn.never rfl (ao3 K rfl T.z_enumerate (@a00 _ _ _ _ _ (@a15 _ _ _ _ _ _ _ (a10 K) (pv 1) (@a03 _ _ _ _) (fun _ _=>rfl)) (@a01 _) (by rfl))) (a93 K (n:=2) rfl (a34 (a16 (i:=4) sc_TalkLook_look_wait.nd rfl (by walk_at "o")) (a34 (a16 (i:=5) sc_TalkLook_look_wait.nd rfl (by walk_at "o")) (@a91 _)))) (@a41 _ _ _ _ _ (@a30 _ _ _ _ _ _ _ _ (@a07 _ _ _ _ _ _ _ _ (b15 K (by exact hr.units)) (@a15 _ _ _ _ _ _ _ (a10 K) (pv 5) (@a03 _ _ _ _) (fun _ _=>rfl)) (@a39 _ _ _ _ _ _ _ _ _ _ (a40 K) (pv 3) (@a57 _) (@a48 _ _ _ (pv 4))) (by with_unfolding_all rfl)) (@a04 _ _ _ (@a32 _ _ _ _ (a72 (pv 0) T.cl_TalkLook T.f_TalkLook_tell.M G_TalkLook_tell (hr.mono (by omega)) T.f_TalkLook_tell.b .nil a19 (@a00 _ _ _ _ _ (@a08 _ _ _ _) (@a00 _ _ _ _ _ (@a09 _ _ _ _ _ _ _ _ _ _ _ _ _ _ _ _ G_shown_pattern (hr.mono (by omega)) rfl T.f_shown_pattern.m T.f_shown_pattern.F.kp T.f_shown_pattern.b .nil a19 (@a00 _ _ _ _ _ (@a15 _ _ _ _ _ _ _ (a10 K) (pv 5) (@a03 _ _ _ _) (fun _ _=>rfl)) (@a01 _) (by rfl)) (by decide) (by rfl) (by rfl)) (@a01 _) (by rfl)) (by rfl))) (by rfl))) (@a11 _))
     (@a04 _ _ _ (@a32 _ _ _ _ (a72 (pv 0) T.cl_TalkLook T.f_TalkLook_look_body.M G_TalkLook_look_body (hr.mono (by omega)) T.f_TalkLook_look_body.b .nil a19 (@a00 _ _ _ _ _ (@a15 _ _ _ _ _ _ _ (a10 K) (pv 5) (@a03 _ _ _ _) (fun _ _=>rfl)) (@a00 _ _ _ _ _ (pv 2) (@a01 _) (by rfl)) (by rfl))) (by rfl)))) (by intro _; rfl))))),?_⟩
   have sl:(1000000:Nat)≤sizeLine:=le_line (Nat.le_refl _)
   obtain ⟨a,wl,ws,rfl,e0,e1,hE⟩:=sat_wait.mp hs
   obtain ⟨dx,nm,bl,tl,fl,h1,h2,h3,h4⟩:=hL.ex
   obtain ⟨k,rfl⟩:∃ k',k=k'+1:=by
    cases k with
    | zero=>exact hw.elim
    | succ k=>exact ⟨k,rfl⟩
   obtain ⟨w1,w2,w3,w4⟩:=hw
   walk_at "go"
   refine a22 (SqT.of e0) (a05 (j:=2) rfl) ?_
   walk_at "run"
   refine ⟨⟨ws,SqL.of e1⟩,ao2 (xs:=ws) (by rw [hE.1]; omega) (fun i acc H'=>H'=H∧Each (PAt H) acc ((ptsB bs).take i)) ⟨rfl,Each.nil⟩ (fun i acc H' ⟨h1,h2⟩=>⟨by rw [h2.1,List.length_take]; exact Nat.min_le_left _ _,by rw [h1]; exact SqL.of e1⟩) ?_ ?_⟩
   · rintro i x acc H' hx ⟨rfl,hA⟩
     obtain ⟨br,hbr⟩:∃ br,bs[i]?=some br:=⟨_,List.getElem?_eq_getElem (by rw [← hE.1]; exact (List.getElem?_eq_some_iff.mp hx).1)⟩
     have hba:=hE.2 i _ _ hx hbr
     cases br with
     | mk pp xx =>
       obtain ⟨q',pv,bv,rfl,hq,g1,g2⟩:=hba
       refine ⟨q',pv,bv,rfl,SqT.of hq,?_⟩
       walk_at "run"
       refine ⟨rfl,?_⟩
       rw [List.take_add_one,b29 hbr]
       exact hA.snoc g1
   · rintro acc H' ⟨rfl,hA⟩ pl H1 f1 s1 e2
     rw [hE.1,←b27,List.take_of_length_le (Nat.le_refl _)] at hA
     have hal:=hA.1
     walk_at "run"
     refine a95 (fun σ' H'=>σ'=[some (.ref p),some (.ref a),some (.bl lp),some (.ref pl),none,none]∧H'=H1) ?_ ?_
     · refine ba7 (False) (fun R hR=>?_) ?_
       · walk_at "run"
         refine a22 (SqT.of (s1 _ _ e0)) (a05 (j:=1) rfl) ?_
         walk_at "run"
         by_cases hn:n=0
         · refine a28 hn ?_
           walk_at "run"
           refine bo3 (t:=patB [.s "none"]) (ts:=(ptsB bs).map patB) (cf3 T.d_NONE) (SqL.of e2) (Tr.Ats.toK K (ay2 (hA.mono fun _ _ z=>z.same s1))) (by decide) (Nat.le_trans (ay3 _) (by decide)) ?_
           rw [decide_eq_false (fun z=>w3 hn (patB_mem.mp z))]
           exact ⟨_,rfl,rF hR id⟩
         · refine a23 hn ?_
           exact rF hR id
       · refine a23 id ?_
         exact ⟨rfl,rfl⟩
     rintro σ' H2 ⟨rfl,e12⟩
     rw [e12]
     clear e12 H2
     walk_at "run"
     refine a22 (SqT.of (s1 _ _ e0)) (a05 (j:=2) rfl) ?_
     walk_at "run"
     refine ⟨⟨_,SqL.of (s1 _ _ e1)⟩,b07 (K:=K) (a:=wl) (xs:=ws) (fun i σ H'=>Same H' H'∧Same H1 H'∧∃ y1 y2,σ=[some (.ref p),some (.ref a),some (.bl lp),some (.ref pl),y1,y2]) ⟨Same.refl _,Same.refl _,_,_,rfl⟩ (fun i σ H' _ zz=>by obtain ⟨_,z,_⟩:=zz; exact SqL.of (z _ _ (s1 _ _ e1))) ?_ ?_⟩
     · rintro i bv σ H2 pq H3 hv ⟨_,s2,y1,y2,rfl⟩ s3 e3
       obtain ⟨br,hbr⟩:∃ br,bs[i]?=some br:=⟨_,List.getElem?_eq_getElem (by rw [← hE.1]; exact (List.getElem?_eq_some_iff.mp hv).1)⟩
       have hba:=hE.2 i _ _ hv hbr
       have hbm:=List.mem_of_getElem? hbr
       cases br with
       | mk pp xx =>
         obtain ⟨q',pv,bv',rfl,hq,g1,g2⟩:=hba
         refine ⟨_,_,rfl,SqT.of e3,rfl,?_⟩
         walk_at "run"
         have s13:=s2.trans s3
         have sH3:=s1.trans s13
         refine a95 (fun σ' H'=>σ'=[some (.ref p),some (.ref a),some (.bl lp),some (.ref pl),some (.int (i:Nat)),some (.ref q')]∧Same H3 H') ?_ ?_
         · walk_at "run"
           refine a22 (SqT.of (sH3 _ _ hq)) (a05 (j:=0) rfl) ?_
           walk_at "run"
           refine ac7 (SqL.of (s13 _ _ e2)) ?_
           rw [ah8]
           intro p5 H5 f5 s5 e5
           have sH5:=sH3.trans s5
           have hpp:=b29 hbr
           refine bo3 (t:=patB pp) (ts:=((ptsB bs).take i).map patB) (Tr.At.toK K (g1.same sH5)) (SqL.of e5) (Tr.Ats.toK K (ay2 ((ag8 hA i).mono fun _ _ z=>z.same sH5))) (by have:=b57 pp; simp only [patB,Tr.h]; omega) (Nat.le_trans (ay3 _) (by decide)) ?_
           rw [decide_eq_false (fun z=>by
            obtain ⟨j,hj⟩:=List.mem_iff_getElem?.mp (patB_mem.mp z)
            rw [List.getElem?_take] at hj
            split at hj
            · rename_i hji
              have hil:=(List.getElem?_eq_some_iff.mp hpp).1
              have:=(List.getElem?_inj (by omega) w2).mp (hj.trans hpp.symm)
              omega
            · cases hj)]
           walk_at "run"
           exact ⟨rfl,s5⟩
         rintro σ' H5 ⟨rfl,s5⟩
         have sH5:=sH3.trans s5
         walk_at "run"
         obtain ⟨p0,x0,hz,hx0⟩:=w4 _ hbm
         cases hz
         refine ⟨p,dx,_,rfl,sH5 _ _ h1,am1 _ _ _ _ (by decide +kernel) (by decide +kernel) (by decide +kernel) (by decide +kernel),?_⟩
         walk_at "run"
         refine a22 (SqT.of (sH5 _ _ hq)) (a05 (j:=1) rfl) ?_
         walk_at "run"
         refine ⟨p,bv',lp,bn,tn,xx,k,L,rfl,hL.same sH5,g2.same sH5,hx0,hL1,by omega,fun H6 s6=>?_⟩
         walk_at "run"
         exact ⟨Same.refl _,s13.trans (s5.trans s6),_,_,rfl⟩
     · rintro σ H2 ⟨_,s2,y1,y2,rfl⟩
       walk_at "run"
       exact q H2 (s1.trans s2)
theorem a87 (T:Txt K mg t) {d:Nat}(G_TalkLook_look_wait:FnOk P w K mg base CX0 (3*d+21) t.a_TalkLook_look_wait t.fd_TalkLook_look_wait ["self","statement","in_loop"] (bp4 K t.c_TalkLook (d+1))) (G_TalkLook_look_body:FnOk P w K mg base CX0 (3*d+20) t.a_TalkLook_look_body t.fd_TalkLook_look_body ["self","body","in_loop"] (b30 K t.c_TalkLook d)):FnOk P w K mg base CX0 (3*d+22) t.a_TalkLook_look_statement t.fd_TalkLook_look_statement ["self","statement","in_loop"] (bp3 K t.c_TalkLook (d+1)):=by
 have G_TalkLook_look_names:=aa7 (P:=P) (w:=w) (base:=base) T
 have G_TalkLook_tell:=a73 (P:=P) (w:=w) (base:=base) T
 have G_bodies_of:=ai4 (P:=P) (w:=w) (base:=base) T
 have G_names_in:=ay1 (P:=P) (w:=w) (base:=base) T
 refine T.f_TalkLook_look_statement.F.ok sc_TalkLook_look_statement (fun vs H Q E h=>?_) (fun cdv A outer s H vs Q E hr h=>?_)
 · obtain ⟨p,v,lp,bn,tn,s,k,L,rfl,_⟩:=h
   rfl
 · obtain ⟨p,v,lp,bn,tn,s,k,L,rfl,hL,hs,hw,hL1,hk,q⟩:=h
   replace G_names_in:=G_names_in 12
   refine ⟨_,(@a02 _ _ _ _ _ (@a18 _ _ 3 _ _ _ _ sc_TalkLook_look_statement.nd rfl (by walk_at "o") (@a15 _ _ _ _ _ _ _ (a10 K) (pv 1) (@a03 _ _ _ _) (fun _ _=>rfl)) (by rfl) (by walk_at "o"))
    (@a02 _ _ _ _ _ (@a30 _ _ _ _ _ _ _ _ (@a07 _ _ _ _ _ _ _ _ a36 (pv 3) (@a08 _ _ _ _) (nomark _)) (@a02 _ _ _ _ _ (@a32 _ _ _ _ (a72 (pv 0) T.cl_TalkLook T.f_TalkLook_look_wait.M G_TalkLook_look_wait (hr.mono (by omega)) T.f_TalkLook_look_wait.b .nil a19 (@a00 _ _ _ _ _ (pv 1) (@a00 _ _ _ _ _ (pv 2) (@a01 _) (by rfl)) (by rfl))) (by rfl))
     (@a04 _ _ _ (@bq3 _ _))) (@a11 _))
    (@a41 _ _ _ _ _ (@a30 _ _ _ _ _ _ _ _ (@a07 _ _ _ _ _ _ _ _ a36 (pv 3) (@a08 _ _ _ _) (nomark _)) (@a04 _ _ _ (@a32 _ _ _ _ (a72 (pv 0) T.cl_TalkLook T.f_TalkLook_look_names.M G_TalkLook_look_names (hr.mono (by omega)) T.f_TalkLook_look_names.b .nil a19 (@a00 _ _ _ _ _ (@a33 _ _ _ _ _ _ _ _ a21 (@a13 _ _ _ _ (@a00 _ _ _ _ _ (@a15 _ _ _ _ _ _ _ (a10 K) (pv 1) (@a03 _ _ _ _) (fun _ _=>rfl)) (@a01 _) (by rfl))) (@a09 _ _ _ _ _ _ _ _ _ _ _ _ _ _ _ _ G_names_in (hr.mono (by omega)) rfl T.f_names_in.m T.f_names_in.F.kp T.f_names_in.b .nil a19 (@a00 _ _ _ _ _ (@a15 _ _ _ _ _ _ _ (a10 K) (pv 1) (@a03 _ _ _ _) (fun _ _=>rfl)) (@a01 _) (by rfl)) (by decide) (by rfl) (by rfl))) (@a01 _) (by rfl))) (by rfl))) (@a11 _))
    (@a41 _ _ _ _ _ (@a30 _ _ _ _ _ _ _ _ (@a07 _ _ _ _ _ _ _ _ a36 (pv 3) (@a08 _ _ _ _) (nomark _)) (@a04 _ _ _ (@a32 _ _ _ _ (a72 (pv 0) T.cl_TalkLook T.f_TalkLook_look_names.M G_TalkLook_look_names (hr.mono (by omega)) T.f_TalkLook_look_names.b .nil a19 (@a00 _ _ _ _ _ (@a09 _ _ _ _ _ _ _ _ _ _ _ _ _ _ _ _ G_names_in (hr.mono (by omega)) rfl T.f_names_in.m T.f_names_in.F.kp T.f_names_in.b .nil a19 (@a00 _ _ _ _ _ (@a15 _ _ _ _ _ _ _ (a10 K) (pv 1) (@a03 _ _ _ _) (fun _ _=>rfl)) (@a01 _) (by rfl)) (by decide) (by rfl) (by rfl)) (@a01 _) (by rfl))) (by rfl))) (@a11 _))
    (@a41 _ _ _ _ _ (@a30 _ _ _ _ _ _ _ _ (@aw9 _ _ _ (@PW.pt _ _ _ (@a68 _ _ _ _ _ _ _ (@a07 _ _ _ _ _ _ _ _ a36 (pv 3) (@a08 _ _ _ _) (nomark _)) (@a56 _ _ _ _ (@a07 _ _ _ _ _ _ _ _ (af5 K) (@a15 _ _ _ _ _ _ _ (a10 K) (pv 1) (@a03 _ _ _ _) (fun _ _=>rfl)) (ax2 K (pv 0) rfl) (by with_unfolding_all rfl)))))) (@a04 _ _ _ (@a32 _ _ _ _ (a72 (pv 0) T.cl_TalkLook T.f_TalkLook_tell.M G_TalkLook_tell (hr.mono (by omega)) T.f_TalkLook_tell.b .nil a19 (@a00 _ _ _ _ _ (@a08 _ _ _ _) (@a00 _ _ _ _ _ (@a15 _ _ _ _ _ _ _ (a10 K) (pv 1) (@a03 _ _ _ _) (fun _ _=>rfl)) (@a01 _) (by rfl)) (by rfl))) (by rfl))) (@a11 _))
    (@a41 _ _ _ _ _ (@a30 _ _ _ _ _ _ _ _ (@aw9 _ _ _ (@PW.pt _ _ _ (@a68 _ _ _ _ _ _ _ (@PW.pt _ _ _ (@bq2 _ _ _ _ _ _ _ (@a07 _ _ _ _ _ _ _ _ a36 (pv 3) (@a08 _ _ _ _) (nomark _)) (@b64 _ _ _ _ (@a07 _ _ _ _ _ _ _ _ a36 (pv 3) (@a08 _ _ _ _) (nomark _))))) (@a56 _ _ _ _ (@by2 _ _ _ _ (ab3 K (pv 2) (fun _=>rfl))))))) (@a04 _ _ _ (@a32 _ _ _ _ (a72 (pv 0) T.cl_TalkLook T.f_TalkLook_tell.M G_TalkLook_tell (hr.mono (by omega)) T.f_TalkLook_tell.b .nil a19 (@a00 _ _ _ _ _ (pv 3) (@a00 _ _ _ _ _ (@a08 _ _ _ _) (@a01 _) (by rfl)) (by rfl))) (by rfl))) (@a11 _))
    (@a04 _ _ _ (@a69 _ _ _ _ _ _ _ _ PassesOwn.never rfl (a25 K (@a09 _ _ _ _ _ _ _ _ _ _ _ _ _ _ _ _ G_bodies_of (hr.mono (by omega)) rfl T.f_bodies_of.m T.f_bodies_of.F.kp T.f_bodies_of.b .nil a19 (@a00 _ _ _ _ _ (pv 1) (@a01 _) (by rfl)) (by decide) (by rfl) (by rfl))) (a16 (i:=4) sc_TalkLook_look_statement.nd rfl (by walk_at "o")) (@a04 _ _ _ (@a32 _ _ _ _ (a72 (pv 0) T.cl_TalkLook T.f_TalkLook_look_body.M G_TalkLook_look_body (hr.mono (by omega)) T.f_TalkLook_look_body.b .nil a19 (@a00 _ _ _ _ _ (pv 4) (@a00 _ _ _ _ _ (@by3 _ _ _ _ _ _ _ (pv 2) (@bm1 _ _ _ _ _ (@aj9 _ _ _ _ _ _ _ _ a36 (pv 3) (@a08 _ _ _ _) (nomark _)))) (@a01 _) (by rfl)) (by rfl))) (by rfl))) (by intro _; rfl))))))))),?_⟩
   have sl:(1000000:Nat)≤sizeLine:=le_line (Nat.le_refl _)
   have hkd:=bv9 hL1 hw
   obtain ⟨a,us,rfl,ea⟩:=an7 hs hkd
   obtain ⟨dx,nm,bl,tl,fl,h1,h2,h3,h4⟩:=hL.ex
   walk_at "go"
   refine a22 (SqT.of ea) (a05 (j:=0) rfl) ?_
   walk_at "run"
   by_cases c1:s.wd=Str.ofString "wait"
   · refine a28 c1 ?_
     walk_at "run"
     obtain ⟨n,bs,rfl⟩:=ax5 hkd c1
     refine ⟨p,dx,_,rfl,h1,am1 _ _ _ _ (by decide +kernel) (by decide +kernel) (by decide +kernel) (by decide +kernel),?_⟩
     walk_at "run"
     refine ⟨p,.ref a,lp,bn,tn,n,bs,k,L,rfl,hL,hs,hw,hL1,hk,fun H1 s1=>?_⟩
     walk_at "run"
     exact q H1 s1
   refine a23 c1 ?_
   walk_at "run"
   refine a95 (fun σ' H'=>σ'=[some (.ref p),some (.ref a),some (.bl lp),some (.str s.wd),none]∧Same H H') ?_ ?_
   · walk_at "run"
     by_cases c2:s.wd=Str.ofString "put"
     · refine a28 c2 ?_
       walk_at "run"
       obtain ⟨m,e,rfl⟩:=c85 hkd c2
       obtain ⟨hm,hT⟩:=okS_put.mp hw
       obtain ⟨a',u,hz,ea',hu⟩:=cf1 hs
       cases hz
       refine ⟨p,dx,_,rfl,h1,am1 _ _ _ _ (by decide +kernel) (by decide +kernel) (by decide +kernel) (by decide +kernel),?_⟩
       walk_at "run"
       refine a22 (SqT.of ea') (a05 (j:=1) rfl) ?_
       walk_at "run"
       intro l1 H1 f1 s1 e1
       walk_at "run"
       refine a22 (SqT.of (s1 _ _ ea')) (a05 (j:=2) rfl) ?_
       walk_at "run"
       refine ⟨u,.ex e,rfl,hu.mono s1.tups,Nat.lt_trans hT.h (by decide),Nat.le_trans hT.z (by decide),fun l2 H2 f2 s2 e2=>?_⟩
       have hzl:=Th.names_le (.ex e)
       have hz:=hT.z
       walk_at "run"
       refine a31 (s2 _ _ e1) e2 (by unfold a27; rw [List.length_map]; simp only [List.length_cons,List.length_nil]; omega) ?_
       intro l3 H3 f3 s3 e3
       have s13:=s1.trans (s2.trans s3)
       refine ⟨p,l3,bn,tn,m::(Th.ex e).names,rfl,hL.same s13,e3,fun y hy=>?_,?_⟩
       · rcases List.mem_cons.mp hy with rfl | hy
         · exact hm
         · exact hT.n y hy
       · exact ⟨rfl,s13⟩
     · refine a23 c2 ?_
       walk_at "run"
       exact ⟨rfl,Same.refl _⟩
   rintro σ' H1 ⟨rfl,s1⟩
   walk_at "run"
   refine a95 (fun σ' H'=>σ'=[some (.ref p),some (.ref a),some (.bl lp),some (.str s.wd),none]∧Same H H') ?_ ?_
   · walk_at "run"
     by_cases c2:s.wd=Str.ofString "test"
     · refine a28 c2 ?_
       walk_at "run"
       obtain ⟨c,x,y,rfl⟩:=ap1 hkd c2
       have hT:ThO bn (.cd c):=by
        cases k with
        | zero=>exact hw.elim
        | succ k=>exact hw.1
       obtain ⟨a',u,u2,u3,hz,ea',hu⟩:=cf2 hs
       cases hz
       refine ⟨p,dx,_,rfl,s1 _ _ h1,am1 _ _ _ _ (by decide +kernel) (by decide +kernel) (by decide +kernel) (by decide +kernel),?_⟩
       walk_at "run"
       refine a22 (SqT.of (s1 _ _ ea')) (a05 (j:=1) rfl) ?_
       walk_at "run"
       refine ⟨u,.cd c,rfl,hu.mono s1.tups,Nat.lt_trans hT.h (by decide),Nat.le_trans hT.z (by decide),fun l2 H2 f2 s2 e2=>?_⟩
       walk_at "run"
       exact ⟨p,l2,bn,tn,(Th.cd c).names,rfl,hL.same (s1.trans s2),e2,hT.n,rfl,s1.trans s2⟩
     · refine a23 c2 ?_
       walk_at "run"
       exact ⟨rfl,s1⟩
   rintro σ' H2 ⟨rfl,s2⟩
   walk_at "run"
   refine a95 (fun σ' H'=>σ'=[some (.ref p),some (.ref a),some (.bl lp),some (.str s.wd),none]∧H'=H2) ?_ ?_
   · refine ba7 (False) (fun R hR=>?_) ?_
     · walk_at "run"
       by_cases c2:s.wd=Str.ofString "call"
       · refine a28 c2 ?_
         walk_at "run"
         obtain ⟨c,rfl⟩:=aq7 hkd c2
         obtain ⟨a',hz,ea'⟩:=b21 hs
         cases hz
         refine a22 (SqT.of (s2 _ _ ea')) (a05 (j:=1) rfl) ?_
         walk_at "run"
         refine ⟨p,_,dx,_,_,rfl,s2 _ _ h1,T.cl_TalkLook,T.n_TalkLook_talk_names,c81 _ _ _ _,?_⟩
         refine au9 (SqL.of (s2 _ _ h3)) ?_
         have hc:c∈tn:=by
          rcases okS_pl.mp hw with ⟨w,e⟩ | ⟨l,w,e⟩ | ⟨c',h1,e⟩ | ⟨_,e | e⟩ | e | e
          · exact absurd (congrArg (fun l=>l.head?) e) (by simp; decide +kernel)
          · simp at e
          · simp at e; rw [e]; exact h1
          all_goals simp at e
         rw [decide_eq_true hc]
         exact ⟨_,rfl,rF hR id⟩
       · refine a23 c2 ?_
         exact rF hR id
     · refine a23 id ?_
       walk_at "run"
       exact ⟨rfl,rfl⟩
   rintro σ' H3 ⟨rfl,e32⟩
   subst e32
   walk_at "run"
   refine a95 (fun σ' H'=>σ'=[some (.ref p),some (.ref a),some (.bl lp),some (.str s.wd),none]∧H'=H3) ?_ ?_
   · refine ba7 (False) (fun R hR=>?_) ?_
     · walk_at "run"
       have hal:s.wd=Str.ofString "again"∨s.wd=Str.ofString "leave"→lp=true:=fun z=>by
        cases s with
        | plain ps =>
          rcases okS_pl.mp hw with ⟨w,rfl⟩ | ⟨l,w,rfl⟩ | ⟨c',h1,rfl⟩ | ⟨h,_⟩ | rfl | rfl
          · exact absurd z (by simp only [Stm.wd]; decide +kernel)
          · exact absurd z (by simp only [Stm.wd]; decide +kernel)
          · exact absurd z (by simp only [Stm.wd]; decide +kernel)
          · exact h
          · exact absurd z (by decide +kernel)
          · exact absurd z (by decide +kernel)
        | _=>exact absurd z (by simp only [Stm.wd]; decide +kernel)
       by_cases c2:s.wd=Str.ofString "again"
       · refine a28 c2 ?_
         walk_at "run"
         rw [hal (.inl c2)]
         exact rF hR id
       · refine a23 c2 ?_
         walk_at "run"
         by_cases c3:s.wd=Str.ofString "leave"
         · refine a28 c3 ?_
           walk_at "run"
           rw [hal (.inr c3)]
           exact rF hR id
         · refine a23 c3 ?_
           exact rF hR id
     · refine a23 id ?_
       walk_at "run"
       exact ⟨rfl,rfl⟩
   rintro σ' H4 ⟨rfl,e43⟩
   subst e43
   walk_at "run"
   refine ⟨.ref a,s,H,tn,rfl,s2,hs,hkd,fun l us5 H5 f5 s5 e5 hE=>?_⟩
   have s25:=s2.trans s5
   refine ⟨l,rfl,⟨us5,SqL.of e5⟩,a60 (xs:=us5) (fun i σ H'=>Same H H'∧H' l=some (.lst us5)∧∃ y,σ=[some (.ref p),some (.ref a),some (.bl lp),some (.str s.wd),y]) ⟨s25,e5,_,rfl⟩ (fun i σ H' _ zz=>by obtain ⟨_,z,_⟩:=zz; exact SqL.of z) ?_ ?_⟩
   · rintro i bv σ H6 hv ⟨s6,e6,y,rfl⟩
     obtain ⟨b,hb⟩:∃ b,(a24 s)[i]?=some b:=⟨_,List.getElem?_eq_getElem (by rw [← hE.1]; exact (List.getElem?_eq_some_iff.mp hv).1)⟩
     have hbm:=List.mem_of_getElem? hb
     have hbv:=(hE.2 i _ _ hv hb).same s6
     obtain ⟨j,lp',rfl,hB⟩:=bv8 hw b hbm
     have hB:okB L bn tn j (lp || decide (s.wd=Str.ofString "loop")) b:=cf4 hw b hbm
     walk_at "run"
     refine ⟨p,dx,_,rfl,s6 _ _ h1,am1 _ _ _ _ (by decide +kernel) (by decide +kernel) (by decide +kernel) (by decide +kernel),?_⟩
     walk_at "run"
     by_cases hlp:lp=true
     · rw [if_pos hlp]
       walk_at "run"
       refine ⟨p,bv,true,bn,tn,b,j,L,rfl,hL.same s6,hbv,(by rw [hlp,Bool.true_or] at hB; exact hB),hL1,by omega,fun H7 s7=>?_⟩
       walk_at "run"
       exact ⟨s6.trans s7,s7 _ _ e6,_,rfl⟩
     · rw [if_neg hlp]
       walk_at "run"
       refine ⟨p,bv,decide (s.wd=Str.ofString "loop"),bn,tn,b,j,L,rfl,hL.same s6,hbv,(by rw [Bool.eq_false_iff.mpr hlp,Bool.false_or] at hB; exact hB),hL1,by omega,fun H7 s7=>?_⟩
       walk_at "run"
       exact ⟨s6.trans s7,s7 _ _ e6,_,rfl⟩
   · rintro σ H6 ⟨s6,e6,y,rfl⟩
     walk_at "run"
     exact q H6 s6
theorem ab9 (T:Txt K mg t) {d:Nat}(G_TalkLook_look_statement:FnOk P w K mg base CX0 (3*d+22) t.a_TalkLook_look_statement t.fd_TalkLook_look_statement ["self","statement","in_loop"] (bp3 K t.c_TalkLook (d+1))):FnOk P w K mg base CX0 (3*d+23) t.a_TalkLook_look_body t.fd_TalkLook_look_body ["self","body","in_loop"] (b30 K t.c_TalkLook (d+1)):=by
 refine T.f_TalkLook_look_body.F.ok sc_TalkLook_look_body (fun vs H Q E h=>?_) (fun cdv A outer s H vs Q E hr h=>?_)
 · obtain ⟨p,bv,lp,bn,tn,b,k,L,rfl,_⟩:=h
   rfl
 · obtain ⟨p,bv,lp,bn,tn,b,k,L,rfl,hL,hb,hw,hL1,hk,q⟩:=h
   refine ⟨_,(@a04 _ _ _ (@a69 _ _ _ _ _ _ _ _ PassesOwn.never rfl (a25 K (pv 1)) (a16 (i:=3) sc_TalkLook_look_body.nd rfl (by walk_at "o")) (@a04 _ _ _ (@a32 _ _ _ _ (a72 (pv 0) T.cl_TalkLook T.f_TalkLook_look_statement.M G_TalkLook_look_statement (hr.mono (by omega)) T.f_TalkLook_look_statement.b .nil a19 (@a00 _ _ _ _ _ (pv 3) (@a00 _ _ _ _ _ (pv 2) (@a01 _) (by rfl)) (by rfl))) (by rfl))) (by intro _; rfl))),?_⟩
   have sl:(1000000:Nat)≤sizeLine:=le_line (Nat.le_refl _)
   obtain ⟨bl,us,rfl,e0,hE⟩:=bat_iff.mp hb
   obtain ⟨dx,nm,bl',tl,fl,h1,h2,h3,h4⟩:=hL.ex
   walk_at "go"
   refine ⟨⟨us,SqL.of e0⟩,a60 (xs:=us) (fun i σ H'=>Same H H'∧∃ y,σ=[some (.ref p),some (.ref bl),some (.bl lp),y]) ⟨Same.refl _,_,rfl⟩ (fun i σ H' _ zz=>by obtain ⟨z,_⟩:=zz; exact SqL.of (z _ _ e0)) ?_ ?_⟩
   · rintro i sv σ H6 hv ⟨s6,y,rfl⟩
     obtain ⟨s,hs⟩:∃ s,b[i]?=some s:=⟨_,List.getElem?_eq_getElem (by rw [← hE.1]; exact (List.getElem?_eq_some_iff.mp hv).1)⟩
     walk_at "run"
     refine ⟨p,dx,_,rfl,s6 _ _ h1,am1 _ _ _ _ (by decide +kernel) (by decide +kernel) (by decide +kernel) (by decide +kernel),?_⟩
     walk_at "run"
     refine ⟨p,sv,lp,bn,tn,s,k,L,rfl,hL.same s6,(hE.2 i _ _ hv hs).same s6,hw.2 s (List.mem_of_getElem? hs),hL1,hk,fun H7 s7=>?_⟩
     walk_at "run"
     exact ⟨s6.trans s7,_,rfl⟩
   · rintro σ H6 ⟨s6,y,rfl⟩
     walk_at "run"
     exact q H6 s6
theorem a49 (T:Txt K mg t):∀ d:Nat,FnOk P w K mg base CX0 (3*d+20) t.a_TalkLook_look_body t.fd_TalkLook_look_body ["self","body","in_loop"] (b30 K t.c_TalkLook d)
 | 0=>vac fun vs H Q E ⟨_,_,_,_,_,_,_,_,_,_,_,_,_,h,_⟩=>Nat.not_lt_zero _ h
 | d+1=>ab9 T (a87 T (ab8 T (a49 T d)) (a49 T d))
structure TkO (L:Nat) (ts:Tks) (bn:List Str) (rk:Str→Nat):Prop where
 l:ts.length≤100
 m:L≤1000
 u:(ts.map (·.1)).Nodup
 o:∀ x∈ts,okB L bn (ts.map (·.1)) 10 false x.2
 z:∀ x∈ts,(allB x.2).length≤1000
 c:∀ x∈ts,∀ c,ae4 c x.2→rk x.1<rk c
theorem be8 {ts:Tks}{c:Str}(h:c∈ts.map (·.1)):∃ b,a29 ts c=some b:=by
 unfold a29
 obtain ⟨x,hx,rfl⟩:=List.mem_map.mp h
 cases e:ts.find? fun t=>decide (t.1=x.1) with
 | some y=>exact ⟨y.2,rfl⟩
 | none=>have:=List.find?_eq_none.mp e x hx; simp at this
theorem TkO.kd {L:Nat}{ts:Tks}{bn:List Str}{rk:Str→Nat}(h:TkO L ts bn rk) {x:Str×List Stm}(hx:x∈ts):KdB (ts.map (·.1)) x.2:=bp2 h.m (h.o x hx)
theorem TkO.hs {L:Nat}{ts:Tks}{bn:List Str}{rk:Str→Nat}(h:TkO L ts bn rk) {x:Str×List Stm}(hx:x∈ts):Tr.hs (Stm.trs x.2)<100:=by
 have:=ad6 (b:=x.2) (n:=24+4*10) fun s hs=>cf0 10 false s ((h.o x hx).2 s hs)
 omega
theorem TkO.call {L:Nat}{ts:Tks}{bn:List Str}{rk:Str→Nat}(h:TkO L ts bn rk) {x:Str×List Stm}(hx:x∈ts) {c:Str}(hc:ae4 c x.2):∃ b,a29 ts c=some b:=by
 have:=h.kd hx _ hc
 rcases this with ⟨w,e⟩ | ⟨l,w,e⟩ | ⟨w,e,hw⟩ | e | e | e | e
 · exact absurd (congrArg (fun l=>l.head?) e) (by simp; decide +kernel)
 · simp at e
 · simp at e
   subst e
   exact be8 hw
 all_goals simp at e
def cf5 (K:PySem.W.Frag):Sp:=fun vs H Q _=>∃ (tv:V) (ts:Tks) (L:Nat) (bn:List Str) (rk:Str→Nat),vs=[tv]∧TksAt H tv ts∧TkO L ts bn rk∧∀ p H',Same H H'→H p=none→H' p=some (.lst [])→Q (.ref p) H'
theorem am2 (T:Txt K mg t):FnOk P w K mg base CX0 107 t.a_round_faults t.fd_round_faults ["talks"] (cf5 K):=by
 have G_called_talks:=am0 (P:=P) (w:=w) (base:=base) T
 have G_comes_round:=am7 (P:=P) (w:=w) (base:=base) T
 refine T.f_round_faults.F.ok sc_round_faults (fun vs H Q E h=>?_) (fun cdv A outer s H vs Q E hr h=>?_)
 · obtain ⟨tv,ts,L,bn,rk,rfl,_⟩:=h
   rfl
 · obtain ⟨tv,ts,L,bn,rk,rfl,ht,hO,q⟩:=h
   refine ⟨_,(@a02 _ _ _ _ _ (@a18 _ _ 1 _ _ _ _ sc_round_faults.nd rfl (by walk_at "o") (af3 (Nt:=["name","body"]) (Nf:=["talks"]) (caps:=[0]) rfl (a45 (sc:=a06 a65) rfl rfl (by decide +kernel) (by decide +kernel) (by decide +kernel) rfl (by decide +kernel)) (a25 K (pv 0)) (fun _ _ _ _ _=>(a93 K (n:=2) rfl (a34 (a16 (i:=0) (show (["name","body","talks"]:List Str).Nodup by decide +kernel) rfl (by walk_at "o")) (a34 (a16 (i:=1) (show (["name","body","talks"]:List Str).Nodup by decide +kernel) rfl (by walk_at "o")) (@a91 _))))) (fun _ _ _ _ _=>(@a92 _)) (fun _ _ _ _ _=>(@a09 _ _ _ _ _ _ _ _ _ _ _ _ _ _ _ _ G_called_talks (hr.mono (by omega)) rfl T.f_called_talks.m T.f_called_talks.F.kp T.f_called_talks.b .nil a19 (@a00 _ _ _ _ _ (pv 2) (@a00 _ _ _ _ _ (pv 1) (@a01 _) (by rfl)) (by rfl)) (by decide) (by rfl) (by rfl)))) (by rfl) (by walk_at "o"))
    (@a04 _ _ _ (@a14 _ _ _ _ (af3 (Nt:=["place","talk"]) (Nf:=["called"]) (caps:=[1]) rfl (a45 (sc:=a06 a65) rfl rfl (by decide +kernel) (by decide +kernel) (by decide +kernel) rfl (by decide +kernel)) (ao3 K rfl T.z_enumerate (@a00 _ _ _ _ _ (pv 0) (@a01 _) (by rfl))) (fun _ _ _ _ _=>(a93 K (n:=2) rfl (a34 (a16 (i:=0) (show (["place","talk","called"]:List Str).Nodup by decide +kernel) rfl (by walk_at "o")) (a34 (a16 (i:=1) (show (["place","talk","called"]:List Str).Nodup by decide +kernel) rfl (by walk_at "o")) (@a91 _))))) (fun _ _ _ _ _=>(@aa0 _ _ _ (ab3 K (@a09 _ _ _ _ _ _ _ _ _ _ _ _ _ _ _ _ G_comes_round (hr.mono (by omega)) rfl T.f_comes_round.m T.f_comes_round.F.kp T.f_comes_round.b .nil a19 (@a00 _ _ _ _ _ (pv 0) (@a00 _ _ _ _ _ (pv 2) (@a01 _) (by rfl)) (by rfl)) (by decide) (by rfl) (by rfl)) (fun _=>rfl)))) (fun _ _ _ _ _=>(@a26 _ _ _ _ _ (@a00 _ _ _ _ _ (@a15 _ _ _ _ _ _ _ (a10 K) (pv 1) (@a03 _ _ _ _) (fun _ _=>rfl)) (@a00 _ _ _ _ _ (@a08 _ _ _ _) (@a00 _ _ _ _ _ (@a08 _ _ _ _) (@a01 _) (by rfl)) (by rfl)) (by rfl)))))))),?_⟩
   have sl:(1000000:Nat)≤sizeLine:=le_line (Nat.le_refl _)
   obtain ⟨lt,tvs,rfl,et,hE,hl⟩:=ht
   walk_at "go"
   refine ⟨⟨tvs,SqL.of et⟩,ao2 (xs:=tvs) (by rw [hE.1]; omega) (fun i acc H'=>Same H H'∧∃ Ks:List (List Nat),Ks.length=i∧Each (bv5 H') acc Ks∧∀ (j:Nat) (ks:List Nat),Ks[j]?=some ks→ks.length≤1000∧∀ k∈ks,∃ (x y:Str×List Stm),ts[j]?=some x∧ts[k]?=some y∧ae4 y.1 x.2) ⟨Same.refl _,[],rfl,Each.nil,fun j ks h=>by cases h⟩ (fun i acc H' ⟨h1,Ks,h2,h3,_⟩=>⟨by rw [h3.1,h2]; exact Nat.le_refl _,SqL.of (h1 _ _ et)⟩) ?_ ?_⟩
   · rintro i v acc H2 hv ⟨s2,Ks,hKl,hA,hK⟩
     obtain ⟨x,hx⟩:∃ x,ts[i]?=some x:=⟨_,List.getElem?_eq_getElem (by rw [← hE.1]; exact (List.getElem?_eq_some_iff.mp hv).1)⟩
     have hxm:=List.mem_of_getElem? hx
     obtain ⟨a,u,rfl,ea,hb⟩:=hE.2 i _ _ hv hx
     refine ⟨a,_,u,rfl,SqT.of (s2 _ _ ea),?_⟩
     walk_at "run"
     refine ⟨.ref lt,u,ts,x.2,ts.map (·.1),rfl,⟨lt,tvs,rfl,s2 _ _ et,hE.mono fun _ _ z=>z.same s2,hl⟩,hb.same s2,hO.kd hxm,hO.hs hxm,Nat.le_trans (hO.z x hxm) (by decide),fun c hc=>hO.call hxm hc,fun l3 ks H3 f3 s3 e3 hkl hks=>?_⟩
     refine ⟨s2.trans s3,Ks++[ks],by simp [hKl],(hA.mono fun v k z=>by obtain ⟨a,z1,z2⟩:=z; exact ⟨a,z1,s3 _ _ z2⟩).snoc ⟨l3,rfl,e3⟩,fun j ks' hj=>?_⟩
     by_cases hji:j<Ks.length
     · rw [List.getElem?_append_left hji] at hj
       exact hK j ks' hj
     · rw [List.getElem?_append_right (by omega)] at hj
       have:j - Ks.length=0:=by
        have:=(List.getElem?_eq_some_iff.mp hj).1
        simp at this
        omega
       rw [this] at hj
       obtain rfl:=Option.some.inj hj
       refine ⟨Nat.le_trans hkl (hO.z x hxm),fun k hk=>?_⟩
       obtain ⟨y,h1,h2⟩:=hks k hk
       exact ⟨x,y,by rw [show j=i by omega]; exact hx,h1,h2⟩
   · rintro acc H2 ⟨s2,Ks,hKl,hA,hK⟩ cl H3 f3 s3 e3
     walk_at "run"
     have sH3:=s2.trans s3
     have hA3:Each (bv5 H3) acc Ks:=hA.mono fun v k z=>by obtain ⟨a,z1,z2⟩:=z; exact ⟨a,z1,s3 _ _ z2⟩
     have hKt:Ks.length=ts.length:=by rw [hKl,hE.1]
     refine ⟨⟨_,SqL.of (sH3 _ _ et)⟩,ba6 (xs:=tvs) (by rw [hE.1]; omega) (fun i acc H'=>Same H3 H'∧acc=[]) ⟨Same.refl _,rfl⟩ (fun i acc H' ⟨h1,h2⟩=>⟨by rw [h2]; exact Nat.zero_le _,SqL.of ((sH3.trans h1) _ _ et)⟩) ?_ ?_⟩
     · rintro i v acc' H4 H5 hv ⟨s4,rfl⟩ s5
       have s45:=s4.trans s5
       have hil:=(List.getElem?_eq_some_iff.mp hv).1
       walk_at "run"
       refine ⟨i,cl,acc,Ks,fun k=>rk ((ts.map (·.1)).getD k ⟨#[]⟩),rfl,s45 _ _ e3,hA3.mono fun v k z=>(by obtain ⟨a,z1,z2⟩:=z; exact ⟨a,z1,s45 _ _ z2⟩),by have:=hO.l; omega,fun ks hks=>?_,fun j ks hj k hk=>?_,by rw [hKt,←hE.1]; exact hil,fun H6 s6=>?_⟩
       · obtain ⟨j,hj⟩:=List.mem_iff_getElem?.mp hks
         obtain ⟨h1,h2⟩:=hK j ks hj
         refine ⟨h1,fun k hk=>?_⟩
         obtain ⟨x,y,_,h4,_⟩:=h2 k hk
         rw [hKt]
         exact (List.getElem?_eq_some_iff.mp h4).1
       · obtain ⟨x,y,h3,h4,h5⟩:=(hK j ks hj).2 k hk
         have g1:(ts.map (·.1)).getD j ⟨#[]⟩=x.1:=by simp [List.getD,h3]
         have g2:(ts.map (·.1)).getD k ⟨#[]⟩=y.1:=by simp [List.getD,h4]
         show rk _<rk _
         rw [g1,g2]
         exact hO.c x (List.mem_of_getElem? h3) _ h5
       · walk_at "run"
         exact ⟨s45.trans s6,rfl⟩
     · rintro acc' H4 ⟨s4,rfl⟩ p H5 f5 s5 e5
       have s:=sH3.trans (s4.trans s5)
       exact q p H5 s (a42 (sH3.trans s4) f5) e5
def dryE (E:List Wd):Bool:=decide (.on∈E) || decide (.again∈E)
def ad1 (ts:Tks):Stm→Bool
 | .loop x=>match eBf (eS ts 30) x with
   | some E=>dryE E
   | none=>false
 | _=>false
def dueL (ts:Tks) (us:Tks):List Str:=us.flatMap fun t=>List.replicate ((allB t.2).countP (ad1 ts)) t.1
def RowD (H:Hp) (v:V) (nm:Str):Prop:=∃ a,v=.ref a∧H a=some (.tup [.str nm,.str "dry",.str ""])
def bw2 (ts:Tks):Prop:=∀ t∈ts,∀ x,Stm.loop x∈allB t.2→∃ E,eBf (eS ts 30) x=some E
def c86 (K:PySem.W.Frag):Sp:=fun vs H Q _=>∃ (v tv:V) (kd:Addr) (kvs:List (Key×V)) (x:List Stm) (ts:Tks) (E:List Wd) (p:Addr→Prop),vs=[v,tv,.ref kd]∧SAt (woO (some kd) H) v (.loop x)∧TksAt (woO (some kd) H) tv ts∧KnAt p ts H kd kvs∧eBf (eS ts 30) x=some E∧∀ H' kvs',KS kd H H'→KnAt p ts H' kd kvs'→Q (.bl (dryE E)) H'
theorem be9 (T:Txt K mg t):FnOk P w K mg base CX0 95 t.a_is_dry t.fd_is_dry ["loop","talks","known"] (c86 K):=by
 have G_ends_of_body:=a85 (P:=P) (w:=w) (base:=base) T
 refine T.f_is_dry.F.ok sc_is_dry (fun vs H Q E h=>?_) (fun cdv A outer s H vs Q E hr h=>?_)
 · obtain ⟨v,tv,kd,kvs,x,ts,E,p,rfl,_⟩:=h
   rfl
 · obtain ⟨v,tv,kd,kvs,x,ts,E0,p,rfl,hs,ht,hk,he,q⟩:=h
   replace G_ends_of_body:=G_ends_of_body 31
   refine ⟨_,(@a02 _ _ _ _ _ (@a18 _ _ 3 _ _ _ _ sc_is_dry.nd rfl (by walk_at "o") (@a09 _ _ _ _ _ _ _ _ _ _ _ _ _ _ _ _ G_ends_of_body (hr.mono (by omega)) rfl T.f_ends_of_body.m T.f_ends_of_body.F.kp T.f_ends_of_body.b .nil a19 (@a00 _ _ _ _ _ (@a15 _ _ _ _ _ _ _ (a10 K) (pv 0) (@a03 _ _ _ _) (fun _ _=>rfl)) (@a00 _ _ _ _ _ (pv 1) (@a00 _ _ _ _ _ (pv 2) (@a01 _) (by rfl)) (by rfl)) (by rfl)) (by decide) (by rfl) (by rfl)) (by rfl) (by walk_at "o"))
    (@a04 _ _ _ (@a14 _ _ _ _ (@by3 _ _ _ _ _ _ _ (@aj9 _ _ _ _ _ _ _ _ (ad3 K) (@a08 _ _ _ _) (pv 3) (by with_unfolding_all rfl)) (@bm1 _ _ _ _ _ (@aj9 _ _ _ _ _ _ _ _ (ad3 K) (@a08 _ _ _ _) (pv 3) (by with_unfolding_all rfl))))))),?_⟩
   obtain ⟨a,u,rfl,e0,hb⟩:=sat_loop.mp hs
   walk_at "go"
   refine a22 (SqT.of (woL _ _ e0)) (a05 (j:=1) rfl) ?_
   walk_at "run"
   refine ⟨u,tv,kd,kvs,x,ts,30,E0,p,rfl,hb,ht,hk,by omega,he,fun l H2 kvs2 s2 k2 f2 e2=>?_⟩
   walk_at "run"
   refine an8 .on e2 ?_
   walk_at "run"
   unfold dryE at q
   by_cases h:Wd.on∈E0
   · rw [decide_eq_true h]
     have:=q H2 kvs2 s2 k2
     rw [decide_eq_true h,Bool.true_or] at this
     simpa using this
   · rw [decide_eq_false h]
     have:=q H2 kvs2 s2 k2
     rw [decide_eq_false h,Bool.false_or] at this
     rw [if_neg (by simp)]
     walk_at "run"
     refine an8 .again e2 ?_
     exact this
theorem aq9 {H H':Hp}{kd:Addr}{vs:List V}{ns:List Str}(h:Each (RowD (woO (some kd) H)) vs ns) (s:KS kd H H'):Each (RowD (woO (some kd) H')) vs ns:=h.mono fun v n z=>by
 obtain ⟨a,z1,z2⟩:=z
 exact ⟨a,z1,s _ _ z2⟩
def isLp:Stm→Bool
 | .loop _=>true
 | _=>false
theorem c87 {ts:Tks}(ss:List Stm):(ss.filter isLp).countP (ad1 ts)=ss.countP (ad1 ts):=by
 rw [List.countP_filter]
 congr 1
 funext s
 cases s <;> simp [ad1,isLp]
def bw3 (K:PySem.W.Frag):Sp:=fun vs H Q _=>∃ (tv:V) (ts:Tks) (L:Nat) (bn:List Str) (rk:Str→Nat),vs=[tv]∧TksAt H tv ts∧TkO L ts bn rk∧bw2 ts∧∀ p vs H',Same H H'→H p=none→H' p=some (.lst vs)→Each (RowD H') vs (dueL ts ts)→Q (.ref p) H'
theorem b31 {L:Nat}{ts:Tks}{bn:List Str}{rk:Str→Nat}(h:TkO L ts bn rk):∀ {us:Tks},(∀ x∈us,x∈ts)→(dueL ts us).length≤1000*us.length:=by
 intro us
 induction us with
 | nil=>intro _; simp [dueL]
 | cons x us ih =>
   intro hu
   have h1:=ih fun y hy=>hu y (by simp [hy])
   have h2:=h.z x (hu x (by simp))
   have h3:=List.countP_le_length (p:=ad1 ts) (l:=allB x.2)
   unfold dueL at h1 ⊢
   rw [List.flatMap_cons,List.length_append,List.length_replicate,List.length_cons]
   omega
theorem bf0 {ts us:Tks}{x:Str×List Stm}:dueL ts (us++[x])=dueL ts us++List.replicate ((allB x.2).countP (ad1 ts)) x.1:=by
 unfold dueL
 rw [List.flatMap_append]
 simp
theorem ar0 (T:Txt K mg t):FnOk P w K mg base CX0 107 t.a_dry_faults t.fd_dry_faults ["talks"] (bw3 K):=by
 have G_is_dry:=be9 (P:=P) (w:=w) (base:=base) T
 have G_statements_in:=aa5 (P:=P) (w:=w) (base:=base) T
 refine T.f_dry_faults.F.ok sc_dry_faults (fun vs H Q E h=>?_) (fun cdv A outer s H vs Q E hr h=>?_)
 · obtain ⟨tv,ts,L,bn,rk,rfl,_⟩:=h
   rfl
 · obtain ⟨tv,ts,L,bn,rk,rfl,ht,hO,hD,q⟩:=h
   replace G_statements_in:=G_statements_in 100
   refine ⟨_,(@a02 _ _ _ _ _ (@a18 _ _ 1 _ _ _ _ sc_dry_faults.nd rfl (by walk_at "o") (@a13 _ _ _ _ (@a01 _)) (by rfl) (by walk_at "o"))
    (@a02 _ _ _ _ _ (@a18 _ _ 2 _ _ _ _ sc_dry_faults.nd rfl (by walk_at "o") (@bi8 _ _) (by rfl) (by walk_at "o"))
    (@a02 _ _ _ _ _ (@a69 _ _ _ _ _ _ _ _ PassesOwn.never rfl (a25 K (pv 0)) (a93 K (n:=2) rfl (a34 (a16 (i:=3) sc_dry_faults.nd rfl (by walk_at "o")) (a34 (a16 (i:=4) sc_dry_faults.nd rfl (by walk_at "o")) (@a91 _)))) (@a02 _ _ _ _ _ (b94 (i:=5) (Nt:=["statement"]) (Nf:=[]) (caps:=[]) rfl (a45 (sc:=a06 a88) rfl rfl (by decide +kernel) (by decide +kernel) (by decide +kernel) rfl (by decide +kernel)) (a25 K (@a09 _ _ _ _ _ _ _ _ _ _ _ _ _ _ _ _ G_statements_in (hr.mono (by omega)) rfl T.f_statements_in.m T.f_statements_in.F.kp T.f_statements_in.b .nil a19 (@a00 _ _ _ _ _ (pv 4) (@a01 _) (by rfl)) (by decide) (by rfl) (by rfl))) (fun _ _ _ _ _=>(a16 (i:=0) (show (["statement"]:List Str).Nodup by decide +kernel) rfl (by walk_at "o"))) (fun _ _ _ _ _=>(@aa0 _ _ _ (@a07 _ _ _ _ _ _ _ _ a36 (@a15 _ _ _ _ _ _ _ (a10 K) (pv 0) (@a03 _ _ _ _) (fun _ _=>rfl)) (@a08 _ _ _ _) (nomark _)))) (fun _ _ _ _ _=>(pv 0)) sc_dry_faults.nd rfl (by walk_at "o") rfl)
     (@a04 _ _ _ (@a32 _ _ _ _ (@a83 _ K _ _ _ _ _ _ _ _ _ _ _ PySem.F.plainAttrs_list PySem.F.slot_list_extend PySem.F.type_list_extend a79 (pv 1) (@a00 _ _ _ _ _ (af3 (Nt:=["loop"]) (Nf:=["name","talks","known"]) (caps:=[3,0,2]) rfl (a45 (sc:=a06 a88) rfl rfl (by decide +kernel) (by decide +kernel) (by decide +kernel) rfl (by decide +kernel)) (a25 K (pv 5)) (fun _ _ _ _ _=>(a16 (i:=0) (show (["loop","name","talks","known"]:List Str).Nodup by decide +kernel) rfl (by walk_at "o"))) (fun _ _ _ _ _=>(@aa0 _ _ _ (ab3 K (@a09 _ _ _ _ _ _ _ _ _ _ _ _ _ _ _ _ G_is_dry (hr.mono (by omega)) rfl T.f_is_dry.m T.f_is_dry.F.kp T.f_is_dry.b .nil a19 (@a00 _ _ _ _ _ (pv 0) (@a00 _ _ _ _ _ (pv 2) (@a00 _ _ _ _ _ (pv 3) (@a01 _) (by rfl)) (by rfl)) (by rfl)) (by decide) (by rfl) (by rfl)) (fun _=>rfl)))) (fun _ _ _ _ _=>(@a26 _ _ _ _ _ (@a00 _ _ _ _ _ (pv 1) (@a00 _ _ _ _ _ (@a08 _ _ _ _) (@a00 _ _ _ _ _ (@a08 _ _ _ _) (@a01 _) (by rfl)) (by rfl)) (by rfl))))) (@a01 _) (by rfl)) (by rfl) (by rfl) (by rfl) (by rfl) (by rfl) (by rfl)) (by rfl)))) (by intro _; rfl))
    (@a04 _ _ _ (@a14 _ _ _ _ (pv 1)))))),?_⟩
   have sl:(1000000:Nat)≤sizeLine:=le_line (Nat.le_refl _)
   obtain ⟨lt,tvs,rfl,et,hE,hl⟩:=ht
   walk_at "go"
   intro fl H1 f1 s1 e1
   walk_at "run"
   intro kd H2 f2 s2 e2
   walk_at "run"
   have hfk:fl≠kd:=fun z=>by rw [z,f2] at e1; cases e1
   have hkH:H kd=none:=a42 s1 f2
   have w2:Same H (woO (some kd) H2):=by
    have:=woS (d:=some kd) (s1.trans s2)
    rw [woX hkH] at this
    exact this
   refine ⟨⟨tvs,SqL.of ((s1.trans s2) _ _ et)⟩,a60 (xs:=tvs) (fun i σ H'=>i≤ts.length∧Same H (woO (some kd) H')∧(∃ kvs,KnAt (fun a=>a=fl) ts H' kd kvs)∧(∃ vs,H' fl=some (.lst vs)∧Each (RowD (woO (some kd) H')) vs (dueL ts (ts.take i)))∧∃ y1 y2 y3,σ=[some (.ref lt),some (.ref fl),some (.ref kd),y1,y2,y3]) ⟨Nat.zero_le _,w2,⟨[],e2,fun a ha z=>(by rw [ha,s2 _ _ e1] at z; cases z),by simp,by simp,fun nm v hv=>by simp [valV] at hv⟩,⟨[],s2 _ _ e1,Each.nil⟩,_,_,_,rfl⟩ (fun i σ H' _ zz=>by obtain ⟨_,z,_⟩:=zz; exact SqL.of (woL _ _ (z _ _ et))) ?_ ?_⟩
   · rintro i v σ H3 hv ⟨hi,w3,⟨kvs,k3⟩,⟨vs,e3,hR⟩,y1,y2,y3,rfl⟩
     obtain ⟨x,hx⟩:∃ x,ts[i]?=some x:=⟨_,List.getElem?_eq_getElem (by rw [← hE.1]; exact (List.getElem?_eq_some_iff.mp hv).1)⟩
     have hxm:=List.mem_of_getElem? hx
     have hil:=(List.getElem?_eq_some_iff.mp hx).1
     obtain ⟨a,u,rfl,ea,hb⟩:=hE.2 i _ _ hv hx
     refine ⟨a,_,rfl,SqT.of (woL _ _ (w3 _ _ ea)),rfl,?_⟩
     walk_at "run"
     have hkd:=hO.kd hxm
     have hz:=hO.z x hxm
     refine ⟨u,x.2,woO (some kd) H3,ts.map (·.1),rfl,hO.hs hxm,woL,hb.same w3,hkd,Nat.le_trans hz (by decide),fun l4 us H4 f4 s4 e4 hE4=>?_⟩
     refine ⟨l4,rfl,⟨us,SqL.of e4⟩,a81 (xs:=us) (by rw [hE4.1]; omega) (fun i acc H'=>H'=H4∧Each (SAt (woO (some kd) H3)) acc (((allB x.2).take i).filter isLp)) ⟨rfl,Each.nil⟩ (fun i acc H' ⟨h1,h2⟩=>⟨by rw [h2.1]; exact Nat.le_trans (List.length_filter_le _ _) (by rw [List.length_take]; exact Nat.min_le_left _ _),by rw [h1]; exact SqL.of e4⟩) ?_ ?_⟩
     · rintro j sv acc H' hsv ⟨rfl,hA⟩
       obtain ⟨st,hst⟩:∃ st,(allB x.2)[j]?=some st:=⟨_,List.getElem?_eq_getElem (by rw [← hE4.1]; exact (List.getElem?_eq_some_iff.mp hsv).1)⟩
       have hS:=hE4.2 j _ _ hsv hst
       have hk:=hkd st (List.mem_of_getElem? hst)
       obtain ⟨a',us',rfl,ea'⟩:=an7 hS hk
       have e:((allB x.2).take (j+1)).filter isLp=((allB x.2).take j).filter isLp++(if isLp st=true then [st] else []):=by
        rw [List.take_add_one,hst,Option.toList_some,List.filter_append]
        by_cases h:isLp st=true
        · rw [if_pos h]; simp [h]
        · rw [if_neg h]; simp [h]
       walk_at "run"
       refine a22 (SqT.of (s4 _ _ (woL _ _ ea'))) (a05 (j:=0) rfl) ?_
       walk_at "run"
       by_cases hw:st.wd=Str.ofString "loop"
       · refine a28 hw ?_
         walk_at "run"
         obtain ⟨xb,rfl⟩:=ap2 hk hw
         refine ⟨rfl,?_⟩
         rw [e,if_pos (show isLp (.loop xb)=true from rfl)]
         exact hA.snoc hS
       · refine a23 hw ?_
         refine ⟨rfl,?_⟩
         rw [e,if_neg (by cases st <;> simp [isLp]; exact hw rfl),List.append_nil]
         exact hA
     · rintro acc H' ⟨rfl,hA⟩ ll H5 f5 s5 e5
       rw [hE4.1,List.take_of_length_le (Nat.le_refl _)] at hA
       have hal:=hA.1
       have hfl2:=List.length_filter_le isLp (allB x.2)
       walk_at "run"
       have s35:=s4.trans s5
       have e35:=s35 _ _ e3
       refine ab6 (SqL.of e35) ?_
       walk_at "run"
       have hlk:ll≠kd:=fun z=>by rw [z,s4 _ _ k3.h] at f5; cases f5
       refine ⟨⟨_,SqL.of e5⟩,a81 (xs:=acc) (by omega) (fun j acc' H'=>KS kd H5 H'∧(∃ kvs,KnAt (fun a=>a=fl) ts H' kd kvs)∧Each (RowD (woO (some kd) H')) acc' (List.replicate ((((allB x.2).filter isLp).take j).countP (ad1 ts)) x.1)) ⟨KS.of (Same.refl _),⟨kvs,k3.same s35⟩,Each.nil⟩ (fun j acc' H' ⟨h1,_,h3⟩=>⟨by rw [h3.1,List.length_replicate]; exact Nat.le_trans List.countP_le_length (by rw [List.length_take]; exact Nat.min_le_left _ _),SqL.of (h1.at hlk e5)⟩) ?_ ?_⟩
       · rintro j lv acc' H6 hlv ⟨s6,⟨kvs6,k6⟩,hA6⟩
         obtain ⟨st,hst⟩:∃ st,((allB x.2).filter isLp)[j]?=some st:=⟨_,List.getElem?_eq_getElem (by rw [← hA.1]; exact (List.getElem?_eq_some_iff.mp hlv).1)⟩
         have hS:=hA.2 j _ _ hlv hst
         obtain ⟨hm,hp⟩:=List.mem_filter.mp (List.mem_of_getElem? hst)
         obtain ⟨xb,rfl⟩:∃ xb,st=.loop xb:=by
          cases st with
          | loop xb=>exact ⟨xb,rfl⟩
          | _=>cases hp
         obtain ⟨E,hE'⟩:=hD x hxm xb hm
         have w36:Same (woO (some kd) H3) (woO (some kd) H6):=(woS s35).trans s6
         have hdr:ad1 ts (.loop xb)=dryE E:=by simp only [ad1,hE']
         have e:(((allB x.2).filter isLp).take (j+1)).countP (ad1 ts)=(((allB x.2).filter isLp).take j).countP (ad1 ts)+(if dryE E=true then 1 else 0):=by
          rw [List.take_add_one,hst,Option.toList_some,List.countP_append,List.countP_singleton,hdr]
         walk_at "run"
         refine ⟨lv,.ref lt,kd,kvs6,xb,ts,E,fun a=>a=fl,rfl,hS.same w36,⟨lt,tvs,rfl,(w3.trans w36) _ _ et,hE.mono fun _ _ z=>z.same (w3.trans w36),hl⟩,k6,hE',fun H7 kvs7 s7 k7=>?_⟩
         refine bn4 ?_
         by_cases hd:dryE E=true
         · rw [if_pos hd]
           walk_at "run"
           intro p8 H8 f8 s8 e8
           have hpk:p8≠kd:=fun z=>by rw [z,k7.h] at f8; cases f8
           refine ⟨s6.trans (s7.trans (KS.of s8)),⟨kvs7,k7.same s8⟩,?_⟩
           rw [e,if_pos hd,List.replicate_succ']
           exact (aq9 hA6 (s7.trans (KS.of s8))).snoc ⟨p8,rfl,by rw [woG (fun z=>hpk (Option.some.inj z).symm)]; exact e8⟩
         · rw [if_neg hd]
           refine ⟨s6.trans s7,⟨kvs7,k7⟩,?_⟩
           rw [e,if_neg hd,Nat.add_zero]
           exact aq9 hA6 s7
       · rintro acc' H6 ⟨s6,⟨kvs6,k6⟩,hA6⟩ p7 H7 f7 s7 e7
         rw [hA.1,List.take_of_length_le (Nat.le_refl _),c87] at hA6
         have hal6:=hA6.1
         rw [List.length_replicate] at hal6
         have hcl:=List.countP_le_length (p:=ad1 ts) (l:=allB x.2)
         have hdl:=b31 (us:=ts.take i) hO fun y hy=>List.mem_of_mem_take hy
         have hR1:=hR.1
         rw [List.length_take] at hdl
         walk_at "run"
         have efl:H7 fl=some (.lst vs):=s7 _ _ (s6.at hfk e35)
         refine aa1 efl e7 (by have:=hl; omega) ?_
         have w37:Same (woO (some kd) H3) (woO (some kd) H7):=((woS s35).trans s6).trans (woS s7)
         have hfH:H fl=none:=f1
         have w7:Same H (woO (some kd) (upd H7 fl (.lst (vs++acc')))):=fun b o eb=>by
          have h1:=(w3.trans w37) b o eb
          have hbf:b≠fl:=fun z=>by rw [z,hfH] at eb; cases eb
          have hbk:b≠kd:=fun z=>by rw [z,hkH] at eb; cases eb
          rw [woG (fun z=>hbk (Option.some.inj z).symm)] at h1 ⊢
          rw [a12 hbf]
          exact h1
         have up:∀ {vs':List V}{ns:List Str},Each (RowD (woO (some kd) H7)) vs' ns→Each (RowD (woO (some kd) (upd H7 fl (.lst (vs++acc'))))) vs' ns:=fun h=>h.mono fun v n z=>by
          obtain ⟨b,z1,z2⟩:=z
          have hbk:b≠kd:=fun z=>by rw [z] at z2; unfold woO at z2; rw [if_pos rfl] at z2; cases z2
          rw [woG (fun z=>hbk (Option.some.inj z).symm)] at z2
          refine ⟨b,z1,?_⟩
          rw [woG (fun z=>hbk (Option.some.inj z).symm),a12 (aj6 z2 efl (fun z=>nomatch z))]
          exact z2
         refine ⟨hil,w7,⟨kvs6,?_⟩,⟨vs++acc',a17,?_⟩,_,_,_,rfl⟩
         · have k7:=k6.same s7
           refine ⟨by rw [a12 hfk.symm]; exact k7.h,fun a ha z=>(by rw [show a=fl from ha,a17] at z; cases z),k7.n,k7.k,fun nm v hv=>?_⟩
           obtain ⟨l,b,n,E,z1,z2,z3,z4,z5⟩:=k7.v nm v hv
           refine ⟨l,b,n,E,z1,z2,z3,z4,?_⟩
           rw [a12 z2.2]
           exact z5
         · rw [List.take_add_one,hx,Option.toList_some,bf0]
           exact (up (aq9 hR (show KS kd H3 H7 from w37))).append (up (aq9 hA6 (KS.of s7)))
   · rintro σ H3 ⟨hi,w3,⟨kvs,k3⟩,⟨vs,e3,hR⟩,y1,y2,y3,rfl⟩
     walk_at "run"
     rw [hE.1,List.take_of_length_le (Nat.le_refl _)] at hR
     exact q fl vs H3 (w3.trans woL) f1 e3 (hR.mono fun v n z=>by
      obtain ⟨a,z1,z2⟩:=z
      exact ⟨a,z1,woL _ _ z2⟩)
theorem TkN.nmd {H:Hp}{v:V}{x:Str×List Stm}(h:TkN H v x):Nmd H v x.1:=by
 obtain ⟨a,u,z1,z2,_⟩:=h
 exact ⟨a,[u],z1,z2⟩
theorem ar1 {α β γ:Type}{R:α→β→Prop}{S:α→γ→Prop}{f:β→γ}(hR:∀ v x,R v x→S v (f x)) {vs:List α}{xs:List β}(h:Each R vs xs):Each S vs (xs.map f):=by
 refine ⟨by rw [h.1,List.length_map],fun j v y h1 h2=>?_⟩
 rw [List.getElem?_map] at h2
 obtain ⟨x,h3,rfl⟩:=Option.map_eq_some_iff.mp h2
 exact hR _ _ (h.2 j v x h1 h3)
theorem bw4 {H:Hp}{x dx:Addr}{o o':HO}(h1:H x=none) (h2:H dx=none):Same H (upd (upd H dx o) x o'):=a63 (a63 (Same.refl _) h2) h1
structure ScrO (L:Nat) (H:Hp) (sp:Addr) (ts:Tks) (bn:List Str) (rk:Str→Nat):Prop where
 ex:∃ (bl tl:Addr) (bs:List V),H sp=some (.tup [.ref bl,.ref tl])∧H bl=some (.lst bs)∧Each (Nmd H) bs bn∧TksAt H (.ref tl) ts
 bu:bn.Nodup
 bl:bn.length≤1000
 ne:ts≠[]
 o:TkO L ts bn rk
 d:bw2 ts
def c88 (K:PySem.W.Frag):Sp:=fun vs H Q _=>∃ (sp:Addr) (ts:Tks) (bn:List Str) (L:Nat) (rk:Str→Nat),vs=[.ref sp]∧ScrO L H sp ts bn rk∧∀ p vs' H',Same H H'→H p=none→H' p=some (.lst vs')→Each (RowD H') vs' (dueL ts ts)→Q (.ref p) H'
theorem bf1 (T:Txt K mg t):FnOk P w K mg base CX0 110 t.a_faults t.fd_faults ["script"] (c88 K):=by
 have G_TalkLook___init__:=ad0 (P:=P) (w:=w) (base:=base) T
 have G_TalkLook_look_body:=a49 (P:=P) (w:=w) (base:=base) T
 have G_dry_faults:=ar0 (P:=P) (w:=w) (base:=base) T
 have G_head_faults:=am6 (P:=P) (w:=w) (base:=base) T
 have G_round_faults:=am2 (P:=P) (w:=w) (base:=base) T
 refine T.f_faults.F.ok sc_faults (fun vs H Q E h=>?_) (fun cdv A outer s H vs Q E hr h=>?_)
 · obtain ⟨sp,ts,bn,L,rk,rfl,_⟩:=h
   rfl
 · obtain ⟨sp,ts,bn,L,rk,rfl,hS,q⟩:=h
   replace G_TalkLook_look_body:=G_TalkLook_look_body 11
   refine ⟨_,(@a02 _ _ _ _ _ (@a18 _ _ 1 _ _ _ _ sc_faults.nd rfl (by walk_at "o") (@a09 _ _ _ _ _ _ _ _ _ _ _ _ _ _ _ _ G_head_faults (hr.mono (by omega)) rfl T.f_head_faults.m T.f_head_faults.F.kp T.f_head_faults.b .nil a19 (@a00 _ _ _ _ _ (pv 0) (@a01 _) (by rfl)) (by decide) (by rfl) (by rfl)) (by rfl) (by walk_at "o"))
    (@a02 _ _ _ _ _ (@a69 _ _ _ _ _ _ _ _ PassesOwn.never rfl (a25 K (@a15 _ _ _ _ _ _ _ (a10 K) (pv 0) (@a03 _ _ _ _) (fun _ _=>rfl))) (a93 K (n:=2) rfl (a34 (a16 (i:=2) sc_faults.nd rfl (by walk_at "o")) (a34 (a16 (i:=3) sc_faults.nd rfl (by walk_at "o")) (@a91 _)))) (@a02 _ _ _ _ _ (@a18 _ _ 4 _ _ _ _ sc_faults.nd rfl (by walk_at "o") (br1 T.mk_TalkLook G_TalkLook___init__ (hr.mono (by omega)) rfl T.m_TalkLook T.f_TalkLook___init__.b .nil a19 (@a00 _ _ _ _ _ (pv 2) (@a00 _ _ _ _ _ (pv 0) (@a01 _) (by rfl)) (by rfl))) (by rfl) (by walk_at "o"))
     (@a02 _ _ _ _ _ (@a32 _ _ _ _ (a72 (pv 4) T.cl_TalkLook T.f_TalkLook_look_body.M G_TalkLook_look_body (hr.mono (by omega)) T.f_TalkLook_look_body.b .nil a19 (@a00 _ _ _ _ _ (pv 3) (@a00 _ _ _ _ _ (@ah1 _ _ _ _) (@a01 _) (by rfl)) (by rfl))) (by rfl))
     (@a04 _ _ _ (@a32 _ _ _ _ (@a83 _ K _ _ _ _ _ _ _ _ _ _ _ PySem.F.plainAttrs_list PySem.F.slot_list_extend PySem.F.type_list_extend a79 (pv 1) (@a00 _ _ _ _ _ (ax2 K (pv 4) rfl) (@a01 _) (by rfl)) (by rfl) (by rfl) (by rfl) (by rfl) (by rfl) (by rfl)) (by rfl))))) (by intro _; rfl))
    (@a02 _ _ _ _ _ (@a32 _ _ _ _ (@a83 _ K _ _ _ _ _ _ _ _ _ _ _ PySem.F.plainAttrs_list PySem.F.slot_list_extend PySem.F.type_list_extend a79 (pv 1) (@a00 _ _ _ _ _ (@a09 _ _ _ _ _ _ _ _ _ _ _ _ _ _ _ _ G_round_faults (hr.mono (by omega)) rfl T.f_round_faults.m T.f_round_faults.F.kp T.f_round_faults.b .nil a19 (@a00 _ _ _ _ _ (@a15 _ _ _ _ _ _ _ (a10 K) (pv 0) (@a03 _ _ _ _) (fun _ _=>rfl)) (@a01 _) (by rfl)) (by decide) (by rfl) (by rfl)) (@a01 _) (by rfl)) (by rfl) (by rfl) (by rfl) (by rfl) (by rfl) (by rfl)) (by rfl))
    (@a41 _ _ _ _ _ (@a30 _ _ _ _ _ _ _ _ (@a07 _ _ _ _ _ _ _ _ a36 (@a50 _ _ _ _ _ _ _ _ _ (a82 K) (by rfl) T.z_len ab4 (@a00 _ _ _ _ _ (pv 1) (@a01 _) (by rfl)) (by decide) (by decide) (by rfl) (by rfl)) (@a03 _ _ _ _) (nomark _)) (@a04 _ _ _ (@a32 _ _ _ _ (@a83 _ K _ _ _ _ _ _ _ _ _ _ _ PySem.F.plainAttrs_list PySem.F.slot_list_extend PySem.F.type_list_extend a79 (pv 1) (@a00 _ _ _ _ _ (@a09 _ _ _ _ _ _ _ _ _ _ _ _ _ _ _ _ G_dry_faults (hr.mono (by omega)) rfl T.f_dry_faults.m T.f_dry_faults.F.kp T.f_dry_faults.b .nil a19 (@a00 _ _ _ _ _ (@a15 _ _ _ _ _ _ _ (a10 K) (pv 0) (@a03 _ _ _ _) (fun _ _=>rfl)) (@a01 _) (by rfl)) (by decide) (by rfl) (by rfl)) (@a01 _) (by rfl)) (by rfl) (by rfl) (by rfl) (by rfl) (by rfl) (by rfl)) (by rfl))) (@a11 _))
    (@a04 _ _ _ (@a14 _ _ _ _ (pv 1))))))),?_⟩
   have sl:(1000000:Nat)≤sizeLine:=le_line (Nat.le_refl _)
   obtain ⟨bl,tl,bs,e0,eb,hb,hts⟩:=hS.ex
   obtain ⟨_,tvs,hz,et,hE,hl⟩:=id hts
   cases hz
   have hnm:∀ {H':Hp},Same H H'→Each (Nmd H') tvs (ts.map (·.1)):=fun s=>ar1 (fun v x z=>TkN.nmd z) (hE.mono fun _ _ z=>z.same s)
   walk_at "go"
   refine ⟨sp,bl,tl,bs,tvs,bn,ts.map (·.1),rfl,e0,eb,hb,hS.bu,hS.bl,et,hnm (Same.refl _),hS.o.u,by rw [List.length_map]; omega,fun z=>hS.ne (List.map_eq_nil_iff.mp z),fun fl H1 s1 f1 e1=>?_⟩
   walk_at "run"
   refine a22 (SqT.of (s1 _ _ e0)) (a05 (j:=1) rfl) ?_
   refine ⟨tl,rfl,⟨tvs,SqL.of (s1 _ _ et)⟩,a60 (xs:=tvs) (fun i σ H'=>Same H H'∧H' fl=some (.lst [])∧∃ y1 y2 y3,σ=[some (.ref sp),some (.ref fl),y1,y2,y3]) ⟨s1,e1,_,_,_,rfl⟩ (fun i σ H' _ zz=>by obtain ⟨z,_⟩:=zz; exact SqL.of (z _ _ et)) ?_ ?_⟩
   · rintro i v σ H2 hv ⟨s2,e2,y1,y2,y3,rfl⟩
     obtain ⟨x,hx⟩:∃ x,ts[i]?=some x:=⟨_,List.getElem?_eq_getElem (by rw [← hE.1]; exact (List.getElem?_eq_some_iff.mp hv).1)⟩
     have hxm:=List.mem_of_getElem? hx
     obtain ⟨a,u,rfl,ea,hbd⟩:=hE.2 i _ _ hv hx
     refine ⟨a,_,rfl,SqT.of (s2 _ _ ea),rfl,?_⟩
     walk_at "run"
     intro p dx f1' f2' fn
     have sm:=bw4 (o:=.own p) (o':=.ins t.c_TalkLook dx []) f1' f2'
     have s3:=s2.trans sm
     refine ⟨p,dx,sp,bl,tl,_,bs,tvs,bn,ts.map (·.1),rfl,a17,s3 _ _ e0,s3 _ _ eb,hb.mono fun _ _ z=>z.same s3,hS.bl,s3 _ _ et,hnm s3,by rw [List.length_map]; omega,fun H4 hL kk=>⟨rfl,?_⟩⟩
     have s4:Same H2 H4:=fun b o eb=>kk b o (sm b o eb) (fun z=>by rw [z,f1'] at eb; cases eb)
     have sH4:=s2.trans s4
     rename_i N hN
     refine hN _ _ ?_
     clear hN
     walk_at "run"
     obtain ⟨dx4,nm4,b4,t4,l4,g1,g2,g3,g4⟩:=id hL.ex
     refine ⟨p,dx4,_,rfl,g1,am1 _ _ _ _ (by decide +kernel) (by decide +kernel) (by decide +kernel) (by decide +kernel),?_⟩
     walk_at "run"
     refine ⟨p,u,false,bn,ts.map (·.1),x.2,10,L,rfl,hL,hbd.same sH4,hS.o.o x hxm,hS.o.m,by omega,fun H5 s5=>?_⟩
     walk_at "run"
     have s25:=s4.trans s5
     refine ab6 (SqL.of (s25 _ _ e2)) ?_
     walk_at "run"
     refine ⟨p,_,dx4,_,_,rfl,s5 _ _ g1,T.cl_TalkLook,T.n_TalkLook_found,be7 _ _ _ _,?_⟩
     walk_at "run"
     refine aa1 (s25 _ _ e2) (s5 _ _ g4) (by simp) ?_
     exact ⟨a63 (s2.trans s25) f1,a17,_,_,_,rfl⟩
   · rintro σ H2 ⟨s2,e2,y1,y2,y3,rfl⟩
     walk_at "run"
     refine ab6 (SqL.of e2) ?_
     walk_at "run"
     refine a22 (SqT.of (s2 _ _ e0)) (a05 (j:=1) rfl) ?_
     walk_at "run"
     refine ⟨.ref tl,ts,L,bn,rk,rfl,hts.same s2,hS.o,fun p3 H3 s3 f3 e3=>?_⟩
     walk_at "run"
     refine aa1 (s3 _ _ e2) e3 (by simp) ?_
     have s4:Same H (upd H3 fl (.lst ([]++[]))):=a63 (s2.trans s3) f1
     have e4:upd H3 fl (.lst ([]++[])) fl=some (.lst []):=a17
     generalize upd H3 fl (.lst ([]++[]))=H4 at s4 e4 ⊢
     walk_at "run"
     refine a95 (fun σ' H'=>(∃ y1 y2 y3,σ'=[some (.ref sp),some (.ref fl),y1,y2,y3])∧Same H H'∧∃ vs',H' fl=some (.lst vs')∧Each (RowD H') vs' (dueL ts ts)) ?_ ?_
     · walk_at "run"
       refine ab5 (SqL.of e4) ?_
       walk_at "run"
       refine a28 rfl ?_
       walk_at "run"
       refine ab6 (SqL.of e4) ?_
       walk_at "run"
       refine a22 (SqT.of (s4 _ _ e0)) (a05 (j:=1) rfl) ?_
       walk_at "run"
       refine ⟨.ref tl,ts,L,bn,rk,rfl,hts.same s4,hS.o,hS.d,fun p5 vs5 H5 s5 f5 e5 hR=>?_⟩
       walk_at "run"
       have hdl:=b31 hS.o (us:=ts) (fun _ z=>z)
       have hll:=hS.o.l
       have hR1:=hR.1
       refine aa1 (s5 _ _ e4) e5 (by simp only [List.length_nil]; omega) ?_
       refine ⟨⟨_,_,_,rfl⟩,a63 (s4.trans s5) f1,_,a17,?_⟩
       rw [List.nil_append]
       exact hR.mono fun v n z=>by
        obtain ⟨b,z1,z2⟩:=z
        exact ⟨b,z1,by rw [a12 (aj6 z2 (s5 _ _ e4) (fun z=>nomatch z))]; exact z2⟩
     rintro σ' H5 ⟨⟨y1,y2,y3,rfl⟩,s5,vs5,e5,hR⟩
     walk_at "run"
     exact q fl vs5 H5 s5 f1 e5 hR
def c89 (K:PySem.W.Frag):Sp:=fun vs H Q _=>∃ (sp:Addr) (ts:Tks) (bn:List Str) (L:Nat) (rk:Str→Nat),vs=[.ref sp]∧ScrO L H sp ts bn rk∧∀ H',Same H H'→Q (.bl (decide (dueL ts ts=[]))) H'
theorem bl6 (T:Txt K mg t):FnOk P w K mg base CX0 111 t.a_sound t.fd_sound ["script"] (c89 K):=by
 have G_faults:=bf1 (P:=P) (w:=w) (base:=base) T
 refine T.f_sound.F.ok bk7 (fun vs H Q E h=>?_) (fun cdv A outer s H vs Q E hr h=>?_)
 · obtain ⟨sp,ts,bn,L,rk,rfl,_⟩:=h
   rfl
 · obtain ⟨sp,ts,bn,L,rk,rfl,hS,q⟩:=h
   refine ⟨_,(@a04 _ _ _ (@a14 _ _ _ _ (@aj9 _ _ _ _ _ _ _ _ a36 (@a50 _ _ _ _ _ _ _ _ _ (a82 K) (by rfl) T.z_len ab4 (@a00 _ _ _ _ _ (@a09 _ _ _ _ _ _ _ _ _ _ _ _ _ _ _ _ G_faults (hr.mono (by omega)) rfl T.f_faults.m T.f_faults.F.kp T.f_faults.b .nil a19 (@a00 _ _ _ _ _ (pv 0) (@a01 _) (by rfl)) (by decide) (by rfl) (by rfl)) (@a01 _) (by rfl)) (by decide) (by decide) (by rfl) (by rfl)) (@a03 _ _ _ _) (nomark _)))),?_⟩
   walk_at "go"
   refine ⟨sp,ts,bn,L,rk,rfl,hS,fun p vs' H1 s1 f1 e1 hR=>?_⟩
   walk_at "run"
   refine ab5 (SqL.of e1) ?_
   walk_at "run"
   have:=q H1 s1
   have h1:=hR.1
   rw [show decide (dueL ts ts=[])=decide ((vs'.length:Int)=0) from decide_eq_decide.mpr ⟨fun z=>by rw [z] at h1; rw [h1]; rfl,fun z=>List.eq_nil_of_length_eq_zero (by omega)⟩] at this
   exact this
def bnx (bx:Nat):List Str:=[Str.ofString "a",Str.ofString "box"].take bx
structure TksV (bx:Nat) (ts:Tks) (ns:List Str):Prop where
 t:∀ i n,ns[i]?=some n→∃ b,a29 ts n=some b∧okB 8 (bnx bx) (ns.drop (i+1)) 5 false b
 l:ns.length≤4
 n:ns.Nodup
 b:∀ x∈ts,∃ i,ns[i]?=some x.1∧okB 8 (bnx bx) (ns.drop (i+1)) 5 false x.2∧(allB x.2).length≤51
 tl:ts.length≤4
 u:(ts.map (·.1)).Nodup
 m:∀ c∈ns,c∈ts.map (·.1)
 ne:ts≠[]
theorem TksV.call {bx:Nat}{ts:Tks}{ns:List Str}(h:TksV bx ts ns) {j:Nat}{c:Str}(hc:c∈ns.drop j):∃ i b,j≤i∧i<ns.length∧a29 ts c=some b∧okB 8 (bnx bx) (ns.drop (i+1)) 5 false b:=by
 obtain ⟨k,hk⟩:=List.mem_iff_getElem?.mp hc
 rw [List.getElem?_drop] at hk
 obtain ⟨b,h1,h2⟩:=h.t _ _ hk
 exact ⟨j+k,b,Nat.le_add_right _ _,(List.getElem?_eq_some_iff.mp hk).1,h1,h2⟩
theorem av0 {f:Stm→Option (List Wd)}{b:List Stm}(hl:b.length≤8) (h:∀ s∈b,∃ r,f s=some r):∃ R,eBf f b=some R:=by
 obtain ⟨R,hR⟩:=bj7 (e:=[.on]) h
 unfold eBf
 rw [if_pos (by omega),hR]
 exact ⟨_,rfl⟩
theorem cf6 {bx:Nat}{ts:Tks}{ns:List Str}(h:TksV bx ts ns):∀ (n d j k:Nat) (lp:Bool) (s:Stm),6*d+k<n→ns.length≤j+d→k≤5→okS 8 (bnx bx) (ns.drop j) k lp s→∃ r,eS ts n s=some r:=by
 intro n
 induction n with
 | zero=>intro d j k lp s hn; omega
 | succ n ih =>
   intro d j k lp s hn hj hk hw
   cases s with
   | plain ps =>
     rcases okS_pl.mp hw with ⟨w,rfl⟩ | ⟨l,w,rfl⟩ | ⟨c,hc,rfl⟩ | ⟨_,rfl | rfl⟩ | rfl | rfl
     · exact ⟨[.on],rfl⟩
     · exact ⟨[.on],rfl⟩
     · obtain ⟨i,b,h1,h2,h3,h4⟩:=h.call hc
       obtain ⟨R,hR⟩:=av0 (f:=eS ts n) h4.1 fun s hs=>ih (d - 1) (i+1) 5 false s (by omega) (by omega) (by omega) (h4.2 s hs)
       exact ⟨ag3 R,by rw [ap5,h3]; simp [hR]⟩
     · obtain ⟨v,hv⟩:=ad5 .again; exact ⟨[v],by rw [show eS ts _ (.plain [.s "again"])=_ from ad4 Wd.again,hv]; rfl⟩
     · obtain ⟨v,hv⟩:=ad5 .leave; exact ⟨[v],by rw [show eS ts _ (.plain [.s "leave"])=_ from ad4 Wd.leave,hv]; rfl⟩
     · obtain ⟨v,hv⟩:=ad5 .back; exact ⟨[v],by rw [show eS ts _ (.plain [.s "back"])=_ from ad4 Wd.back,hv]; rfl⟩
     · obtain ⟨v,hv⟩:=ad5 .stop; exact ⟨[v],by rw [show eS ts _ (.plain [.s "stop"])=_ from ad4 Wd.stop,hv]; rfl⟩
   | put n e=>exact ⟨_,rfl⟩
   | wait n bs=>exact ⟨_,rfl⟩
   | loop x =>
     cases k with
     | zero=>exact hw.elim
     | succ k =>
       obtain ⟨R,hR⟩:=av0 (f:=eS ts n) hw.1 fun s hs=>ih d j k true s (by omega) hj (by omega) (hw.2 s hs)
       exact ⟨ai5 R,by rw [bc7,hR]; rfl⟩
   | test c x y =>
     cases k with
     | zero=>exact hw.elim
     | succ k =>
       obtain ⟨R,hR⟩:=av0 (f:=eS ts n) hw.2.1.1 fun s hs=>ih d j k lp s (by omega) hj (by omega) (hw.2.1.2 s hs)
       obtain ⟨R2,hR2⟩:=av0 (f:=eS ts n) hw.2.2.1 fun s hs=>ih d j k lp s (by omega) hj (by omega) (hw.2.2.2 s hs)
       exact ⟨R++R2,by rw [bc8,hR,hR2]; rfl⟩
theorem TksV.ex {bx:Nat}{ts:Tks}{ns:List Str}(h:TksV bx ts ns) {j k:Nat}(hk:k≤5) {lp:Bool}{b:List Stm}(hb:okB 8 (bnx bx) (ns.drop (j+1)) k lp b):∃ E,eBf (eS ts 30) b=some E:=by
 have:=h.l
 exact av0 hb.1 fun s hs=>cf6 h 30 3 (j+1) k lp s (by omega) (by omega) hk (hb.2 s hs)
theorem TksV.dry {bx:Nat}{ts:Tks}{ns:List Str}(h:TksV bx ts ns):bw2 ts:=fun t ht x hx=>by
 obtain ⟨i,h1,h2,_⟩:=h.b t ht
 obtain ⟨s,hs,hx'⟩:=aq8 hx
 obtain ⟨j,lp',hj,hz⟩:=bp1 5 false s (h2.2 s hs) _ hx'
 cases j with
 | zero=>exact hz.elim
 | succ j=>exact h.ex (j:=i) (k:=j) (by omega) (lp:=true) hz
theorem bw5 {tn:List Str}{c:Str}{b:List Stm}(hk:KdB tn b) (hc:ae4 c b):c∈tn:=by
 have:=hk _ hc
 rcases this with ⟨w,e⟩ | ⟨l,w,e⟩ | ⟨w,e,hw⟩ | e | e | e | e
 · exact absurd (congrArg (fun l=>l.head?) e) (by simp; decide +kernel)
 · simp at e
 · simp at e
   subst e
   exact hw
 all_goals simp at e
theorem TksV.tko {bx:Nat}{ts:Tks}{ns:List Str}(h:TksV bx ts ns):TkO 8 ts (bnx bx) (fun c=>ns.idxOf c) where
 l:=Nat.le_trans h.tl (by decide)
 m:=by decide
 u:=h.u
 o:=fun x hx=>by
  obtain ⟨i,h1,h2,_⟩:=h.b x hx
  exact aj4 (fun c hc=>h.m c (List.mem_of_mem_drop hc)) (by decide) (fun z=>z) h2
 z:=fun x hx=>by
  obtain ⟨i,h1,h2,h3⟩:=h.b x hx
  exact Nat.le_trans h3 (by decide)
 c:=fun x hx c hc=>by
  obtain ⟨i,h1,h2,_⟩:=h.b x hx
  have hcd:=bw5 (bp2 (by decide) h2) hc
  obtain ⟨k,hk⟩:=List.mem_iff_getElem?.mp hcd
  rw [List.getElem?_drop] at hk
  obtain ⟨l1,e1⟩:=List.getElem?_eq_some_iff.mp h1
  obtain ⟨l2,e2⟩:=List.getElem?_eq_some_iff.mp hk
  rw [← e1,←e2,h.n.idxOf_getElem,h.n.idxOf_getElem]
  omega
theorem bf2 {ts:Tks}(hu:(ts.map (·.1)).Nodup) {n:Str}{b:List Stm}(h:(n,b)∈ts):a29 ts n=some b:=by
 unfold a29
 induction ts with
 | nil=>cases h
 | cons x ts ih =>
   rw [List.map_cons,List.nodup_cons] at hu
   rcases List.mem_cons.mp h with e | e
   · rw [List.find?_cons_of_pos (by simp [← e])]
     rw [← e]; rfl
   · rw [List.find?_cons_of_neg (by
      have:x.1≠n:=fun z=>hu.1 (List.mem_map.mpr ⟨_,e,z.symm⟩)
      simpa using this)]
     exact ih hu.2 e
open Classical in
noncomputable def woP (p:Addr→Prop) (H:Hp):Hp:=fun a=>if p a then none else H a
theorem wpG {p:Addr→Prop}{H:Hp}{a:Addr}(h:¬ p a):woP p H a=H a:=if_neg h
theorem wpT {p:Addr→Prop}{H:Hp}{a:Addr}{o:HO}(e:woP p H a=some o):¬ p a∧H a=some o:=by
 by_cases h:p a
 · unfold woP at e; rw [if_pos h] at e; cases e
 · rw [wpG h] at e; exact ⟨h,e⟩
theorem wpS {p:Addr→Prop}{H H':Hp}(s:Same H H'):Same (woP p H) (woP p H'):=fun a o e=>by
 obtain ⟨h1,h2⟩:=wpT e
 rw [wpG h1]
 exact s _ _ h2
theorem wpL {p:Addr→Prop}{H:Hp}:Same (woP p H) H:=fun a o e=>(wpT e).2
theorem wpB {p q:Addr→Prop}{H:Hp}(h:∀ a,q a→p a):Same (woP p H) (woP q H):=fun a o e=>by
 obtain ⟨h1,h2⟩:=wpT e
 rw [wpG (fun z=>h1 (h a z))]
 exact h2
theorem wpU {p:Addr→Prop}{H:Hp}{d:Addr}{o:HO}(h:p d):woP p (upd H d o)=woP p H:=funext fun a=>by
 by_cases e:p a
 · unfold woP; rw [if_pos e,if_pos e]
 · rw [wpG e,wpG e,a12 (fun z=>e (by rw [z]; exact h))]
def OfD (d l:Addr) (H H':Hp):Prop:=Same (woP (fun a=>a=d∨a=l) H) (woP (fun a=>a=d∨a=l) H')
theorem OfD.of {d l:Addr}{H H':Hp}(s:Same H H'):OfD d l H H':=wpS s
theorem OfD.trans {d l:Addr}{H H' H2:Hp}(a:OfD d l H H') (b:OfD d l H' H2):OfD d l H H2:=Same.trans a b
theorem OfD.at {d l:Addr}{H H':Hp}(s:OfD d l H H') {a:Addr}{o:HO}(h1:a≠d) (h2:a≠l) (e:H a=some o):H' a=some o :=
 (wpT (s a o (by rw [wpG (fun z=>z.elim h1 h2)]; exact e))).2
theorem OfD.p {d l:Addr}{H H':Hp}(s:OfD d l H H') {p:Addr→Prop}(h1:p d) (h2:p l):Same (woP p H) (woP p H'):=fun a o e=>by
 obtain ⟨h3,h4⟩:=wpT e
 rw [wpG h3]
 exact s.at (fun z=>h3 (by rw [z]; exact h1)) (fun z=>h3 (by rw [z]; exact h2)) h4
theorem OfD.u1 {d l:Addr}{H H':Hp}{o:HO}(s:OfD d l H H'):OfD d l H (upd H' d o):=by
 unfold OfD at *
 rw [wpU (.inl rfl)]
 exact s
theorem OfD.u2 {d l:Addr}{H H':Hp}{o:HO}(s:OfD d l H H'):OfD d l H (upd H' l o):=by
 unfold OfD at *
 rw [wpU (.inr rfl)]
 exact s
structure Dk4 (H:Hp) (d l:Addr) (left:Int) (calls:Nat):Prop where
 ex:∃ (ms:List Int) (cur:Int),H d=some (.lst [.ref l,.int cur,.int left,.int (calls:Nat)])∧H l=some (.lst (ms.map V.int))∧ms.length≤100
 ne:d≠l
theorem Dk4.same {H H':Hp}{d l:Addr}{left:Int}{calls:Nat}(k:Dk4 H d l left calls) (s:Same H H'):Dk4 H' d l left calls:=by
 obtain ⟨ms,cur,h1,h2,h3⟩:=k.ex
 exact ⟨⟨ms,cur,s _ _ h1,s _ _ h2,h3⟩,k.ne⟩
theorem Dk4.new {H:Hp}{d l a:Addr}{left:Int}{calls:Nat}(k:Dk4 H d l left calls) (f:H a=none):a≠d∧a≠l:=by
 obtain ⟨ms,cur,h1,h2,h3⟩:=k.ex
 exact ⟨fun z=>(by rw [z,h1] at f; cases f),fun z=>(by rw [z,h2] at f; cases f)⟩
theorem sqS {K:PySem.W.Frag}{H H':Hp}{a:Addr}{xs:List V}(h:SqL K H a xs) (s:Same H H'):SqL K H' a xs:=by
 rcases h with (h | ⟨o,h⟩) | h
 · exact .inl (.inl (s _ _ h))
 · exact .inl (.inr ⟨o,s _ _ h⟩)
 · exact .inr h
def c90 (K:PySem.W.Frag):Sp:=fun vs H Q _=>∃ (a:Addr) (ns:List Int) (k:Nat),vs=[.ref a,.int (k:Nat)]∧SqL K H a (ns.map V.int)∧∀ z:Int,Q (.int z) H
theorem ad7 (T:Txt K mg t):FnOk P w K mg base CX0 1 t.a__law_cell_at t.fd__law_cell_at ["script","k"] (c90 K):=by
 refine T.f__law_cell_at.F.ok am5 (fun vs H Q E h=>?_) (fun cdv A outer s H vs Q E hr h=>?_)
 · obtain ⟨a,ns,k,rfl,_⟩:=h
   rfl
 · obtain ⟨a,ns,k,rfl,hS,q⟩:=h
   refine ⟨_,(@a02 _ _ _ _ _ (@a30 _ _ _ _ _ _ _ _ (@a07 _ _ _ _ _ _ _ _ bz4 (pv 1) (@a50 _ _ _ _ _ _ _ _ _ (a82 K) (by rfl) T.z_len ab4 (@a00 _ _ _ _ _ (pv 0) (@a01 _) (by rfl)) (by decide) (by decide) (by rfl) (by rfl)) (nomark _)) (@a04 _ _ _ (@a14 _ _ _ _ (@a15 _ _ _ _ _ _ _ (a20 K) (pv 0) (pv 1) (fun _ _=>rfl)))) (@a11 _))
    (@a04 _ _ _ (@a14 _ _ _ _ (@a03 _ _ _ _)))),?_⟩
   walk_at "go"
   refine ab5 hS ?_
   walk_at "run"
   rw [List.length_map]
   by_cases hk:k<ns.length
   · refine a28 (by omega) ?_
     walk_at "run"
     exact a55 hS (a05 (j:=k) (v:=.int ns[k]) (by simp [hk])) (q _)
   · refine a23 (by omega) ?_
     walk_at "run"
     exact q 0
def c91:Sp:=fun vs H Q _=>∃ (c:Int) (k:Nat),vs=[.int c,.int (k:Nat)]∧k≤100∧∀ r:Int,0≤r→r<2305843009213693951→Q (.int r) H
theorem m61 (c:Int):0≤c % 2305843009213693951∧c % 2305843009213693951<2305843009213693951:=⟨Int.emod_nonneg c (by decide),Int.emod_lt_of_pos c (by decide)⟩
theorem m61b {r:Int}(h0:0≤r) (h1:r<2305843009213693951):Bd 61 r:=Bd.of h0 (by rw [show (2:Int) ^ 61=2305843009213693952 by decide]; omega)
theorem av1 (T:Txt K mg t):FnOk P w K mg base CX0 1 t.a__law_mixed t.fd__law_mixed ["cell","k"] c91:=by
 refine T.f__law_mixed.F.ok sc_law_mixed (fun vs H Q E h=>?_) (fun cdv A outer s H vs Q E hr h=>?_)
 · obtain ⟨c,k,rfl,_⟩:=h
   rfl
 · obtain ⟨c,k,rfl,hk,q⟩:=h
   refine ⟨_,(@a02 _ _ _ _ _ (@a18 _ _ 2 _ _ _ _ sc_law_mixed.nd rfl (by walk_at "o") (@a33 _ _ _ _ _ _ _ _ am8 (@a33 _ _ _ _ _ _ _ _ af4 (@a33 _ _ _ _ _ _ _ _ a21 (@a33 _ _ _ _ _ _ _ _ a21 (@a33 _ _ _ _ _ _ _ _ am8 (pv 0) (@a33 _ _ _ _ _ _ _ _ bz1 (@a03 _ _ _ _) (@a03 _ _ _ _))) (@a33 _ _ _ _ _ _ _ _ af4 (@a03 _ _ _ _) (pv 1))) (@a03 _ _ _ _)) (@a03 _ _ _ _)) (@a03 _ _ _ _)) (by rfl) (by walk_at "o"))
    (@a02 _ _ _ _ _ (@a18 _ _ 2 _ _ _ _ sc_law_mixed.nd rfl (by walk_at "o") (@a33 _ _ _ _ _ _ _ _ am8 (@a33 _ _ _ _ _ _ _ _ af4 (pv 2) (pv 2)) (@a03 _ _ _ _)) (by rfl) (by walk_at "o"))
    (@a04 _ _ _ (@a14 _ _ _ _ (@a33 _ _ _ _ _ _ _ _ am8 (@a33 _ _ _ _ _ _ _ _ af4 (pv 2) (@a03 _ _ _ _)) (@a03 _ _ _ _)))))),?_⟩
   walk_at "go"
   refine ao1 (Bd.big (m61b (m61 _).1 (m61 _).2) (m61b (m61 _).1 (m61 _).2)) ?_
   walk_at "run"
   exact q _ (m61 _).1 (m61 _).2
def bw6 (K:PySem.W.Frag):Sp:=fun vs H Q _=>∃ (a:Addr) (ns:List Int),vs=[.ref a]∧SqL K H a (ns.map V.int)∧ns.length≤63∧∀ d l H',H d=none→H l=none→Same H H'→Dk4 H' d l 40 4→Q (.ref d) H'
theorem bl7 (ns:List Int) (a b:Option Int):∃ ms:List Int,cutV (ns.map V.int) a b=ms.map V.int∧ms.length≤ns.length:=by
 unfold cutV
 refine ⟨_,by rw [← List.map_drop,←List.map_take],?_⟩
 rw [List.length_take,List.length_drop]
 omega
theorem ay4 (T:Txt K mg t):FnOk P w K mg base CX0 2 t.a__law_deck t.fd__law_deck ["script"] (bw6 K):=by
 have G__law_cell_at:=ad7 (P:=P) (w:=w) (base:=base) T
 have G__law_mixed:=av1 (P:=P) (w:=w) (base:=base) T
 refine T.f__law_deck.F.ok sc_law_deck (fun vs H Q E h=>?_) (fun cdv A outer s H vs Q E hr h=>?_)
 · obtain ⟨a,ns,rfl,_⟩:=h
   rfl
 · obtain ⟨a,ns,rfl,hS,hl,q⟩:=h
   refine ⟨_,(@a02 _ _ _ _ _ (@a18 _ _ 1 _ _ _ _ sc_law_deck.nd rfl (by walk_at "o") (@a13 _ _ _ _ (@a01 _)) (by rfl) (by walk_at "o"))
    (@a02 _ _ _ _ _ (@a69 _ _ _ _ _ _ _ _ PassesOwn.never rfl (c57 K rfl T.z_reversed (@a00 _ _ _ _ _ (@a39 _ _ _ _ _ _ _ _ _ _ (a40 K) (pv 0) (@a48 _ _ _ (@a03 _ _ _ _)) (@a48 _ _ _ (@a03 _ _ _ _))) (@a01 _) (by rfl))) (a16 (i:=2) sc_law_deck.nd rfl (by walk_at "o")) (@a02 _ _ _ _ _ (@a18 _ _ 3 _ _ _ _ sc_law_deck.nd rfl (by walk_at "o") (@a50 _ _ _ _ _ _ _ _ _ az6 (by rfl) T.z_abs bn3 (@a00 _ _ _ _ _ (pv 2) (@a01 _) (by rfl)) (by decide) (by decide) (by rfl) (by rfl)) (by rfl) (by walk_at "o"))
     (@a41 _ _ _ _ _ (@a30 _ _ _ _ _ _ _ _ (@a07 _ _ _ _ _ _ _ _ a36 (@a33 _ _ _ _ _ _ _ _ am8 (@a09 _ _ _ _ _ _ _ _ _ _ _ _ _ _ _ _ G__law_cell_at (hr.mono (by omega)) rfl T.f__law_cell_at.m T.f__law_cell_at.F.kp T.f__law_cell_at.b .nil a19 (@a00 _ _ _ _ _ (pv 0) (@a00 _ _ _ _ _ (@a03 _ _ _ _) (@a01 _) (by rfl)) (by rfl)) (by decide) (by rfl) (by rfl)) (@a03 _ _ _ _)) (@a03 _ _ _ _) (nomark _)) (@a02 _ _ _ _ _ (@a18 _ _ 3 _ _ _ _ sc_law_deck.nd rfl (by walk_at "o") (@a03 _ _ _ _) (by rfl) (by walk_at "o"))
      (@a04 _ _ _ (@a69 _ _ _ _ _ _ _ _ PassesOwn.never rfl (aa8 rfl T.z_range (@a00 _ _ _ _ _ (@a03 _ _ _ _) (@a01 _) (by rfl))) (a16 (i:=4) sc_law_deck.nd rfl (by walk_at "o")) (@a04 _ _ _ (@a18 _ _ 3 _ _ _ _ sc_law_deck.nd rfl (by walk_at "o") (@a33 _ _ _ _ _ _ _ _ a21 (@a33 _ _ _ _ _ _ _ _ af4 (pv 3) (@a03 _ _ _ _)) (@a09 _ _ _ _ _ _ _ _ _ _ _ _ _ _ _ _ G__law_mixed (hr.mono (by omega)) rfl T.f__law_mixed.m T.f__law_mixed.F.kp T.f__law_mixed.b .nil a19 (@a00 _ _ _ _ _ (pv 2) (@a00 _ _ _ _ _ (pv 4) (@a01 _) (by rfl)) (by rfl)) (by decide) (by rfl) (by rfl))) (by rfl) (by walk_at "o"))) (by intro _; rfl)))) (@a11 _))
     (@a04 _ _ _ (@a32 _ _ _ _ (@a83 _ K _ _ _ _ _ _ _ _ _ _ _ PySem.F.plainAttrs_list PySem.F.slot_list_append PySem.F.type_list_append a78 (pv 1) (@a00 _ _ _ _ _ (pv 3) (@a01 _) (by rfl)) (by rfl) (by rfl) (by rfl) (by rfl) (by rfl) (by rfl)) (by rfl))))) (by intro _; rfl))
    (@a04 _ _ _ (@a14 _ _ _ _ (@a13 _ _ _ _ (@a00 _ _ _ _ _ (pv 1) (@a00 _ _ _ _ _ (@a03 _ _ _ _) (@a00 _ _ _ _ _ (@a03 _ _ _ _) (@a00 _ _ _ _ _ (@a03 _ _ _ _) (@a01 _) (by rfl)) (by rfl)) (by rfl)) (by rfl))))))),?_⟩
   have sl:(1000000:Nat)≤sizeLine:=le_line (Nat.le_refl _)
   walk_at "go"
   intro ln H1 f1 s1 e1
   walk_at "run"
   have hS1:SqL K H1 a (ns.map V.int):=sqS hS s1
   refine ac7 hS1 ?_
   obtain ⟨ms,hms,hml⟩:=bl7 ns (some 1) (some 58)
   rw [hms]
   intro pc H2 f2 s2 e2
   walk_at "run"
   have hS2:=sqS hS1 s2
   have hmv:(ms.map V.int).length=ms.length:=List.length_map _
   refine ⟨pc,ms.map V.int,rfl,SqL.of e2,bt9 (K:=K) (a:=pc) (xs:=ms.map V.int) (fun i σ H'=>Same H H'∧i≤ms.length∧H' pc=some (.lst (ms.map V.int))∧(∃ zs:List Int,zs.length=i∧H' ln=some (.lst (zs.map V.int)))∧∃ y1 y2 y3,σ=[some (.ref a),some (.ref ln),y1,y2,y3]) ⟨s1.trans s2,Nat.zero_le _,e2,⟨[],rfl,s2 _ _ e1⟩,_,_,_,rfl⟩ (fun i σ H' _ zz=>by obtain ⟨_,_,z,_⟩:=zz; exact SqL.of z) ?_ ?_⟩
   · rintro i x σ H3 hi hx ⟨s3,_,e3,⟨zs,hz,e4⟩,y1,y2,y3,rfl⟩
     obtain ⟨c,_,rfl⟩:∃ c,ms[(ms.map V.int).length - 1 - i]?=some c∧x=.int c:=by
      rw [List.getElem?_map] at hx
      obtain ⟨c,z1,z2⟩:=Option.map_eq_some_iff.mp hx
      exact ⟨c,z1,z2.symm⟩
     walk_at "run"
     refine a95 (fun σ' H'=>H3=H'∧∃ (z:Int) (y:Option V),σ'=[some (.ref a),some (.ref ln),some (.int c),some (.int z),y]) ?_ ?_
     · walk_at "run"
       refine ⟨a,ns,0,rfl,sqS hS s3,fun z=>?_⟩
       walk_at "run"
       by_cases hz1:z % 2=1
       · refine a28 hz1 ?_
         walk_at "run"
         refine aj8 (lo:=0) (n:=5) (fun k σ' H'=>H3=H'∧k≤5∧∃ (z:Int) (y:Option V),σ'=[some (.ref a),some (.ref ln),some (.int c),some (.int z),y]∧Bd (64*k+64) z) ⟨rfl,by omega,1,_,rfl,by unfold Bd; decide⟩ ?_ ?_
         · rintro k σ' H' hk ⟨rfl,_,z,y,rfl,hb⟩
           walk_at "run"
           rw [Int.zero_add]
           refine ⟨c,k,rfl,by omega,fun r r0 r1=>?_⟩
           walk_at "run"
           refine ⟨rfl,by omega,_,_,rfl,?_⟩
           have b1:=hb.mul (show Bd 62 2305843009213693951 by unfold Bd; decide)
           exact ((b1.mono (show 64*k+64+62≤64*k+127 by omega)).add ((m61b r0 r1).mono (show 61≤64*k+127 by omega))).mono (by omega)
         · rintro σ' H' ⟨rfl,_,z,y,rfl,_⟩
           exact ⟨rfl,z,y,rfl⟩
       · refine a23 hz1 ?_
         walk_at "run"
         exact ⟨rfl,_,_,rfl⟩
     rintro σ' H' ⟨rfl,z,y,rfl⟩
     walk_at "run"
     refine ab6 (SqL.of e4) ?_
     walk_at "run"
     refine ac3 e4 (by rw [List.length_map]; omega) ?_
     have hne:pc≠ln:=fun z=>by rw [z,e1] at f2; cases f2
     refine ⟨s3.updNew f1,by omega,by rw [a12 hne]; exact e3,⟨zs++[z],by simp [hz],?_⟩,_,_,_,rfl⟩
     rw [a17]
     simp
   · rintro σ H3 ⟨s3,_,_,⟨zs,hz,e4⟩,y1,y2,y3,rfl⟩
     walk_at "run"
     intro dk H4 f4 s4 e5
     have hne:dk≠ln:=fun z=>by rw [z,e4] at f4; cases f4
     refine q dk ln H4 ?_ f1 (s3.trans s4) ⟨⟨zs,0,e5,s4 _ _ e4,by omega⟩,hne⟩
     cases h:H dk with
     | none=>rfl
     | some o=>rw [s3 _ _ h] at f4; cases f4
def bp5 (K:PySem.W.Frag):Sp:=fun vs H Q _=>∃ (d l:Addr) (left:Int) (calls m:Nat),vs=[.ref d,.int (m:Nat)]∧Dk4 H d l left calls∧0<m∧m≤1000∧∀ (r:Nat) (H':Hp),r<m→OfD d l H H'→Dk4 H' d l left calls→Q (.int (r:Nat)) H'
theorem a89 (T:Txt K mg t):FnOk P w K mg base CX0 1 t.a__law_digit t.fd__law_digit ["deck","many"] (bp5 K):=by
 refine T.f__law_digit.F.ok sc_law_digit (fun vs H Q E h=>?_) (fun cdv A outer s H vs Q E hr h=>?_)
 · obtain ⟨d,l,left,calls,m,rfl,_⟩:=h
   rfl
 · obtain ⟨d,l,left,calls,m,rfl,k,hm0,hm,q⟩:=h
   refine ⟨_,(@a41 _ _ _ _ _ (@a30 _ _ _ _ _ _ _ _ (@PW.pt _ _ _ (@a68 _ _ _ _ _ _ _ (@a07 _ _ _ _ _ _ _ _ a36 (@a15 _ _ _ _ _ _ _ (a20 K) (pv 0) (@a03 _ _ _ _) (fun _ _=>rfl)) (@a03 _ _ _ _) (nomark _)) (@a56 _ _ _ _ (@a07 _ _ _ _ _ _ _ _ aw1 (@a50 _ _ _ _ _ _ _ _ _ (a82 K) (by rfl) T.z_len ab4 (@a00 _ _ _ _ _ (@a15 _ _ _ _ _ _ _ (a20 K) (pv 0) (@a03 _ _ _ _) (fun _ _=>rfl)) (@a01 _) (by rfl)) (by decide) (by decide) (by rfl) (by rfl)) (@a03 _ _ _ _) (nomark _))))) (@a04 _ _ _ (@ar6 _ _ _ _ _ _ (aw6 K PySem.F.plainAttrs_list PySem.F.slot_list_pop PySem.F.type_list_pop b81 (@a15 _ _ _ _ _ _ _ (a20 K) (pv 0) (@a03 _ _ _ _) (fun _ _=>rfl))) (ar5 (pv 0) (@a03 _ _ _ _) ae6) (by rfl) (by rfl) (by rfl))) (@a11 _))
    (@a02 _ _ _ _ _ (@a18 _ _ 2 _ _ _ _ sc_law_digit.nd rfl (by walk_at "o") (@a33 _ _ _ _ _ _ _ _ am8 (@a15 _ _ _ _ _ _ _ (a20 K) (pv 0) (@a03 _ _ _ _) (fun _ _=>rfl)) (pv 1)) (by rfl) (by walk_at "o"))
    (@a02 _ _ _ _ _ (@ar6 _ _ _ _ _ _ (@a33 _ _ _ _ _ _ _ _ bq6 (@a15 _ _ _ _ _ _ _ (a20 K) (pv 0) (@a03 _ _ _ _) (fun _ _=>rfl)) (pv 1)) (ar5 (pv 0) (@a03 _ _ _ _) ae6) (by rfl) (by rfl) (by rfl))
    (@a04 _ _ _ (@a14 _ _ _ _ (pv 2)))))),?_⟩
   have sl:(1000000:Nat)≤sizeLine:=le_line (Nat.le_refl _)
   obtain ⟨ms,cur,h1,h2,hml⟩:=k.ex
   have ne:=k.ne
   walk_at "go"
   refine a95 (fun σ' H'=>σ'=[some (.ref d),some (.int (m:Nat)),none]∧OfD d l H H'∧Dk4 H' d l left calls) ?_ ?_
   · walk_at "run"
     refine a55 (SqL.of h1) (a05 (j:=1) rfl) ?_
     walk_at "run"
     by_cases hc:cur=0
     · refine a28 hc ?_
       walk_at "run"
       refine a55 (SqL.of h1) (a05 (j:=0) rfl) ?_
       walk_at "run"
       refine ab5 (SqL.of h2) ?_
       walk_at "run"
       rcases List.eq_nil_or_concat ms with rfl | ⟨zs,z,rfl⟩
       · rw [if_neg (by simp)]
         walk_at "run"
         exact ⟨rfl,OfD.of (Same.refl _),k⟩
       · rw [if_pos (by simp)]
         walk_at "run"
         refine a55 (SqL.of h1) (a05 (j:=0) rfl) ?_
         walk_at "run"
         refine ab6 (SqL.of h2) ?_
         walk_at "run"
         rw [List.concat_eq_append,List.map_append] at h2
         refine bt1 h2 ?_
         walk_at "run"
         have h1':upd H l (.lst (zs.map V.int)) d=some (.lst [.ref l,.int cur,.int left,.int (calls:Nat)]):=by rw [a12 ne]; exact h1
         refine at7 h1' (j:=1) rfl ?_
         refine ⟨rfl,((OfD.of (Same.refl _)).u2).u1,⟨⟨zs,z,a17,?_,by simp at hml; omega⟩,ne⟩⟩
         rw [a12 ne.symm,a17]
     · refine a23 hc ?_
       walk_at "run"
       exact ⟨rfl,OfD.of (Same.refl _),k⟩
   rintro σ' H1 ⟨rfl,s1,k1⟩
   obtain ⟨ms1,cur1,g1,g2,gml⟩:=k1.ex
   walk_at "run"
   refine a55 (SqL.of g1) (a05 (j:=1) rfl) ?_
   walk_at "run"
   refine a55 (SqL.of g1) (a05 (j:=1) rfl) ?_
   walk_at "run"
   refine i_rI (show CDiv _ _ from ⟨by omega,by omega⟩) ?_
   walk_at "run"
   refine at7 g1 (j:=1) rfl ?_
   walk_at "run"
   have r0:=Int.emod_nonneg cur1 (show (m:Int)≠0 by omega)
   have r1:=Int.emod_lt_of_pos cur1 (show (0:Int)<(m:Int) by omega)
   obtain ⟨r,hr⟩:∃ r:Nat,cur1 % (m:Int)=(r:Int):=⟨(cur1 % (m:Int)).toNat,by omega⟩
   rw [hr]
   exact q r _ (by omega) s1.u1 ⟨⟨ms1,_,a17,by rw [a12 ne.symm]; exact g2,gml⟩,ne⟩
structure BPre (H:Hp) (dk l ln:Addr) (left:Int) (calls:Nat) (nm:List Str) (p:Addr→Prop):Prop where
 k:Dk4 H dk l left calls
 n:woP p H ln=some (.lst (a27 nm))
 hn:nm.length≤4
 pd:p dk
 pl:p l
 ex:∀ a,p a→H a≠none
theorem BPre.go {H H':Hp}{dk l ln:Addr}{left left':Int}{calls calls':Nat}{nm:List Str}{p:Addr→Prop}(h:BPre H dk l ln left calls nm p) (o:OfD dk l H H') (k:Dk4 H' dk l left' calls'):BPre H' dk l ln left' calls' nm p :=
 ⟨k,(o.p h.pd h.pl) _ _ h.n,h.hn,h.pd,h.pl,fun a ha=>by
  obtain ⟨ms,cur,h1,h2,_⟩:=k.ex
  by_cases e1:a=dk
  · rw [e1,h1]; exact fun z=>by cases z
  by_cases e2:a=l
  · rw [e2,h2]; exact fun z=>by cases z
  cases e:H a with
  | none=>exact absurd e (h.ex a ha)
  | some x=>rw [o.at e1 e2 e]; exact fun z=>by cases z⟩
theorem BPre.same {H H':Hp}{dk l ln:Addr}{left:Int}{calls:Nat}{nm:List Str}{p:Addr→Prop}(h:BPre H dk l ln left calls nm p) (s:Same H H'):BPre H' dk l ln left calls nm p:=h.go (OfD.of s) (h.k.same s)
theorem BPre.fr {H:Hp}{dk l ln a:Addr}{left:Int}{calls:Nat}{nm:List Str}{p:Addr→Prop}(h:BPre H dk l ln left calls nm p) (f:H a=none):¬ p a:=fun z=>h.ex a z f
theorem OfD.un {d l bd:Addr}{H H':Hp}{o:HO}(s:OfD d l H H') (f:H bd=none):OfD d l H (upd H' bd o):=fun a x e=>by
 obtain ⟨h1,h2⟩:=wpT e
 rw [wpG h1,a12 (fun z=>by rw [z,f] at h2; cases h2)]
 have:=s a x e
 exact (wpT this).2
theorem bw7 {p:Addr→Prop}{H:Hp}{a:Addr}{v:V}{b:List Stm}(f:¬ p a) (h:H a=some (.tup [.str "loop",v])) (hb:BAt (woP p H) v b):SAt (woP p H) (.ref a) (.loop b):=sat_loop.mpr ⟨a,v,rfl,by rw [wpG f]; exact h,hb⟩
theorem bf3 {H:Hp}{a:Addr}{n:Int}(h:H a=some (.tup [.str "number",.int n])):(Ex.num n).tr.At H (.ref a) []:=bt4 h bt5 c47
theorem bw8 {H:Hp}{a:Addr}{c:Cd}{x y:List Stm}{u1 u2 u3:V}(h:H a=some (.tup [.str "test",u1,u2,u3])) (h1:c.tr.At H u1 []) (h2:BAt H u2 x) (h3:BAt H u3 y):SAt H (.ref a) (.test c x y):=by
 obtain ⟨f2,h2⟩:=h2
 obtain ⟨f3,h3⟩:=h3
 refine ⟨[]++([]++(f2++(f3++[]))),?_⟩
 simp only [Stm.tr,Tr.At,Tr.Ats] at h2 h3 ⊢
 exact ⟨a,_,rfl,h,_,_,[],_,rfl,rfl,⟨rfl,rfl⟩,u1,_,[],_,rfl,rfl,h1,u2,_,f2,_,rfl,rfl,h2,u3,_,f3,[],rfl,rfl,h3,rfl,rfl⟩
theorem c92 {H:Hp}{a:Addr}{n:Str}{e:Ex}{u:V}(h:H a=some (.tup [.str "put",.str n,u])) (h1:e.tr.At H u []):SAt H (.ref a) (.put n e):=by
 refine ⟨[],?_⟩
 simp only [Stm.tr,Tr.At,Tr.Ats]
 exact ⟨a,_,rfl,h,_,_,[],[],rfl,rfl,⟨rfl,rfl⟩,_,_,[],[],rfl,rfl,⟨rfl,rfl⟩,u,_,[],[],rfl,rfl,h1,rfl,rfl⟩
theorem bw9 {H:Hp}{a p1 p2:Addr}{m:Bool}{i j:Int}(h1:H p1=some (.tup [.str "number",.int i])) (h2:H p2=some (.tup [.str "number",.int j])) (h:H a=some (.tup [.str (aw7 m),.ref p1,.ref p2])):(Cd.cmp m (.num i) (.num j)).tr.At H (.ref a) []:=by
 have a1:=bf3 h1
 have a2:=bf3 h2
 simp only [Cd.tr,Tr.At,Tr.Ats]
 exact ⟨a,_,rfl,h,_,_,[],[],rfl,rfl,⟨rfl,rfl⟩,_,_,[],[],rfl,rfl,a1,_,_,[],[],rfl,rfl,a2,rfl,rfl⟩
def ar2 (K:PySem.W.Frag) (d:Nat):Sp:=fun vs H Q _=>∃ (dk l ln:Addr) (left:Int) (calls deep e:Nat) (lp:Bool) (nm:List Str) (p:Addr→Prop),vs=[.ref dk,.ref ln,.bl lp,.int (deep:Nat)]∧BPre H dk l ln left calls nm p∧e<d∧deep+e=5∧1≤e∧-(e:Int)≤left∧∀ v b left' calls' H',OfD dk l H H'→Dk4 H' dk l left' calls'→BAt (woP p H') v b→(b.length≤6∧∀ s∈b,wS nm e lp s)→(Stm.szs b:Int)+left'≤left→Stm.cls b+calls'≤calls→-(e:Int)≤left'→Q v H'
def c93 (K:PySem.W.Frag) (d:Nat):Sp:=fun vs H Q _=>∃ (dk l ln:Addr) (left:Int) (calls deep e:Nat) (nm:List Str) (p:Addr→Prop),vs=[.ref dk,.ref ln,.int (deep:Nat)]∧BPre H dk l ln left calls nm p∧e+1<d∧deep+(e+1)=5∧1≤e∧0≤left∧∀ v x left' calls' H',OfD dk l H H'→Dk4 H' dk l left' calls'→SAt (woP p H') v (.loop x)→(x.length≤7∧∀ s∈x,wS nm e true s)→(Stm.szs x:Int)+left'≤left→Stm.cls x+calls'≤calls→-((e+1:Nat):Int)≤left'→Q v H'
def bp6 (K:PySem.W.Frag) (d:Nat):Sp:=fun vs H Q _=>∃ (dk l ln:Addr) (left:Int) (calls deep e:Nat) (lp:Bool) (nm:List Str) (p:Addr→Prop),vs=[.ref dk,.ref ln,.bl lp,.int (deep:Nat)]∧BPre H dk l ln left calls nm p∧e<d∧deep+e=5∧1≤e∧1≤left∧∀ v s left' calls' H',OfD dk l H H'→Dk4 H' dk l left' calls'→SAt (woP p H') v s→wS nm e lp s→(s.sz:Int)+left'≤left→s.cl+calls'≤calls→-(e:Int)≤left'→Q v H'
theorem ay5 (T:Txt K mg t) {d:Nat}(G__law_some:FnOk P w K mg base CX0 (3*d+2) t.a__law_some t.fd__law_some ["deck","later","looped","deep"] (ar2 K d)):FnOk P w K mg base CX0 (3*d+3) t.a__law_loop t.fd__law_loop ["deck","later","deep"] (c93 K (d+1)):=by
 have G__law_digit:=a89 (P:=P) (w:=w) (base:=base) T
 refine T.f__law_loop.F.ok sc_law_loop (fun vs H Q E h=>?_) (fun cdv A outer s H vs Q E hr h=>?_)
 · obtain ⟨dk,l,ln,left,calls,deep,e,nm,p,rfl,_⟩:=h
   rfl
 · obtain ⟨dk,l,ln,left,calls,deep,e,nm,p,rfl,hB,he,hde,he2,hl0,q⟩:=h
   refine ⟨_,(@a02 _ _ _ _ _ (@a18 _ _ 3 _ _ _ _ sc_law_loop.nd rfl (by walk_at "o") (@a09 _ _ _ _ _ _ _ _ _ _ _ _ _ _ _ _ G__law_some (hr.mono (by omega)) rfl T.f__law_some.m T.f__law_some.F.kp T.f__law_some.b .nil a19 (@a00 _ _ _ _ _ (pv 0) (@a00 _ _ _ _ _ (pv 1) (@a00 _ _ _ _ _ (@ah1 _ _ _ _) (@a00 _ _ _ _ _ (@a33 _ _ _ _ _ _ _ _ a21 (pv 2) (@a03 _ _ _ _)) (@a01 _) (by rfl)) (by rfl)) (by rfl)) (by rfl)) (by decide) (by rfl) (by rfl)) (by rfl) (by walk_at "o"))
    (@a41 _ _ _ _ _ (@a30 _ _ _ _ _ _ _ _ (@a07 _ _ _ _ _ _ _ _ a36 (@a09 _ _ _ _ _ _ _ _ _ _ _ _ _ _ _ _ G__law_digit (hr.mono (by omega)) rfl T.f__law_digit.m T.f__law_digit.F.kp T.f__law_digit.b .nil a19 (@a00 _ _ _ _ _ (pv 0) (@a00 _ _ _ _ _ (@a03 _ _ _ _) (@a01 _) (by rfl)) (by rfl)) (by decide) (by rfl) (by rfl)) (@a03 _ _ _ _) (nomark _)) (@a02 _ _ _ _ _ (@ar6 _ _ _ _ _ _ (@a33 _ _ _ _ _ _ _ _ b67 (@a15 _ _ _ _ _ _ _ (a20 K) (pv 0) (@a03 _ _ _ _) (fun _ _=>rfl)) (@a03 _ _ _ _)) (ar5 (pv 0) (@a03 _ _ _ _) ae6) (by rfl) (by rfl) (by rfl))
     (@a02 _ _ _ _ _ (@a18 _ _ 4 _ _ _ _ sc_law_loop.nd rfl (by walk_at "o") (@a09 _ _ _ _ _ _ _ _ _ _ _ _ _ _ _ _ G__law_digit (hr.mono (by omega)) rfl T.f__law_digit.m T.f__law_digit.F.kp T.f__law_digit.b .nil a19 (@a00 _ _ _ _ _ (pv 0) (@a00 _ _ _ _ _ (@a33 _ _ _ _ _ _ _ _ a21 (@a50 _ _ _ _ _ _ _ _ _ (a82 K) (by rfl) T.z_len ab4 (@a00 _ _ _ _ _ (pv 3) (@a01 _) (by rfl)) (by decide) (by decide) (by rfl) (by rfl)) (@a03 _ _ _ _)) (@a01 _) (by rfl)) (by rfl)) (by decide) (by rfl) (by rfl)) (by rfl) (by walk_at "o"))
     (@a04 _ _ _ (@a18 _ _ 3 _ _ _ _ sc_law_loop.nd rfl (by walk_at "o") (@a33 _ _ _ _ _ _ _ _ a21 (@a33 _ _ _ _ _ _ _ _ a21 (@a39 _ _ _ _ _ _ _ _ _ _ (a40 K) (pv 3) (@a57 _) (@a48 _ _ _ (pv 4))) (@a13 _ _ _ _ (@a00 _ _ _ _ _ (@a26 _ _ _ _ _ (@a00 _ _ _ _ _ (@a08 _ _ _ _) (@a00 _ _ _ _ _ (@a09 _ _ _ _ _ _ _ _ _ _ _ _ _ _ _ _ G__law_digit (hr.mono (by omega)) rfl T.f__law_digit.m T.f__law_digit.F.kp T.f__law_digit.b .nil a19 (@a00 _ _ _ _ _ (pv 0) (@a00 _ _ _ _ _ (@a03 _ _ _ _) (@a01 _) (by rfl)) (by rfl)) (by decide) (by rfl) (by rfl)) (@a00 _ _ _ _ _ (@a13 _ _ _ _ (@a01 _)) (@a01 _) (by rfl)) (by rfl)) (by rfl))) (@a01 _) (by rfl)))) (@a39 _ _ _ _ _ _ _ _ _ _ (a40 K) (pv 3) (@a48 _ _ _ (pv 4)) (@a57 _))) (by rfl) (by walk_at "o"))))) (@a11 _))
    (@a04 _ _ _ (@a14 _ _ _ _ (@a26 _ _ _ _ _ (@a00 _ _ _ _ _ (@a08 _ _ _ _) (@a00 _ _ _ _ _ (pv 3) (@a01 _) (by rfl)) (by rfl))))))),?_⟩
   have sl:(1000000:Nat)≤sizeLine:=le_line (Nat.le_refl _)
   walk_at "go"
   refine ⟨dk,l,ln,left,calls,deep+1,e,true,nm,p,rfl,hB,by omega,by omega,by omega,by omega,fun v b left1 calls1 H1 o1 k1 hb hw hz hc hlo=>?_⟩
   walk_at "run"
   have hB1:=hB.go o1 k1
   obtain ⟨bl,us,rfl,eb,hE⟩:=bat_iff.mp hb
   obtain ⟨qb,eb⟩:=wpT eb
   have hul:=hE.1
   have nbl:bl≠dk∧bl≠l:=⟨fun z=>qb (z ▸ hB.pd),fun z=>qb (z ▸ hB.pl)⟩
   have hwl:=hw.1
   refine a95 (fun σ' H'=>∃ (x:List Stm) (xl:Addr) (us:List V) (left':Int) (y:Option V),σ'=[some (.ref dk),some (.ref ln),some (.int (deep:Nat)),some (.ref xl),y]∧OfD dk l H H'∧Dk4 H' dk l left' calls1∧¬ p xl∧H' xl=some (.lst us)∧Each (SAt (woP p H')) us x∧(x.length≤7∧∀ s∈x,wS nm e true s)∧(Stm.szs x:Int)+left'≤left∧Stm.cls x=Stm.cls b∧-((e+1:Nat):Int)≤left') ?_ ?_
   · walk_at "run"
     refine ⟨dk,l,left1,calls1,2,rfl,k1,by omega,by omega,fun r H2 hr o2 k2=>?_⟩
     walk_at "run"
     have hB2:=hB1.go o2 k2
     have eb2:=o2.at nbl.1 nbl.2 eb
     have hE2:=hE.mono fun _ _ z=>z.same (o2.p hB.pd hB.pl)
     by_cases hr0:r=0
     · refine a28 (show (r:Int)=0 by omega) ?_
       walk_at "run"
       obtain ⟨ms,cur,d1,d2,d3⟩:=k2.ex
       have dne:=hB.k.ne
       refine a55 (SqL.of d1) (a05 (j:=2) rfl) ?_
       walk_at "run"
       refine at7 d1 (j:=2) rfl ?_
       walk_at "run"
       obtain ⟨left2,hleft2⟩:∃ x:Int,x=left1 - 1:=⟨_,rfl⟩
       have k3:Dk4 (upd H2 dk (.lst [.ref l,.int cur,.int (left1 - 1),.int (calls1:Nat)])) dk l left2 calls1:=⟨⟨ms,cur,by rw [a17,hleft2],by rw [a12 dne.symm]; exact d2,d3⟩,dne⟩
       have o3:OfD dk l H2 (upd H2 dk (.lst [.ref l,.int cur,.int (left1 - 1),.int (calls1:Nat)])):=(OfD.of (Same.refl _)).u1
       dsimp only [List.set_cons_zero,List.set_cons_succ]
       generalize upd H2 dk (.lst [.ref l,.int cur,.int (left1 - 1),.int (calls1:Nat)])=H3 at k3 o3 ⊢
       have eb3:=o3.at nbl.1 nbl.2 eb2
       have hB3:=hB2.go o3 k3
       refine ab5 (SqL.of eb3) ?_
       walk_at "run"
       refine ⟨dk,l,left2,calls1,us.length+1,by simp,k3,by omega,by omega,fun at_ H4 hat o4 k4=>?_⟩
       walk_at "run"
       have eb4:=o4.at nbl.1 nbl.2 eb3
       have hB4:=hB3.go o4 k4
       refine ac7 (SqL.of eb4) ?_
       rw [ah8]
       intro a5 H5 f5 s5 e5
       walk_at "run"
       refine ⟨dk,l,left2,calls1,3,rfl,k4.same s5,by omega,by omega,fun lim H6 hlim o6 k6=>?_⟩
       walk_at "run"
       have n5:=k4.new f5
       have fa5:¬ p a5:=hB4.fr f5
       have hB6:=(hB4.same s5).go o6 k6
       intro w1 J1 g1 m1 j1
       walk_at "run"
       intro w2 J2 g2 m2 j2
       walk_at "run"
       intro w3 J3 g3 m3 j3
       walk_at "run"
       have m13:=m1.trans (m2.trans m3)
       have fw1:=hB6.fr g1
       have fw2:=(hB6.same m1).fr g2
       have e5':=m13 _ _ (o6.at n5.1 n5.2 e5)
       refine a31 e5' j3 (by rw [List.length_take]; simp only [List.length_cons,List.length_nil]; omega) ?_
       intro a7 J4 g4 m4 j4
       walk_at "run"
       have m14:=m13.trans m4
       have eb7:=m14 _ _ (o6.at nbl.1 nbl.2 (s5 _ _ eb4))
       refine ac7 (SqL.of eb7) ?_
       rw [au6]
       intro a8 J5 g5 m5 j5
       walk_at "run"
       have j4':=m5 _ _ j4
       refine a31 j4' j5 (by simp only [List.length_append,List.length_take,List.length_drop,List.length_cons,List.length_nil]; omega) ?_
       intro a9 J6 g6 m6 j6
       walk_at "run"
       have m46:=m4.trans (m5.trans m6)
       have m16:=m13.trans m46
       have up:Same (woP p H2) (woP p J6):=(o3.p hB.pd hB.pl).trans ((o4.p hB.pd hB.pl).trans ((wpS s5).trans ((o6.p hB.pd hB.pl).trans (wpS m16))))
       have hE6:=hE2.mono fun _ _ z=>z.same up
       have W:SAt (woP p J6) (.ref w2) (.wait (lim:Int) []):=sat_wait.mpr ⟨w2,w1,[],rfl,by rw [wpG fw2]; exact (m3.trans m46) _ _ j2,by rw [wpG fw1]; exact (m2.trans (m3.trans m46)) _ _ j1,Each.nil⟩
       have fa9:¬ p a9:=(hB6.same (m13.trans (m4.trans m5))).fr g6
       refine ⟨b.take at_++[.wait (lim:Int) []]++b.drop at_,a9,_,left2,_,rfl,((o1.trans o2).trans (o3.trans (o4.trans (OfD.of s5)))).trans (o6.trans (OfD.of m16)),k6.same m16,fa9,j6,((ag8 hE6 at_).snoc W).append (au7 hE6 at_),⟨?_,fun s hs=>?_⟩,?_,?_,by omega⟩
       · simp only [List.length_append,List.length_take,List.length_drop,List.length_cons,List.length_nil]
         omega
       · rcases List.mem_append.mp hs with hs | hs
         · rcases List.mem_append.mp hs with hs | hs
           · exact hw.2 s (List.mem_of_mem_take hs)
           · rw [List.mem_singleton.mp hs]
             obtain ⟨e',rfl⟩:∃ e',e=e'+1:=⟨e - 1,by omega⟩
             exact rfl
         · exact hw.2 s (List.mem_of_mem_drop hs)
       · have h1:=szsA (b.take at_) (b.drop at_)
         rw [List.take_append_drop] at h1
         rw [szsA,szsA]
         have h2:Stm.szs [Stm.wait (lim:Int) []]=1:=rfl
         omega
       · have h1:=clsA (b.take at_) (b.drop at_)
         rw [List.take_append_drop] at h1
         rw [clsA,clsA]
         have h2:Stm.cls [Stm.wait (lim:Int) []]=0:=rfl
         omega
     · refine a23 (show ¬ (r:Int)=0 by omega) ?_
       walk_at "run"
       exact ⟨b,bl,us,left1,_,rfl,o1.trans o2,k2,qb,eb2,hE2,⟨by omega,hw.2⟩,hz,rfl,by omega⟩
   rintro σ' H3 ⟨x,xl,us3,left3,y,rfl,o3,k3,q3,e3,hE3,hw3,hz3,hc3,hl3⟩
   walk_at "run"
   intro a H4 f4 s4 e4
   have hB3:=hB.go o3 k3
   exact q _ x left3 calls1 H4 (o3.trans (OfD.of s4)) (k3.same s4) (bw7 (hB3.fr f4) e4 (bat_iff.mpr ⟨xl,us3,rfl,by rw [wpG q3]; exact s4 _ _ e3,hE3.mono fun _ _ z=>z.same (wpS s4)⟩)) hw3 hz3 (by omega) hl3
theorem b58 (T:Txt K mg t) {d:Nat}(G__law_loop:FnOk P w K mg base CX0 (3*d+3) t.a__law_loop t.fd__law_loop ["deck","later","deep"] (c93 K (d+1))) (G__law_some:FnOk P w K mg base CX0 (3*d+2) t.a__law_some t.fd__law_some ["deck","later","looped","deep"] (ar2 K d)):FnOk P w K mg base CX0 (3*d+4) t.a__law_one t.fd__law_one ["deck","later","looped","deep"] (bp6 K (d+1)):=by
 have G__law_digit:=a89 (P:=P) (w:=w) (base:=base) T
 refine T.f__law_one.F.ok sc_law_one (fun vs H Q E h=>?_) (fun cdv A outer s H vs Q E hr h=>?_)
 · obtain ⟨dk,l,ln,left,calls,deep,e,lp,nm,p,rfl,_⟩:=h
   rfl
 · obtain ⟨dk,l,ln,left0,calls,deep,e,lp,nm,p,rfl,hB,he,hde,he1,hl0,q⟩:=h
   obtain ⟨left,rfl⟩:∃ x:Int,left0=x+1:=⟨left0 - 1,by omega⟩
   refine ⟨_,(@a02 _ _ _ _ _ (@ar6 _ _ _ _ _ _ (@a33 _ _ _ _ _ _ _ _ b67 (@a15 _ _ _ _ _ _ _ (a20 K) (pv 0) (@a03 _ _ _ _) (fun _ _=>rfl)) (@a03 _ _ _ _)) (ar5 (pv 0) (@a03 _ _ _ _) ae6) (by rfl) (by rfl) (by rfl))
    (@a02 _ _ _ _ _ (@a18 _ _ 4 _ _ _ _ sc_law_one.nd rfl (by walk_at "o") (@a09 _ _ _ _ _ _ _ _ _ _ _ _ _ _ _ _ G__law_digit (hr.mono (by omega)) rfl T.f__law_digit.m T.f__law_digit.F.kp T.f__law_digit.b .nil a19 (@a00 _ _ _ _ _ (pv 0) (@a00 _ _ _ _ _ (@a03 _ _ _ _) (@a01 _) (by rfl)) (by rfl)) (by decide) (by rfl) (by rfl)) (by rfl) (by walk_at "o"))
    (@a02 _ _ _ _ _ (@a30 _ _ _ _ _ _ _ _ (@PW.pt _ _ _ (@a68 _ _ _ _ _ _ _ (@a07 _ _ _ _ _ _ _ _ aw1 (pv 4) (@a03 _ _ _ _) (nomark _)) (@a56 _ _ _ _ (@a07 _ _ _ _ _ _ _ _ bz4 (pv 3) (@a03 _ _ _ _) (nomark _))))) (@a02 _ _ _ _ _ (@a30 _ _ _ _ _ _ _ _ (@a07 _ _ _ _ _ _ _ _ aw1 (pv 4) (@a03 _ _ _ _) (nomark _)) (@a04 _ _ _ (@a14 _ _ _ _ (@a09 _ _ _ _ _ _ _ _ _ _ _ _ _ _ _ _ G__law_loop (hr.mono (by omega)) rfl T.f__law_loop.m T.f__law_loop.F.kp T.f__law_loop.b .nil a19 (@a00 _ _ _ _ _ (pv 0) (@a00 _ _ _ _ _ (pv 1) (@a00 _ _ _ _ _ (pv 3) (@a01 _) (by rfl)) (by rfl)) (by rfl)) (by decide) (by rfl) (by rfl)))) (@a11 _))
     (@a02 _ _ _ _ _ (@a18 _ _ 5 _ _ _ _ sc_law_one.nd rfl (by walk_at "o") (@a09 _ _ _ _ _ _ _ _ _ _ _ _ _ _ _ _ G__law_some (hr.mono (by omega)) rfl T.f__law_some.m T.f__law_some.F.kp T.f__law_some.b .nil a19 (@a00 _ _ _ _ _ (pv 0) (@a00 _ _ _ _ _ (pv 1) (@a00 _ _ _ _ _ (pv 2) (@a00 _ _ _ _ _ (@a33 _ _ _ _ _ _ _ _ a21 (pv 3) (@a03 _ _ _ _)) (@a01 _) (by rfl)) (by rfl)) (by rfl)) (by rfl)) (by decide) (by rfl) (by rfl)) (by rfl) (by walk_at "o"))
     (@a02 _ _ _ _ _ (@a18 _ _ 6 _ _ _ _ sc_law_one.nd rfl (by walk_at "o") (@a09 _ _ _ _ _ _ _ _ _ _ _ _ _ _ _ _ G__law_some (hr.mono (by omega)) rfl T.f__law_some.m T.f__law_some.F.kp T.f__law_some.b .nil a19 (@a00 _ _ _ _ _ (pv 0) (@a00 _ _ _ _ _ (pv 1) (@a00 _ _ _ _ _ (pv 2) (@a00 _ _ _ _ _ (@a33 _ _ _ _ _ _ _ _ a21 (pv 3) (@a03 _ _ _ _)) (@a01 _) (by rfl)) (by rfl)) (by rfl)) (by rfl)) (by decide) (by rfl) (by rfl)) (by rfl) (by walk_at "o"))
     (@a04 _ _ _ (@a14 _ _ _ _ (@a26 _ _ _ _ _ (@a00 _ _ _ _ _ (@a08 _ _ _ _) (@a00 _ _ _ _ _ (@a26 _ _ _ _ _ (@a00 _ _ _ _ _ (@a08 _ _ _ _) (@a00 _ _ _ _ _ (@a26 _ _ _ _ _ (@a00 _ _ _ _ _ (@a08 _ _ _ _) (@a00 _ _ _ _ _ (@a03 _ _ _ _) (@a01 _) (by rfl)) (by rfl))) (@a00 _ _ _ _ _ (@a26 _ _ _ _ _ (@a00 _ _ _ _ _ (@a08 _ _ _ _) (@a00 _ _ _ _ _ (@a03 _ _ _ _) (@a01 _) (by rfl)) (by rfl))) (@a01 _) (by rfl)) (by rfl)) (by rfl))) (@a00 _ _ _ _ _ (pv 5) (@a00 _ _ _ _ _ (pv 6) (@a01 _) (by rfl)) (by rfl)) (by rfl)) (by rfl)))))))) (@a11 _))
    (@a02 _ _ _ _ _ (@a30 _ _ _ _ _ _ _ _ (@PW.pt _ _ _ (@a68 _ _ _ _ _ _ _ (@a07 _ _ _ _ _ _ _ _ a36 (pv 4) (@a03 _ _ _ _) (nomark _)) (@a68 _ _ _ _ _ _ _ (@a07 _ _ _ _ _ _ _ _ (af8 K (by exact hr.units)) (pv 1) (@a13 _ _ _ _ (@a01 _)) (nomark _)) (@a56 _ _ _ _ (@a07 _ _ _ _ _ _ _ _ aw1 (@a15 _ _ _ _ _ _ _ (a20 K) (pv 0) (@a03 _ _ _ _) (fun _ _=>rfl)) (@a03 _ _ _ _) (nomark _)))))) (@a02 _ _ _ _ _ (@ar6 _ _ _ _ _ _ (@a33 _ _ _ _ _ _ _ _ b67 (@a15 _ _ _ _ _ _ _ (a20 K) (pv 0) (@a03 _ _ _ _) (fun _ _=>rfl)) (@a03 _ _ _ _)) (ar5 (pv 0) (@a03 _ _ _ _) ae6) (by rfl) (by rfl) (by rfl))
     (@a04 _ _ _ (@a14 _ _ _ _ (@a26 _ _ _ _ _ (@a00 _ _ _ _ _ (@a08 _ _ _ _) (@a00 _ _ _ _ _ (@a15 _ _ _ _ _ _ _ (a20 K) (pv 1) (@a09 _ _ _ _ _ _ _ _ _ _ _ _ _ _ _ _ G__law_digit (hr.mono (by omega)) rfl T.f__law_digit.m T.f__law_digit.F.kp T.f__law_digit.b .nil a19 (@a00 _ _ _ _ _ (pv 0) (@a00 _ _ _ _ _ (@a50 _ _ _ _ _ _ _ _ _ (a82 K) (by rfl) T.z_len ab4 (@a00 _ _ _ _ _ (pv 1) (@a01 _) (by rfl)) (by decide) (by decide) (by rfl) (by rfl)) (@a01 _) (by rfl)) (by rfl)) (by decide) (by rfl) (by rfl)) (fun _ _=>rfl)) (@a01 _) (by rfl)) (by rfl)))))) (@a11 _))
    (@a02 _ _ _ _ _ (@a30 _ _ _ _ _ _ _ _ (@PW.pt _ _ _ (@a68 _ _ _ _ _ _ _ (@a07 _ _ _ _ _ _ _ _ a36 (pv 4) (@a03 _ _ _ _) (nomark _)) (@a56 _ _ _ _ (ab3 K (pv 2) (fun _=>rfl))))) (@a04 _ _ _ (@a14 _ _ _ _ (@a26 _ _ _ _ _ (@a00 _ _ _ _ _ (@a08 _ _ _ _) (@a01 _) (by rfl))))) (@a11 _))
    (@a02 _ _ _ _ _ (@a30 _ _ _ _ _ _ _ _ (@PW.pt _ _ _ (@a68 _ _ _ _ _ _ _ (@a07 _ _ _ _ _ _ _ _ a36 (pv 4) (@a03 _ _ _ _) (nomark _)) (@a56 _ _ _ _ (ab3 K (pv 2) (fun _=>rfl))))) (@a04 _ _ _ (@a14 _ _ _ _ (@a26 _ _ _ _ _ (@a00 _ _ _ _ _ (@a08 _ _ _ _) (@a01 _) (by rfl))))) (@a11 _))
    (@a02 _ _ _ _ _ (@a30 _ _ _ _ _ _ _ _ (@PW.pt _ _ _ (@a68 _ _ _ _ _ _ _ (@a07 _ _ _ _ _ _ _ _ a36 (pv 4) (@a03 _ _ _ _) (nomark _)) (@a56 _ _ _ _ (@a07 _ _ _ _ _ _ _ _ a36 (@a09 _ _ _ _ _ _ _ _ _ _ _ _ _ _ _ _ G__law_digit (hr.mono (by omega)) rfl T.f__law_digit.m T.f__law_digit.F.kp T.f__law_digit.b .nil a19 (@a00 _ _ _ _ _ (pv 0) (@a00 _ _ _ _ _ (@a03 _ _ _ _) (@a01 _) (by rfl)) (by rfl)) (by decide) (by rfl) (by rfl)) (@a03 _ _ _ _) (nomark _))))) (@a04 _ _ _ (@a14 _ _ _ _ (@a26 _ _ _ _ _ (@a00 _ _ _ _ _ (@a08 _ _ _ _) (@a01 _) (by rfl))))) (@a11 _))
    (@a02 _ _ _ _ _ (@a30 _ _ _ _ _ _ _ _ (@PW.pt _ _ _ (@a68 _ _ _ _ _ _ _ (@a07 _ _ _ _ _ _ _ _ a36 (pv 4) (@a03 _ _ _ _) (nomark _)) (@a56 _ _ _ _ (@a07 _ _ _ _ _ _ _ _ a36 (@a09 _ _ _ _ _ _ _ _ _ _ _ _ _ _ _ _ G__law_digit (hr.mono (by omega)) rfl T.f__law_digit.m T.f__law_digit.F.kp T.f__law_digit.b .nil a19 (@a00 _ _ _ _ _ (pv 0) (@a00 _ _ _ _ _ (@a03 _ _ _ _) (@a01 _) (by rfl)) (by rfl)) (by decide) (by rfl) (by rfl)) (@a03 _ _ _ _) (nomark _))))) (@a04 _ _ _ (@a14 _ _ _ _ (@a26 _ _ _ _ _ (@a00 _ _ _ _ _ (@a08 _ _ _ _) (@a01 _) (by rfl))))) (@a11 _))
    (@a02 _ _ _ _ _ (@a30 _ _ _ _ _ _ _ _ (@a07 _ _ _ _ _ _ _ _ a36 (pv 4) (@a03 _ _ _ _) (nomark _)) (@a04 _ _ _ (@a14 _ _ _ _ (@a26 _ _ _ _ _ (@a00 _ _ _ _ _ (@a08 _ _ _ _) (@a00 _ _ _ _ _ (@a03 _ _ _ _) (@a00 _ _ _ _ _ (@a13 _ _ _ _ (@a01 _)) (@a01 _) (by rfl)) (by rfl)) (by rfl))))) (@a11 _))
    (@a04 _ _ _ (@a14 _ _ _ _ (@a15 _ _ _ _ _ _ _ (a20 K) (@a13 _ _ _ _ (@a00 _ _ _ _ _ (@a26 _ _ _ _ _ (@a00 _ _ _ _ _ (@a08 _ _ _ _) (@a00 _ _ _ _ _ (@a08 _ _ _ _) (@a01 _) (by rfl)) (by rfl))) (@a00 _ _ _ _ _ (@a26 _ _ _ _ _ (@a00 _ _ _ _ _ (@a08 _ _ _ _) (@a00 _ _ _ _ _ (@a03 _ _ _ _) (@a00 _ _ _ _ _ (@a08 _ _ _ _) (@a01 _) (by rfl)) (by rfl)) (by rfl))) (@a00 _ _ _ _ _ (@a26 _ _ _ _ _ (@a00 _ _ _ _ _ (@a08 _ _ _ _) (@a00 _ _ _ _ _ (@a08 _ _ _ _) (@a00 _ _ _ _ _ (@a26 _ _ _ _ _ (@a00 _ _ _ _ _ (@a08 _ _ _ _) (@a00 _ _ _ _ _ (@a03 _ _ _ _) (@a01 _) (by rfl)) (by rfl))) (@a01 _) (by rfl)) (by rfl)) (by rfl))) (@a01 _) (by rfl)) (by rfl)) (by rfl))) (@a09 _ _ _ _ _ _ _ _ _ _ _ _ _ _ _ _ G__law_digit (hr.mono (by omega)) rfl T.f__law_digit.m T.f__law_digit.F.kp T.f__law_digit.b .nil a19 (@a00 _ _ _ _ _ (pv 0) (@a00 _ _ _ _ _ (@a03 _ _ _ _) (@a01 _) (by rfl)) (by rfl)) (by decide) (by rfl) (by rfl)) (fun _ _=>rfl))))))))))))),?_⟩
   have sl:(1000000:Nat)≤sizeLine:=le_line (Nat.le_refl _)
   walk_at "go"
   obtain ⟨ms,cur,d1,d2,d3⟩:=hB.k.ex
   have dne:=hB.k.ne
   refine a55 (SqL.of d1) (a05 (j:=2) rfl) ?_
   walk_at "run"
   refine at7 d1 (j:=2) rfl ?_
   walk_at "run"
   have e0:(left+1 - 1)=left:=by omega
   have k0:Dk4 (upd H dk (.lst [.ref l,.int cur,.int (left+1 - 1),.int (calls:Nat)])) dk l left calls:=⟨⟨ms,cur,by rw [a17,e0],by rw [a12 dne.symm]; exact d2,d3⟩,dne⟩
   have o0:OfD dk l H (upd H dk (.lst [.ref l,.int cur,.int (left+1 - 1),.int (calls:Nat)])):=(OfD.of (Same.refl _)).u1
   show bp5 K [V.ref dk,V.int 13] (upd H dk (.lst [.ref l,.int cur,.int (left+1 - 1),.int (calls:Nat)])) _ _
   generalize upd H dk (.lst [.ref l,.int cur,.int (left+1 - 1),.int (calls:Nat)])=H0 at k0 o0 ⊢
   have hB0:=hB.go o0 k0
   refine ⟨dk,l,left,calls,13,rfl,k0,by omega,by omega,fun kind H1 hk o1 k1=>?_⟩
   have hB1:=hB0.go o1 k1
   have o01:=o0.trans o1
   have finP:∀ {H' H2:Hp}{a:Addr}{ps:List Pt},OfD dk l H H'→Dk4 H' dk l left calls→H' a=none→Same H' H2→H2 a=some (.tup (ps.map Pt.v))→plW nm lp ps→clP ps=0→Q (.ref a) H2:=fun {H' H2 a ps} o k f s e hw hc=>by
    have f':=(hB.go o k).fr f
    exact q _ (.plain ps) left calls H2 (o.trans (OfD.of s)) (k.same s) (b22 (by rw [wpG f']; exact e)) (wS_pl.mpr hw) (by simp only [Stm.sz]; omega) (by simp only [Stm.cl]; omega) (by omega)
   walk_at "run"
   rename_i N1 hN1
   have r1:N1 [some (.ref dk),some (.ref ln),some (.bl lp),some (.int (deep:Nat)),some (.int (kind:Nat)),none,none] H1:=by
    refine hN1 _ _ ?_
    clear hN1
    walk_at "run"
    rename_i N2 hN2
    have r2:∀ H',OfD dk l H H'→Dk4 H' dk l left calls→N2 [some (.ref dk),some (.ref ln),some (.bl lp),some (.int (deep:Nat)),some (.int (kind:Nat)),none,none] H':=fun H' o k=>by
     refine hN2 _ _ ?_
     clear hN2
     walk_at "run"
     rename_i N3 hN3
     have r3:N3 [some (.ref dk),some (.ref ln),some (.bl lp),some (.int (deep:Nat)),some (.int (kind:Nat)),none,none] H':=by
      refine hN3 _ _ ?_
      clear hN3
      walk_at "run"
      rename_i N4 hN4
      have r4:N4 [some (.ref dk),some (.ref ln),some (.bl lp),some (.int (deep:Nat)),some (.int (kind:Nat)),none,none] H':=by
       refine hN4 _ _ ?_
       clear hN4
       walk_at "run"
       rename_i N5 hN5
       have r5:∀ H',OfD dk l H H'→Dk4 H' dk l left calls→N5 [some (.ref dk),some (.ref ln),some (.bl lp),some (.int (deep:Nat)),some (.int (kind:Nat)),none,none] H':=fun H' o k=>by
        refine hN5 _ _ ?_
        clear hN5
        walk_at "run"
        rename_i N6 hN6
        have r6:∀ H',OfD dk l H H'→Dk4 H' dk l left calls→N6 [some (.ref dk),some (.ref ln),some (.bl lp),some (.int (deep:Nat)),some (.int (kind:Nat)),none,none] H':=fun H' o k=>by
         refine hN6 _ _ ?_
         clear hN6
         walk_at "run"
         rename_i N7 hN7
         have r7:∀ H',OfD dk l H H'→Dk4 H' dk l left calls→N7 [some (.ref dk),some (.ref ln),some (.bl lp),some (.int (deep:Nat)),some (.int (kind:Nat)),none,none] H':=fun H' o k=>by
          refine hN7 _ _ ?_
          clear hN7
          walk_at "run"
          intro t1 J1 g1 m1 j1
          walk_at "run"
          intro t2 J2 g2 m2 j2
          walk_at "run"
          intro t3 J3 g3 m3 j3
          walk_at "run"
          intro t4 J4 g4 m4 j4
          walk_at "run"
          intro t5 J5 g5 m5 j5
          walk_at "run"
          have m14:=m1.trans (m2.trans (m3.trans m4))
          have m15:=m14.trans m5
          refine ⟨dk,l,left,calls,3,rfl,k.same m15,by omega,by omega,fun r J6 hr o6 k6=>?_⟩
          walk_at "run"
          have hBk:=hB.go o k
          have n1:=k.new g1
          have n2:=(k.same m1).new g2
          have n4:=(k.same (m1.trans (m2.trans m3))).new g4
          have n3:=(k.same (m1.trans m2)).new g3
          have n5:=(k.same m14).new g5
          have fin3:∀ {a:Addr}{ps:List Pt},¬ p a→J6 a=some (.tup (ps.map Pt.v))→plW nm lp ps→clP ps=0→Q (.ref a) J6:=fun {a ps} f e hw hc =>
           q _ (.plain ps) left calls J6 ((o.trans (OfD.of m15)).trans o6) k6 (b22 (by rw [wpG f]; exact e)) (wS_pl.mpr hw) (by simp only [Stm.sz]; omega) (by simp only [Stm.cl]; omega) (by omega)
          have hr3:r=0∨r=1∨r=2:=by omega
          rcases hr3 with rfl | rfl | rfl
          · refine a55 (SqL.of (o6.at n5.1 n5.2 j5)) (a05 (j:=0) rfl) ?_
            exact fin3 (ps:=[.s "say",.s "on"]) (hBk.fr g1) (o6.at n1.1 n1.2 ((m2.trans (m3.trans (m4.trans m5))) _ _ j1)) (.inl rfl) (by decide +kernel)
          · refine a55 (SqL.of (o6.at n5.1 n5.2 j5)) (a05 (j:=1) rfl) ?_
            exact fin3 (ps:=[.s "hand",.i 3,.s "on"]) ((hBk.same m1).fr g2) (o6.at n2.1 n2.2 ((m3.trans (m4.trans m5)) _ _ j2)) (.inr (.inl rfl)) (by decide +kernel)
          · refine a55 (SqL.of (o6.at n5.1 n5.2 j5)) (a05 (j:=2) rfl) ?_
            have a4:=o6.at n4.1 n4.2 (m5 _ _ j4)
            have a3:=o6.at n3.1 n3.2 ((m4.trans m5) _ _ j3)
            exact q _ (.put "a" (.num 1)) left calls J6 ((o.trans (OfD.of m15)).trans o6) k6 (c92 (by rw [wpG ((hBk.same (m1.trans (m2.trans m3))).fr g4)]; exact a4) (bf3 (by rw [wpG ((hBk.same (m1.trans m2)).fr g3)]; exact a3))) (by cases e <;> exact ⟨rfl,rfl⟩) (by simp only [Stm.sz]; omega) (by simp only [Stm.cl]; omega) (by omega)
         clear hN7
         by_cases h6:kind=6
         · refine a28 (show (kind:Int)=6 by omega) ?_
           walk_at "run"
           intro t1 J1 g1 m1 j1
           walk_at "run"
           intro t2 J2 g2 m2 j2
           have hBk:=hB.go o k
           have m12:=m1.trans m2
           obtain ⟨e,rfl⟩:∃ e',e=e'+1:=⟨e - 1,by omega⟩
           exact q _ (.wait 0 []) left calls J2 (o.trans (OfD.of m12)) (k.same m12) (sat_wait.mpr ⟨t2,t1,[],rfl,by rw [wpG ((hBk.same m1).fr g2)]; exact j2,by rw [wpG (hBk.fr g1)]; exact m2 _ _ j1,Each.nil⟩) rfl (by simp only [Stm.sz,Br.szs]; omega) (by simp only [Stm.cl,Br.cls]; omega) (by omega)
         · refine a23 (show ¬ (kind:Int)=6 by omega) ?_
           walk_at "run"
           exact r7 H' o k
        clear hN6
        by_cases h5:kind=5
        · rw [if_pos (decide_eq_true (by omega))]
          walk_at "run"
          refine ⟨dk,l,left,calls,4,rfl,k,by omega,by omega,fun r J6 hr o6 k6=>?_⟩
          walk_at "run"
          by_cases h1:r=1
          · refine a28 (show (r:Int)=1 by omega) ?_
            walk_at "run"
            intro a J7 g7 m7 j7
            exact finP (ps:=[.s "stop"]) (o.trans o6) k6 g7 m7 j7 (.inr (.inr (.inr (.inr (.inr rfl))))) rfl
          · refine a23 (show ¬ (r:Int)=1 by omega) ?_
            walk_at "run"
            exact r6 J6 (o.trans o6) k6
        · rw [if_neg (by simp; omega),if_neg Bool.false_ne_true]
          walk_at "run"
          exact r6 H' o k
       clear hN5
       by_cases h4:kind=4
       · rw [if_pos (decide_eq_true (by omega))]
         walk_at "run"
         refine ⟨dk,l,left,calls,2,rfl,k,by omega,by omega,fun r J6 hr o6 k6=>?_⟩
         walk_at "run"
         by_cases h1:r=1
         · refine a28 (show (r:Int)=1 by omega) ?_
           walk_at "run"
           intro a J7 g7 m7 j7
           exact finP (ps:=[.s "back"]) (o.trans o6) k6 g7 m7 j7 (.inr (.inr (.inr (.inr (.inl rfl))))) rfl
         · refine a23 (show ¬ (r:Int)=1 by omega) ?_
           walk_at "run"
           exact r5 J6 (o.trans o6) k6
       · rw [if_neg (by simp; omega),if_neg Bool.false_ne_true]
         walk_at "run"
         exact r5 H' o k
      clear hN4
      by_cases h3:kind=3
      · rw [if_pos (decide_eq_true (by omega))]
        walk_at "run"
        cases lp with
        | true =>
          walk_at "run"
          intro a J7 g7 m7 j7
          exact finP (ps:=[.s "leave"]) o k g7 m7 j7 (.inr (.inr (.inr (.inl ⟨rfl,.inr rfl⟩)))) rfl
        | false =>
          walk_at "run"
          exact r4
      · rw [if_neg (by simp; omega),if_neg Bool.false_ne_true]
        walk_at "run"
        exact r4
     clear hN3
     by_cases h3:kind=2
     · rw [if_pos (decide_eq_true (by omega))]
       walk_at "run"
       cases lp with
       | true =>
         walk_at "run"
         intro a J7 g7 m7 j7
         exact finP (ps:=[.s "again"]) o k g7 m7 j7 (.inr (.inr (.inr (.inl ⟨rfl,.inl rfl⟩)))) rfl
       | false =>
         walk_at "run"
         exact r3
     · rw [if_neg (by simp; omega),if_neg Bool.false_ne_true]
       walk_at "run"
       exact r3
    clear hN2
    by_cases h1:kind=1
    · rw [if_pos (decide_eq_true (by omega))]
      walk_at "run"
      intro t1 J1 g1 m1 j1
      have n1:=hB1.same m1
      refine ao6 (SqL.of (wpT n1.n).2) (SqL.of j1) ?_
      rcases nm with _ | ⟨n0,nm0⟩
      · refine ⟨false,rfl,?_⟩
        rw [if_neg Bool.false_ne_true,if_neg Bool.false_ne_true]
        walk_at "run"
        exact r2 _ (o01.trans (OfD.of m1)) (k1.same m1)
      · refine ⟨true,rfl,?_⟩
        rw [if_pos rfl]
        walk_at "run"
        have km:=k1.same m1
        obtain ⟨ms,cur,d1,d2,d3⟩:=km.ex
        refine a55 (SqL.of d1) (a05 (j:=3) rfl) ?_
        walk_at "run"
        by_cases hc0:0<calls
        · refine a28 (show (0:Int)<(calls:Int) by omega) ?_
          walk_at "run"
          refine a55 (SqL.of d1) (a05 (j:=3) rfl) ?_
          walk_at "run"
          refine at7 d1 (j:=3) rfl ?_
          obtain ⟨c,rfl⟩:∃ c,calls=c+1:=⟨calls - 1,by omega⟩
          walk_at "run"
          have e1:(((c+1:Nat):Int) - 1)=(c:Int):=by omega
          have k2:Dk4 (upd J1 dk (.lst [.ref l,.int cur,.int left,.int (((c+1:Nat):Int) - 1)])) dk l left c:=⟨⟨ms,cur,by rw [a17,e1],by rw [a12 dne.symm]; exact d2,d3⟩,dne⟩
          have o2:OfD dk l J1 (upd J1 dk (.lst [.ref l,.int cur,.int left,.int (((c+1:Nat):Int) - 1)])):=(OfD.of (Same.refl _)).u1
          have hB2:=n1.go o2 k2
          refine ab5 (SqL.of (wpT hB2.n).2) ?_
          walk_at "run"
          refine ⟨dk,l,left,c,(a27 (n0::nm0)).length,rfl,k2,by simp [a27],by have:=hB.hn; simp [a27] at this ⊢; omega,fun r J3 hr o3 k3=>?_⟩
          have hB3:=hB2.go o3 k3
          have hr':r<(n0::nm0).length:=by simpa [a27] using hr
          refine a55 (SqL.of (wpT hB3.n).2) (a05 (j:=r) (v:=.str (n0::nm0)[r]) (by unfold a27; rw [List.getElem?_map,List.getElem?_eq_getElem hr']; rfl)) ?_
          walk_at "run"
          intro a J4 g4 m4 j4
          exact q _ (.plain [.s "call",.s (n0::nm0)[r]]) left c J4 (((o01.trans (OfD.of m1)).trans o2).trans (o3.trans (OfD.of m4))) (k3.same m4) (b22 (by rw [wpG (hB3.fr g4)]; exact j4)) (wS_pl.mpr (.inr (.inr (.inl ⟨_,List.getElem_mem hr',rfl⟩)))) (by simp only [Stm.sz]; omega) (by simp only [Stm.cl]; rw [show clP [.s "call",.s (n0::nm0)[r]]=1 from rfl]; omega) (by omega)
        · refine a23 (show ¬ (0:Int)<(calls:Int) by omega) ?_
          walk_at "run"
          exact r2 _ (o01.trans (OfD.of m1)) (k1.same m1)
    · rw [if_neg (by simp; omega),if_neg Bool.false_ne_true]
      walk_at "run"
      exact r2 _ o01 k1
   clear hN1
   by_cases h5:7<kind
   · rw [if_pos (decide_eq_true (by omega))]
     walk_at "run"
     by_cases h4:deep<4
     · rw [if_pos (decide_eq_true (by omega))]
       walk_at "run"
       obtain ⟨e,rfl⟩:∃ e',e=e'+1:=⟨e - 1,by omega⟩
       by_cases h10:10<kind
       · refine a28 (show (10:Int)<(kind:Int) by omega) ?_
         walk_at "run"
         exact ⟨dk,l,ln,left,calls,deep,e,nm,p,rfl,hB1,by omega,by omega,by omega,by omega,fun v x left' calls' H' o k hs hw hz hc hlo=>q v _ left' calls' H' (o01.trans o) k hs hw (by simp only [Stm.sz]; omega) (by simp only [Stm.cl]; omega) hlo⟩
       · refine a23 (show ¬ (10:Int)<(kind:Int) by omega) ?_
         walk_at "run"
         refine ⟨dk,l,ln,left,calls,deep+1,e,lp,nm,p,rfl,hB1,by omega,by omega,by omega,by omega,fun v1 b1 left1 calls1 H2 o2 k2 hb1 hw1 hs1 hc1 hl1=>?_⟩
         walk_at "run"
         have hB2:=hB1.go o2 k2
         refine ⟨dk,l,ln,left1,calls1,deep+1,e,lp,nm,p,rfl,hB2,by omega,by omega,by omega,by omega,fun v2 b2 left2 calls2 H3 o3 k3 hb2 hw2 hs2 hc2 hl2=>?_⟩
         walk_at "run"
         have hB3:=hB2.go o3 k3
         have hb1:=hb1.same (o3.p hB.pd hB.pl)
         intro t1 J1 g1 m1 j1
         walk_at "run"
         intro t2 J2 g2 m2 j2
         walk_at "run"
         intro t3 J3 g3 m3 j3
         walk_at "run"
         intro t4 J4 g4 m4 j4
         have m13:=m1.trans (m2.trans m3)
         have s14:=m13.trans m4
         have w:∀ {Hk:Hp}{a:Addr}{o:HO},Same H3 Hk→Hk a=none→J4 a=some o→woP p J4 a=some o:=fun s f e=>by rw [wpG ((hB3.same s).fr f)]; exact e
         have hc':(Cd.cmp false (.num 0) (.num 1)).tr.At (woP p J4) (.ref t3) []:=bw9 (w (Same.refl _) g1 ((m2.trans (m3.trans m4)) _ _ j1)) (w m1 g2 ((m3.trans m4) _ _ j2)) (w (m1.trans m2) g3 (m4 _ _ j3))
         exact q _ (.test (.cmp false (.num 0) (.num 1)) b1 b2) left2 calls2 J4 (((o01.trans o2).trans o3).trans (OfD.of s14)) (k3.same s14) (bw8 (w m13 g4 j4) hc' (hb1.same (wpS s14)) (hb2.same (wpS s14))) ⟨rfl,⟨by have:=hw1.1; omega,hw1.2⟩,by have:=hw2.1; omega,hw2.2⟩ (by simp only [Stm.sz]; omega) (by simp only [Stm.cl]; omega) (by omega)
     · rw [if_neg (by simp; omega)]
       walk_at "run"
       exact r1
   · rw [if_neg (by simp; omega),if_neg Bool.false_ne_true]
     walk_at "run"
     exact r1
theorem ay6 (T:Txt K mg t) {d:Nat}(G__law_one:FnOk P w K mg base CX0 (3*d+4) t.a__law_one t.fd__law_one ["deck","later","looped","deep"] (bp6 K (d+1))):FnOk P w K mg base CX0 (3*d+5) t.a__law_some t.fd__law_some ["deck","later","looped","deep"] (ar2 K (d+1)):=by
 have G__law_digit:=a89 (P:=P) (w:=w) (base:=base) T
 refine T.f__law_some.F.ok sc_law_some (fun vs H Q E h=>?_) (fun cdv A outer s H vs Q E hr h=>?_)
 · obtain ⟨dk,l,ln,left,calls,deep,e,lp,nm,p,rfl,_⟩:=h
   rfl
 · obtain ⟨dk,l,ln,left,calls,deep,e,lp,nm,p,rfl,hB,he,hde,he1,hlo0,q⟩:=h
   refine ⟨_,(@a02 _ _ _ _ _ (@a18 _ _ 4 _ _ _ _ sc_law_some.nd rfl (by walk_at "o") (@a13 _ _ _ _ (@a01 _)) (by rfl) (by walk_at "o"))
    (@a02 _ _ _ _ _ (@a69 _ _ _ _ _ _ _ _ PassesOwn.never rfl (aa8 rfl T.z_range (@a00 _ _ _ _ _ (@a09 _ _ _ _ _ _ _ _ _ _ _ _ _ _ _ _ G__law_digit (hr.mono (by omega)) rfl T.f__law_digit.m T.f__law_digit.F.kp T.f__law_digit.b .nil a19 (@a00 _ _ _ _ _ (pv 0) (@a00 _ _ _ _ _ (@a03 _ _ _ _) (@a01 _) (by rfl)) (by rfl)) (by decide) (by rfl) (by rfl)) (@a01 _) (by rfl))) (a16 (i:=5) sc_law_some.nd rfl (by walk_at "o")) (@a04 _ _ _ (@a30 _ _ _ _ _ _ _ _ (@a07 _ _ _ _ _ _ _ _ aw1 (@a15 _ _ _ _ _ _ _ (a20 K) (pv 0) (@a03 _ _ _ _) (fun _ _=>rfl)) (@a03 _ _ _ _) (nomark _)) (@a04 _ _ _ (@a32 _ _ _ _ (@a83 _ K _ _ _ _ _ _ _ _ _ _ _ PySem.F.plainAttrs_list PySem.F.slot_list_append PySem.F.type_list_append a78 (pv 4) (@a00 _ _ _ _ _ (@a09 _ _ _ _ _ _ _ _ _ _ _ _ _ _ _ _ G__law_one (hr.mono (by omega)) rfl T.f__law_one.m T.f__law_one.F.kp T.f__law_one.b .nil a19 (@a00 _ _ _ _ _ (pv 0) (@a00 _ _ _ _ _ (pv 1) (@a00 _ _ _ _ _ (pv 2) (@a00 _ _ _ _ _ (pv 3) (@a01 _) (by rfl)) (by rfl)) (by rfl)) (by rfl)) (by decide) (by rfl) (by rfl)) (@a01 _) (by rfl)) (by rfl) (by rfl) (by rfl) (by rfl) (by rfl) (by rfl)) (by rfl))) (@a11 _))) (by intro _; rfl))
    (@a04 _ _ _ (@a14 _ _ _ _ (pv 4))))),?_⟩
   have sl:(1000000:Nat)≤sizeLine:=le_line (Nat.le_refl _)
   walk_at "go"
   intro bd H1 f1 s1 e1
   walk_at "run"
   have nb:=hB.k.new f1
   refine ⟨dk,l,left,calls,7,rfl,hB.k.same s1,by omega,by omega,fun r H2 hr o2 k2=>?_⟩
   walk_at "run"
   have hB2:=(hB.same s1).go o2 k2
   have hnb:¬ p bd:=hB.fr f1
   have hln:ln≠bd:=fun z=>by
    have:=(wpT hB.n).2
    rw [z,f1] at this
    cases this
   refine aj8 (lo:=0) (n:=r) (fun i σ' H'=>i≤r∧∃ (left':Int) (calls':Nat) (b:List Stm) (us:List V) (y:Option V),σ'=[some (.ref dk),some (.ref ln),some (.bl lp),some (.int (deep:Nat)),some (.ref bd),y]∧OfD dk l H H'∧Dk4 H' dk l left' calls'∧H' bd=some (.lst us)∧Each (SAt (woP (fun a=>p a∨a=bd) H')) us b∧b.length≤i∧(∀ s∈b,wS nm e lp s)∧(Stm.szs b:Int)+left'≤left∧Stm.cls b+calls'≤calls∧-(e:Int)≤left') ⟨Nat.zero_le _,left,calls,[],[],_,rfl,(OfD.of s1).trans o2,k2,o2.at nb.1 nb.2 e1,Each.nil,Nat.le_refl _,fun s h=>(by cases h),(by simp [Stm.szs]),(by simp [Stm.cls]),hlo0⟩ ?_ ?_
   · rintro i σ' H3 hi ⟨_,left',calls',b,us,y,rfl,o3,k3,e3,hE,hbl,hwf,hsz,hcl,hlo⟩
     walk_at "run"
     obtain ⟨ms,cur,d1,d2,d3⟩:=k3.ex
     refine a55 (SqL.of d1) (a05 (j:=2) rfl) ?_
     walk_at "run"
     by_cases h0:0<left'
     · refine a28 (h0) ?_
       walk_at "run"
       refine ab6 (SqL.of e3) ?_
       walk_at "run"
       have hB3:BPre H3 dk l ln left' calls' nm (fun a=>p a∨a=bd):=⟨k3,by
        have hg:=(hB.go o3 k3).n
        obtain ⟨g1,g2⟩:=wpT hg
        rw [wpG (fun z=>z.elim g1 hln)]
        exact g2,hB.hn,.inl hB.pd,.inl hB.pl,fun a ha=>by
        rcases ha with ha | rfl
        · exact (hB.go o3 k3).ex a ha
        · rw [e3]; exact fun z=>by cases z⟩
       refine ⟨dk,l,ln,left',calls',deep,e,lp,nm,fun a=>p a∨a=bd,rfl,hB3,by omega,by omega,by omega,by omega,fun v s left2 calls2 H4 o4 k4 hs hw hz hc hlo2=>?_⟩
       have e4:=o4.at nb.1 nb.2 e3
       have hul:us.length≤6:=by rw [hE.1]; omega
       walk_at "run"
       refine ac3 e4 (by omega) ?_
       refine ⟨by omega,left2,calls2,b++[s],us++[v],_,rfl,(o3.trans o4).un f1,?_,a17,?_,by simp; omega,?_,?_,?_,hlo2⟩
       · obtain ⟨ms,cur,q1,q2,q3⟩:=k4.ex
         exact ⟨⟨ms,cur,by rw [a12 nb.1.symm]; exact q1,by rw [a12 nb.2.symm]; exact q2,q3⟩,k4.ne⟩
       · rw [wpU (.inr rfl)]
         exact (hE.mono fun _ _ z=>z.same (o4.p (.inl hB.pd) (.inl hB.pl))).snoc hs
       · intro x hx
         rcases List.mem_append.mp hx with hx | hx
         · exact hwf x hx
         · rw [List.mem_singleton.mp hx]; exact hw
       · have:∀ b:List Stm,Stm.szs (b++[s])=Stm.szs b+s.sz:=fun b=>by
          induction b with
          | nil=>simp [Stm.szs]
          | cons x b ih=>simp only [List.cons_append,Stm.szs,ih]; omega
         rw [this]
         omega
       · have:∀ b:List Stm,Stm.cls (b++[s])=Stm.cls b+s.cl:=fun b=>by
          induction b with
          | nil=>simp [Stm.cls]
          | cons x b ih=>simp only [List.cons_append,Stm.cls,ih]; omega
         rw [this]
         omega
     · refine a23 (h0) ?_
       walk_at "run"
       exact ⟨by omega,left',calls',b,us,_,rfl,o3,k3,e3,hE,by omega,hwf,hsz,hcl,hlo⟩
   · rintro σ' H3 ⟨_,left',calls',b,us,y,rfl,o3,k3,e3,hE,hbl,hwf,hsz,hcl,hlo⟩
     walk_at "run"
     exact q (.ref bd) b left' calls' H3 o3 k3 (bat_iff.mpr ⟨bd,us,rfl,by rw [wpG hnb]; exact e3,hE.mono fun _ _ z=>z.same (wpB fun a h=>.inl h)⟩) ⟨by omega,hwf⟩ hsz hcl hlo
theorem ae5 (T:Txt K mg t):∀ d,FnOk P w K mg base CX0 (3*d+2) t.a__law_some t.fd__law_some [Str.ofString "deck",Str.ofString "later",Str.ofString "looped",Str.ofString "deep"] (ar2 K d)
 | 0=>vac fun vs H Q E ⟨_,_,_,_,_,_,_,_,_,_,_,_,h,_⟩=>Nat.not_lt_zero _ h
 | d+1=>ay6 T (b58 T (ay5 T (ae5 T d)) (ae5 T d))
structure TksX (ts:Tks) (ns:List Str):Prop where
 c:TkC ts ns
 b:∀ x∈ts,∃ i,ns[i]?=some x.1∧(x.2.length≤7∧∀ s∈x.2,wS (ns.drop (i+1)) 5 false s)∧Stm.szs x.2≤50∧Stm.cls x.2≤4
 n:ns.Nodup
 tl:ts.length≤3
 u:(ts.map (·.1)).Nodup
 m:∀ c∈ns,c∈ts.map (·.1)
 ne:ts≠[]
 l:∀ c∈ns,(PyData.str c).canLay0=true
theorem bx0:ThO [Str.ofString "a"] (.ex (.num 1)):=⟨by decide,by decide,fun n hn=>by cases hn⟩
theorem c94:ThO [Str.ofString "a"] (.cd (.cmp false (.num 0) (.num 1))):=⟨by decide,by decide,fun n hn=>by cases hn⟩
theorem w_ok {nm:List Str}:∀ (k:Nat) (lp:Bool) (s:Stm),wS nm k lp s→okS 8 [Str.ofString "a"] nm k lp s
 | k,lp,.plain ps,h=>okS_pl.mpr (by
   rcases wS_pl.mp h with rfl | rfl | ⟨c,hc,rfl⟩ | z
   · exact .inl ⟨_,rfl⟩
   · exact .inr (.inl ⟨_,_,rfl⟩)
   · exact .inr (.inr (.inl ⟨c,hc,rfl⟩))
   · exact .inr (.inr (.inr z)))
 | k,lp,.put n e,h=>okS_put.mpr (by
   have h:n="a"∧e=.num 1:=by cases k <;> exact h
   obtain ⟨rfl,rfl⟩:=h
   exact ⟨by simp,bx0⟩)
 | 0,lp,.loop x,h=>h.elim
 | 0,lp,.test c x y,h=>h.elim
 | 0,lp,.wait n bs,h=>h.elim
 | k+1,lp,.loop x,h=>⟨by have:=h.1; omega,fun s hs=>w_ok k true s (h.2 s hs)⟩
 | k+1,lp,.test c x y,h=>⟨by rw [h.1]; exact c94,⟨by have:=h.2.1.1; omega,fun s hs=>w_ok k lp s (h.2.1.2 s hs)⟩,by have:=h.2.2.1; omega,fun s hs=>w_ok k lp s (h.2.2.2 s hs)⟩
 | k+1,lp,.wait n bs,h=>by
   obtain rfl:bs=[]:=h
   exact ⟨by simp,by simp [ptsB],by simp [ptsB],fun b hb=>by cases hb⟩
theorem bnx1:bnx 1=[Str.ofString "a"]:=rfl
theorem c95 {nm:List Str}{k:Nat}{lp:Bool}{b:List Stm}(h:b.length≤7∧∀ s∈b,wS nm k lp s):okB 8 (bnx 1) nm k lp b:=⟨by omega,fun s hs=>by rw [bnx1]; exact w_ok k lp s (h.2 s hs)⟩
mutual
theorem bx1:∀ s:Stm,(allS s).length=s.sz
 | .plain _=>rfl
 | .put _ _=>rfl
 | .loop b=>by simp only [allS,List.length_cons,Stm.sz,ah9 b]; omega
 | .wait _ bs=>by simp only [allS,List.length_cons,Stm.sz,bf4 bs]; omega
 | .test _ a b=>by simp only [allS,List.length_cons,List.length_append,Stm.sz,ah9 a,ah9 b]; omega
theorem ah9:∀ b:List Stm,(allB b).length=Stm.szs b
 | []=>rfl
 | s::b=>by simp only [allB,List.length_append,Stm.szs,bx1 s,ah9 b]
theorem bf4:∀ b:List Br,(allR b).length=Br.szs b
 | []=>rfl
 | .mk _ x::b=>by simp only [allR,List.length_append,Br.szs,Br.sz,ah9 x,bf4 b]
end
theorem TksX.v {ts:Tks}{ns:List Str}(h:TksX ts ns):TksV 1 ts ns:=by
 refine ⟨fun i n hn=>?_,Nat.le_trans h.c.l (by decide),h.n,fun x hx=>?_,Nat.le_trans h.tl (by decide),h.u,h.m,h.ne⟩
 · obtain ⟨b,h1,h2,_⟩:=h.c.t i n hn
   exact ⟨b,h1,c95 h2⟩
 · obtain ⟨i,h1,h2,h3,_⟩:=h.b x hx
   exact ⟨i,h1,c95 h2,by rw [ah9]; omega⟩
theorem ay7 {nm:List Str}:∀ (k:Nat) (lp:Bool) (s:Stm),wS nm k lp s→∀ x,Stm.loop x∈allS s↔x∈lpsS s
 | k,lp,.plain ps,h,x=>by simp [allS,lpsS]
 | k,lp,.put n e,h,x=>by simp [allS,lpsS]
 | 0,lp,.loop y,h,x=>h.elim
 | 0,lp,.test c y z,h,x=>h.elim
 | 0,lp,.wait n bs,h,x=>h.elim
 | k+1,lp,.loop y,h,x=>by
   have bd:∀ {b:List Stm},(∀ s∈b,wS nm k true s)→(Stm.loop x∈allB b↔x∈lpsB b):=fun {b} hb=>by
    induction b with
    | nil=>simp [allB,lpsB]
    | cons s b ih=>simp only [allB,lpsB,List.mem_append,ay7 k true s (hb s (by simp)) x,ih fun s hs=>hb s (by simp [hs])]
   simp only [allS,lpsS,List.mem_cons,bd h.2,Stm.loop.injEq]
 | k+1,lp,.test c y z,h,x=>by
   have bd:∀ {b:List Stm},(∀ s∈b,wS nm k lp s)→(Stm.loop x∈allB b↔x∈lpsB b):=fun {b} hb=>by
    induction b with
    | nil=>simp [allB,lpsB]
    | cons s b ih=>simp only [allB,lpsB,List.mem_append,ay7 k lp s (hb s (by simp)) x,ih fun s hs=>hb s (by simp [hs])]
   simp only [allS,lpsS,List.mem_cons,List.mem_append,bd h.2.1.2,bd h.2.2.2,reduceCtorEq,false_or]
 | k+1,lp,.wait n bs,h,x=>by
   obtain rfl:bs=[]:=h
   simp [allS,allR,lpsS]
theorem bf5 {nm:List Str}{k:Nat}{lp:Bool}{b:List Stm}(h:∀ s∈b,wS nm k lp s) (x:List Stm):Stm.loop x∈allB b↔x∈lpsB b:=by
 induction b with
 | nil=>simp [allB,lpsB]
 | cons s b ih=>simp only [allB,lpsB,List.mem_append,ay7 k lp s (h s (by simp)) x,ih fun s hs=>h s (by simp [hs])]
theorem ay8 {N:List Stm→Prop}{ns:List Str}{d j:Nat}(hj:ns.length≤j+d):∀ (k:Nat) (lp:Bool) (s:Stm),wS (ns.drop j) k lp s→s.sz≤50→s.cl≤4→∀ x∈lpsS s,x.length≤7∧Sgm (fun _=>True) ns d (k - 1) true x∧∀ y∈lpsB x,y∈lpsS s
 | k,lp,.plain ps,h,_,_,x,hx=>by cases hx
 | k,lp,.put n e,h,_,_,x,hx=>by cases hx
 | 0,lp,.loop y,h,_,_,x,hx=>h.elim
 | 0,lp,.test c y z,h,_,_,x,hx=>h.elim
 | 0,lp,.wait n bs,h,_,_,x,hx=>h.elim
 | k+1,lp,.wait n bs,h,_,_,x,hx=>by cases hx
 | k+1,lp,.loop y,h,hz,hc,x,hx=>by
   simp only [Stm.sz,Stm.cl] at hz hc
   have bd:∀ {b:List Stm},(∀ s∈b,wS (ns.drop j) k true s)→Stm.szs b≤50→Stm.cls b≤4→∀ x∈lpsB b,x.length≤7∧Sgm (fun _=>True) ns d (k - 1) true x∧∀ y∈lpsB x,y∈lpsB b:=fun {b} hb=>by
    induction b with
    | nil=>intro _ _ x hx; cases hx
    | cons s b ih =>
      intro hz hc x hx
      simp only [Stm.szs,Stm.cls] at hz hc
      simp only [lpsB,List.mem_append] at hx ⊢
      rcases hx with hx | hx
      · obtain ⟨h1,h2,h3⟩:=ay8 (N:=N) hj k true s (hb s (by simp)) (by omega) (by omega) x hx
        exact ⟨h1,h2,fun y hy=>.inl (h3 y hy)⟩
      · obtain ⟨h1,h2,h3⟩:=ih (fun s hs=>hb s (by simp [hs])) (by omega) (by omega) x hx
        exact ⟨h1,h2,fun y hy=>.inr (h3 y hy)⟩
   rw [lpsS] at hx ⊢
   rcases List.mem_cons.mp hx with rfl | hx
   · exact ⟨h.1,⟨⟨j,hj,h.2⟩,by omega,by omega,fun _ _=>trivial⟩,fun y hy=>List.mem_cons_of_mem _ hy⟩
   · obtain ⟨h1,⟨⟨j',h2,h2'⟩,h3,h4,h5⟩,h6⟩:=bd h.2 (by omega) (by omega) x hx
     exact ⟨h1,⟨⟨j',h2,fun s hs=>bj9 (h2' s hs) (by omega)⟩,h3,h4,h5⟩,fun y hy=>List.mem_cons_of_mem _ (h6 y hy)⟩
 | k+1,lp,.test c y z,h,hz,hc,x,hx=>by
   simp only [Stm.sz,Stm.cl] at hz hc
   have bd:∀ {b:List Stm},(∀ s∈b,wS (ns.drop j) k lp s)→Stm.szs b≤50→Stm.cls b≤4→∀ x∈lpsB b,x.length≤7∧Sgm (fun _=>True) ns d (k - 1) true x∧∀ y∈lpsB x,y∈lpsB b:=fun {b} hb=>by
    induction b with
    | nil=>intro _ _ x hx; cases hx
    | cons s b ih =>
      intro hz hc x hx
      simp only [Stm.szs,Stm.cls] at hz hc
      simp only [lpsB,List.mem_append] at hx ⊢
      rcases hx with hx | hx
      · obtain ⟨h1,h2,h3⟩:=ay8 (N:=N) hj k lp s (hb s (by simp)) (by omega) (by omega) x hx
        exact ⟨h1,h2,fun y hy=>.inl (h3 y hy)⟩
      · obtain ⟨h1,h2,h3⟩:=ih (fun s hs=>hb s (by simp [hs])) (by omega) (by omega) x hx
        exact ⟨h1,h2,fun y hy=>.inr (h3 y hy)⟩
   rw [lpsS] at hx ⊢
   rcases List.mem_append.mp hx with hx | hx
   · obtain ⟨h1,⟨⟨j',h2,h2'⟩,h3,h4,h5⟩,h6⟩:=bd h.2.1.2 (by omega) (by omega) x hx
     exact ⟨h1,⟨⟨j',h2,fun s hs=>bj9 (h2' s hs) (by omega)⟩,h3,h4,h5⟩,fun y hy=>List.mem_append_left _ (h6 y hy)⟩
   · obtain ⟨h1,⟨⟨j',h2,h2'⟩,h3,h4,h5⟩,h6⟩:=bd h.2.2.2 (by omega) (by omega) x hx
     exact ⟨h1,⟨⟨j',h2,fun s hs=>bj9 (h2' s hs) (by omega)⟩,h3,h4,h5⟩,fun y hy=>List.mem_append_right _ (h6 y hy)⟩
theorem bf6 {ns:List Str}{d j:Nat}(hj:ns.length≤j+d) {k:Nat}{lp:Bool}:∀ {b:List Stm},(∀ s∈b,wS (ns.drop j) k lp s)→Stm.szs b≤50→Stm.cls b≤4→∀ x∈lpsB b,x.length≤7∧Sgm (fun _=>True) ns d (k - 1) true x
 | [],_,_,_,x,hx=>by cases hx
 | s::b,hb,hz,hc,x,hx=>by
   simp only [Stm.szs,Stm.cls] at hz hc
   rw [lpsB] at hx
   rcases List.mem_append.mp hx with hx | hx
   · obtain ⟨h1,h2,_⟩:=ay8 (N:=fun _=>True) hj k lp s (hb s (by simp)) (by omega) (by omega) x hx
     exact ⟨h1,h2⟩
   · exact bf6 hj (fun s hs=>hb s (by simp [hs])) (by omega) (by omega) x hx
structure TksB (ts:Tks) (nm:List Str) (i:Nat):Prop where
 n:ts.map (·.1)=nm.take i
 b:∀ (k:Nat) (x:Str×List Stm),ts[k]?=some x→(x.2.length≤7∧∀ s∈x.2,wS (nm.drop (k+1)) 5 false s)∧Stm.szs x.2≤50∧Stm.cls x.2≤4
theorem TksB.gd {ts ts':Tks}{nm:List Str}(h:TksB ts nm nm.length) (hu:nm.Nodup) (hl:nm.length≤3) (h0:nm≠[]) (hc:∀ c∈nm,(PyData.str c).canLay0=true) (hp:ts.Perm ts'):TksX ts' nm:=by
 have hn:=h.n
 rw [List.take_length] at hn
 have hl2:ts.length=nm.length:=by rw [← hn,List.length_map]
 have hu2:(ts'.map (·.1)).Nodup:=(hp.map (·.1)).nodup_iff.mp (by rw [hn]; exact hu)
 refine ⟨⟨fun i n hn2=>?_,hl⟩,fun x hx=>?_,hu,by rw [← hp.length_eq,hl2]; exact hl,hu2,fun c hc=>?_,fun z=>?_,hc⟩
 · rw [← hn,List.getElem?_map] at hn2
   obtain ⟨x,hx,rfl⟩:=Option.map_eq_some_iff.mp hn2
   obtain ⟨b1,b2⟩:=h.b i x hx
   exact ⟨x.2,bf2 hu2 (hp.mem_iff.mp (List.mem_of_getElem? hx)),b1,b2⟩
 · obtain ⟨k,hk⟩:=List.mem_iff_getElem?.mp (hp.mem_iff.mpr hx)
   exact ⟨k,by rw [← hn,List.getElem?_map,hk]; rfl,h.b k x hk⟩
 · rw [← hn] at hc
   exact (hp.map (·.1)).mem_iff.mp hc
 · rw [z] at hp
   have:=hp.length_eq
   rw [hl2] at this
   exact h0 (List.eq_nil_of_length_eq_zero this)
def cf7 (K:PySem.W.Frag):Sp:=fun vs H Q _=>∃ (dk l:Addr),vs=[.ref dk]∧Dk4 H dk l 40 4∧∀ (tl:Addr) (us:List V) (ts:Tks) (ns:List Str) (H':Hp),OfD dk l H H'→H' tl=some (.lst us)→Each (TkN H') us ts→TksX ts ns→Q (.ref tl) H'
theorem av2 (T:Txt K mg t):FnOk P w K mg base CX0 25 t.a__law_talks t.fd__law_talks ["deck"] (cf7 K):=by
 have G__law_digit:=a89 (P:=P) (w:=w) (base:=base) T
 have G__law_some:=ae5 (P:=P) (w:=w) (base:=base) T
 refine T.f__law_talks.F.ok sc_law_talks (fun vs H Q E h=>?_) (fun cdv A outer s H vs Q E hr h=>?_)
 · obtain ⟨dk,l,rfl,_⟩:=h
   rfl
 · obtain ⟨dk,l,rfl,hk,q⟩:=h
   replace G__law_some:=G__law_some 6
   refine ⟨_,(@a02 _ _ _ _ _ (@a18 _ _ 1 _ _ _ _ sc_law_talks.nd rfl (by walk_at "o") (@a39 _ _ _ _ _ _ _ _ _ _ (a40 K) (@a13 _ _ _ _ (@a00 _ _ _ _ _ (@a08 _ _ _ _) (@a00 _ _ _ _ _ (@a08 _ _ _ _) (@a00 _ _ _ _ _ (@a08 _ _ _ _) (@a01 _) (by rfl)) (by rfl)) (by rfl))) (@a57 _) (@a48 _ _ _ (@a33 _ _ _ _ _ _ _ _ a21 (@a03 _ _ _ _) (@a09 _ _ _ _ _ _ _ _ _ _ _ _ _ _ _ _ G__law_digit (hr.mono (by omega)) rfl T.f__law_digit.m T.f__law_digit.F.kp T.f__law_digit.b .nil a19 (@a00 _ _ _ _ _ (pv 0) (@a00 _ _ _ _ _ (@a03 _ _ _ _) (@a01 _) (by rfl)) (by rfl)) (by decide) (by rfl) (by rfl))))) (by rfl) (by walk_at "o"))
    (@a02 _ _ _ _ _ (b94 (i:=2) (Nt:=["k"]) (Nf:=["names","deck"]) (caps:=[1,0]) rfl (a45 (sc:=a06 ae1) rfl rfl (by decide +kernel) (by decide +kernel) (by decide +kernel) rfl (by decide +kernel)) (aa8 rfl T.z_range (@a00 _ _ _ _ _ (@a50 _ _ _ _ _ _ _ _ _ (a82 K) (by rfl) T.z_len ab4 (@a00 _ _ _ _ _ (pv 1) (@a01 _) (by rfl)) (by decide) (by decide) (by rfl) (by rfl)) (@a01 _) (by rfl))) (fun _ _ _ _ _=>(a16 (i:=0) (show (["k","names","deck"]:List Str).Nodup by decide +kernel) rfl (by walk_at "o"))) (fun _ _ _ _ _=>(@a92 _)) (fun _ _ _ _ _=>(@a26 _ _ _ _ _ (@a00 _ _ _ _ _ (@a15 _ _ _ _ _ _ _ (a20 K) (pv 1) (pv 0) (fun _ _=>rfl)) (@a00 _ _ _ _ _ (@a09 _ _ _ _ _ _ _ _ _ _ _ _ _ _ _ _ G__law_some (hr.mono (by omega)) rfl T.f__law_some.m T.f__law_some.F.kp T.f__law_some.b .nil a19 (@a00 _ _ _ _ _ (pv 2) (@a00 _ _ _ _ _ (@a39 _ _ _ _ _ _ _ _ _ _ (a40 K) (pv 1) (@a48 _ _ _ (@a33 _ _ _ _ _ _ _ _ a21 (pv 0) (@a03 _ _ _ _))) (@a57 _)) (@a00 _ _ _ _ _ (@ah1 _ _ _ _) (@a00 _ _ _ _ _ (@a03 _ _ _ _) (@a01 _) (by rfl)) (by rfl)) (by rfl)) (by rfl)) (by decide) (by rfl) (by rfl)) (@a01 _) (by rfl)) (by rfl)))) sc_law_talks.nd rfl (by walk_at "o") rfl)
    (@a02 _ _ _ _ _ (@a30 _ _ _ _ _ _ _ _ (@a07 _ _ _ _ _ _ _ _ a36 (@a09 _ _ _ _ _ _ _ _ _ _ _ _ _ _ _ _ G__law_digit (hr.mono (by omega)) rfl T.f__law_digit.m T.f__law_digit.F.kp T.f__law_digit.b .nil a19 (@a00 _ _ _ _ _ (pv 0) (@a00 _ _ _ _ _ (@a03 _ _ _ _) (@a01 _) (by rfl)) (by rfl)) (by decide) (by rfl) (by rfl)) (@a03 _ _ _ _) (nomark _)) (@a04 _ _ _ (@a14 _ _ _ _ (@a33 _ _ _ _ _ _ _ _ a21 (@a39 _ _ _ _ _ _ _ _ _ _ (a40 K) (pv 2) (@a57 _) (@a48 _ _ _ (@a03 _ _ _ _))) (bu0 K (pv 2) (@a03 _ _ _ _) (@aa6 _ _ _ _ _ _ a64 (@a03 _ _ _ _)))))) (@a11 _))
    (@a04 _ _ _ (@a14 _ _ _ _ (pv 2)))))),?_⟩
   have sl:(1000000:Nat)≤sizeLine:=le_line (Nat.le_refl _)
   walk_at "go"
   intro nl0 H1 f1 m1 j1
   walk_at "run"
   have n1:=hk.new f1
   refine ⟨dk,l,40,4,3,rfl,hk.same m1,by omega,by omega,fun r H2 hr o2 k2=>?_⟩
   walk_at "run"
   have hnl:=o2.at n1.1 n1.2 j1
   refine ac7 (SqL.of hnl) ?_
   rw [show (1+(r:Nat):Int)=((1+r:Nat):Int) by omega,ah8]
   intro nl J1 g1 q1 p1
   walk_at "run"
   obtain ⟨nm,hnm,hnl4,hn0,hnu,hnc⟩:∃ nm:List Str,List.take (1+r) [V.str (Str.ofString "a"),V.str (Str.ofString "loop"),V.str (Str.ofString "cc")]=a27 nm∧nm.length≤3∧nm≠[]∧nm.Nodup∧∀ c∈nm,(PyData.str c).canLay0=true :=
    ⟨List.take (1+r) [Str.ofString "a",Str.ofString "loop",Str.ofString "cc"],by unfold a27; rw [List.map_take]; rfl,by rw [List.length_take]; exact Nat.min_le_right _ _,(fun z=>by have:=congrArg List.length z; rw [List.length_take] at this; simp only [List.length_cons,List.length_nil] at this; omega),List.Nodup.sublist (List.take_sublist _ _) (by decide +kernel),fun c hc=>(show ∀ c∈[Str.ofString "a",Str.ofString "loop",Str.ofString "cc"],(PyData.str c).canLay0=true by decide +kernel) c (List.mem_of_mem_take hc)⟩
   rw [hnm] at p1
   refine ab5 (SqL.of p1) ?_
   walk_at "run"
   have hln:(a27 nm).length=nm.length:=List.length_map _
   rw [hln]
   refine ⟨by omega,by omega,?_⟩
   rw [Int.toNat_natCast]
   have k3:=k2.same q1
   have nn:=k2.new g1
   refine b04 (lo:=0) (n:=nm.length) (by omega) (fun i acc H'=>OfD dk l J1 H'∧∃ (left:Int) (calls:Nat) (ts:Tks),Dk4 H' dk l left calls∧(-5≤left∧left≤40)∧calls≤4∧Each (TkN (woP (fun a=>a=dk∨a=l) H')) acc ts∧acc.length=i∧TksB ts nm i) ⟨OfD.of (Same.refl _),40,4,[],k3,⟨by omega,by omega⟩,Nat.le_refl _,Each.nil,rfl,rfl,fun k x h=>by cases h⟩ (fun i acc H' ⟨_,_,_,_,_,_,_,_,e,_⟩=>by omega) ?_ ?_
   · rintro i acc H3 hi ⟨o3,left,calls,ts,k3,hl,hc,hE,ha,hB⟩
     walk_at "run"
     have e3:=o3.at nn.1 nn.2 p1
     rw [show (0+(i:Nat):Int)=(i:Int) by omega]
     refine a55 (SqL.of e3) (a05 (j:=i) (v:=.str nm[i]) (by unfold a27; rw [List.getElem?_map,List.getElem?_eq_getElem hi]; rfl)) ?_
     walk_at "run"
     refine ac7 (SqL.of e3) ?_
     rw [show ((i:Nat)+1:Int)=((i+1:Nat):Int) by omega,au6]
     intro sl1 H4 f4 s4 e4
     rw [show (a27 nm).drop (i+1)=a27 (nm.drop (i+1)) from (by unfold a27; rw [List.map_drop])] at e4
     walk_at "run"
     have n4:=k3.new f4
     have hBP:BPre H4 dk l sl1 left calls (nm.drop (i+1)) (fun a=>a=dk∨a=l):=⟨k3.same s4,by rw [wpG (fun z=>z.elim n4.1 n4.2)]; exact e4,by rw [List.length_drop]; omega,.inl rfl,.inr rfl,fun a ha=>by
      obtain ⟨ms,cur,h1,h2,_⟩:=(k3.same s4).ex
      rcases ha with rfl | rfl
      · rw [h1]; exact fun z=>by cases z
      · rw [h2]; exact fun z=>by cases z⟩
     refine ⟨dk,l,sl1,left,calls,0,5,false,nm.drop (i+1),fun a=>a=dk∨a=l,rfl,hBP,by omega,by omega,by omega,by omega,fun v b left' calls' H5 o5 k5 hb hw hz hcl hlo=>?_⟩
     walk_at "run"
     intro a H6 f6 s6 e6
     have n6:=k5.new f6
     have up:Same (woP (fun a=>a=dk∨a=l) H3) (woP (fun a=>a=dk∨a=l) H6):=(wpS s4).trans (o5.trans (wpS s6))
     refine ⟨((o3.trans (OfD.of s4)).trans o5).trans (OfD.of s6),left',calls',ts++[(nm[i],b)],k5.same s6,⟨by omega,by omega⟩,by omega,(hE.mono fun _ _ z=>z.same up).snoc ⟨a,v,rfl,by rw [wpG (fun z=>z.elim n6.1 n6.2)]; exact e6,hb.same (wpS s6)⟩,by simp [ha],?_,fun k x hx=>?_⟩
     · rw [List.map_append,hB.n,List.take_add_one,List.getElem?_eq_getElem hi]; rfl
     · have hlt:ts.length=i:=by rw [← hE.1,ha]
       by_cases hk':k<ts.length
       · rw [List.getElem?_append_left hk'] at hx
         exact hB.b k x hx
       · rw [List.getElem?_append_right (by omega)] at hx
         have:k - ts.length=0:=by
          have:=(List.getElem?_eq_some_iff.mp hx).1
          simp at this
          omega
         rw [this] at hx
         obtain rfl:=Option.some.inj hx
         rw [show k=i by omega]
         exact ⟨⟨Nat.le_trans hw.1 (by decide),hw.2⟩,show Stm.szs b≤50 by omega,show Stm.cls b≤4 by omega⟩
   · rintro us H3 ⟨o3,left,calls,ts,k3,hl,hc,hE,ha,hB⟩ tl H4 f4 s4 e4
     walk_at "run"
     have nt:=k3.new f4
     refine ⟨dk,l,left,calls,2,rfl,k3.same s4,by omega,by omega,fun r2 H5 hr2 o5 k5=>?_⟩
     walk_at "run"
     have e5:=o5.at nt.1 nt.2 e4
     have up:Same (woP (fun a=>a=dk∨a=l) H3) (woP (fun a=>a=dk∨a=l) H5):=(wpS s4).trans (o5.p (.inl rfl) (.inr rfl))
     have hE5:=hE.mono fun _ _ z=>z.same (up.trans wpL)
     have oH:OfD dk l H H5:=((OfD.of m1).trans o2).trans ((OfD.of q1).trans (o3.trans ((OfD.of s4).trans o5)))
     by_cases h1:r2=1
     · refine a28 (show (r2:Int)=1 by omega) ?_
       walk_at "run"
       refine ac7 (SqL.of e5) ?_
       rw [show (1:Int)=((1:Nat):Int) from rfl,ah8]
       intro a6 H6 f6 s6 e6
       walk_at "run"
       refine ⟨rfl,rfl,tl,us,rfl,SqL.of (s6 _ _ e5),?_⟩
       intro a7 H7 f7 s7 e7
       have e67:=s7 _ _ e6
       refine a31 e67 e7 (by
        have:=hE.1
        have:=(hB.gd hnu hnl4 hn0 hnc (List.Perm.refl _)).tl
        rw [List.length_reverse,List.length_take,List.length_drop]
        omega) ?_
       intro a8 H8 f8 s8 e8
       have s58:=s6.trans (s7.trans s8)
       refine q a8 _ (ts.take 1++(ts.drop 1).reverse) nm H8 (oH.trans (OfD.of s58)) e8 (((ag8 hE5 1).append (b24 (au7 hE5 1))).mono fun _ _ z=>z.same s58) (hB.gd hnu hnl4 hn0 hnc ?_)
       exact (List.Perm.of_eq (List.take_append_drop 1 ts).symm).trans (List.Perm.append_left _ (List.reverse_perm _).symm)
     · refine a23 (show ¬ (r2:Int)=1 by omega) ?_
       walk_at "run"
       exact q tl us ts nm H5 oH e5 hE5 (hB.gd hnu hnl4 hn0 hnc (List.Perm.refl _))
theorem atI_last {α:Type}{xs:List α}{y:α}:atI (xs++[y]) (-1)=some y:=by
 have h:ixN (xs++[y]).length (-1)=some xs.length:=by
  unfold ixN
  rw [if_neg (by omega),List.length_append,List.length_singleton]
  rw [if_pos (by omega)]
  congr 1
  omega
 unfold atI
 rw [h]
 simp
theorem ah0 {α β:Type}{R:α→β→Prop}{us:List α}{xs:List β}{x:β}(h:Each R us (xs++[x])):∃ us' v,us=us'++[v]∧Each R us' xs∧R v x:=by
 have hl:us.length=xs.length+1:=by rw [h.1,List.length_append]; rfl
 have e:us=us.take xs.length++us.drop xs.length:=(List.take_append_drop _ _).symm
 obtain ⟨v,hv⟩:∃ v,us.drop xs.length=[v]:=List.length_eq_one_iff.mp (by rw [List.length_drop]; omega)
 rw [hv] at e
 refine ⟨_,v,e,⟨by rw [List.length_take]; omega,fun j u y h1 h2=>?_⟩,h.2 xs.length v x (by rw [e,List.getElem?_append_right (by rw [List.length_take]; omega)]; simp [show xs.length - min xs.length us.length=0 by omega]) (by simp)⟩
 rw [List.getElem?_take] at h1
 split at h1
 · exact h.2 j u y h1 (by rw [List.getElem?_append_left (List.getElem?_eq_some_iff.mp h2).1]; exact h2)
 · cases h1
def ITa (H:Hp) (v:V) (i:Itm):Prop:=TAt H v i.tr
theorem ITa.same {H H':Hp}{v:V}{i:Itm}(h:ITa H v i) (s:Same H H'):ITa H' v i:=TAt.same h s
abbrev PlE (H:Hp) (us:List V) (P:Pil):Prop:=Each (ITa H) us P.reverse
theorem ac6 {H:Hp}{us:List V}{i:Itm}{P:Pil}(h:PlE H us (i::P)):∃ us' v,us=us'++[v]∧PlE H us' P∧ITa H v i:=by
 unfold PlE at h
 rw [List.reverse_cons] at h
 exact ah0 h
theorem aj5 {H:Hp}{us:List V}{v:V}{i:Itm}{P:Pil}(h:PlE H us P) (hv:ITa H v i):PlE H (us++[v]) (i::P):=by
 unfold PlE
 rw [List.reverse_cons]
 exact h.snoc hv
theorem PlE.same {H H':Hp}{us:List V}{P:Pil}(h:PlE H us P) (s:Same H H'):PlE H' us P:=Each.mono h fun _ _ z=>z.same s
theorem ac0 {H:Hp}{us vs:List V}{b:List Stm}{P:Pil}(h:PlE H us P) (hb:Each (SAt H) vs b):PlE H (us++vs.reverse) (sts b++P):=by
 unfold PlE
 rw [List.reverse_append]
 refine Each.append h ?_
 unfold sts
 rw [← List.map_reverse]
 have:=b24 hb
 exact ar1 (fun v s (z:SAt H v s)=>(show ITa H v (.st s) from z)) this
theorem lp_at {H:Hp}{v:V}{x:List Stm}:ITa H v (.lp x)↔∃ a u,v=.ref a∧H a=some (.tup [.str "looped",u])∧BAt H u x:=by
 constructor
 · rintro ⟨fs,h⟩
   simp only [Itm.tr,Tr.At,Tr.Ats] at h
   obtain ⟨a,us,rfl,e,u1,r1,f1,f2,rfl,rfl,⟨rfl,rfl⟩,u2,r2,f3,f4,rfl,rfl,h3,rfl,rfl⟩:=h
   exact ⟨a,u2,rfl,e,⟨f3,by simp only [Tr.At]; exact h3⟩⟩
 · rintro ⟨a,u,rfl,e,f,h⟩
   refine ⟨[]++(f++[]),?_⟩
   simp only [Itm.tr,Tr.At,Tr.Ats] at h ⊢
   exact ⟨a,_,rfl,e,_,_,[],_,rfl,rfl,⟨rfl,rfl⟩,u,_,f,[],rfl,rfl,h,rfl,rfl⟩
theorem cl_at {H:Hp}{v:V}:ITa H v .cl↔∃ a,v=.ref a∧H a=some (.tup [.str "called"]):=by
 constructor
 · rintro ⟨fs,h⟩
   simp only [Itm.tr,Tr.At,Tr.Ats] at h
   obtain ⟨a,us,rfl,e,u1,r1,f1,f2,rfl,rfl,⟨rfl,rfl⟩,rfl,rfl⟩:=h
   exact ⟨a,rfl,e⟩
 · rintro ⟨a,rfl,e⟩
   refine ⟨[],?_⟩
   simp only [Itm.tr,Tr.At,Tr.Ats]
   exact ⟨a,_,rfl,e,_,_,[],[],rfl,rfl,⟨rfl,rfl⟩,rfl,rfl⟩
def wdI:Itm→Str
 | .st s=>s.wd
 | .lp _=>"looped"
 | .cl=>"called"
theorem bx2 {nm:List Str}{k:Nat}{lp:Bool}{s:Stm}(h:wS nm k lp s):s.wd≠Str.ofString "looped"∧s.wd≠Str.ofString "called":=by
 cases s with
 | plain ps =>
   rcases wS_pl.mp h with rfl | rfl | ⟨c,_,rfl⟩ | ⟨_,rfl | rfl⟩ | rfl | rfl
   · exact ⟨by show ¬ (Str.ofString "say"=Str.ofString "looped"); decide +kernel,by show ¬ (Str.ofString "say"=Str.ofString "called"); decide +kernel⟩
   · exact ⟨by show ¬ (Str.ofString "hand"=Str.ofString "looped"); decide +kernel,by show ¬ (Str.ofString "hand"=Str.ofString "called"); decide +kernel⟩
   · exact ⟨by show ¬ (Str.ofString "call"=Str.ofString "looped"); decide +kernel,by show ¬ (Str.ofString "call"=Str.ofString "called"); decide +kernel⟩
   · exact ⟨by show ¬ (Str.ofString "again"=Str.ofString "looped"); decide +kernel,by show ¬ (Str.ofString "again"=Str.ofString "called"); decide +kernel⟩
   · exact ⟨by show ¬ (Str.ofString "leave"=Str.ofString "looped"); decide +kernel,by show ¬ (Str.ofString "leave"=Str.ofString "called"); decide +kernel⟩
   · exact ⟨by show ¬ (Str.ofString "back"=Str.ofString "looped"); decide +kernel,by show ¬ (Str.ofString "back"=Str.ofString "called"); decide +kernel⟩
   · exact ⟨by show ¬ (Str.ofString "stop"=Str.ofString "looped"); decide +kernel,by show ¬ (Str.ofString "stop"=Str.ofString "called"); decide +kernel⟩
 | put n e=>exact ⟨by show ¬ (Str.ofString "put"=Str.ofString "looped"); decide +kernel,by show ¬ (Str.ofString "put"=Str.ofString "called"); decide +kernel⟩
 | loop x=>exact ⟨by show ¬ (Str.ofString "loop"=Str.ofString "looped"); decide +kernel,by show ¬ (Str.ofString "loop"=Str.ofString "called"); decide +kernel⟩
 | wait n bs=>exact ⟨by show ¬ (Str.ofString "wait"=Str.ofString "looped"); decide +kernel,by show ¬ (Str.ofString "wait"=Str.ofString "called"); decide +kernel⟩
 | test c x y=>exact ⟨by show ¬ (Str.ofString "test"=Str.ofString "looped"); decide +kernel,by show ¬ (Str.ofString "test"=Str.ofString "called"); decide +kernel⟩
theorem b59 {nm:List Str}{k:Nat}{lp:Bool}{s:Stm}(h:wS nm k lp s):s.kd nm:=bv9 (L:=8) (by decide) (w_ok k lp s h)
theorem ai0 {H:Hp}{ns:List Str}{v:V}{i:Itm}(h:ITa H v i) (ho:ItOk ns i):∃ a r,v=.ref a∧H a=some (.tup (.str (wdI i)::r)):=by
 cases i with
 | st s =>
   obtain ⟨j,k,lp,_,hw⟩:=ho
   exact an7 (show SAt H v s from h) (b59 hw)
 | lp x =>
   obtain ⟨a,u,rfl,e,_⟩:=lp_at.mp h
   exact ⟨a,_,rfl,e⟩
 | cl =>
   obtain ⟨a,rfl,e⟩:=cl_at.mp h
   exact ⟨a,_,rfl,e⟩
def tgt (tk:Bool) (P:Pil):Pil:=if tk=true then (match toL P with | some (x,q)=>.lp x::q | none=>[]) else (match toC P with | some q=>.cl::q | none=>[])
def mkW (tk:Bool):Str:=if tk=true then "looped" else "called"
theorem ar3 {ns:List Str}{tk:Bool}{i:Itm}{P:Pil}(ho:ItOk ns i):tgt tk (i::P)=if (wdI i)=mkW tk then i::P else if tk=true∧(wdI i)=Str.ofString "called" then [] else tgt tk P:=by
 cases i with
 | st s =>
   obtain ⟨j,k,lp,_,hw⟩:=ho
   obtain ⟨h1,h2⟩:=bx2 hw
   have h1:wdI (.st s)≠Str.ofString "looped":=h1
   have h2:wdI (.st s)≠Str.ofString "called":=h2
   rw [if_neg (by cases tk; exact h2; exact h1),if_neg (fun z=>h2 z.2)]
   cases tk <;> rfl
 | lp x =>
   cases tk with
   | true=>exact (if_pos (show wdI (.lp x)=mkW true from rfl)).symm
   | false=>rw [if_neg (by show ¬ (Str.ofString "looped"=Str.ofString "called"); decide +kernel),if_neg (fun z=>by cases z.1)]; rfl
 | cl =>
   cases tk with
   | true=>rw [if_neg (by show ¬ (Str.ofString "called"=Str.ofString "looped"); decide +kernel),if_pos ⟨rfl,show wdI .cl=Str.ofString "called" from rfl⟩]; rfl
   | false=>exact (if_pos (show wdI .cl=mkW false from rfl)).symm
def cf8 (K:PySem.W.Frag):Sp:=fun vs H Q _=>∃ (pl:Addr) (us:List V) (P:Pil) (tk:Bool) (ns:List Str) (pp:Addr→Prop),vs=[.ref pl,.str (mkW tk),.bl tk]∧H pl=some (.lst us)∧PlE (woP pp H) us P∧(∀ i∈P,ItOk ns i)∧∀ l us' H',Same H H'→H' l=some (.lst us')→PlE (woP pp H') us' (tgt tk P)→Q (.ref l) H'
theorem av3 (T:Txt K mg t):FnOk P w K mg base CX0 3 t.a__law_to t.fd__law_to ["pile","mark","talk"] (cf8 K):=by
 refine T.f__law_to.F.ok sc_law_to (fun vs H Q E h=>?_) (fun cdv A outer s H vs Q E hr h=>?_)
 · obtain ⟨pl,us,P,tk,ns,pp,rfl,_⟩:=h
   rfl
 · obtain ⟨pl,us,P,tk,ns,pp,rfl,e0,hE,hok,q⟩:=h
   refine ⟨_,(@a02 _ _ _ _ _ (@ai9 _ _ _ _ _ _ PassesOwn.never (@PW.pt _ _ _ (@a68 _ _ _ _ _ _ _ (@a07 _ _ _ _ _ _ _ _ (af8 K (by exact hr.units)) (pv 0) (@a13 _ _ _ _ (@a01 _)) (nomark _)) (@a56 _ _ _ _ (@a07 _ _ _ _ _ _ _ _ b71 (@a15 _ _ _ _ _ _ _ (a10 K) (@a15 _ _ _ _ _ _ _ (a20 K) (pv 0) (@aa6 _ _ _ _ _ _ a64 (@a03 _ _ _ _)) (fun _ _=>rfl)) (@a03 _ _ _ _) (fun _ _=>rfl)) (pv 1) (nomark _))))) (@a02 _ _ _ _ _ (@a30 _ _ _ _ _ _ _ _ (@PW.pt _ _ _ (@a68 _ _ _ _ _ _ _ (ab3 K (pv 2) (fun _=>rfl)) (@a56 _ _ _ _ (@a07 _ _ _ _ _ _ _ _ a36 (@a15 _ _ _ _ _ _ _ (a10 K) (@a15 _ _ _ _ _ _ _ (a20 K) (pv 0) (@aa6 _ _ _ _ _ _ a64 (@a03 _ _ _ _)) (fun _ _=>rfl)) (@a03 _ _ _ _) (fun _ _=>rfl)) (@a08 _ _ _ _) (nomark _))))) (@a04 _ _ _ (@a14 _ _ _ _ (@a13 _ _ _ _ (@a01 _)))) (@a11 _))
    (@a04 _ _ _ (@a18 _ _ 0 _ _ _ _ sc_law_to.nd rfl (by walk_at "o") (@a39 _ _ _ _ _ _ _ _ _ _ (a40 K) (pv 0) (@a57 _) (@a48 _ _ _ (@aa6 _ _ _ _ _ _ a64 (@a03 _ _ _ _)))) (by rfl) (by walk_at "o")))))
    (@a04 _ _ _ (@a14 _ _ _ _ (pv 0)))),?_⟩
   have sl:(1000000:Nat)≤sizeLine:=le_line (Nat.le_refl _)
   walk_at "go"
   refine ao5 (fun n σ' H'=>∃ pl us P',n=P'.length∧σ'=[some (.ref pl),some (.str (mkW tk)),some (.bl tk)]∧Same H H'∧H' pl=some (.lst us)∧PlE (woP pp H') us P'∧(∀ i∈P',ItOk ns i)∧tgt tk P'=tgt tk P) P.length ⟨pl,us,P,rfl,rfl,Same.refl _,e0,hE,hok,rfl⟩ ?_
   rintro n σ' H1 ⟨pl,us,P',rfl,rfl,s1,e1,hE1,hok1,hb⟩
   walk_at "run"
   intro a2 H2 f2 s2 e2
   refine ao6 (SqL.of (s2 _ _ e1)) (SqL.of e2) ?_
   cases P' with
   | nil =>
     obtain rfl:us=[]:=List.eq_nil_of_length_eq_zero hE1.1
     refine ⟨false,rfl,?_⟩
     rw [if_neg Bool.false_ne_true]
     walk_at "run"
     exact q pl [] H2 (s1.trans s2) (s2 _ _ e1) (by rw [← hb]; cases tk <;> exact hE1.same (wpS s2))
   | cons i P' =>
     obtain ⟨us,v,rfl,hE1',hv⟩:=ac6 hE1
     have ho:=hok1 i (by simp)
     obtain ⟨a,r,rfl,ea⟩:=ai0 hv ho
     have ea:=wpL _ _ ea
     have ea2:=s2 _ _ ea
     have e12:=s2 _ _ e1
     have hc:=ar3 (tk:=tk) (P:=P') ho
     rw [hb] at hc
     refine ⟨true,by simp,?_⟩
     rw [if_pos rfl]
     walk_at "run"
     refine a55 (SqL.of e12) atI_last ?_
     walk_at "run"
     refine a22 (SqT.of ea2) (a05 (j:=0) rfl) ?_
     walk_at "run"
     by_cases hw:wdI i=mkW tk
     · rw [if_neg (by simp [hw])]
       walk_at "run"
       rw [if_pos hw] at hc
       exact q pl _ H2 (s1.trans s2) e12 (by rw [hc]; exact hE1.same (wpS s2))
     · rw [if_pos (by simpa using hw)]
       rw [if_neg hw] at hc
       refine ⟨fun σ' H'=>∃ pl us,σ'=[some (.ref pl),some (.str (mkW tk)),some (.bl tk)]∧Same H H'∧H' pl=some (.lst us)∧PlE (woP pp H') us P'∧tgt tk P'=tgt tk P,fun σ' H' ⟨pl,us,z1,z2,z3,z4,z5⟩=>⟨P'.length,by simp,pl,us,P',rfl,z1,z2,z3,z4,fun i hi=>hok1 i (by simp [hi]),z5⟩,?_⟩
       walk_at "run"
       rename_i N hN
       have rest:¬ (tk=true∧wdI i=Str.ofString "called")→N [some (.ref pl),some (.str (mkW tk)),some (.bl tk)] H2:=fun hn=>by
        refine hN _ _ ?_
        rw [if_neg hn] at hc
        walk_at "run"
        refine ac7 (SqL.of e12) ?_
        rw [(af7 _ _).1]
        intro l H3 f3 s3 e3
        walk_at "run"
        exact ⟨l,us,rfl,s1.trans (s2.trans s3),e3,hE1'.same (wpS (s2.trans s3)),hc.symm⟩
       clear hN
       cases tk with
       | false =>
         walk_at "run"
         exact rest (fun z=>by cases z.1)
       | true =>
         walk_at "run"
         refine a55 (SqL.of e12) atI_last ?_
         walk_at "run"
         refine a22 (SqT.of ea2) (a05 (j:=0) rfl) ?_
         walk_at "run"
         by_cases hcl:wdI i=Str.ofString "called"
         · rw [if_pos ⟨rfl,hcl⟩] at hc
           rw [if_pos (decide_eq_true hcl)]
           walk_at "run"
           intro l H3 f3 s3 e3
           exact q l [] H3 (s1.trans (s2.trans s3)) e3 (by rw [hc]; exact Each.nil)
         · rw [if_neg (by simp [hcl])]
           walk_at "run"
           exact rest (fun z=>hcl z.2)
theorem c96 {H:Hp}{ts:Tks}{vs:List V}(h:Each (TkN H) vs ts) (hu:(ts.map (·.1)).Nodup):∀ n,n≤ts.length→∃ kvs:List (Key×V),PrK H (vs.take n) kvs∧∀ x∈ts.take n,∃ v,valV (a94 [] kvs) (Sum.inr x.1)=some v∧BAt H v x.2
 | 0,_=>⟨[],by rw [List.take_zero]; exact .nil,fun x hx=>by cases hx⟩
 | n+1,hn=>by
   obtain ⟨kvs,h1,h2⟩:=c96 h hu n (by omega)
   have hx:ts[n]?=some ts[n]:=List.getElem?_eq_getElem (by omega)
   obtain ⟨v,hv,a,u,rfl,e,hb⟩:=h.get hx
   refine ⟨kvs++[(Sum.inr ts[n].1,u)],by rw [List.take_add_one,hv]; exact h1.snoc e,fun x hm=>?_⟩
   rw [ax0]
   rw [List.take_add_one,hx] at hm
   by_cases hx1:x.1=ts[n].1
   · refine ⟨u,by rw [aj1,if_pos (by rw [hx1])],?_⟩
     have:x=ts[n]:=by
      rcases List.mem_append.mp hm with hm | hm
      · exfalso
        obtain ⟨k,hk⟩:=List.mem_iff_getElem?.mp hm
        rw [List.getElem?_take] at hk
        split at hk
        · rename_i hkn
          have hk2:(ts.map (·.1))[k]?=some x.1:=by rw [List.getElem?_map,hk]; rfl
          have hn2:(ts.map (·.1))[n]?=some x.1:=by rw [List.getElem?_map,hx,hx1]; rfl
          have:=(List.getElem?_inj (by rw [List.length_map]; omega) hu).mp (hk2.trans hn2.symm)
          omega
        · cases hk
      · exact List.mem_singleton.mp hm
     rw [this]; exact hb
   · rcases List.mem_append.mp hm with hm | hm
     · obtain ⟨v,hv,hb⟩:=h2 x hm
       exact ⟨v,by rw [aj1,if_neg (fun z=>hx1 (by first | exact Sum.inr.inj z | exact (Sum.inr.inj z).symm))]; exact hv,hb⟩
     · exact absurd (by rw [List.mem_singleton.mp hm]) hx1
def WyAt (pp:Addr→Prop) (H:Hp) (wv:V):Prop:=wv=.non∨∃ (wl:Addr) (ws:List Int),wv=.ref wl∧pp wl∧H wl=some (.lst (ws.map V.int))∧ws≠[]∧ws.length≤100∧∀ z∈ws,z=0∨z=1
def PlsAt (pp:Addr→Prop) (H:Hp) (v:V) (c:Pil):Prop:=∃ (cl:Addr) (us:List V),v=.ref cl∧¬ pp cl∧H cl=some (.lst us)∧PlE (woP pp H) us c
theorem PlsAt.same {pp:Addr→Prop}{H H':Hp}{v:V}{c:Pil}(h:PlsAt pp H v c) (s:Same (woP pp H) (woP pp H')):PlsAt pp H' v c:=by
 obtain ⟨cl,us,rfl,h1,h2,h3⟩:=h
 exact ⟨cl,us,rfl,h1,wpL _ _ (s _ _ (by rw [wpG h1]; exact h2)),h3.same s⟩
structure StJ (pp:Addr→Prop) (H H':Hp) (wv:V):Prop where
 s:Same (woP pp H) (woP pp H')
 k:∀ a o,pp a→V.ref a≠wv→H a=some o→H' a=some o
 w:WyAt pp H' wv
theorem StJ.of {pp:Addr→Prop}{H H':Hp}{wv:V}(s:Same H H') (w:WyAt pp H wv):StJ pp H H' wv:=⟨wpS s,fun a o _ _ e=>s _ _ e,by
 rcases w with rfl | ⟨wl,ws,rfl,h1,h2,h3⟩
 · exact .inl rfl
 · exact .inr ⟨wl,ws,rfl,h1,s _ _ h2,h3⟩⟩
theorem b60 {a b:String}{i:Itm}(h:wdI i=Str.ofString a) (hn:¬ Str.ofString a=Str.ofString b):¬ wdI i=Str.ofString b:=fun z=>hn (h.symm.trans z)
theorem c97 {nm:List Str}{k:Nat}{lp:Bool}{st:Stm}(h:wS nm k lp st) {w:Wd}(hw:w≠.on) (e:st.wd=w.txt):st=.plain [.s w.txt]:=by
 cases st with
 | put n e'=>exact absurd e (by show ¬ (Str.ofString "put"=w.txt); cases w <;> decide +kernel)
 | loop x=>exact absurd e (by show ¬ (Str.ofString "loop"=w.txt); cases w <;> decide +kernel)
 | wait n bs=>exact absurd e (by show ¬ (Str.ofString "wait"=w.txt); cases w <;> decide +kernel)
 | test c x y=>exact absurd e (by show ¬ (Str.ofString "test"=w.txt); cases w <;> decide +kernel)
 | plain ps =>
   rcases wS_pl.mp h with rfl | rfl | ⟨c,_,rfl⟩ | ⟨_,rfl | rfl⟩ | rfl | rfl
   · exact absurd e (by show ¬ (Str.ofString "say"=w.txt); cases w <;> decide +kernel)
   · exact absurd e (by show ¬ (Str.ofString "hand"=w.txt); cases w <;> decide +kernel)
   · exact absurd e (by show ¬ (Str.ofString "call"=w.txt); cases w <;> decide +kernel)
   · rw [← a76 (a:=.again) e]; rfl
   · rw [← a76 (a:=.leave) e]; rfl
   · rw [← a76 (a:=.back) e]; rfl
   · rw [← a76 (a:=.stop) e]; rfl
theorem bf7 {ns:List Str}{i:Itm}(h:ItOk ns i) (h1:¬ wdI i=Str.ofString "looped") (h2:¬ wdI i=Str.ofString "called"):∃ st j k lp,i=.st st∧k≤5∧wS (ns.drop j) k lp st:=by
 cases i with
 | st s=>obtain ⟨j,k,lp,hk,hw⟩:=h; exact ⟨s,j,k,lp,rfl,hk,hw⟩
 | lp x=>exact absurd rfl h1
 | cl=>exact absurd rfl h2
theorem b32 {ns:List Str}{i:Itm}(h:ItOk ns i) {w:Wd}(hw:w≠.on) (e:wdI i=w.txt):i=.st (.plain [.s w.txt]):=by
 obtain ⟨st,j,k,lp,rfl,hk,hs⟩:=bf7 h (fun z=>absurd (e.symm.trans z) (by cases w <;> decide +kernel)) (fun z=>absurd (e.symm.trans z) (by cases w <;> decide +kernel))
 rw [c97 hs hw e]
theorem bx3 {ts:Tks}{ns:List Str}{P:Pil}{i:Itm}(h:ItOk ns i) (h1:¬ wdI i=Str.ofString "test") (h2:¬ wdI i=Str.ofString "call") (h3:¬ wdI i=Str.ofString "loop") (h4:¬ wdI i=Str.ofString "looped") (h5:¬ wdI i=Str.ofString "again") (h6:¬ wdI i=Str.ofString "leave") (h7:¬ wdI i=Str.ofString "back") (h8:¬ wdI i=Str.ofString "stop"):onI ts P i=[P]:=by
 cases i with
 | lp x=>exact absurd rfl h4
 | cl=>rfl
 | st s =>
   cases s with
   | put n e=>rfl
   | wait n bs=>rfl
   | loop x=>exact absurd rfl h3
   | test c x y=>exact absurd rfl h1
   | plain ps =>
     obtain ⟨j,k,lp,_,hw⟩:=h
     rcases wS_pl.mp hw with rfl | rfl | ⟨c,_,rfl⟩ | ⟨_,rfl | rfl⟩ | rfl | rfl
     · rfl
     · rfl
     · exact absurd rfl h2
     · exact absurd rfl h5
     · exact absurd rfl h6
     · exact absurd rfl h7
     · exact absurd rfl h8
theorem bp7 {ns:List Str}{tk:Bool}:∀ {P:Pil},(∀ i∈P,ItOk ns i)→∀ i∈tgt tk P,ItOk ns i
 | [],_,i,hi=>by cases tk <;> cases hi
 | x::P,h,i,hi=>by
   rw [ar3 (h x (by simp))] at hi
   split at hi
   · exact h i hi
   · split at hi
     · cases hi
     · exact bp7 (fun j hj=>h j (by simp [hj])) i hi
theorem bf8 {ns:List Str}{tk:Bool}:∀ {P:Pil},(∀ i∈P,ItOk ns i)→(tgt tk P).length≤P.length
 | [],_=>by cases tk <;> exact Nat.zero_le _
 | x::P,h=>by
   rw [ar3 (h x (by simp))]
   split
   · exact Nat.le_refl _
   · split
     · exact Nat.zero_le _
     · exact Nat.le_trans (bf8 fun j hj=>h j (by simp [hj])) (Nat.le_succ _)
theorem bf9 (xs:List V):cutV xs none (some (-1))=xs.dropLast:=by
 rcases List.eq_nil_or_concat xs with rfl | ⟨ys,y,rfl⟩
 · rfl
 · rw [List.concat_eq_append,(af7 _ _).1,List.dropLast_concat]
def cf9 (K:PySem.W.Frag):Sp:=fun vs H Q _=>∃ (tv:V) (pl:Addr) (us:List V) (P:Pil) (sv:V) (s:Itm) (wv:V) (ts:Tks) (ns:List Str) (pp:Addr→Prop),vs=[tv,.ref pl,sv,wv]∧TksAt (woP pp H) tv ts∧TksX ts ns∧¬ pp pl∧H pl=some (.lst us)∧PlE (woP pp H) us P∧(∀ i∈P,ItOk ns i)∧P.length≤1000∧ITa (woP pp H) sv s∧ItOk ns s∧Ok1 ts P s∧(∀ x,s=.lp x→x.length≤50)∧(∀ x q,toL P=some (x,q)→x.length≤50)∧WyAt pp H wv∧(∀ a,pp a→H a≠none)∧∀ l vs' (Cs:List Pil) H',StJ pp H H' wv→¬ pp l→H' l=some (.lst vs')→Each (PlsAt pp H') vs' Cs→(wv=.non→Cs=onI ts P s)→(wv≠.non→∃ c∈onI ts P s,Cs=[c])→Q (.ref l) H'
theorem av4 (T:Txt K mg t):FnOk P w K mg base CX0 6 t.a__law_on t.fd__law_on ["talks","pile","statement","ways"] (cf9 K):=by
 have G__law_to:=av3 (P:=P) (w:=w) (base:=base) T
 refine T.f__law_on.F.ok sc_law_on (fun vs H Q E h=>?_) (fun cdv A outer s H vs Q E hr h=>?_)
 · obtain ⟨tv,pl,us,P,sv,s,wv,ts,ns,pp,rfl,_⟩:=h
   rfl
 · obtain ⟨tv,pl,us,P,sv,s,wv,ts,ns,pp,rfl,hts,hX,hpl,e0,hE,hok,hl,hs,ho,h1,hxl,hxP,hw,hex,q⟩:=h
   refine ⟨_,(@a02 _ _ _ _ _ (@a18 _ _ 4 _ _ _ _ sc_law_on.nd rfl (by walk_at "o") (@a15 _ _ _ _ _ _ _ (a10 K) (pv 2) (@a03 _ _ _ _) (fun _ _=>rfl)) (by rfl) (by walk_at "o"))
    (@a02 _ _ _ _ _ (@a30 _ _ _ _ _ _ _ _ (@a07 _ _ _ _ _ _ _ _ a36 (pv 4) (@a08 _ _ _ _) (nomark _)) (@a02 _ _ _ _ _ (@a18 _ _ 5 _ _ _ _ sc_law_on.nd rfl (by walk_at "o") (@a13 _ _ _ _ (@a00 _ _ _ _ _ (@a33 _ _ _ _ _ _ _ _ a21 (pv 1) (a59 K (by rfl) (by rfl) T.z_list (by rfl) T.z_reversed (@a00 _ _ _ _ _ (@a15 _ _ _ _ _ _ _ (a10 K) (pv 2) (@a03 _ _ _ _) (fun _ _=>rfl)) (@a01 _) (by rfl)))) (@a00 _ _ _ _ _ (@a33 _ _ _ _ _ _ _ _ a21 (pv 1) (a59 K (by rfl) (by rfl) T.z_list (by rfl) T.z_reversed (@a00 _ _ _ _ _ (@a15 _ _ _ _ _ _ _ (a10 K) (pv 2) (@a03 _ _ _ _) (fun _ _=>rfl)) (@a01 _) (by rfl)))) (@a01 _) (by rfl)) (by rfl))) (by rfl) (by walk_at "o"))
     (@a02 _ _ _ _ _ (@a30 _ _ _ _ _ _ _ _ (@a07 _ _ _ _ _ _ _ _ bt3 (pv 3) (@az4 _ _ _) (nomark _)) (@a04 _ _ _ (@a14 _ _ _ _ (pv 5))) (@a11 _))
     (@a02 _ _ _ _ _ (@a32 _ _ _ _ (@a83 _ K _ _ _ _ _ _ _ _ _ _ _ PySem.F.plainAttrs_list PySem.F.slot_list_append PySem.F.type_list_append a78 (pv 3) (@a00 _ _ _ _ _ (@a83 _ K _ _ _ _ _ _ _ _ _ _ _ PySem.F.plainAttrs_list PySem.F.slot_list_pop PySem.F.type_list_pop bh3 (pv 3) (@a00 _ _ _ _ _ (@a03 _ _ _ _) (@a01 _) (by rfl)) (by rfl) (by rfl) (by rfl) (by rfl) (by rfl) (by rfl)) (@a01 _) (by rfl)) (by rfl) (by rfl) (by rfl) (by rfl) (by rfl) (by rfl)) (by rfl))
     (@a04 _ _ _ (@a14 _ _ _ _ (@a13 _ _ _ _ (@a00 _ _ _ _ _ (@a15 _ _ _ _ _ _ _ (a20 K) (pv 5) (@a15 _ _ _ _ _ _ _ (a20 K) (pv 3) (@aa6 _ _ _ _ _ _ a64 (@a03 _ _ _ _)) (fun _ _=>rfl)) (fun _ _=>rfl)) (@a01 _) (by rfl)))))))) (@a11 _))
    (@a02 _ _ _ _ _ (@a30 _ _ _ _ _ _ _ _ (@a07 _ _ _ _ _ _ _ _ a36 (pv 4) (@a08 _ _ _ _) (nomark _)) (@a04 _ _ _ (@a14 _ _ _ _ (@a13 _ _ _ _ (@a00 _ _ _ _ _ (@a33 _ _ _ _ _ _ _ _ a21 (@a33 _ _ _ _ _ _ _ _ a21 (pv 1) (@a13 _ _ _ _ (@a00 _ _ _ _ _ (@a26 _ _ _ _ _ (@a00 _ _ _ _ _ (@a08 _ _ _ _) (@a01 _) (by rfl))) (@a01 _) (by rfl)))) (a59 K (by rfl) (by rfl) T.z_list (by rfl) T.z_reversed (@a00 _ _ _ _ _ (@b92 _ _ _ _ _ _ (by exact bh5 hr) (@ak1 _ _ _ _ _ _ _ _ _ (bi5 K) (by rfl) T.z_dict bs7 (@a00 _ _ _ _ _ (pv 0) (@a01 _) (by rfl)) (by decide) (by decide) (by rfl) (by rfl)) (@a15 _ _ _ _ _ _ _ (a10 K) (pv 2) (@a03 _ _ _ _) (fun _ _=>rfl)) (fun _ _=>rfl)) (@a01 _) (by rfl)))) (@a01 _) (by rfl))))) (@a11 _))
    (@a02 _ _ _ _ _ (@a30 _ _ _ _ _ _ _ _ (@a07 _ _ _ _ _ _ _ _ a36 (pv 4) (@a08 _ _ _ _) (nomark _)) (@a04 _ _ _ (@a14 _ _ _ _ (@a13 _ _ _ _ (@a00 _ _ _ _ _ (@a33 _ _ _ _ _ _ _ _ a21 (@a33 _ _ _ _ _ _ _ _ a21 (pv 1) (@a13 _ _ _ _ (@a00 _ _ _ _ _ (@a26 _ _ _ _ _ (@a00 _ _ _ _ _ (@a08 _ _ _ _) (@a00 _ _ _ _ _ (@a15 _ _ _ _ _ _ _ (a10 K) (pv 2) (@a03 _ _ _ _) (fun _ _=>rfl)) (@a01 _) (by rfl)) (by rfl))) (@a01 _) (by rfl)))) (a59 K (by rfl) (by rfl) T.z_list (by rfl) T.z_reversed (@a00 _ _ _ _ _ (@a15 _ _ _ _ _ _ _ (a10 K) (pv 2) (@a03 _ _ _ _) (fun _ _=>rfl)) (@a01 _) (by rfl)))) (@a01 _) (by rfl))))) (@a11 _))
    (@a02 _ _ _ _ _ (@a30 _ _ _ _ _ _ _ _ (@a07 _ _ _ _ _ _ _ _ a36 (pv 4) (@a08 _ _ _ _) (nomark _)) (@a04 _ _ _ (@a14 _ _ _ _ (@a13 _ _ _ _ (@a00 _ _ _ _ _ (@a33 _ _ _ _ _ _ _ _ a21 (@a33 _ _ _ _ _ _ _ _ a21 (pv 1) (@a13 _ _ _ _ (@a00 _ _ _ _ _ (pv 2) (@a01 _) (by rfl)))) (a59 K (by rfl) (by rfl) T.z_list (by rfl) T.z_reversed (@a00 _ _ _ _ _ (@a15 _ _ _ _ _ _ _ (a10 K) (pv 2) (@a03 _ _ _ _) (fun _ _=>rfl)) (@a01 _) (by rfl)))) (@a01 _) (by rfl))))) (@a11 _))
    (@a02 _ _ _ _ _ (@a30 _ _ _ _ _ _ _ _ (@a07 _ _ _ _ _ _ _ _ a36 (pv 4) (@a08 _ _ _ _) (nomark _)) (@a02 _ _ _ _ _ (@a18 _ _ 1 _ _ _ _ sc_law_on.nd rfl (by walk_at "o") (@a09 _ _ _ _ _ _ _ _ _ _ _ _ _ _ _ _ G__law_to (hr.mono (by omega)) rfl T.f__law_to.m T.f__law_to.F.kp T.f__law_to.b .nil a19 (@a00 _ _ _ _ _ (pv 1) (@a00 _ _ _ _ _ (@a08 _ _ _ _) (@a00 _ _ _ _ _ (@ah1 _ _ _ _) (@a01 _) (by rfl)) (by rfl)) (by rfl)) (by decide) (by rfl) (by rfl)) (by rfl) (by walk_at "o"))
     (@a04 _ _ _ (@a14 _ _ _ _ (@a13 _ _ _ _ (@a00 _ _ _ _ _ (@a33 _ _ _ _ _ _ _ _ a21 (pv 1) (a59 K (by rfl) (by rfl) T.z_list (by rfl) T.z_reversed (@a00 _ _ _ _ _ (@a15 _ _ _ _ _ _ _ (a10 K) (@a15 _ _ _ _ _ _ _ (a20 K) (pv 1) (@aa6 _ _ _ _ _ _ a64 (@a03 _ _ _ _)) (fun _ _=>rfl)) (@a03 _ _ _ _) (fun _ _=>rfl)) (@a01 _) (by rfl)))) (@a01 _) (by rfl)))))) (@a11 _))
    (@a02 _ _ _ _ _ (@a30 _ _ _ _ _ _ _ _ (@a07 _ _ _ _ _ _ _ _ a36 (pv 4) (@a08 _ _ _ _) (nomark _)) (@a04 _ _ _ (@a14 _ _ _ _ (@a13 _ _ _ _ (@a00 _ _ _ _ _ (@a39 _ _ _ _ _ _ _ _ _ _ (a40 K) (@a09 _ _ _ _ _ _ _ _ _ _ _ _ _ _ _ _ G__law_to (hr.mono (by omega)) rfl T.f__law_to.m T.f__law_to.F.kp T.f__law_to.b .nil a19 (@a00 _ _ _ _ _ (pv 1) (@a00 _ _ _ _ _ (@a08 _ _ _ _) (@a00 _ _ _ _ _ (@ah1 _ _ _ _) (@a01 _) (by rfl)) (by rfl)) (by rfl)) (by decide) (by rfl) (by rfl)) (@a57 _) (@a48 _ _ _ (@aa6 _ _ _ _ _ _ a64 (@a03 _ _ _ _)))) (@a01 _) (by rfl))))) (@a11 _))
    (@a02 _ _ _ _ _ (@a30 _ _ _ _ _ _ _ _ (@a07 _ _ _ _ _ _ _ _ a36 (pv 4) (@a08 _ _ _ _) (nomark _)) (@a04 _ _ _ (@a14 _ _ _ _ (@a13 _ _ _ _ (@a00 _ _ _ _ _ (@a39 _ _ _ _ _ _ _ _ _ _ (a40 K) (@a09 _ _ _ _ _ _ _ _ _ _ _ _ _ _ _ _ G__law_to (hr.mono (by omega)) rfl T.f__law_to.m T.f__law_to.F.kp T.f__law_to.b .nil a19 (@a00 _ _ _ _ _ (pv 1) (@a00 _ _ _ _ _ (@a08 _ _ _ _) (@a00 _ _ _ _ _ (@ah1 _ _ _ _) (@a01 _) (by rfl)) (by rfl)) (by rfl)) (by decide) (by rfl) (by rfl)) (@a57 _) (@a48 _ _ _ (@aa6 _ _ _ _ _ _ a64 (@a03 _ _ _ _)))) (@a01 _) (by rfl))))) (@a11 _))
    (@a02 _ _ _ _ _ (@a30 _ _ _ _ _ _ _ _ (@a07 _ _ _ _ _ _ _ _ a36 (pv 4) (@a08 _ _ _ _) (nomark _)) (@a04 _ _ _ (@a14 _ _ _ _ (@a13 _ _ _ _ (@a00 _ _ _ _ _ (@a13 _ _ _ _ (@a01 _)) (@a01 _) (by rfl))))) (@a11 _))
    (@a04 _ _ _ (@a14 _ _ _ _ (@a13 _ _ _ _ (@a00 _ _ _ _ _ (pv 1) (@a01 _) (by rfl)))))))))))))),?_⟩
   have sl:(1000000:Nat)≤sizeLine:=le_line (Nat.le_refl _)
   have hul:=hE.1
   rw [List.length_reverse] at hul
   have fr:∀ {H':Hp}{a:Addr},Same H H'→H' a=none→¬ pp a:=fun {H' a} s f z=>by
    cases e:H a with
    | none=>exact hex a z e
    | some o=>rw [s _ _ e] at f; cases f
   obtain ⟨a,r,rfl,ea⟩:=ai0 hs ho
   have ea:=wpL _ _ ea
   have fin1:∀ {c:Pil}{l cl:Addr}{cu:List V}{H':Hp},Same H H'→onI ts P s=[c]→¬ pp l→¬ pp cl→H' l=some (.lst [.ref cl])→H' cl=some (.lst cu)→PlE (woP pp H') cu c→Q (.ref l) H':=fun {c l cl cu H'} s he p1 p2 h3 h4 h5 =>
    q l _ [c] H' (StJ.of s hw) p1 h3 (Each.nil.snoc ⟨cl,cu,rfl,p2,h4,h5⟩) (fun _=>he.symm) (fun _=>⟨c,by rw [he]; simp,rfl⟩)
   walk_at "go"
   refine a22 (SqT.of ea) (a05 (j:=0) rfl) ?_
   walk_at "run"
   by_cases c1:wdI s=Str.ofString "test"
   · refine a28 c1 ?_
     walk_at "run"
     obtain ⟨st,j,k,lp,rfl,hk5,hws⟩:=bf7 ho (b60 c1 (by decide +kernel)) (b60 c1 (by decide +kernel))
     obtain ⟨c,x,y,rfl⟩:=ap1 (b59 hws) c1
     obtain ⟨a',u1,u2,u3,hz,ea',hx,hy⟩:=af9 (show SAt (woP pp H) (.ref a) (.test c x y) from hs)
     cases hz
     have ea':=wpL _ _ ea'
     obtain ⟨l2,w2,rfl,e2,hw2⟩:=bat_iff.mp hx
     obtain ⟨l3,w3,rfl,e3,hw3⟩:=bat_iff.mp hy
     have hlx:x.length≤7∧y.length≤7:=by
      cases k with
      | zero=>exact hws.elim
      | succ k=>exact ⟨hws.2.1.1,hws.2.2.1⟩
     have hw2l:=hw2.1
     have hw3l:=hw3.1
     refine a22 (SqT.of ea') (a05 (j:=2) rfl) ?_
     walk_at "run"
     refine ⟨l2,w2,rfl,SqL.of (wpL _ _ e2),?_⟩
     intro n1 H1 f1 s1 j1
     refine a31 (s1 _ _ e0) j1 (by rw [List.length_reverse]; omega) ?_
     intro n2 H2 f2 s2 j2
     walk_at "run"
     have s12:=s1.trans s2
     refine a22 (SqT.of (s12 _ _ ea')) (a05 (j:=3) rfl) ?_
     walk_at "run"
     refine ⟨l3,w3,rfl,SqL.of (s12 _ _ (wpL _ _ e3)),?_⟩
     intro n3 H3 f3 s3 j3
     have s13:=s12.trans s3
     refine a31 (s13 _ _ e0) j3 (by rw [List.length_reverse]; omega) ?_
     intro n4 H4 f4 s4 j4
     walk_at "run"
     intro n5 H5 f5 s5 j5
     walk_at "run"
     have s15:=s13.trans (s4.trans s5)
     have P2:∀ {H':Hp},Same (woP pp H5) (woP pp H')→PlsAt pp H' (.ref n2) (sts x++P)∧PlsAt pp H' (.ref n4) (sts y++P):=fun {H'} s=>⟨PlsAt.same ⟨n2,_,rfl,fr s1 f2,(s3.trans (s4.trans s5)) _ _ j2,(ac0 hE hw2).same (wpS s15)⟩ s,PlsAt.same ⟨n4,_,rfl,fr s13 f4,s5 _ _ j4,(ac0 hE hw3).same (wpS s15)⟩ s⟩
     have hon:onI ts P (.st (.test c x y))=[sts x++P,sts y++P]:=rfl
     by_cases hwn:wv=.non
     · rw [if_pos (decide_eq_true hwn)]
       walk_at "run"
       exact q n5 _ [sts x++P,sts y++P] H5 (StJ.of s15 hw) (fr (s13.trans s4) f5) j5 ((Each.nil.snoc (P2 (Same.refl _)).1).snoc (P2 (Same.refl _)).2) (fun _=>hon.symm) (fun z=>absurd hwn z)
     · rw [if_neg (by simpa using hwn)]
       walk_at "run"
       rcases hw with rfl | ⟨wl,ws,rfl,hpw,ew,hne,hwl,h01⟩
       · exact absurd rfl hwn
       cases ws with
       | nil=>exact absurd rfl hne
       | cons z ws =>
         have ew5:=s15 _ _ ew
         refine ab6 (SqL.of ew5) ?_
         walk_at "run"
         refine ab6 (SqL.of ew5) ?_
         walk_at "run"
         rw [List.map_cons] at ew5
         refine bj0 ew5 ?_
         walk_at "run"
         have ew6:upd H5 wl (.lst (ws.map V.int)) wl=some (.lst (ws.map V.int)):=a17
         have w6:woP pp (upd H5 wl (.lst (ws.map V.int)))=woP pp H5:=wpU hpw
         have k6:∀ a o,a≠wl→H5 a=some o→upd H5 wl (.lst (ws.map V.int)) a=some o:=fun a o h e=>by rw [a12 h]; exact e
         generalize upd H5 wl (.lst (ws.map V.int))=H6 at ew6 w6 k6 ⊢
         rw [List.length_cons] at hwl
         refine ac3 ew6 (by rw [List.length_map]; omega) ?_
         walk_at "run"
         have ew7:upd H6 wl (.lst (ws.map V.int++[.int z])) wl=some (.lst ((ws++[z]).map V.int)):=by rw [a17,List.map_append]; rfl
         have w7:woP pp (upd H6 wl (.lst (ws.map V.int++[.int z])))=woP pp H5:=(wpU hpw).trans w6
         have k7:∀ a o,a≠wl→H5 a=some o→upd H6 wl (.lst (ws.map V.int++[.int z])) a=some o:=fun a o h e=>by rw [a12 h]; exact k6 a o h e
         generalize upd H6 wl (.lst (ws.map V.int++[.int z]))=H7 at ew7 w7 k7 ⊢
         have h01':∀ u∈ws++[z],u=0∨u=1:=fun u hu=>by
          rcases List.mem_append.mp hu with hu | hu
          · exact h01 u (by simp [hu])
          · rw [List.mem_singleton.mp hu]; exact h01 z (by simp)
         have n5p:=fr (s13.trans s4) f5
         have j57:=k7 _ _ (fun e=>n5p (by rw [e]; exact hpw)) j5
         have ez:atI ((ws++[z]).map V.int) (-1)=some (.int z):=by rw [List.map_append]; exact atI_last
         refine a55 (SqL.of ew7) ez ?_
         obtain ⟨c7,hc7,hP7⟩:∃ (cv:V×Pil),([V.ref n2,V.ref n4]:List V)[z.toNat]?=some cv.1∧(PlsAt pp H7 cv.1 cv.2∧cv.2∈onI ts P (.st (.test c x y))):=by
          have p2:=P2 (H':=H7) (by rw [w7]; exact Same.refl _)
          rcases h01 z (by simp) with rfl | rfl
          · exact ⟨(.ref n2,sts x++P),rfl,p2.1,by rw [hon]; simp⟩
          · exact ⟨(.ref n4,sts y++P),rfl,p2.2,by rw [hon]; simp⟩
         have hzz:z=((z.toNat:Nat):Int):=by rcases h01 z (by simp) with rfl | rfl <;> rfl
         rw [hzz]
         refine a55 (SqL.of j57) (a05 (j:=z.toNat) hc7) ?_
         walk_at "run"
         intro n8 H8 f8 s8 j8
         have n8p:¬ pp n8:=fun hp=>by
          by_cases e:n8=wl
          · rw [e,ew7] at f8; cases f8
          · cases e5:H n8 with
            | none=>exact hex _ hp e5
            | some o=>rw [k7 _ _ e (s15 _ _ e5)] at f8; cases f8
         refine q n8 _ [c7.2] H8 ⟨?_,fun a o ha hne e=>s8 _ _ (k7 a o (fun z=>hne (by rw [z])) (s15 _ _ e)),.inr ⟨wl,ws++[z],rfl,hpw,s8 _ _ ew7,by simp,by rw [List.length_append,List.length_singleton]; omega,h01'⟩⟩ n8p j8 (Each.nil.snoc (hP7.1.same (wpS s8))) (fun z=>by cases z) (fun _=>⟨_,hP7.2,rfl⟩)
         have:=(wpS (p:=pp) s15)
         exact this.trans (by rw [← w7]; exact wpS s8)
   refine a23 c1 ?_
   walk_at "run"
   by_cases c2:wdI s=Str.ofString "call"
   · refine a28 c2 ?_
     walk_at "run"
     obtain ⟨st,j,k,lp,rfl,hk5,hws⟩:=bf7 ho (b60 c2 (by decide +kernel)) (b60 c2 (by decide +kernel))
     obtain ⟨c,rfl⟩:=aq7 (b59 hws) c2
     obtain ⟨b,hft⟩:=h1.2 c rfl
     obtain ⟨a',hz,ea'⟩:=b21 (show SAt (woP pp H) (.ref a) (.plain [.s "call",.s c]) from hs)
     cases hz
     have ea':=wpL _ _ ea'
     obtain ⟨lt,tvs,rfl,elt,hEt,hlt⟩:=id hts
     obtain ⟨kvs,hpr,hkv⟩:=c96 hEt hX.u ts.length (Nat.le_refl _)
     rw [List.take_of_length_le (Nat.le_refl _)] at hkv
     rw [List.take_of_length_le (Nat.le_of_eq hEt.1)] at hpr
     have hpr:=hpr.mono (wpL (p:=pp) (H:=H)).tups
     obtain ⟨v,hv,hbv⟩:∃ v,valV (a94 [] kvs) (Sum.inr c)=some v∧BAt (woP pp H) v b:=by
      have hft':=hft
      unfold a29 at hft'
      obtain ⟨x,hx,rfl⟩:=Option.map_eq_some_iff.mp hft'
      have hxm:=List.mem_of_find?_eq_some hx
      have hxc:=List.find?_some hx
      obtain ⟨v,h1,h2⟩:=hkv x hxm
      have:x.1=c:=by simpa using hxc
      rw [this] at h1
      exact ⟨v,h1,h2⟩
     obtain ⟨lb,wb,rfl,eb,hwb⟩:=bat_iff.mp hbv
     have hwl:=hwb.1
     have hbl:b.length≤7:=by
      rcases wS_pl.mp hws with z | z | ⟨c',hc',z⟩ | ⟨_,z | z⟩ | z | z
      · simp at z; exact absurd z.1 (by decide +kernel)
      · simp at z
      · simp at z
        subst z
        obtain ⟨_,b',_,_,g1,g2,_⟩:=hX.c.call hc'
        rw [hft] at g1
        obtain rfl:=Option.some.inj g1
        exact g2.1
      all_goals simp at z
     intro n1 H1 f1 s1 j1
     walk_at "run"
     intro n2 H2 f2 s2 j2
     have s12:=s1.trans s2
     refine a31 (s12 _ _ e0) j2 (by simp only [List.length_singleton]; omega) ?_
     intro n3 H3 f3 s3 j3
     walk_at "run"
     have s13:=s12.trans s3
     refine bt2 (SqL.of (s13 _ _ (wpL _ _ elt))) (hpr.mono s13.tups) ?_
     intro n4 H4 f4 s4 j4
     walk_at "run"
     have s14:=s13.trans s4
     refine a22 (SqT.of (s14 _ _ ea')) (a05 (j:=1) rfl) ?_
     refine ⟨n4,.ref lb,rfl,hv ▸ DGet.k (k:=Sum.inr c) j4,?_⟩
     walk_at "run"
     refine ⟨lb,wb,rfl,SqL.of (s14 _ _ (wpL _ _ eb)),?_⟩
     intro n5 H5 f5 s5 j5
     have s15:=s14.trans s5
     refine a31 ((s4.trans s5) _ _ j3) j5 (by rw [List.length_reverse,List.length_append,List.length_singleton]; omega) ?_
     intro n6 H6 f6 s6 j6
     walk_at "run"
     intro n7 H7 f7 s7 j7
     have s17:=s15.trans (s6.trans s7)
     have C:ITa (woP pp H7) (.ref n1) .cl:=cl_at.mpr ⟨n1,rfl,by rw [wpG (fr (Same.refl _) f1)]; exact (s2.trans (s3.trans (s4.trans (s5.trans (s6.trans s7))))) _ _ j1⟩
     exact fin1 s17 (ag5 hft) (fr (s15.trans s6) f7) (fr s15 f6) j7 (s7 _ _ j6) (ac0 (aj5 (hE.same (wpS s17)) C) (hwb.mono fun _ _ z=>z.same (wpS s17)))
   refine a23 c2 ?_
   walk_at "run"
   by_cases c3:wdI s=Str.ofString "loop"
   · refine a28 c3 ?_
     walk_at "run"
     obtain ⟨st,j,k,lp,rfl,hk5,hws⟩:=bf7 ho (b60 c3 (by decide +kernel)) (b60 c3 (by decide +kernel))
     obtain ⟨x,rfl⟩:=ap2 (b59 hws) c3
     obtain ⟨a',u,hz,ea',hx⟩:=sat_loop.mp (show SAt (woP pp H) (.ref a) (.loop x) from hs)
     cases hz
     have ea':=wpL _ _ ea'
     obtain ⟨l2,w2,rfl,e2,hw2⟩:=bat_iff.mp hx
     have hlx:x.length≤7:=by
      cases k with
      | zero=>exact hws.elim
      | succ k=>exact hws.1
     have hw2l:=hw2.1
     refine a22 (SqT.of ea') (a05 (j:=1) rfl) ?_
     walk_at "run"
     intro n1 H1 f1 s1 j1
     walk_at "run"
     intro n2 H2 f2 s2 j2
     have s12:=s1.trans s2
     refine a31 (s12 _ _ e0) j2 (by simp only [List.length_singleton]; omega) ?_
     intro n3 H3 f3 s3 j3
     walk_at "run"
     have s13:=s12.trans s3
     refine a22 (SqT.of (s13 _ _ ea')) (a05 (j:=1) rfl) ?_
     walk_at "run"
     refine ⟨l2,w2,rfl,SqL.of (s13 _ _ (wpL _ _ e2)),?_⟩
     intro n5 H5 f5 s5 j5
     have s15:=s13.trans s5
     refine a31 (s5 _ _ j3) j5 (by rw [List.length_reverse,List.length_append,List.length_singleton]; omega) ?_
     intro n6 H6 f6 s6 j6
     walk_at "run"
     intro n7 H7 f7 s7 j7
     have s17:=s15.trans (s6.trans s7)
     have C:ITa (woP pp H7) (.ref n1) (.lp x):=lp_at.mpr ⟨n1,_,rfl,by rw [wpG (fr (Same.refl _) f1)]; exact (s2.trans (s3.trans (s5.trans (s6.trans s7)))) _ _ j1,hx.same (wpS s17)⟩
     exact fin1 s17 rfl (fr (s15.trans s6) f7) (fr s15 f6) j7 (s7 _ _ j6) (ac0 (aj5 (hE.same (wpS s17)) C) (hw2.mono fun _ _ z=>z.same (wpS s17)))
   refine a23 c3 ?_
   walk_at "run"
   by_cases c4:wdI s=Str.ofString "looped"
   · refine a28 c4 ?_
     walk_at "run"
     obtain ⟨x,rfl⟩:∃ x,s=.lp x:=by
      cases s with
      | lp x=>exact ⟨x,rfl⟩
      | cl=>exact absurd c4 (by decide +kernel)
      | st s=>obtain ⟨_,_,_,_,hws⟩:=ho; exact absurd c4 (bx2 hws).1
     obtain ⟨a',u,hz,ea',hx⟩:=lp_at.mp hs
     cases hz
     have ea':=wpL _ _ ea'
     obtain ⟨l2,w2,rfl,e2,hw2⟩:=bat_iff.mp hx
     have hw2l:=hw2.1
     intro n2 H2 f2 s2 j2
     refine a31 (s2 _ _ e0) j2 (by simp only [List.length_singleton]; omega) ?_
     intro n3 H3 f3 s3 j3
     walk_at "run"
     have s13:=s2.trans s3
     refine a22 (SqT.of (s13 _ _ ea')) (a05 (j:=1) rfl) ?_
     walk_at "run"
     refine ⟨l2,w2,rfl,SqL.of (s13 _ _ (wpL _ _ e2)),?_⟩
     intro n5 H5 f5 s5 j5
     have s15:=s13.trans s5
     refine a31 (s5 _ _ j3) j5 (by rw [List.length_reverse,List.length_append,List.length_singleton]; have:=hxl x rfl; omega) ?_
     intro n6 H6 f6 s6 j6
     walk_at "run"
     intro n7 H7 f7 s7 j7
     have s17:=s15.trans (s6.trans s7)
     exact fin1 s17 rfl (fr (s15.trans s6) f7) (fr s15 f6) j7 (s7 _ _ j6) (ac0 (aj5 (hE.same (wpS s17)) (hs.same (wpS s17))) (hw2.mono fun _ _ z=>z.same (wpS s17)))
   refine a23 c4 ?_
   walk_at "run"
   by_cases c5:wdI s=Str.ofString "again"
   · refine a28 c5 ?_
     walk_at "run"
     obtain rfl:=b32 ho (w:=.again) (by decide) c5
     obtain ⟨x,q0,hq0⟩:=h1.1 rfl
     refine ⟨pl,us,P,true,ns,pp,rfl,e0,hE,hok,fun l1 us1 H1 s1 j1 hE1=>?_⟩
     have htg:tgt true P=.lp x::q0:=by unfold tgt; rw [if_pos rfl,hq0]
     have htl:=bf8 (tk:=true) hok
     rw [htg] at hE1
     rw [htg,List.length_cons] at htl
     have hm:=bp7 (tk:=true) hok (.lp x) (by rw [htg]; simp)
     obtain ⟨us1',v,rfl,hE1',hv⟩:=ac6 hE1
     obtain ⟨am,u,rfl,eam,hx⟩:=lp_at.mp hv
     have eam:=wpL _ _ eam
     obtain ⟨l2,w2,rfl,e2,hw2⟩:=bat_iff.mp hx
     have hw2l:=hw2.1
     have hul1:=hE1'.1
     rw [List.length_reverse] at hul1
     walk_at "run"
     refine a55 (SqL.of j1) atI_last ?_
     walk_at "run"
     refine a22 (SqT.of eam) (a05 (j:=1) rfl) ?_
     walk_at "run"
     refine ⟨l2,w2,rfl,SqL.of (wpL _ _ e2),?_⟩
     intro n5 H5 f5 s5 j5
     have s15:=s1.trans s5
     have hxl2:=hxP x q0 hq0
     refine a31 (s5 _ _ j1) j5 (by rw [List.length_reverse,List.length_append,List.length_singleton]; omega) ?_
     intro n6 H6 f6 s6 j6
     walk_at "run"
     intro n7 H7 f7 s7 j7
     have s17:=s15.trans (s6.trans s7)
     have hon:onI ts P (.st (.plain [.s Wd.again.txt]))=[sts x++.lp x::q0]:=by
      rw [ab7 (by decide)]
      simp only [cont,hq0]
     exact fin1 s17 hon (fr (s15.trans s6) f7) (fr s15 f6) j7 (s7 _ _ j6) (ac0 (hE1.same (wpS (s5.trans (s6.trans s7)))) (hw2.mono fun _ _ z=>z.same (wpS (s5.trans (s6.trans s7)))))
   refine a23 c5 ?_
   walk_at "run"
   have cutT:∀ {tk:Bool}{l1:Addr}{us1:List V}{H1:Hp}{c:Pil},Same H H1→H1 l1=some (.lst us1)→PlE (woP pp H1) us1 (tgt tk P)→c=(tgt tk P).tail→onI ts P s=[c]→∀ (l2:Addr) (H2:Hp),H1 l2=none→Same H1 H2→H2 l2=some (.lst us1.dropLast)→∀ (l3:Addr) (H3:Hp),H2 l3=none→Same H2 H3→H3 l3=some (.lst [.ref l2])→Q (.ref l3) H3:=fun {tk l1 us1 H1 c} s1 j1 hE1 hc hon l2 H2 f2 s2 j2 l3 H3 f3 s3 j3=>by
    refine fin1 (s1.trans (s2.trans s3)) hon (fr (s1.trans s2) f3) (fr s1 f2) j3 (s3 _ _ j2) ?_
    rw [hc]
    cases hT:tgt tk P with
    | nil =>
      rw [hT] at hE1
      obtain rfl:us1=[]:=List.eq_nil_of_length_eq_zero hE1.1
      exact Each.nil
    | cons i R =>
      rw [hT] at hE1
      obtain ⟨us1',v,rfl,hE1',hv⟩:=ac6 hE1
      rw [List.dropLast_concat]
      exact hE1'.same (wpS (s2.trans s3))
   by_cases c6:wdI s=Str.ofString "leave"
   · refine a28 c6 ?_
     walk_at "run"
     obtain rfl:=b32 ho (w:=.leave) (by decide) c6
     refine ⟨pl,us,P,true,ns,pp,rfl,e0,hE,hok,fun l1 us1 H1 s1 j1 hE1=>?_⟩
     walk_at "run"
     refine ac7 (SqL.of j1) ?_
     rw [bf9]
     intro l2 H2 f2 s2 j2
     walk_at "run"
     intro l3 H3 f3 s3 j3
     refine cutT (tk:=true) (c:=cont P .leave) s1 j1 hE1 ?_ (ab7 (by decide)) l2 H2 f2 s2 j2 l3 H3 f3 s3 j3
     unfold tgt
     rw [if_pos rfl]
     simp only [cont]
     cases toL P with
     | none=>rfl
     | some z=>rfl
   refine a23 c6 ?_
   walk_at "run"
   by_cases c7:wdI s=Str.ofString "back"
   · refine a28 c7 ?_
     walk_at "run"
     obtain rfl:=b32 ho (w:=.back) (by decide) c7
     refine ⟨pl,us,P,false,ns,pp,rfl,e0,hE,hok,fun l1 us1 H1 s1 j1 hE1=>?_⟩
     walk_at "run"
     refine ac7 (SqL.of j1) ?_
     rw [bf9]
     intro l2 H2 f2 s2 j2
     walk_at "run"
     intro l3 H3 f3 s3 j3
     refine cutT (tk:=false) (c:=cont P .back) s1 j1 hE1 ?_ (ab7 (by decide)) l2 H2 f2 s2 j2 l3 H3 f3 s3 j3
     unfold tgt
     rw [if_neg Bool.false_ne_true]
     simp only [cont]
     cases toC P with
     | none=>rfl
     | some z=>rfl
   refine a23 c7 ?_
   walk_at "run"
   by_cases c8:wdI s=Str.ofString "stop"
   · refine a28 c8 ?_
     walk_at "run"
     obtain rfl:=b32 ho (w:=.stop) (by decide) c8
     intro l2 H2 f2 s2 j2
     walk_at "run"
     intro l3 H3 f3 s3 j3
     exact fin1 (s2.trans s3) (ab7 (by decide)) (fr s2 f3) (fr (Same.refl _) f2) j3 (s3 _ _ j2) Each.nil
   refine a23 c8 ?_
   walk_at "run"
   intro l3 H3 f3 s3 j3
   exact fin1 s3 (bx3 ho c1 c2 c3 c4 c5 c6 c7 c8) (fr (Same.refl _) f3) hpl j3 (s3 _ _ e0) (hE.same (wpS s3))
theorem bg0 {N:List Stm→Prop}{ns:List Str}{d k:Nat}{P:Pil}(h:WP N ns d k P):∀ x,Itm.lp x∈P→x.length≤50:=by
 have ns_:∀ {b:List Stm}{x:List Stm},Itm.lp x∉sts b:=fun {b x} h=>by
  obtain ⟨s,_,e⟩:=List.mem_map.mp h
  cases e
 induction h with
 | bot hd h=>intro x hx; exact absurd hx ns_
 | lp hk h hx hn h2 ih =>
   intro y hy
   rcases List.mem_append.mp hy with hy | hy
   · exact absurd hy ns_
   · rcases List.mem_cons.mp hy with e | hy
     · cases e
       exact Nat.le_trans (aq1 _) hx.z
     · exact ih y hy
 | cl h h2 ih =>
   intro y hy
   rcases List.mem_append.mp hy with hy | hy
   · exact absurd hy ns_
   · rcases List.mem_cons.mp hy with e | hy
     · cases e
     · exact ih y hy
theorem bx4 {N:List Stm→Prop}{ns:List Str}{d k:Nat}{P:Pil}(h:WP N ns d k P):P.length≤51*(6*(2 - d)+(5 - k)+1):=by
 have sl:∀ {d k:Nat}{lp:Bool}{b:List Stm},Sgm N ns d k lp b→(sts b).length≤50:=fun {d k lp b} h=>by
  unfold sts
  rw [List.length_map]
  exact Nat.le_trans (aq1 _) h.z
 induction h with
 | bot hd h=>have:=sl h; omega
 | lp hk h hx hn h2 ih =>
   have:=sl h
   rw [List.length_append,List.length_cons]
   omega
 | cl h h2 ih =>
   have:=sl h
   have:=h2.lv
   rw [List.length_append,List.length_cons]
   omega
theorem b33 {N:List Stm→Prop}{ns:List Str}{d k:Nat}{P:Pil}(h:WP N ns d k P):P.length≤1000:=by
 have:=bx4 h
 have:=h.lv
 omega
theorem ay9:∀ {P:Pil}{x:List Stm}{q:Pil},toL P=some (x,q)→Itm.lp x∈P
 | [],x,q,h=>by cases h
 | .lp y::P,x,q,h=>by
   have h:some (y,P)=some (x,q):=h
   obtain ⟨rfl,_⟩:=Prod.mk.inj (Option.some.inj h)
   exact List.mem_cons_self
 | .cl::P,x,q,h=>by cases h
 | .st s::P,x,q,h=>List.mem_cons_of_mem _ (ay9 (show toL P=some (x,q) from h))
theorem b34 {ns:List Str}{i:Itm}(h:ItOk ns i):isW i=true↔wdI i=Str.ofString "wait":=by
 constructor
 · intro e
   cases i with
   | st s=>cases s <;> first | rfl | cases e
   | lp x=>cases e
   | cl=>cases e
 · intro e
   obtain ⟨st,j,k,lp,rfl,_,hw⟩:=bf7 h (fun z=>absurd (e.symm.trans z) (by decide +kernel)) (fun z=>absurd (e.symm.trans z) (by decide +kernel))
   obtain ⟨n,bs,rfl⟩:=ax5 (b59 hw) e
   rfl
theorem az0 {ts:Tks}{c:Str}{b:List Stm}(h:a29 ts c=some b):∃ x∈ts,x.2=b:=by
 unfold a29 at h
 obtain ⟨x,hx,rfl⟩:=Option.map_eq_some_iff.mp h
 exact ⟨x,List.mem_of_find?_eq_some hx,rfl⟩
def c98 (K:PySem.W.Frag):Sp:=fun vs H Q _=>∃ (tv:V) (wl:Addr) (ts:Tks) (ns:List Str),vs=[tv,.ref wl]∧TksAt (woP (fun a=>a=wl) H) tv ts∧TksX ts ns∧WyAt (fun a=>a=wl) H (.ref wl)∧(∀ t∈ts,∀ x∈lpsB t.2,NDr ts x)∧∀ H',Q (.bl true) H'
theorem av5 (T:Txt K mg t):FnOk P w K mg base CX0 8 t.a__law_rests t.fd__law_rests ["talks","ways"] (c98 K):=by
 have G__law_on:=av4 (P:=P) (w:=w) (base:=base) T
 refine T.f__law_rests.F.ok sc_law_rests (fun vs H Q E h=>?_) (fun cdv A outer s H vs Q E hr h=>?_)
 · obtain ⟨tv,wl,ts,ns,rfl,_⟩:=h
   rfl
 · obtain ⟨tv,wl,ts,ns,rfl,hts,hX,hw,hN,q⟩:=h
   refine ⟨_,(@a02 _ _ _ _ _ (@a18 _ _ 2 _ _ _ _ sc_law_rests.nd rfl (by walk_at "o") (a59 K (by rfl) (by rfl) T.z_list (by rfl) T.z_reversed (@a00 _ _ _ _ _ (@a15 _ _ _ _ _ _ _ (a10 K) (@a15 _ _ _ _ _ _ _ (a20 K) (pv 0) (@a03 _ _ _ _) (fun _ _=>rfl)) (@a03 _ _ _ _) (fun _ _=>rfl)) (@a01 _) (by rfl))) (by rfl) (by walk_at "o"))
    (@a02 _ _ _ _ _ (@a69 _ _ _ _ _ _ _ _ PassesOwn.never rfl (aa8 rfl T.z_range (@a00 _ _ _ _ _ (@a03 _ _ _ _) (@a01 _) (by rfl))) (a16 (i:=3) sc_law_rests.nd rfl (by walk_at "o")) (@a02 _ _ _ _ _ (@a18 _ _ 4 _ _ _ _ sc_law_rests.nd rfl (by walk_at "o") (@a03 _ _ _ _) (by rfl) (by walk_at "o"))
     (@a02 _ _ _ _ _ (@ai9 _ _ _ _ _ _ PassesOwn.never (@PW.pt _ _ _ (@a68 _ _ _ _ _ _ _ (@a07 _ _ _ _ _ _ _ _ (af8 K (by exact hr.units)) (pv 2) (@a13 _ _ _ _ (@a01 _)) (nomark _)) (@a56 _ _ _ _ (@a07 _ _ _ _ _ _ _ _ b71 (@a15 _ _ _ _ _ _ _ (a10 K) (@a15 _ _ _ _ _ _ _ (a20 K) (pv 2) (@aa6 _ _ _ _ _ _ a64 (@a03 _ _ _ _)) (fun _ _=>rfl)) (@a03 _ _ _ _) (fun _ _=>rfl)) (@a08 _ _ _ _) (nomark _))))) (@a02 _ _ _ _ _ (@a18 _ _ 2 _ _ _ _ sc_law_rests.nd rfl (by walk_at "o") (@a15 _ _ _ _ _ _ _ (a20 K) (@a09 _ _ _ _ _ _ _ _ _ _ _ _ _ _ _ _ G__law_on (hr.mono (by omega)) rfl T.f__law_on.m T.f__law_on.F.kp T.f__law_on.b .nil a19 (@a00 _ _ _ _ _ (pv 0) (@a00 _ _ _ _ _ (@a39 _ _ _ _ _ _ _ _ _ _ (a40 K) (pv 2) (@a57 _) (@a48 _ _ _ (@aa6 _ _ _ _ _ _ a64 (@a03 _ _ _ _)))) (@a00 _ _ _ _ _ (@a15 _ _ _ _ _ _ _ (a20 K) (pv 2) (@aa6 _ _ _ _ _ _ a64 (@a03 _ _ _ _)) (fun _ _=>rfl)) (@a00 _ _ _ _ _ (pv 1) (@a01 _) (by rfl)) (by rfl)) (by rfl)) (by rfl)) (by decide) (by rfl) (by rfl)) (@a03 _ _ _ _) (fun _ _=>rfl)) (by rfl) (by walk_at "o"))
      (@a02 _ _ _ _ _ (@a18 _ _ 4 _ _ _ _ sc_law_rests.nd rfl (by walk_at "o") (@a33 _ _ _ _ _ _ _ _ a21 (pv 4) (@a03 _ _ _ _)) (by rfl) (by walk_at "o"))
      (@a04 _ _ _ (@a30 _ _ _ _ _ _ _ _ (@a07 _ _ _ _ _ _ _ _ aw1 (pv 4) (@a03 _ _ _ _) (nomark _)) (@a04 _ _ _ (@a14 _ _ _ _ (@ah1 _ _ _ _))) (@a11 _))))))
     (@a04 _ _ _ (@a18 _ _ 2 _ _ _ _ sc_law_rests.nd rfl (by walk_at "o") (@a39 _ _ _ _ _ _ _ _ _ _ (a40 K) (pv 2) (@a57 _) (@a48 _ _ _ (@aa6 _ _ _ _ _ _ a64 (@a03 _ _ _ _)))) (by rfl) (by walk_at "o"))))) (by intro _; rfl))
    (@a04 _ _ _ (@a14 _ _ _ _ (@ah1 _ _ _ _))))),?_⟩
   have sl:(1000000:Nat)≤sizeLine:=le_line (Nat.le_refl _)
   have hNc:∀ c b,a29 ts c=some b→∀ x∈lpsB b,NDr ts x:=fun c b h x hx=>by
    obtain ⟨y,hy,rfl⟩:=az0 h
    exact hN y hy x hx
   have hwn:H wl≠none:=by
    rcases hw with z | ⟨w',ws,z,_,e,_⟩
    · cases z
    · cases z; rw [e]; exact fun z=>by cases z
   generalize hpp:(fun a=>a=wl)=pp at hts hw
   have hpw:pp wl:=by rw [← hpp]
   have ppi:∀ {a},pp a→a=wl:=fun {a} h=>by rw [← hpp] at h; exact h
   obtain ⟨lt,tvs,rfl,elt,hEt,hlt⟩:=id hts
   obtain ⟨t0,ts',hts0⟩:∃ t0 ts',ts=t0::ts':=by
    cases ts with
    | nil=>exact absurd rfl hX.ne
    | cons a b=>exact ⟨a,b,rfl⟩
   have ht0:t0∈ts:=by rw [hts0]; simp
   obtain ⟨v0,hv0⟩:∃ v,tvs[0]?=some v:=⟨_,List.getElem?_eq_getElem (by rw [hEt.1,hts0]; simp)⟩
   obtain ⟨a0,u0,rfl,e0,hb0⟩:=hEt.2 0 _ t0 hv0 (by rw [hts0]; rfl)
   obtain ⟨bl,us0,rfl,eb,hE0⟩:=bat_iff.mp hb0
   obtain ⟨i0,hi0,hw0,hz0,hc0⟩:=hX.b t0 ht0
   have hi0l:=(List.getElem?_eq_some_iff.mp hi0).1
   have hnl:=hX.c.l
   walk_at "go"
   refine a55 (SqL.of (wpL _ _ elt)) (a05 (j:=0) hv0) ?_
   walk_at "run"
   refine a22 (SqT.of (wpL _ _ e0)) (a05 (j:=1) rfl) ?_
   walk_at "run"
   refine ⟨bl,us0,rfl,SqL.of (wpL _ _ eb),?_⟩
   intro pl H1 f1 s1 e1
   walk_at "run"
   have plp:¬ pp pl:=fun z=>hwn (by rw [← ppi z]; exact f1)
   have W0:WP (NDr ts) ns 2 5 (sts t0.2):=WP.bot (Nat.le_refl _) ⟨⟨i0+1,by omega,hw0.2⟩,hz0,hc0,hN t0 ht0⟩
   have E0:PlE (woP pp H1) us0.reverse (sts t0.2):=by
    have:=ac0 (P:=[]) (us:=[]) (show PlE (woP pp H1) [] [] from Each.nil) (hE0.mono fun _ _ z=>z.same (wpS s1))
    rw [List.nil_append,List.append_nil] at this
    exact this
   have w1:WyAt pp H1 (.ref wl):=(StJ.of s1 hw).w
   refine aj8 (lo:=0) (n:=8) (fun i σ' H'=>i≤8∧∃ (pl:Addr) (us:List V) (P:Pil) (y3 y4:Option V),σ'=[some (.ref lt),some (.ref wl),some (.ref pl),y3,y4]∧Same (woP pp H) (woP pp H')∧WyAt pp H' (.ref wl)∧¬ pp pl∧H' pl=some (.lst us)∧PlE (woP pp H') us P∧∃ d k,WP (NDr ts) ns d k P) ⟨Nat.zero_le _,pl,_,_,_,_,rfl,wpS s1,w1,plp,e1,E0,2,5,W0⟩ ?_ ?_
   · rintro i σ' H2 hi ⟨_,pl,us,P,y3,y4,rfl,s2,w2,hp2,e2,hE2,d,k,hW⟩
     walk_at "run"
     rename_i N hN
     have done:∀ {pl:Addr}{us:List V}{P:Pil}{y3 y4:Option V}{H':Hp},Same (woP pp H) (woP pp H')→WyAt pp H' (.ref wl)→¬ pp pl→H' pl=some (.lst us)→PlE (woP pp H') us P→(∃ d k,WP (NDr ts) ns d k P.tail)→N [some (.ref lt),some (.ref wl),some (.ref pl),y3,y4] H':=fun {pl us P y3 y4 H'} g1 g2 g3 g4 g5 g6=>by
      refine hN _ _ ?_
      walk_at "run"
      refine ac7 (SqL.of g4) ?_
      rw [bf9]
      intro l2 H3 f3 s3 e3
      walk_at "run"
      have lp2:¬ pp l2:=fun z=>by
       rcases g2 with z' | ⟨w',ws,z',_,e,_⟩
       · cases z'
       · cases z'; rw [ppi z,e] at f3; cases f3
      refine ⟨hi,l2,us.dropLast,P.tail,_,_,rfl,g1.trans (wpS s3),(StJ.of s3 g2).w,lp2,e3,?_,g6⟩
      cases P with
      | nil =>
        obtain rfl:us=[]:=List.eq_nil_of_length_eq_zero g5.1
        exact Each.nil
      | cons i R =>
        obtain ⟨us',v,rfl,z1,z2⟩:=ac6 g5
        rw [List.dropLast_concat]
        exact z1.same (wpS s3)
     clear hN
     refine ao5 (fun n σ' H'=>∃ (pl:Addr) (us:List V) (P:Pil) (y3:Option V),n≤60000∧σ'=[some (.ref lt),some (.ref wl),some (.ref pl),y3,some (.int (60000 - (n:Int)))]∧Same (woP pp H) (woP pp H')∧WyAt pp H' (.ref wl)∧¬ pp pl∧H' pl=some (.lst us)∧PlE (woP pp H') us P∧(∃ d k,WP (NDr ts) ns d k P)∧Tm ts n P) 60000 ⟨pl,us,P,_,Nat.le_refl _,rfl,s2,w2,hp2,e2,hE2,⟨d,k,hW⟩,bk2 hX.c hNc hW⟩ ?_
     clear s2 w2 hp2 e2 hE2 hW
     rintro n σ' H2 ⟨pl,us,P,y3,hn,rfl,s2,w2,hp2,e2,hE2,⟨d,k,hW⟩,hT⟩
     walk_at "run"
     intro a6 H6 f6 s6 e6
     refine ao6 (SqL.of (s6 _ _ e2)) (SqL.of e6) ?_
     have s26:=s2.trans (wpS (p:=pp) s6)
     have w6:=(StJ.of s6 w2).w
     cases P with
     | nil =>
       obtain rfl:us=[]:=List.eq_nil_of_length_eq_zero hE2.1
       refine ⟨false,rfl,?_⟩
       rw [if_neg Bool.false_ne_true]
       walk_at "run"
       exact done (P:=[]) s26 w6 hp2 (s6 _ _ e2) Each.nil ⟨0,5,ax9⟩
     | cons i P =>
       obtain ⟨us,v,rfl,hE3,hv⟩:=ac6 hE2
       have hits:=ay0 hW
       have ho:=hits i (by simp)
       obtain ⟨a,r,rfl,ea⟩:=ai0 hv ho
       have ea:=wpL _ _ ea
       have e26:=s6 _ _ e2
       obtain ⟨hok1,hst⟩:=aq3 hX.c hNc hW
       refine ⟨true,by simp,?_⟩
       rw [if_pos rfl]
       walk_at "run"
       refine a55 (SqL.of e26) atI_last ?_
       walk_at "run"
       refine a22 (SqT.of (s6 _ _ ea)) (a05 (j:=0) rfl) ?_
       walk_at "run"
       by_cases hwt:wdI i=Str.ofString "wait"
       · rw [if_neg (by simp [hwt])]
         walk_at "run"
         refine done (P:=i::P) s26 w6 hp2 e26 (hE2.same (wpS s6)) ?_
         have:=(b34 ho).mpr hwt
         have h1:onI ts P i=[P]:=by
          cases i with
          | st s=>cases s <;> first | rfl | cases this
          | lp x=>cases this
          | cl=>cases this
         exact hst P (by rw [h1]; simp)
       · rw [if_pos (by simpa using hwt)]
         have hw0:¬ isW i=true:=fun z=>hwt ((b34 ho).mp z)
         obtain ⟨n,rfl⟩:∃ m,n=m+1:=by
          cases n with
          | zero=>exact absurd hT hw0
          | succ n=>exact ⟨n,rfl⟩
         have hT2:∀ c∈onI ts P i,Tm ts n c:=(show isW i=true∨∀ c∈onI ts P i,Tm ts n c from hT).resolve_left hw0
         refine ⟨fun σ' H'=>∃ (pl:Addr) (us:List V) (P:Pil) (y3:Option V),σ'=[some (.ref lt),some (.ref wl),some (.ref pl),y3,some (.int (60000 - (n:Int)))]∧Same (woP pp H) (woP pp H')∧WyAt pp H' (.ref wl)∧¬ pp pl∧H' pl=some (.lst us)∧PlE (woP pp H') us P∧(∃ d k,WP (NDr ts) ns d k P)∧Tm ts n P,fun σ' H' ⟨pl,us,P,y3,z1,z2⟩=>⟨n,Nat.lt_succ_self n,pl,us,P,y3,by omega,z1,z2⟩,?_⟩
         walk_at "run"
         refine ac7 (SqL.of e26) ?_
         rw [(af7 _ _).1]
         intro l2 H3 f3 s3 e3
         walk_at "run"
         refine a55 (SqL.of (s3 _ _ e26)) atI_last ?_
         walk_at "run"
         have s63:=wpS (p:=pp) (s6.trans s3)
         have s23:=s2.trans s63
         have w3:=(StJ.of s3 w6).w
         have hw3:∀ a,pp a→H3 a≠none:=fun a ha=>by
          rcases w3 with z' | ⟨w',ws,z',_,e,_⟩
          · cases z'
          · cases z'; rw [ppi ha,e]; exact fun z=>by cases z
         have lp2:¬ pp l2:=fun z=>by
          rcases w6 with z' | ⟨w',ws,z',_,e,_⟩
          · cases z'
          · cases z'; rw [ppi z,e] at f3; cases f3
         have hlps:=bg0 hW
         have hlen:=b33 hW
         rw [List.length_cons] at hlen
         refine ⟨.ref lt,l2,us,P,.ref a,i,.ref wl,ts,ns,pp,rfl,hts.same s23,hX,lp2,e3,hE3.same s63,fun j hj=>hits j (by simp [hj]),by omega,hv.same s63,ho,hok1,fun x hx=>hlps x (by rw [hx]; simp),fun x q hq=>hlps x (List.mem_cons_of_mem _ (ay9 hq)),w3,hw3,fun l4 vs4 Cs H4 J4 hl4 e4 hE4 _ hc4=>?_⟩
         obtain ⟨c,hc,rfl⟩:=hc4 (fun z=>by cases z)
         obtain ⟨v4,rfl⟩:∃ v,vs4=[v]:=List.length_eq_one_iff.mp hE4.1
         obtain ⟨cl,us4,rfl,hcl,ecl,hEc⟩:=hE4.2 0 _ _ rfl rfl
         refine a55 (SqL.of e4) (a05 (j:=0) rfl) ?_
         walk_at "run"
         rw [if_neg (by simp; omega)]
         walk_at "run"
         refine ⟨cl,us4,c,y3,?_,s23.trans J4.s,J4.w,hcl,ecl,hEc,hst c hc,hT2 c hc⟩
         rw [show (60000 - ((n+1:Nat):Int)+1)=60000 - (n:Int) by omega]
   · rintro σ' H2 ⟨_,pl,us,P,y3,y4,rfl,s2,w2,hp2,e2,hE2,_⟩
     walk_at "run"
     exact q _
def p2 (ml sa:Addr):Addr→Prop:=fun a=>a=ml∨a=sa
theorem c99 {H H':Hp}{ml sa sa2:Addr}(s:Same H H') (f:H sa2=none):Same (woP (p2 ml sa) H) (woP (p2 ml sa2) H'):=fun a o e=>by
 obtain ⟨h1,h2⟩:=wpT e
 rw [wpG (fun z=>by
  rcases z with rfl | rfl
  · exact h1 (.inl rfl)
  · rw [f] at h2; cases h2)]
 exact s _ _ h2
theorem bp8 {H H':Hp}{ml sa sa2:Addr}{v:V}{c:Pil}(s:Same H H') (f:H sa2=none) (h:PlsAt (p2 ml sa) H v c):PlsAt (p2 ml sa2) H' v c:=by
 obtain ⟨cl,us,rfl,h1,h2,h3⟩:=h
 refine ⟨cl,us,rfl,fun z=>?_,s _ _ h2,h3.same (c99 s f)⟩
 rcases z with rfl | rfl
 · exact h1 (.inl rfl)
 · rw [f] at h2; cases h2
structure CbJ (ts:Tks) (ns:List Str) (x:List Stm) (H H':Hp) (ml sa:Addr) (met todo:List Pil) (mv sv:List V):Prop where
 j:DfK ts ns x (Spl ts x) met todo
 s:Same H (woP (p2 ml sa) H')
 m:H' ml=some (.lst mv)
 t:H' sa=some (.lst sv)
 em:Each (PlsAt (p2 ml sa) H') mv met
 et:Each (PlsAt (p2 ml sa) H') sv todo
 n:ml≠sa
 hm:H ml=none
 hs:H sa=none
theorem CbJ.same {ts:Tks}{ns:List Str}{x:List Stm}{H H1 H':Hp}{ml sa:Addr}{met todo:List Pil}{mv sv:List V}(h:CbJ ts ns x H H1 ml sa met todo mv sv) (s:Same H1 H'):CbJ ts ns x H H' ml sa met todo mv sv :=
 ⟨h.j,h.s.trans (wpS s),s _ _ h.m,s _ _ h.t,h.em.mono fun _ _ z=>z.same (wpS s),h.et.mono fun _ _ z=>z.same (wpS s),h.n,h.hm,h.hs⟩
theorem bl8 {ts:Tks}{ns:List Str}{x:List Stm}{S met todo:List Pil}(h:DfK ts ns x S met todo) (hS:S.length≤3000):met.length≤3000∧todo.length≤9001:=by
 have h1:=h.q
 have h2:=List.Nodup.length_le_of_subset h.nd (fun y hy=>h.inS hy)
 omega
theorem az1 {H:Hp}{a:Addr}{us:List V}{xs:List Itm}(e:H a=some (.lst us)) (h:Each (ITa H) us xs):TAt H (.ref a) (.lst (xs.map Itm.tr)):=by
 have:∀ {vs:List V}{xs:List Itm},Each (ITa H) vs xs→∃ fs,Tr.Ats H (xs.map Itm.tr) vs fs:=fun {vs xs} h=>by
  induction xs generalizing vs with
  | nil =>
    obtain rfl:vs=[]:=List.eq_nil_of_length_eq_zero h.1
    exact ⟨[],by simp [Tr.Ats]⟩
  | cons x xs ih =>
    cases vs with
    | nil=>exact absurd h.1 (by simp)
    | cons v vs =>
      obtain ⟨f1,h1⟩:=h.2 0 v x rfl rfl
      obtain ⟨f2,h2⟩:=ih (vs:=vs) ⟨Nat.succ.inj h.1,fun j v x h1 h2=>h.2 (j+1) v x h1 h2⟩
      exact ⟨f1++f2,by simp only [List.map_cons,Tr.Ats]; exact ⟨v,vs,f1,f2,rfl,rfl,h1,h2⟩⟩
 obtain ⟨fs,h1⟩:=this h
 exact ⟨a::fs,by simp only [Tr.At]; exact ⟨a,us,fs,rfl,e,h1,rfl⟩⟩
theorem bp9 {pp:Addr→Prop}{H:Hp}{v:V}{c:Pil}(h:PlsAt pp H v c):TAt H v (pTr c):=by
 obtain ⟨cl,us,rfl,h1,h2,h3⟩:=h
 exact az1 h2 (h3.same wpL)
theorem bx5 {us:List V}:cutV us none (some (1:Int))=us.take 1:=ah8 (k:=1)
theorem bg1 {ns:List Str}{i:Itm}(h:ItOk ns i):L2.isLpI i=true↔wdI i=Str.ofString "looped":=by
 cases i with
 | st s=>obtain ⟨_,_,_,_,hw⟩:=h; exact ⟨fun z=>(by cases z),fun z=>absurd z (bx2 hw).1⟩
 | lp x=>exact ⟨fun _=>rfl,fun _=>rfl⟩
 | cl=>exact ⟨fun z=>(by cases z),fun z=>absurd z (by decide +kernel)⟩
def cg0 (K:PySem.W.Frag):Sp:=fun vs H Q _=>∃ (tv lv:V) (ts:Tks) (ns:List Str) (x:List Stm) (d k:Nat),vs=[tv,lv]∧TksAt H tv ts∧TksX ts ns∧BAt H lv x∧x.length≤7∧Sgm (fun _=>True) ns d k true x∧d≤2∧k≤4∧∀ r H',Same H H'→((∃ Q,Pth ts (sts x++[.lp x]) Q∧Hit x Q)→r=true)→Q (.bl r) H'
theorem ai1 (T:Txt K mg t):FnOk P w K mg base CX0 12 t.a__law_comes_back t.fd__law_comes_back ["talks","body"] (cg0 K):=by
 have G__law_on:=av4 (P:=P) (w:=w) (base:=base) T
 have G__law_to:=av3 (P:=P) (w:=w) (base:=base) T
 refine T.f__law_comes_back.F.ok sc_law_comes_back (fun vs H Q E h=>?_) (fun cdv A outer s H vs Q E hr h=>?_)
 · obtain ⟨tv,lv,ts,ns,x,d,k,rfl,_⟩:=h
   rfl
 · obtain ⟨tv,lv,ts,ns,x,d,k,rfl,hts,hX,hb,hxl,hSg,hd,hk,q⟩:=h
   refine ⟨_,(@a02 _ _ _ _ _ (@a18 _ _ 2 _ _ _ _ sc_law_comes_back.nd rfl (by walk_at "o") (@a26 _ _ _ _ _ (@a00 _ _ _ _ _ (@a08 _ _ _ _) (@a00 _ _ _ _ _ (pv 1) (@a01 _) (by rfl)) (by rfl))) (by rfl) (by walk_at "o"))
    (@a02 _ _ _ _ _ (@a18 _ _ 3 _ _ _ _ sc_law_comes_back.nd rfl (by walk_at "o") (@a13 _ _ _ _ (@a00 _ _ _ _ _ (@a33 _ _ _ _ _ _ _ _ a21 (@a13 _ _ _ _ (@a00 _ _ _ _ _ (pv 2) (@a01 _) (by rfl))) (a59 K (by rfl) (by rfl) T.z_list (by rfl) T.z_reversed (@a00 _ _ _ _ _ (pv 1) (@a01 _) (by rfl)))) (@a01 _) (by rfl))) (by rfl) (by walk_at "o"))
    (@a02 _ _ _ _ _ (@a18 _ _ 4 _ _ _ _ sc_law_comes_back.nd rfl (by walk_at "o") (@a13 _ _ _ _ (@a01 _)) (by rfl) (by walk_at "o"))
    (@a02 _ _ _ _ _ (@ai9 _ _ _ _ _ _ PassesOwn.never (@a07 _ _ _ _ _ _ _ _ (af8 K (by exact hr.units)) (pv 3) (@a13 _ _ _ _ (@a01 _)) (nomark _)) (@a02 _ _ _ _ _ (@a18 _ _ 5 _ _ _ _ sc_law_comes_back.nd rfl (by walk_at "o") (aw6 K PySem.F.plainAttrs_list PySem.F.slot_list_pop PySem.F.type_list_pop b81 (pv 3)) (by rfl) (by walk_at "o"))
     (@a04 _ _ _ (@a30 _ _ _ _ _ _ _ _ (@PW.pt _ _ _ (@a68 _ _ _ _ _ _ _ (@a07 _ _ _ _ _ _ _ _ (b18 (by exact hr.units)) (@a39 _ _ _ _ _ _ _ _ _ _ (a40 K) (pv 5) (@a57 _) (@a48 _ _ _ (@a03 _ _ _ _))) (@a13 _ _ _ _ (@a00 _ _ _ _ _ (pv 2) (@a01 _) (by rfl))) (nomark _)) (@a68 _ _ _ _ _ _ _ (@a07 _ _ _ _ _ _ _ _ (b53 K (by exact hr.units)) (pv 5) (pv 4) (by with_unfolding_all rfl)) (@a56 _ _ _ _ (@a07 _ _ _ _ _ _ _ _ b71 (@a15 _ _ _ _ _ _ _ (a10 K) (@a15 _ _ _ _ _ _ _ (a20 K) (pv 5) (@aa6 _ _ _ _ _ _ a64 (@a03 _ _ _ _)) (fun _ _=>rfl)) (@a03 _ _ _ _) (fun _ _=>rfl)) (@a08 _ _ _ _) (nomark _)))))) (@a02 _ _ _ _ _ (@a18 _ _ 6 _ _ _ _ sc_law_comes_back.nd rfl (by walk_at "o") (@a09 _ _ _ _ _ _ _ _ _ _ _ _ _ _ _ _ G__law_to (hr.mono (by omega)) rfl T.f__law_to.m T.f__law_to.F.kp T.f__law_to.b .nil a19 (@a00 _ _ _ _ _ (@a39 _ _ _ _ _ _ _ _ _ _ (a40 K) (pv 5) (@a57 _) (@a48 _ _ _ (@aa6 _ _ _ _ _ _ a64 (@a03 _ _ _ _)))) (@a00 _ _ _ _ _ (@a08 _ _ _ _) (@a00 _ _ _ _ _ (@ah1 _ _ _ _) (@a01 _) (by rfl)) (by rfl)) (by rfl)) (by decide) (by rfl) (by rfl)) (by rfl) (by walk_at "o"))
      (@a02 _ _ _ _ _ (@a30 _ _ _ _ _ _ _ _ (@PW.pt _ _ _ (@bq2 _ _ _ _ _ _ _ (@a07 _ _ _ _ _ _ _ _ a36 (@a50 _ _ _ _ _ _ _ _ _ (a82 K) (by rfl) T.z_len ab4 (@a00 _ _ _ _ _ (pv 5) (@a01 _) (by rfl)) (by decide) (by decide) (by rfl) (by rfl)) (@a03 _ _ _ _) (nomark _)) (@b64 _ _ _ _ (@PW.pt _ _ _ (@a68 _ _ _ _ _ _ _ (@a07 _ _ _ _ _ _ _ _ (b18 (by exact hr.units)) (@a15 _ _ _ _ _ _ _ (a20 K) (pv 5) (@aa6 _ _ _ _ _ _ a64 (@a03 _ _ _ _)) (fun _ _=>rfl)) (@a26 _ _ _ _ _ (@a00 _ _ _ _ _ (@a08 _ _ _ _) (@a01 _) (by rfl))) (nomark _)) (@a56 _ _ _ _ (@a07 _ _ _ _ _ _ _ _ a36 (@a50 _ _ _ _ _ _ _ _ _ (a82 K) (by rfl) T.z_len ab4 (@a00 _ _ _ _ _ (pv 6) (@a01 _) (by rfl)) (by decide) (by decide) (by rfl) (by rfl)) (@a03 _ _ _ _) (nomark _)))))))) (@a04 _ _ _ (@a14 _ _ _ _ (@ah1 _ _ _ _))) (@a11 _))
      (@a02 _ _ _ _ _ (@a32 _ _ _ _ (@a83 _ K _ _ _ _ _ _ _ _ _ _ _ PySem.F.plainAttrs_list PySem.F.slot_list_append PySem.F.type_list_append a78 (pv 4) (@a00 _ _ _ _ _ (pv 5) (@a01 _) (by rfl)) (by rfl) (by rfl) (by rfl) (by rfl) (by rfl) (by rfl)) (by rfl))
      (@a04 _ _ _ (@a30 _ _ _ _ _ _ _ _ (@a07 _ _ _ _ _ _ _ _ b71 (@a15 _ _ _ _ _ _ _ (a10 K) (@a15 _ _ _ _ _ _ _ (a20 K) (pv 5) (@aa6 _ _ _ _ _ _ a64 (@a03 _ _ _ _)) (fun _ _=>rfl)) (@a03 _ _ _ _) (fun _ _=>rfl)) (@a08 _ _ _ _) (nomark _)) (@a04 _ _ _ (@a18 _ _ 3 _ _ _ _ sc_law_comes_back.nd rfl (by walk_at "o") (@a33 _ _ _ _ _ _ _ _ a21 (pv 3) (@a09 _ _ _ _ _ _ _ _ _ _ _ _ _ _ _ _ G__law_on (hr.mono (by omega)) rfl T.f__law_on.m T.f__law_on.F.kp T.f__law_on.b .nil a19 (@a00 _ _ _ _ _ (pv 0) (@a00 _ _ _ _ _ (@a39 _ _ _ _ _ _ _ _ _ _ (a40 K) (pv 5) (@a57 _) (@a48 _ _ _ (@aa6 _ _ _ _ _ _ a64 (@a03 _ _ _ _)))) (@a00 _ _ _ _ _ (@a15 _ _ _ _ _ _ _ (a20 K) (pv 5) (@aa6 _ _ _ _ _ _ a64 (@a03 _ _ _ _)) (fun _ _=>rfl)) (@a00 _ _ _ _ _ (@az4 _ _ _) (@a01 _) (by rfl)) (by rfl)) (by rfl)) (by rfl)) (by decide) (by rfl) (by rfl))) (by rfl) (by walk_at "o"))) (@a11 _)))))) (@a11 _)))))
    (@a04 _ _ _ (@a14 _ _ _ _ (@ah1 _ _ _ _))))))),?_⟩
   have sl:(1000000:Nat)≤sizeLine:=le_line (Nat.le_refl _)
   obtain ⟨lb,us,rfl,eb,hE⟩:=bat_iff.mp hb
   obtain ⟨sp1,sp2,sp3,sp4⟩:=c73 hX.c hd hk hSg hxl
   have hul:=hE.1
   have WS:WP (fun _=>True) ns d 4 (sts x++[Itm.lp x]):=by
    obtain ⟨⟨j,h1,h2⟩,h3,h4,h5⟩:=hSg
    have s4:Sgm (fun _=>True) ns d 4 true x:=⟨⟨j,h1,fun s hs=>bj9 (h2 s hs) hk⟩,h3,h4,h5⟩
    exact WP.lp (by omega) s4 s4 trivial (WP.bot (b:=[]) hd bd6)
   walk_at "go"
   intro mk H1 f1 s1 e1
   walk_at "run"
   intro l1 H2 f2 s2 e2
   walk_at "run"
   refine ⟨lb,us,rfl,SqL.of ((s1.trans s2) _ _ eb),?_⟩
   intro l2 H3 f3 s3 e3
   walk_at "run"
   refine a31 (s3 _ _ e2) e3 (by simp only [List.length_singleton,List.length_reverse]; omega) ?_
   intro l3 H4 f4 s4 e4
   walk_at "run"
   intro sa H5 f5 s5 e5
   walk_at "run"
   intro ml H6 f6 s6 e6
   walk_at "run"
   rename_i N hN
   have fin:∀ {y5 y6:Option V}{sa:Addr}{H':Hp},Same H H'→¬ (∃ Q,Pth ts (sts x++[.lp x]) Q∧Hit x Q)→N [some tv,some (.ref lb),some (.ref mk),some (.ref sa),some (.ref ml),y5,y6] H':=fun {y5 y6 sa H'} s h=>by
    refine hN _ _ ?_
    walk_at "run"
    exact q false H' s (fun z=>absurd z h)
   clear hN
   have s16:=s2.trans (s3.trans (s4.trans (s5.trans s6)))
   have hne:∀ {Hk:Hp}{x y:Addr}{o:HO},Hk x=some o→Hk y=none→x≠y:=fun h1 h2 z=>by rw [z,h2] at h1; cases h1
   have nms:ml≠sa:=(hne e5 f6).symm
   have hmH:=a42 (s2.trans (s3.trans (s4.trans s5))) f6
   have hsH:=a42 (s2.trans (s3.trans s4)) f5
   have base:Same H1 (woP (p2 ml sa) H6):=fun a o e=>by
    have:¬ p2 ml sa a:=fun z=>by
     rcases z with rfl | rfl
     · rw [hmH] at e; cases e
     · rw [hsH] at e; cases e
    rw [wpG this]
    exact s16 _ _ e
   have hmk:∀ {H':Hp}{sa:Addr},Same H1 (woP (p2 ml sa) H')→ITa (woP (p2 ml sa) H') (.ref mk) (.lp x):=fun s=>lp_at.mpr ⟨mk,.ref lb,rfl,s _ _ e1,hb.same (s1.trans s)⟩
   have J0:CbJ ts ns x H1 H6 ml sa [] [sts x++[.lp x]] [] [.ref l3]:=⟨DfK.start sp1 WS,base,e6,s6 _ _ e5,Each.nil,Each.nil.snoc ⟨l3,_,rfl,fun z=>by
    rcases z with z | z
    · exact hne ((s5) _ _ e4) f6 z
    · exact hne e4 f5 z,(s5.trans s6) _ _ e4,ac0 (aj5 (us:=[]) (P:=[]) Each.nil (hmk base)) (hE.mono fun _ _ z=>z.same (s1.trans base))⟩,nms,hmH,hsH⟩
   clear base
   refine ao5 (fun n σ' H'=>∃ sa met todo mv sv y5 y6,n=3*((Spl ts x).length - met.length)+todo.length∧σ'=[some tv,some (.ref lb),some (.ref mk),some (.ref sa),some (.ref ml),y5,y6]∧CbJ ts ns x H1 H' ml sa met todo mv sv) _ ⟨sa,_,_,_,_,_,_,rfl,rfl,J0⟩ ?_
   clear J0
   rintro n σ' H7 ⟨sa,met,todo,mv,sv,y5,y6,rfl,rfl,J⟩
   obtain ⟨hl1,hl2⟩:=bl8 J.j sp3
   walk_at "run"
   intro a8 H8 f8 s8 e8
   refine ao6 (SqL.of (s8 _ _ J.t)) (SqL.of e8) ?_
   replace J:=J.same s8
   rcases List.eq_nil_or_concat todo with rfl | ⟨todo,P,rfl⟩
   · obtain rfl:sv=[]:=List.eq_nil_of_length_eq_zero J.et.1
     refine ⟨false,rfl,?_⟩
     rw [if_neg Bool.false_ne_true]
     exact fin (s1.trans (J.s.trans wpL)) ((by rintro ⟨Q',hp,hQ⟩; exact J.j.no hp hQ J.j.a))
   · rw [List.concat_eq_append] at *
     obtain ⟨sv,v,rfl,hE5,hv⟩:=ah0 J.et
     refine ⟨true,by simp,?_⟩
     rw [if_pos rfl]
     refine ⟨fun σ' H'=>∃ m',m'<3*((Spl ts x).length - met.length)+(todo++[P]).length∧∃ sa met todo mv sv y5 y6,m'=3*((Spl ts x).length - met.length)+todo.length∧σ'=[some tv,some (.ref lb),some (.ref mk),some (.ref sa),some (.ref ml),y5,y6]∧CbJ ts ns x H1 H' ml sa met todo mv sv,fun σ' H' z=>z,?_⟩
     walk_at "run"
     refine ab6 (SqL.of J.t) ?_
     refine bt1 J.t ?_
     walk_at "run"
     have w9:woP (p2 ml sa) (upd H8 sa (.lst sv))=woP (p2 ml sa) H8:=wpU (.inr rfl)
     have m9:upd H8 sa (.lst sv) ml=some (.lst mv):=by rw [a12 J.n]; exact J.m
     have t9:upd H8 sa (.lst sv) sa=some (.lst sv):=a17
     generalize upd H8 sa (.lst sv)=H9 at w9 m9 t9 ⊢
     have w89:Same (woP (p2 ml sa) H8) (woP (p2 ml sa) H9):=by rw [w9]; exact Same.refl _
     replace hE5:=hE5.mono fun _ _ z=>PlsAt.same z w89
     replace hv:=hv.same w89
     have hem:=J.em.mono fun _ _ z=>PlsAt.same z w89
     have hsm:=J.s.trans w89
     obtain ⟨hPe,dP,kP,hW⟩:=J.j.e P (.inr (by simp))
     have hits:=ay0 hW
     have skip:VisK met todo P→∀ {H':Hp}{y5 y6:Option V},Same H9 H'→(∃ m',m'<3*((Spl ts x).length - met.length)+(todo++[P]).length∧∃ sa' met todo mv sv y5' y6',m'=3*((Spl ts x).length - met.length)+todo.length∧[some tv,some (.ref lb),some (.ref mk),some (.ref sa),some (.ref ml),y5,y6]=[some tv,some (.ref lb),some (.ref mk),some (.ref sa'),some (.ref ml),y5',y6']∧CbJ ts ns x H1 H' ml sa' met todo mv sv):=fun hV {H' y5 y6} s =>
      ⟨_,by rw [List.length_append,List.length_singleton]; omega,sa,met,todo,mv,sv,y5,y6,rfl,rfl,J.j.skip hV,hsm.trans (wpS s),s _ _ m9,s _ _ t9,hem.mono fun _ _ z=>z.same (wpS s),hE5.mono fun _ _ z=>z.same (wpS s),J.n,J.hm,J.hs⟩
     obtain ⟨pa,pv,rfl,hpa,ep,hEp⟩:=id hv
     refine ac7 (SqL.of ep) ?_
     rw [bx5]
     intro n1 H10 f10 s10 e10
     walk_at "run"
     intro n2 H11 f11 s11 e11
     have s911:=s10.trans s11
     have hok1:∀ i∈P.reverse.take 1,ItOk ns i:=fun i hi=>hits i (List.mem_reverse.mp (List.mem_of_mem_take hi))
     have hmo:ItOk ns (.lp x):=by
      obtain ⟨j,_,h2⟩:=hSg.w
      exact fun s hs=>⟨j,k,true,by omega,h2 s hs⟩
     refine bo8 (az1 (s11 _ _ e10) ((ag8 hEp 1).mono fun _ _ z=>(z.same wpL).same s911)) (az1 (xs:=[.lp x]) e11 (Each.nil.snoc (((hmk hsm).same wpL).same s911))) (b19 hX.l hok1) (b19 hX.l (fun i hi=>by rw [List.mem_singleton.mp hi]; exact hmo)) ?_
     walk_at "run"
     rcases hPe with hPS | rfl
     · obtain ⟨Pq,hPq⟩:=sp4 P hPS
       have ht1:P.reverse.take 1=[.lp x]:=by rw [hPq,List.reverse_append]; rfl
       rw [ht1,pBlT rfl,if_pos rfl]
       walk_at "run"
       have lds:=bo9 hX.l hits
       have hmi:∀ c∈met,∀ i∈c,ItOk ns i:=fun c hc=>by
        obtain ⟨_,d',k',hW'⟩:=J.j.e c (.inl hc)
        exact ay0 hW'
       refine bk4 (bp9 (hv.same (wpS s911))) (SqL.of (s911 _ _ m9)) (ar1 (f:=pTr) (fun v c z=>bp9 z) (hem.mono fun _ _ z=>z.same (wpS s911))) lds (fun p hp=>by
        obtain ⟨c,hc,rfl⟩:=List.mem_map.mp hp
        exact bo9 hX.l (hmi c hc)) ?_
       refine ⟨_,rfl,?_⟩
       by_cases hmm:P∈met
       · rw [pBlT ((be0 hits hmi).mpr hmm),if_neg (by simp),if_neg Bool.false_ne_true]
         walk_at "run"
         exact skip (.inl hmm) s911
       rw [pBlF (fun z=>hmm ((be0 hits hmi).mp z)),if_pos (by simp)]
       walk_at "run"
       cases P with
       | nil=>exact absurd (congrArg List.length hPq) (by simp)
       | cons i R =>
         obtain ⟨pv,v0,rfl,hEp',hv0⟩:=ac6 hEp
         have ho:=hits i (by simp)
         obtain ⟨a0,r0,rfl,ea0⟩:=ai0 hv0 ho
         have ea0:=s911 _ _ (wpL _ _ ea0)
         have ep11:=s911 _ _ ep
         refine a55 (SqL.of ep11) atI_last ?_
         walk_at "run"
         refine a22 (SqT.of ea0) (a05 (j:=0) rfl) ?_
         walk_at "run"
         by_cases hwt:wdI i=Str.ofString "wait"
         · rw [if_neg (by simp [hwt])]
           walk_at "run"
           exact skip (.inr (.inr (.inr ⟨i,R,rfl,(b34 ho).mpr hwt⟩))) s911
         rw [if_pos (by simpa using hwt)]
         have hw0:isW i=false:=by
          cases e:isW i with
          | false=>rfl
          | true=>exact absurd ((b34 ho).mp e) hwt
         walk_at "run"
         refine ac7 (SqL.of ep11) ?_
         rw [(af7 _ _).1]
         intro n12 H12 f12 s12 e12
         walk_at "run"
         have s912:=s911.trans s12
         have hEp12:=hEp'.same (wpS (p:=p2 ml sa) s912)
         refine ⟨n12,pv,R,true,ns,p2 ml sa,rfl,e12,hEp12,fun j hj=>hits j (by simp [hj]),fun nr un H13 s13 e13 hE13=>?_⟩
         walk_at "run"
         have s913:=s912.trans s13
         rename_i N2 hN2
         have rest:∀ {H':Hp}{y6:Option V},Same H9 H'→¬ Hit x (i::R)→N2 [some tv,some (.ref lb),some (.ref mk),some (.ref sa),some (.ref ml),some (.ref pa),y6] H':=fun {H' y6} s hH=>by
          refine hN2 _ _ ?_
          walk_at "run"
          have ml1:=s _ _ m9
          have em1:=hem.1
          refine ab6 (SqL.of ml1) ?_
          walk_at "run"
          refine ac3 ml1 (by omega) ?_
          walk_at "run"
          have w12:woP (p2 ml sa) (upd H' ml (.lst (mv++[.ref pa])))=woP (p2 ml sa) H':=wpU (.inl rfl)
          have m12:upd H' ml (.lst (mv++[.ref pa])) ml=some (.lst (mv++[.ref pa])):=a17
          have t12:upd H' ml (.lst (mv++[.ref pa])) sa=some (.lst sv):=by rw [a12 J.n.symm]; exact s _ _ t9
          have k12:∀ a o,a≠ml→H' a=some o→upd H' ml (.lst (mv++[.ref pa])) a=some o:=fun a o h e=>by rw [a12 h]; exact e
          generalize upd H' ml (.lst (mv++[.ref pa]))=H14 at w12 m12 t12 k12 ⊢
          have w914:Same (woP (p2 ml sa) H9) (woP (p2 ml sa) H14):=by rw [w12]; exact wpS s
          have hv14:=hv.same w914
          have hem14:=(hem.mono fun _ _ z=>PlsAt.same z w914).snoc hv14
          have hE14:=hE5.mono fun _ _ z=>PlsAt.same z w914
          have hsm14:=hsm.trans w914
          have hnew:=J.j.new hX.c sp2 hmm hw0 hH
          have hlt:=bo7 J.j.nd (fun y hy=>J.j.inS hy) hPS hmm
          have pam:pa≠ml:=fun z=>hpa (.inl z)
          have ep14:=k12 _ _ pam (s _ _ ep)
          refine a55 (SqL.of ep14) atI_last ?_
          walk_at "run"
          have ea14:H14 a0=some (.tup (.str (wdI i)::r0)):=by
           obtain ⟨a9,r9,z1,z2⟩:=ai0 (hv0.same w914) ho
           cases z1
           obtain ⟨a8,r8,z3,z4⟩:=ai0 hv0 ho
           cases z3
           have z5:=w914 _ _ z4
           rw [z2] at z5
           have z6:=(wpL (p:=p2 ml sa) (H:=H9)) _ _ z4
           have:=s911 _ _ z6
           rw [ea0] at this
           rw [wpL _ _ z2,z5,this]
          refine a22 (SqT.of ea14) (a05 (j:=0) rfl) ?_
          walk_at "run"
          by_cases hlpd:wdI i=Str.ofString "looped"
          · rw [if_neg (by simp [hlpd])]
            walk_at "run"
            rw [if_pos ((bg1 ho).mpr hlpd)] at hnew
            refine ⟨_,?_,sa,met++[i::R],todo++[],_,sv,_,_,rfl,rfl,hnew,hsm14,m12,t12,hem14,by rw [List.append_nil]; exact hE14,J.n,J.hm,J.hs⟩
            simp only [List.length_append,List.length_singleton,List.length_nil]
            omega
          · rw [if_pos (by simpa using hlpd)]
            walk_at "run"
            rw [if_neg (fun z=>hlpd ((bg1 ho).mp z))] at hnew
            refine ac7 (SqL.of ep14) ?_
            rw [(af7 _ _).1]
            intro n15 H15 f15 s15 e15
            walk_at "run"
            refine a55 (SqL.of (s15 _ _ ep14)) atI_last ?_
            walk_at "run"
            have w915:=w914.trans (wpS (p:=p2 ml sa) s15)
            have hlps:=bg0 hW
            have hlen:=b33 hW
            rw [List.length_cons] at hlen
            have n15p:¬ p2 ml sa n15:=fun z=>by
             rcases z with rfl | rfl
             · rw [m12] at f15; cases f15
             · rw [t12] at f15; cases f15
            refine ⟨tv,n15,pv,R,.ref a0,i,.non,ts,ns,p2 ml sa,rfl,hts.same (s1.trans (hsm.trans w915)),hX,n15p,e15,hEp'.same w915,fun j hj=>hits j (by simp [hj]),by omega,hv0.same w915,ho,(aq3 hX.c (fun _ _ _ _ _=>trivial) hW).1,fun y hy=>hlps y (by rw [hy]; simp),fun y q hq=>hlps y (List.mem_cons_of_mem _ (ay9 hq)),.inl rfl,fun a ha z=>?_,fun l16 vs16 Cs H16 J16 hl16 e16 hE16 hc16 _=>?_⟩
            · rcases ha with rfl | rfl
              · rw [s15 _ _ m12] at z; cases z
              · rw [s15 _ _ t12] at z; cases z
            · obtain rfl:=hc16 rfl
              have t16:=J16.k sa _ (.inr rfl) (fun z=>by cases z) (s15 _ _ t12)
              have m16:=J16.k ml _ (.inl rfl) (fun z=>by cases z) (s15 _ _ m12)
              have ol:=bd3 (ts:=ts) (p:=R) (s:=i)
              have h16:=hE16.1
              have hsl:=hE14.1
              rw [List.length_append,List.length_singleton] at hl2
              refine a31 t16 e16 (by omega) ?_
              intro sa2 H17 f17 s17 e17
              walk_at "run"
              have w1517:Same (woP (p2 ml sa) H15) (woP (p2 ml sa2) H17):=J16.s.trans (c99 s17 f17)
              have w917:Same (woP (p2 ml sa) H9) (woP (p2 ml sa2) H17):=w915.trans w1517
              have up:∀ {v:V}{c:Pil},PlsAt (p2 ml sa) H14 v c→PlsAt (p2 ml sa2) H17 v c:=fun h=>bp8 s17 f17 ((h.same (wpS s15)).same J16.s)
              have nms2:ml≠sa2:=fun z=>by rw [← z,m16] at f17; cases f17
              refine ⟨_,?_,sa2,met++[i::R],todo++onI ts R i,_,sv++vs16,_,_,rfl,rfl,hnew,hsm.trans w917,s17 _ _ m16,e17,hem14.mono fun _ _ z=>up z,(hE14.mono fun _ _ z=>up z).append (hE16.mono fun _ _ z=>bp8 s17 f17 z),nms2,J.hm,?_⟩
              · simp only [List.length_append,List.length_singleton]
                omega
              · cases hh:H1 sa2 with
                | none=>rfl
                | some o=>rw [wpL _ _ ((hsm.trans (w915.trans J16.s)) _ _ hh)] at f17; cases f17
         clear hN2
         have ep13:=s913 _ _ ep
         refine ab5 (SqL.of ep13) ?_
         walk_at "run"
         have hpl:=hEp'.1
         rw [List.length_reverse] at hpl
         have qt:∀ {H':Hp},Same H9 H'→Q (.bl true) H':=fun s=>q true _ (s1.trans (hsm.trans wpL |>.trans s)) (fun _=>rfl)
         by_cases hl1':R=[]
         · subst hl1'
           rw [if_pos (by simp [hpl])]
           walk_at "run"
           exact qt s913
         · have:R.length≠0:=fun z=>hl1' (List.eq_nil_of_length_eq_zero z)
           rw [if_neg (by simp; omega)]
           walk_at "run"
           refine a55 (SqL.of ep13) atI_last ?_
           walk_at "run"
           intro n14 H14 f14 s14 e14
           have s914:=s913.trans s14
           have hagt:(Itm.st (.plain [.s "again"])).tr=.tup [.str "again"]:=rfl
           have hago:ItOk ns (.st (.plain [.s "again"])):=⟨ns.length,0,true,by omega,wS_pl.mpr (.inr (.inr (.inr (.inl ⟨rfl,.inl rfl⟩))))⟩
           obtain ⟨ag1,ag2⟩:=bu9 hX.l hago
           obtain ⟨i1,i2⟩:=bu9 hX.l ho
           refine bo8 (u:=(Itm.st (.plain [.s "again"])).tr) (TAt.same ((hv0.same wpL).same s914) (Same.refl _)) (show TAt H14 (.ref n14) (Stm.plain [.s "again"]).tr from b22 (ps:=[.s "again"]) e14) ⟨i1,by omega⟩ ⟨ag1,by omega⟩ ?_
           walk_at "run"
           by_cases hag:i=.st (.plain [.s "again"])
           · rw [pBlT (by rw [hag]),if_pos rfl]
             walk_at "run"
             refine ab5 (SqL.of (s14 _ _ e13)) ?_
             walk_at "run"
             have hnl:=hE13.1
             rw [List.length_reverse] at hnl
             by_cases h1:(tgt true R).length=1
             · rw [if_pos (by simp [hnl,h1])]
               walk_at "run"
               exact qt s914
             · rw [if_neg (by simp [hnl]; omega)]
               walk_at "run"
               refine rest s914 fun hH=>?_
               rcases hH with z | ⟨q',z,hq'⟩
               · exact hl1' (List.cons.inj z).2
               · obtain ⟨_,rfl⟩:=List.cons.inj z
                 refine h1 ?_
                 unfold tgt
                 rw [if_pos rfl,hq']
                 rfl
           · rw [pBlF (fun z=>hag (bd9 ho hago z)),if_neg Bool.false_ne_true]
             walk_at "run"
             refine rest s914 fun hH=>?_
             rcases hH with z | ⟨q',z,hq'⟩
             · exact hl1' (List.cons.inj z).2
             · exact hag (List.cons.inj z).1
     · rw [pBlF (by simp),if_neg Bool.false_ne_true]
       walk_at "run"
       exact skip (.inr (.inr (.inl rfl))) s911
mutual
theorem bl9:∀ s:Stm,(lpsS s).length≤s.sz
 | .plain _=>Nat.zero_le _
 | .put _ _=>Nat.zero_le _
 | .loop b=>by have:=a90 b; simp only [lpsS,List.length_cons,Stm.sz]; omega
 | .wait _ _=>Nat.zero_le _
 | .test _ a b=>by have:=a90 a; have:=a90 b; simp only [lpsS,List.length_append,Stm.sz]; omega
theorem a90:∀ b:List Stm,(lpsB b).length≤Stm.szs b
 | []=>Nat.zero_le _
 | s::b=>by have:=bl9 s; have:=a90 b; simp only [lpsB,List.length_append,Stm.szs]; omega
end
theorem bm0 (b:List Stm) (i:Nat):Stm.szs (b.take i)≤Stm.szs b:=by
 have:=szsA (b.take i) (b.drop i)
 rw [List.take_append_drop] at this
 omega
theorem ac1 {H H':Hp}{us:List V}{bs:List (List Stm)}(h:Each (BAt H) us bs) (s:Same H H'):Each (BAt H') us bs:=h.mono fun _ _ z=>z.same s
def cg1 (K:PySem.W.Frag) (D:Nat):Sp:=fun vs H Q _=>∃ (bv:V) (b:List Stm) (nm:List Str) (k:Nat) (lp:Bool),vs=[bv]∧BAt H bv b∧(∀ s∈b,wS nm k lp s)∧k<D∧Stm.szs b≤100∧∀ l us H',H l=none→Same H H'→H' l=some (.lst us)→Each (BAt H') us (lpsB b)→Q (.ref l) H'
theorem av6 (T:Txt K mg t):∀ d:Nat,FnOk P w K mg base CX0 (d+1) t.a__law_loops t.fd__law_loops ["body"] (cg1 K d):=by
 intro d
 induction d with
 | zero=>exact vac (fun vs H Q E ⟨_,_,_,_,_,_,_,_,h,_⟩=>Nat.not_lt_zero _ h)
 | succ d G__law_loops =>
   refine T.f__law_loops.F.ok sc_law_loops (fun vs H Q E h=>?_) (fun cdv A outer s H vs Q E hr h=>?_)
   · obtain ⟨bv,b,nm,k,lp,rfl,_⟩:=h
     rfl
   · obtain ⟨bv,b,nm,k,lp,rfl,hb,hw,hd,hz,q⟩:=h
     obtain ⟨bl,us,rfl,e0,hE⟩:=bat_iff.mp hb
     refine ⟨_,(@a02 _ _ _ _ _ (@a18 _ _ 1 _ _ _ _ sc_law_loops.nd rfl (by walk_at "o") (@a13 _ _ _ _ (@a01 _)) (by rfl) (by walk_at "o"))
     (@a02 _ _ _ _ _ (@a69 _ _ _ _ _ _ _ _ PassesOwn.never rfl (a25 K (pv 0)) (a16 (i:=2) sc_law_loops.nd rfl (by walk_at "o")) (@a41 _ _ _ _ _ (@a30 _ _ _ _ _ _ _ _ (@a07 _ _ _ _ _ _ _ _ a36 (@a15 _ _ _ _ _ _ _ (a10 K) (pv 2) (@a03 _ _ _ _) (fun _ _=>rfl)) (@a08 _ _ _ _) (nomark _)) (@a04 _ _ _ (@a18 _ _ 1 _ _ _ _ sc_law_loops.nd rfl (by walk_at "o") (@a33 _ _ _ _ _ _ _ _ a21 (@a33 _ _ _ _ _ _ _ _ a21 (pv 1) (@a13 _ _ _ _ (@a00 _ _ _ _ _ (@a15 _ _ _ _ _ _ _ (a10 K) (pv 2) (@a03 _ _ _ _) (fun _ _=>rfl)) (@a01 _) (by rfl)))) (@a09 _ _ _ _ _ _ _ _ _ _ _ _ _ _ _ _ G__law_loops (hr.mono (by omega)) rfl T.f__law_loops.m T.f__law_loops.F.kp T.f__law_loops.b .nil a19 (@a00 _ _ _ _ _ (@a15 _ _ _ _ _ _ _ (a10 K) (pv 2) (@a03 _ _ _ _) (fun _ _=>rfl)) (@a01 _) (by rfl)) (by decide) (by rfl) (by rfl))) (by rfl) (by walk_at "o"))) (@a11 _))
      (@a04 _ _ _ (@a30 _ _ _ _ _ _ _ _ (@a07 _ _ _ _ _ _ _ _ a36 (@a15 _ _ _ _ _ _ _ (a10 K) (pv 2) (@a03 _ _ _ _) (fun _ _=>rfl)) (@a08 _ _ _ _) (nomark _)) (@a04 _ _ _ (@a18 _ _ 1 _ _ _ _ sc_law_loops.nd rfl (by walk_at "o") (@a33 _ _ _ _ _ _ _ _ a21 (@a33 _ _ _ _ _ _ _ _ a21 (pv 1) (@a09 _ _ _ _ _ _ _ _ _ _ _ _ _ _ _ _ G__law_loops (hr.mono (by omega)) rfl T.f__law_loops.m T.f__law_loops.F.kp T.f__law_loops.b .nil a19 (@a00 _ _ _ _ _ (@a15 _ _ _ _ _ _ _ (a10 K) (pv 2) (@a03 _ _ _ _) (fun _ _=>rfl)) (@a01 _) (by rfl)) (by decide) (by rfl) (by rfl))) (@a09 _ _ _ _ _ _ _ _ _ _ _ _ _ _ _ _ G__law_loops (hr.mono (by omega)) rfl T.f__law_loops.m T.f__law_loops.F.kp T.f__law_loops.b .nil a19 (@a00 _ _ _ _ _ (@a15 _ _ _ _ _ _ _ (a10 K) (pv 2) (@a03 _ _ _ _) (fun _ _=>rfl)) (@a01 _) (by rfl)) (by decide) (by rfl) (by rfl))) (by rfl) (by walk_at "o"))) (@a11 _)))) (by intro _; rfl))
     (@a04 _ _ _ (@a14 _ _ _ _ (pv 1))))),?_⟩
     have sl:(1000000:Nat)≤sizeLine:=le_line (Nat.le_refl _)
     walk_at "go"
     intro f0 H1 g1 s1 e1
     walk_at "run"
     refine ⟨⟨us,SqL.of (s1 _ _ e0)⟩,a60 (xs:=us) (fun i σ H'=>i≤us.length∧∃ (fl:Addr) (vs:List V) (y2:Option V),σ=[some (.ref bl),some (.ref fl),y2]∧Same H H'∧H fl=none∧H' fl=some (.lst vs)∧Each (BAt H') vs (lpsB (b.take i))) ⟨Nat.zero_le _,f0,[],_,rfl,s1,g1,e1,Each.nil⟩ (fun i σ H' _ zz=>by obtain ⟨_,_,_,_,_,z,_⟩:=zz; exact SqL.of (z _ _ e0)) ?_ ?_⟩
     · rintro i sv σ' H2 hi ⟨hib,fl,vs,y2,rfl,s2,f2,e2,hR⟩
       obtain ⟨st,hst⟩:∃ st,b[i]?=some st:=⟨_,List.getElem?_eq_getElem (by rw [← hE.1]; exact (List.getElem?_eq_some_iff.mp hi).1)⟩
       have hil:i<us.length:=(List.getElem?_eq_some_iff.mp hi).1
       have hS:=hE.2 i _ _ hi hst
       have hmem:=List.mem_of_getElem? hst
       have hws:=hw st hmem
       have hkd:=b59 hws
       obtain ⟨a,us',rfl,ea⟩:=an7 hS hkd
       have h2:lpsB (b.take (i+1))=lpsB (b.take i)++lpsS st:=by
        rw [List.take_add_one,hst,aq0]
        simp [lpsB]
       have hz2:=bm0 b (i+1)
       rw [show b.take (i+1)=b.take i++[st] by rw [List.take_add_one,hst]; rfl,szsA] at hz2
       simp only [Stm.szs] at hz2
       have hll:=a90 (b.take i)
       have hvl:=hR.1
       rw [h2]
       walk_at "run"
       refine a95 (fun σ' H'=>∃ (fl:Addr) (vs:List V),σ'=[some (.ref bl),some (.ref fl),some (.ref a)]∧Same H H'∧H fl=none∧H' fl=some (.lst vs)∧((st.wd=Str.ofString "loop"→Each (BAt H') vs (lpsB (b.take i)++lpsS st))∧(¬ st.wd=Str.ofString "loop"→Each (BAt H') vs (lpsB (b.take i))))) ?_ ?_
       · walk_at "run"
         refine a22 (SqT.of (s2 _ _ ea)) (a05 (j:=0) rfl) ?_
         walk_at "run"
         by_cases h1:st.wd=Str.ofString "loop"
         · refine a28 h1 ?_
           walk_at "run"
           obtain ⟨x,rfl⟩:=ap2 hkd h1
           obtain ⟨a',u,hz',ea',hx⟩:=sat_loop.mp hS
           cases hz'
           cases k with
           | zero=>exact hws.elim
           | succ k =>
             simp only [Stm.sz] at hz2
             have hlx:=a90 x
             refine a22 (SqT.of (s2 _ _ ea')) (a05 (j:=1) rfl) ?_
             walk_at "run"
             intro n1 H3 f3 s3 e3
             refine a31 (s3 _ _ e2) e3 (by simp only [List.length_singleton]; omega) ?_
             intro n2 H4 f4 s4 e4
             walk_at "run"
             have s24:=s2.trans (s3.trans s4)
             refine a22 (SqT.of (s24 _ _ ea')) (a05 (j:=1) rfl) ?_
             walk_at "run"
             refine ⟨u,x,nm,k,true,rfl,hx.same s24,hws.2,by omega,by omega,fun l5 vs5 H5 f5 s5 e5 hR5=>?_⟩
             have q5:=hR5.1
             refine a31 (s5 _ _ e4) e5 (by rw [List.length_append,List.length_singleton]; omega) ?_
             intro l6 H6 f6 s6 e6
             have s26:=s3.trans (s4.trans (s5.trans s6))
             refine ⟨l6,_,rfl,s2.trans s26,a42 (s24.trans s5) f6,e6,fun _=>?_,fun z=>absurd h1 z⟩
             rw [lpsS,show lpsB (b.take i)++x::lpsB x=(lpsB (b.take i)++[x])++lpsB x by simp]
             exact ((ac1 hR s26).snoc (hx.same (s2.trans s26))).append (ac1 hR5 s6)
         · refine a23 h1 ?_
           exact ⟨fl,vs,rfl,s2,f2,e2,fun z=>absurd z h1,fun _=>hR⟩
       rintro σ' H3 ⟨fl,vs,rfl,s3,f3,e3,hR1,hR2⟩
       walk_at "run"
       refine a22 (SqT.of (s3 _ _ ea)) (a05 (j:=0) rfl) ?_
       walk_at "run"
       by_cases h1:st.wd=Str.ofString "test"
       · refine a28 h1 ?_
         walk_at "run"
         obtain ⟨c,x,y,rfl⟩:=ap1 hkd h1
         obtain ⟨a',u1,u2,u3,hz',ea',hx,hy⟩:=af9 hS
         cases hz'
         have hR:=hR2 (by show ¬ (Str.ofString "test"=Str.ofString "loop"); decide +kernel)
         have hvl:=hR.1
         cases k with
         | zero=>exact hws.elim
         | succ k =>
           simp only [Stm.sz] at hz2
           have hlx:=a90 x
           have hly:=a90 y
           refine a22 (SqT.of (s3 _ _ ea')) (a05 (j:=2) rfl) ?_
           walk_at "run"
           refine ⟨u2,x,nm,k,lp,rfl,hx.same s3,hws.2.1.2,by omega,by omega,fun l5 vs5 H5 f5 s5 e5 hR5=>?_⟩
           have q5:=hR5.1
           refine a31 (s5 _ _ e3) e5 (by omega) ?_
           intro l6 H6 f6 s6 e6
           walk_at "run"
           have s36:=s3.trans (s5.trans s6)
           refine a22 (SqT.of (s36 _ _ ea')) (a05 (j:=3) rfl) ?_
           walk_at "run"
           refine ⟨u3,y,nm,k,lp,rfl,hy.same s36,hws.2.2.2,by omega,by omega,fun l7 vs7 H7 f7 s7 e7 hR7=>?_⟩
           have q7:=hR7.1
           refine a31 (s7 _ _ e6) e7 (by rw [List.length_append]; omega) ?_
           intro l8 H8 f8 s8 e8
           have s38:=s36.trans (s7.trans s8)
           refine ⟨by omega,l8,_,_,rfl,s38,a42 (s36.trans s7) f8,e8,?_⟩
           rw [lpsS,←List.append_assoc]
           exact ((ac1 hR (s5.trans (s6.trans (s7.trans s8)))).append (ac1 hR5 (s6.trans (s7.trans s8)))).append (ac1 hR7 s8)
       · refine a23 h1 ?_
         walk_at "run"
         refine ⟨by omega,fl,vs,_,rfl,s3,f3,e3,?_⟩
         by_cases h3:st.wd=Str.ofString "loop"
         · exact hR1 h3
         · have:lpsS st=[]:=by
            cases st with
            | loop x=>exact absurd rfl h3
            | test c x y=>exact absurd rfl h1
            | wait n bs=>rfl
            | put n e=>rfl
            | plain ps=>rfl
           rw [this,List.append_nil]
           exact hR2 h3
     · rintro σ' H2 ⟨_,fl,vs,y2,rfl,s2,f2,e2,hR⟩
       walk_at "run"
       rw [List.take_of_length_le (Nat.le_of_eq hE.1.symm)] at hR
       exact q fl vs H2 f2 s2 e2 hR
theorem bg2 {ts:Tks}{ns:List Str}(h:TksX ts ns):dueL ts ts=[]↔∀ t∈ts,∀ x∈lpsB t.2,NDr ts x:=by
 have hdry:=h.v.dry
 unfold dueL
 rw [List.flatMap_eq_nil_iff]
 constructor
 · intro hd t ht x hx
   have h1:=hd t ht
   rw [List.replicate_eq_nil_iff,List.countP_eq_zero] at h1
   obtain ⟨i,_,hw,_⟩:=h.b t ht
   have hm:=(bf5 hw.2 x).mpr hx
   have h2:=h1 _ hm
   obtain ⟨E,hE⟩:=hdry t ht x hm
   have h3:ad1 ts (.loop x)=dryE E:=by simp only [ad1,hE]
   rw [h3] at h2
   unfold dryE at h2
   refine ⟨E,hE,fun z=>h2 ?_,fun z=>h2 ?_⟩
   · rw [decide_eq_true z]; rfl
   · rw [decide_eq_true z,Bool.or_true]
 · intro hd t ht
   rw [List.replicate_eq_nil_iff,List.countP_eq_zero]
   intro s hs hdr
   cases s with
   | loop x =>
     obtain ⟨i,_,hw,_⟩:=h.b t ht
     obtain ⟨E,hE,h1,h2⟩:=hd t ht x ((bf5 hw.2 x).mp hs)
     have h3:ad1 ts (.loop x)=dryE E:=by simp only [ad1,hE]
     rw [h3] at hdr
     unfold dryE at hdr
     rw [decide_eq_false h1,decide_eq_false h2] at hdr
     cases hdr
   | _=>cases hdr
theorem and1 {x:Int}(h:0≤x):Builtin.bitAnd x 1=0∨Builtin.bitAnd x 1=1:=by
 have e:Builtin.bitAnd x 1=((x.toNat % 2:Nat):Int):=by
  unfold Builtin.bitAnd
  rw [decide_eq_true h]
  show (((x.toNat &&& (1:Int).toNat:Nat)):Int)=_
  rw [show (1:Int).toNat=1 from rfl,Nat.and_one_is_mod]
 rw [e]
 omega
theorem sqO {K:PySem.W.Frag}{dk l:Addr}{H H1 H2:Hp}{a:Addr}{xs:List V}(h:SqL K H a xs) (s:Same H H1) (f1:H dk=none) (f2:H l=none) (o:OfD dk l H1 H2):SqL K H2 a xs:=by
 have go:∀ {x:HO},H a=some x→H2 a=some x:=fun {x} e=>o.at (fun z=>by rw [z,f1] at e; cases e) (fun z=>by rw [z,f2] at e; cases e) (s _ _ e)
 rcases h with (h | ⟨x,h⟩) | h
 · exact .inl (.inl (go h))
 · exact .inl (.inr ⟨x,go h⟩)
 · exact .inr h
theorem ca0 (T:Txt K mg t):FnOk P w K mg base CX0 130 t.a_law t.fd_law ["script"] (as9 K):=by
 have G__law_cell_at:=ad7 (P:=P) (w:=w) (base:=base) T
 have G__law_comes_back:=ai1 (P:=P) (w:=w) (base:=base) T
 have G__law_deck:=ay4 (P:=P) (w:=w) (base:=base) T
 have G__law_loops:=av6 (P:=P) (w:=w) (base:=base) T
 have G__law_rests:=av5 (P:=P) (w:=w) (base:=base) T
 have G__law_talks:=av2 (P:=P) (w:=w) (base:=base) T
 have G_sound:=bl6 (P:=P) (w:=w) (base:=base) T
 refine T.f_law.F.ok sc_law (fun vs H Q E h=>?_) (fun cdv A outer s H vs Q E hr h=>?_)
 · obtain ⟨a,ns,rfl,_⟩:=h
   rfl
 · obtain ⟨a,ns,rfl,hS,hn,q⟩:=h
   replace G__law_loops:=G__law_loops 6
   refine ⟨_,(@a02 _ _ _ _ _ (@a18 _ _ 1 _ _ _ _ sc_law.nd rfl (by walk_at "o") (@a09 _ _ _ _ _ _ _ _ _ _ _ _ _ _ _ _ G__law_talks (hr.mono (by omega)) rfl T.f__law_talks.m T.f__law_talks.F.kp T.f__law_talks.b .nil a19 (@a00 _ _ _ _ _ (@a09 _ _ _ _ _ _ _ _ _ _ _ _ _ _ _ _ G__law_deck (hr.mono (by omega)) rfl T.f__law_deck.m T.f__law_deck.F.kp T.f__law_deck.b .nil a19 (@a00 _ _ _ _ _ (pv 0) (@a01 _) (by rfl)) (by decide) (by rfl) (by rfl)) (@a01 _) (by rfl)) (by decide) (by rfl) (by rfl)) (by rfl) (by walk_at "o"))
    (@a02 _ _ _ _ _ (@a18 _ _ 2 _ _ _ _ sc_law.nd rfl (by walk_at "o") (@a50 _ _ _ _ _ _ _ _ _ az6 (by rfl) T.z_abs bn3 (@a00 _ _ _ _ _ (@a09 _ _ _ _ _ _ _ _ _ _ _ _ _ _ _ _ G__law_cell_at (hr.mono (by omega)) rfl T.f__law_cell_at.m T.f__law_cell_at.F.kp T.f__law_cell_at.b .nil a19 (@a00 _ _ _ _ _ (pv 0) (@a00 _ _ _ _ _ (@a03 _ _ _ _) (@a01 _) (by rfl)) (by rfl)) (by decide) (by rfl) (by rfl)) (@a01 _) (by rfl)) (by decide) (by decide) (by rfl) (by rfl)) (by rfl) (by walk_at "o"))
    (@a02 _ _ _ _ _ (@a18 _ _ 3 _ _ _ _ sc_law.nd rfl (by walk_at "o") (@a33 _ _ _ _ _ _ _ _ a21 (af3 (Nt:=["k"]) (Nf:=["last"]) (caps:=[2]) rfl (a45 (sc:=a06 br5) rfl rfl (by decide +kernel) (by decide +kernel) (by decide +kernel) rfl (by decide +kernel)) (aa8 rfl T.z_range (@a00 _ _ _ _ _ (@a03 _ _ _ _) (@a01 _) (by rfl))) (fun _ _ _ _ _=>(a16 (i:=0) (show (["k","last"]:List Str).Nodup by decide +kernel) rfl (by walk_at "o"))) (fun _ _ _ _ _=>(@a92 _)) (fun _ _ _ _ _=>(@a33 _ _ _ _ _ _ _ _ bz3 (@a33 _ _ _ _ _ _ _ _ bz2 (pv 1) (pv 0)) (@a03 _ _ _ _)))) (@a13 _ _ _ _ (@a00 _ _ _ _ _ (@a03 _ _ _ _) (@a00 _ _ _ _ _ (@a03 _ _ _ _) (@a01 _) (by rfl)) (by rfl)))) (by rfl) (by walk_at "o"))
    (@a02 _ _ _ _ _ (@a30 _ _ _ _ _ _ _ _ (ab3 K (@a09 _ _ _ _ _ _ _ _ _ _ _ _ _ _ _ _ G_sound (hr.mono (by omega)) rfl T.f_sound.m T.f_sound.F.kp T.f_sound.b .nil a19 (@a00 _ _ _ _ _ (@a26 _ _ _ _ _ (@a00 _ _ _ _ _ (@a13 _ _ _ _ (@a00 _ _ _ _ _ (@a26 _ _ _ _ _ (@a00 _ _ _ _ _ (@a08 _ _ _ _) (@a00 _ _ _ _ _ (@a03 _ _ _ _) (@a01 _) (by rfl)) (by rfl))) (@a01 _) (by rfl))) (@a00 _ _ _ _ _ (@ak1 _ _ _ _ _ _ _ _ _ (b05 K) (by rfl) T.z_list b99 (@a00 _ _ _ _ _ (pv 1) (@a01 _) (by rfl)) (by decide) (by decide) (by rfl) (by rfl)) (@a01 _) (by rfl)) (by rfl))) (@a01 _) (by rfl)) (by decide) (by rfl) (by rfl)) (fun _=>rfl)) (@a04 _ _ _ (@a14 _ _ _ _ (@a09 _ _ _ _ _ _ _ _ _ _ _ _ _ _ _ _ G__law_rests (hr.mono (by omega)) rfl T.f__law_rests.m T.f__law_rests.F.kp T.f__law_rests.b .nil a19 (@a00 _ _ _ _ _ (pv 1) (@a00 _ _ _ _ _ (pv 3) (@a01 _) (by rfl)) (by rfl)) (by decide) (by rfl) (by rfl)))) (@a11 _))
    (@a02 _ _ _ _ _ (@a69 _ _ _ _ _ _ _ _ PassesOwn.never rfl (a25 K (pv 1)) (a93 K (n:=2) rfl (a34 (a16 (i:=4) sc_law.nd rfl (by walk_at "o")) (a34 (a16 (i:=5) sc_law.nd rfl (by walk_at "o")) (@a91 _)))) (@a04 _ _ _ (@a69 _ _ _ _ _ _ _ _ PassesOwn.never rfl (a25 K (@a09 _ _ _ _ _ _ _ _ _ _ _ _ _ _ _ _ G__law_loops (hr.mono (by omega)) rfl T.f__law_loops.m T.f__law_loops.F.kp T.f__law_loops.b .nil a19 (@a00 _ _ _ _ _ (pv 5) (@a01 _) (by rfl)) (by decide) (by rfl) (by rfl))) (a16 (i:=6) sc_law.nd rfl (by walk_at "o")) (@a04 _ _ _ (@a30 _ _ _ _ _ _ _ _ (ab3 K (@a09 _ _ _ _ _ _ _ _ _ _ _ _ _ _ _ _ G__law_comes_back (hr.mono (by omega)) rfl T.f__law_comes_back.m T.f__law_comes_back.F.kp T.f__law_comes_back.b .nil a19 (@a00 _ _ _ _ _ (pv 1) (@a00 _ _ _ _ _ (pv 6) (@a01 _) (by rfl)) (by rfl)) (by decide) (by rfl) (by rfl)) (fun _=>rfl)) (@a04 _ _ _ (@a14 _ _ _ _ (@ah1 _ _ _ _))) (@a11 _))) (by intro _; rfl))) (by intro _; rfl))
    (@a04 _ _ _ (@a14 _ _ _ _ (@ah1 _ _ _ _)))))))),?_⟩
   have sl:(1000000:Nat)≤sizeLine:=le_line (Nat.le_refl _)
   walk_at "go"
   refine ⟨a,ns,rfl,hS,hn,fun dk l H1 fdk fl s1 k1=>?_⟩
   walk_at "run"
   refine ⟨dk,l,rfl,k1,fun tl us ts nm H2 o2 et hEt hX=>?_⟩
   walk_at "run"
   refine ⟨a,ns,58,rfl,sqO hS s1 fdk fl o2,fun z0=>?_⟩
   walk_at "run"
   obtain ⟨z,hz,hz0⟩:∃ z:Int,(if z0<0 then -z0 else z0)=z∧0≤z:=⟨_,rfl,by split <;> omega⟩
   rw [hz,show Int.toNat 20=20 from rfl]
   refine b04 (lo:=0) (n:=20) (by omega) (fun i acc H'=>H'=H2∧∃ ws:List Int,acc=ws.map V.int∧ws.length=i∧∀ u∈ws,u=0∨u=1) ⟨rfl,[],rfl,rfl,fun u h=>by cases h⟩ (fun i acc H' zz=>by
    obtain ⟨_,ws,rfl,hl,_⟩:=zz
    rw [List.length_map,hl]; exact Nat.le_refl _) ?_ ?_
   · rintro i acc H' hi ⟨rfl,ws,rfl,hl,h01⟩
     walk_at "run"
     refine ⟨rfl,ws++[_],by rw [List.map_append]; rfl,by rw [List.length_append,hl]; rfl,fun u hu=>?_⟩
     rcases List.mem_append.mp hu with hu | hu
     · exact h01 u hu
     · rw [List.mem_singleton.mp hu]
       exact and1 (Int.ediv_nonneg hz0 (Int.le_of_lt (Int.pow_pos (by decide))))
   · rintro acc H' ⟨rfl,ws,rfl,hl,h01⟩ w1 H3 f3 s3 e3
     walk_at "run"
     intro w2 H4 f4 s4 e4
     refine a31 (s4 _ _ e3) e4 (by rw [List.length_map,hl]; simp only [List.length_cons,List.length_nil]; omega) ?_
     intro wl H5 f5 s5 e5
     walk_at "run"
     have s25:=s3.trans (s4.trans s5)
     have hWy:∀ {Hk:Hp},Same H5 Hk→WyAt (fun a=>a=wl) Hk (.ref wl):=fun s=>.inr ⟨wl,ws++[1,0],rfl,rfl,by rw [s _ _ e5,List.map_append]; rfl,by simp,by rw [List.length_append,hl]; decide,fun u hu=>by
      rcases List.mem_append.mp hu with hu | hu
      · exact h01 u hu
      · simp at hu; omega⟩
     have wlH:H' wl=none:=a42 (s3.trans s4) f5
     intro b1 H6 f6 s6 e6
     walk_at "run"
     intro b2 H7 f7 s7 e7
     walk_at "run"
     have s57:=s6.trans s7
     refine ba1 (SqL.of ((s25.trans s57) _ _ et)) ?_
     intro b3 H8 f8 s8 e8
     walk_at "run"
     intro ph H9 f9 s9 e9
     walk_at "run"
     have s59:=s57.trans (s8.trans s9)
     have s29:=s25.trans s59
     have hEt9:Each (TkN H9) us ts:=hEt.mono fun _ _ z=>z.same s29
     have hul:=hEt.1
     have htl:=hX.tl
     have hSc:ScrO 8 H9 ph ts (bnx 1) (fun c=>nm.idxOf c):=⟨⟨b2,b3,_,e9,(s8.trans s9) _ _ e7,Each.nil.snoc ⟨b1,_,rfl,(s7.trans (s8.trans s9)) _ _ e6⟩,⟨b3,us,rfl,s9 _ _ e8,hEt9,by omega⟩⟩,by decide +kernel,by decide,hX.ne,hX.v.tko,hX.v.dry⟩
     refine ⟨ph,ts,bnx 1,8,_,rfl,hSc,fun H10 s10=>?_⟩
     walk_at "run"
     have s2A:=s29.trans s10
     have htk:∀ {Hk:Hp},Same H' Hk→TksAt Hk (.ref tl) ts:=fun s=>⟨tl,us,rfl,s _ _ et,hEt.mono fun _ _ z=>z.same s,by omega⟩
     by_cases hdue:dueL ts ts=[]
     · rw [if_pos (decide_eq_true hdue)]
       walk_at "run"
       refine ⟨.ref tl,wl,ts,nm,rfl,htk fun b o e=>?_,hX,hWy (s59.trans s10),(bg2 hX).mp hdue,fun H11=>q _⟩
       rw [wpG (fun z=>by rw [z,wlH] at e; cases e)]
       exact s2A _ _ e
     · rw [if_neg (by simp [hdue])]
       walk_at "run"
       have hut:=hEt.1
       refine ⟨⟨us,SqL.of (s2A _ _ et)⟩,a60 (xs:=us) (fun i σ H''=>i≤us.length∧∃ (y4 y5 y6:Option V),σ=[some (.ref a),some (.ref tl),some (.int z),some (.ref wl),y4,y5,y6]∧Same H' H''∧∀ t∈ts.take i,∀ x∈lpsB t.2,NDr ts x) ⟨Nat.zero_le _,_,_,_,rfl,s2A,fun t ht=>by cases ht⟩ (fun i σ H'' _ zz=>by obtain ⟨_,_,_,_,_,z,_⟩:=zz; exact SqL.of (z _ _ et)) ?_ ?_⟩
       · rintro i sv σ HA hi ⟨_,y4,y5,y6,rfl,sA,hAll⟩
         obtain ⟨x,hx⟩:∃ x,ts[i]?=some x:=⟨_,List.getElem?_eq_getElem (by rw [← hEt.1]; exact (List.getElem?_eq_some_iff.mp hi).1)⟩
         have hxm:=List.mem_of_getElem? hx
         obtain ⟨pa,u,rfl,ep,hbu⟩:=hEt.2 i _ _ hi hx
         obtain ⟨j,hw1,hw2,hw3,hw4⟩:=hX.b x hxm
         have hlt:i<us.length:=(List.getElem?_eq_some_iff.mp hi).1
         have hj:=(List.getElem?_eq_some_iff.mp hw1).1
         have hnl:=hX.c.l
         walk_at "run"
         refine c35 (SqT.of (sA _ _ ep)) rfl ?_
         walk_at "run"
         refine ⟨u,x.2,nm.drop (j+1),5,false,rfl,hbu.same sA,hw2.2,by omega,by omega,fun l2 us2 HB fB sB eB hEB=>?_⟩
         refine ⟨l2,rfl,⟨us2,SqL.of eB⟩,a60 (xs:=us2) (fun i2 σ H''=>i2≤us2.length∧∃ (y6:Option V),σ=[some (.ref a),some (.ref tl),some (.int z),some (.ref wl),some (.str x.1),some u,y6]∧Same HB H''∧∀ y∈(lpsB x.2).take i2,NDr ts y) ⟨Nat.zero_le _,_,rfl,Same.refl _,fun y hy=>by cases hy⟩ (fun i σ H'' _ zz=>by obtain ⟨_,_,_,z,_⟩:=zz; exact SqL.of (z _ _ eB)) ?_ ?_⟩
         · rintro i2 lv σ HC hi2 ⟨_,y6,rfl,sC,hAll2⟩
           obtain ⟨lo,hlo⟩:∃ lo,(lpsB x.2)[i2]?=some lo:=⟨_,List.getElem?_eq_getElem (by rw [← hEB.1]; exact (List.getElem?_eq_some_iff.mp hi2).1)⟩
           have hlm:=List.mem_of_getElem? hlo
           have hlt2:i2<us2.length:=(List.getElem?_eq_some_iff.mp hi2).1
           have hlv:=(hEB.2 i2 _ _ hi2 hlo).same sC
           obtain ⟨g1,g2⟩:=bf6 (d:=2) (j:=j+1) (by omega) hw2.2 hw3 hw4 lo hlm
           walk_at "run"
           refine ⟨.ref tl,lv,ts,nm,lo,2,4,rfl,htk (sA.trans (sB.trans sC)),hX,hlv,g1,g2,Nat.le_refl _,Nat.le_refl _,fun r HD sD hr=>?_⟩
           walk_at "run"
           cases r with
           | true =>
             walk_at "run"
             exact q _
           | false =>
             walk_at "run"
             refine ⟨by omega,_,rfl,sC.trans sD,fun y hy=>?_⟩
             rw [List.take_add_one,hlo] at hy
             rcases List.mem_append.mp hy with hy | hy
             · exact hAll2 y hy
             · rw [List.mem_singleton.mp hy]
               obtain ⟨E,hE⟩:=g2.e hX.c (Nat.le_refl _) (by decide)
               obtain ⟨j2,_,hwj⟩:=g2.w
               have no:¬ (.on∈E∨.again∈E):=fun z=>by
                have:=hr (bu8 hX.c hwj hE z)
                cases this
               exact ⟨E,hE,fun z=>no (.inl z),fun z=>no (.inr z)⟩
         · rintro σ HC ⟨_,y6,rfl,sC,hAll2⟩
           rw [List.take_of_length_le (Nat.le_of_eq hEB.1.symm)] at hAll2
           refine ⟨by omega,_,_,_,rfl,sA.trans (sB.trans sC),fun t ht=>?_⟩
           rw [List.take_add_one,hx] at ht
           rcases List.mem_append.mp ht with ht | ht
           · exact hAll t ht
           · rw [List.mem_singleton.mp ht]; exact hAll2
       · rintro σ HA ⟨_,y4,y5,y6,rfl,sA,hAll⟩
         rw [List.take_of_length_le (Nat.le_of_eq hut.symm)] at hAll
         exact absurd ((bg2 hX).mpr hAll) hdue
end
theorem all_mk {l:PySem.W.OpenLaw}{w:World}{K:PySem.W.Frag}{h:Heap}{mg:Str→Option Value}{fa:Addr}(X:K.In h) (G:h.Ns mainGlobals mg) (hfa:mg "law"=some (.ref fa)) (hF:HF w.params K):∃ fd:FuncData,(∀ (s:Shared) (v:Value),BindsTo s fd ⟨[v],[]⟩ [("script",v)])∧∀ base:Heap,K.In base→base.Ns mainGlobals mg→FnOk l.prog w K mg base CX0 130 fa fd ["script"] (as9 K):=by
 obtain ⟨t,T⟩:=hF
 have T:=T mg h X G
 have e:=hfa.symm.trans T.f_law.m
 cases e
 obtain ⟨_,_,_,_,_,_,_,_,_,e,_⟩:=T.f_law.F.ex
 exact ⟨_,fun s v=>by rw [e]; exact .of_eq rfl,fun base _ _=>ca0 T⟩
end K16
theorem PySem.Challenge.cw_callmill_k16_whole_sound_scripts_rest_holds : PySem.Challenge.rw_callmill_k16_whole_sound_scripts_rest.Holds := by
  exact K16.head fun K hF w mg fa h KX G hmg => K16.all_mk KX G hmg (hF w.params)
