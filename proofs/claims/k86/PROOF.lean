import PyProof.Rows.All
import Wide.All
import OpenK.KLine
import KE.KItem
import Wide.FinOn
import Lean
import PyProof.EqAt
import PyProof.EqKinds
import PyProof.TupleCall
import PyProof.NeKinds
import PyProof.DictUpdate
import PyProof.AttrMissHeap
import KE.KDictOf
import PyProof.TupleIter
import PyProof.WalksEnum
import PyProof.EnumMake
import PyProof.Rows.EnumRows
import PyProof.Rows.MaxTwoN
import PyProof.ZipIter
import PyProof.IsRules
import PyProof.DictRoadsH
import Wide.Seal
import PyProof.MeetsDict
import PyProof.DictIter
import PyProof.DictWalks
import KE.KDictList
import PyProof.Rows.SumAny
import PyProof.ListRange
import PyProof.AutoSeq1
import PyProof.WalkInts
import PyProof.SeqI3
import KE.KTextTable
import PyProof.MeetsStr
import PyProof.StrCalls5
import PyProof.Rows.TupDisplay
import PyProof.Rows.TupAdd
import PyProof.Rows.StrNews2
import PyProof.StrBlockI
import PyProof.DictTruth
import PyProof.Rows.SortShell
import PyProof.DictValues
import PyProof.ConsumeS
import PyProof.Draws
import PyProof.Rows.SetFrom
import PyProof.FactsAll.set_1
import KE.KDictSum
import PyProof.Rows.SortStr
import PyProof.Rows.SortWalk
import PyProof.Rows.TmSorted
import PyProof.Rows.CallKwBuiltin
import PySem.Challenge.RW_callmill_k86_whole_halls_of_other_machin
set_option Elab.async false
set_option linter.all false
set_option maxRecDepth 100000
set_option maxHeartbeats 4000000
namespace L2
open PySem PySem.Spec PyProof.Rows
abbrev Key:=Sum Int Str
def keyIs:Key→Value→Bool
 | .inl k,v=>Value.isInt k v
 | .inr x,v=>Value.isStrOf x v
def keyH (w:World):Key→Int
 | .inl k=>hashInt k
 | .inr x=>hashStr w x
theorem a82:∀ {k:Key}{v:Value},keyIs k v=true→(∃ i t,k=Sum.inl i∧v=Value.int i t)∨(∃ x t,k=Sum.inr x∧v=Value.str x t)
 | .inl i,v,h=>by
   obtain ⟨t,e⟩:=Value.isInt_shape (k:=i) (v:=v) h
   exact .inl ⟨i,t,rfl,e⟩
 | .inr x,v,h=>by
   obtain ⟨t,e⟩:=Value.isStrOf_shape (x:=x) (v:=v) h
   exact .inr ⟨x,t,rfl,e⟩
theorem by3 (a b:Int):decide ((Sum.inl a:Key)=Sum.inl b)=(a == b):=by
 by_cases e:a=b
 · subst e; simp
 · have h:¬ (Sum.inl a:Key)=Sum.inl b:=fun q=>e (Sum.inl.inj q)
   rw [decide_eq_false h]
   exact (beq_eq_false_iff_ne.mpr e).symm
theorem by4 (a b:Str):decide ((Sum.inr a:Key)=Sum.inr b)=decide (a=b):=by
 by_cases e:a=b
 · subst e; simp
 · have h:¬ (Sum.inr a:Key)=Sum.inr b:=fun q=>e (Sum.inr.inj q)
   rw [decide_eq_false h,decide_eq_false e]
theorem by5 (a:Int) (b:Str):decide ((Sum.inl a:Key)=Sum.inr b)=false:=decide_eq_false (fun q=>nomatch q)
theorem by6 (a:Str) (b:Int):decide ((Sum.inr a:Key)=Sum.inl b)=false:=decide_eq_false (fun q=>nomatch q)
def mixKind (prog:Program) (w:World):PySem.KeyKind prog w Key where
 is:=keyIs
 hash:=keyH w
 inj:=fun v a b ha hb=>by
  rcases a82 ha with ⟨i,t,rfl,rfl⟩ | ⟨x,t,rfl,rfl⟩
  · rcases a82 hb with ⟨j,u,rfl,e⟩ | ⟨y,u,rfl,e⟩
    · injection e with e1 _; rw [e1]
    · exact nomatch e
  · rcases a82 hb with ⟨j,u,rfl,e⟩ | ⟨y,u,rfl,e⟩
    · exact nomatch e
    · injection e with e1 _; rw [e1]
 byValue:=fun k v h=>by
  rcases a82 h with ⟨i,t,rfl,rfl⟩ | ⟨x,t,rfl,rfl⟩ <;> rfl
 pyHash:=fun hv h=>by
  rcases a82 hv with ⟨i,t,rfl,rfl⟩ | ⟨x,t,rfl,rfl⟩
  · exact wpAny_pyHash_int h
  · exact wpAny_pyHash_str h
 eqBool:=fun hu hv h=>by
  rcases a82 hu with ⟨i,t,rfl,rfl⟩ | ⟨x,t,rfl,rfl⟩
  · rcases a82 hv with ⟨j,u,rfl,rfl⟩ | ⟨y,u,rfl,rfl⟩
    · rw [by3] at h; exact wpAny_eqBool_int h
    · rw [by5] at h; exact SeqAt.EqAt.int_str i t y u _ _ _ _ h
  · rcases a82 hv with ⟨j,u,rfl,rfl⟩ | ⟨y,u,rfl,rfl⟩
    · rw [by6] at h; exact SeqAt.EqAt.str_int x t j u _ _ _ _ h
    · rw [by4] at h; exact wpAny_eqBool_str h
 «strs»:=fun k x t v h=>by
  rcases a82 h with ⟨i,u,rfl,e⟩ | ⟨y,u,rfl,e⟩
  · exact nomatch e
  · injection e with e1 _
    subst e1
    cases v <;> rfl
inductive V where
 | non | bl (b:Bool) | int (i:Int) | str (x:Str) | byt (b:Array UInt8) | flt (b:UInt64) | ref (a:Addr) | ty (n:String)
 deriving DecidableEq
def RelV:V→Value→Prop
 | .non,u=>u=Value.none
 | .bl b,u=>u=Value.bool b
 | .int i,u=>∃ t,u=Value.int i t
 | .str x,u=>∃ t,u=Value.str x t
 | .byt b,u=>∃ t,u=Value.bytes b t
 | .flt b,u=>∃ t,u=Value.float b t
 | .ref a,u=>u=Value.ref a
 | .ty n,u=>u=Value.type n
abbrev Vals:List V→List Value→Prop:=Paired RelV
theorem Vals.length {xs:List V}{us:List Value}(r:Vals xs us):xs.length=us.length:=Paired.length r
theorem Vals.get:∀ {xs:List V}{us:List Value}{i:Nat}{x:V},Vals xs us→xs[i]?=some x→∃ u,us[i]?=some u∧RelV x u
 | _,_,_,_,.nil,e=>by simp at e
 | _,_,0,_,.cons r _,e=>by simp at e; subst e; exact ⟨_,rfl,r⟩
 | _,_,i+1,x,.cons _ t,e=>by
   obtain ⟨u,h1,h2⟩:=Vals.get (i:=i) (x:=x) t (by simpa using e)
   exact ⟨u,by simpa using h1,h2⟩
theorem Vals.set {x:V}{u:Value}(r:RelV x u):∀ {xs:List V}{us:List Value}(i:Nat),Vals xs us→Vals (xs.set i x) (us.set i u)
 | _,_,_,.nil=>.nil
 | _,_,0,.cons _ t=>.cons r t
 | _,_,i+1,.cons q t=>.cons q (Vals.set r i t)
theorem Vals.append:∀ {xs ys:List V}{us ws:List Value},Vals xs us→Vals ys ws→Vals (xs++ys) (us++ws)
 | _,_,_,_,.nil,s=>s
 | _,_,_,_,.cons r t,s=>.cons r (Vals.append t s)
theorem Vals.take:∀ {xs:List V}{us:List Value}(n:Nat),Vals xs us→Vals (xs.take n) (us.take n)
 | _,_,0,_=>.nil
 | _,_,_+1,.nil=>.nil
 | _,_,n+1,.cons r t=>.cons r (Vals.take n t)
theorem Vals.drop:∀ {xs:List V}{us:List Value}(n:Nat),Vals xs us→Vals (xs.drop n) (us.drop n)
 | _,_,0,r=>r
 | _,_,_+1,.nil=>.nil
 | _,_,n+1,.cons _ t=>Vals.drop n t
def RelO:Option V→Option Value→Prop
 | some v,some u=>RelV v u
 | none,none=>True
 | _,_=>False
def KV {κ:Type}:List (κ×V)→List (κ×Value)→Prop:=Paired fun (p:κ×V) (q:κ×Value)=>p.1=q.1∧RelV p.2 q.2
def kV:Key→V
 | .inl i=>.int i
 | .inr x=>.str x
inductive HO where
 | lst (xs:List V)
 | tup (xs:List V)
 | dK (kvs:List (Key×V)) | dT (kvs:List (List Key×V))
 | set (S:Int→Bool) (n:Nat)
 | ins (C dx:Addr) (fs:List (Str×V))
 | own (x:Addr)
 | xd (fs:List (Str×V))
 | met (f x:Addr)
 | rng (lo hi:Int)
 | frz (o:Obj) (u:HO)
 | tbl (ps:Array Value)
 | ext (φ:Heap→Prop)
abbrev Hp:=Addr→Option HO
def upd (H:Hp) (a:Addr) (o:HO):Hp:=fun b=>if b=a then some o else H b
theorem a34 {H:Hp}{a:Addr}{o:HO}:upd H a o a=some o:=by unfold upd; rw [if_pos rfl]
theorem a08 {H:Hp}{a b:Addr}{o:HO}(h:b≠a):upd H a o b=H b:=by unfold upd; rw [if_neg h]
theorem br3 {H:Hp}{a:Addr}{o u:HO}:upd (upd H a o) a u=upd H a u:=by
 funext b; unfold upd; split <;> rfl
theorem ac8 {H:Hp}{a b:Addr}{o u:HO}(h:H a=some o) (h':H b=some u) (d:o≠u):a≠b:=by
 intro e; subst e; rw [h] at h'; exact d (Option.some.inj h')
theorem a03 {H:Hp}{a b:Addr}{o:HO}(h:H a=some o) (h':H b=none):a≠b:=by
 intro e; subst e; rw [h] at h'; cases h'
section
variable (P:Program) (w:World)
def ObjOk (H:Hp) (h:Heap) (a:Addr):HO→Prop
 | .lst xs=>xs.length≤sizeLine∧∃ (its:List Value) (n:Nat),Vals xs its∧h.get? a=some { cls:=.type "list",data:=.seq its.toArray n }
 | .tup xs=>xs.length≤sizeLine∧∃ its:List Value,Vals xs its∧IsTup h a its.toArray
 | .dK kvs=>kvs.length≤sizeLine∧(a == sysModules)=false∧∃ vs,KV kvs vs∧h.DictOf (mixKind P w) a vs
 | .dT kvs=>kvs.length≤sizeLine∧(a == sysModules)=false∧∃ xs:List (List Key×Addr×Value),
  Paired (fun (p:List Key×V) (q:List Key×Addr×Value)=>p.1=q.1∧H q.2.1=some (.tup (p.1.map kV))∧RelV p.2 q.2.2) kvs xs ∧
  ∃ o es ep,h.get? a=some o∧o.ExactDict∧o.data=.dict es ep∧es.toList=xs.map (entryOfKey (tupleKind (mixKind P w)))∧(xs.map (·.1)).Nodup
 | .set S n=>h.SetOf (intKind P w) a S n
 | .ins C dx fs=>H dx=some (.own a)∧fs.length≤1000∧dx≠a∧h.get? a=some (PySem.W.instObj C dx) ∧
  ∃ mA,h.Ns1 dx mA∧(∀ f,RelO (fs.lookup f) (mA f))∧PySem.Within mA (fs.map (·.1))
 | .own _=>∃ o,h.get? a=some o
 | .xd fs=>∃ mA,h.Ns1 a mA∧∀ f,RelO (fs.lookup f) (mA f)
 | .rng lo hi=>∃ t u v,h.get? a=some { cls:=.type "range",data:=.fields #[.int lo t,.int hi u,.int 1 v] }
 | .frz o u=>h.get? a=some o∧ObjOk H h a u
 | .tbl ps=>h.get? a=some { cls:=.none,data:=.fields ps }
 | .met f x=>h.get? a=some (PySem.W.methodObj (.ref f) (.ref x))
 | .ext φ=>φ h∧(∃ o,h.get? a=some o)∧∀ h1 h2:Heap,φ h1→(∀ o,h1.get? a=some o→h2.get? a=some o)→φ h2
def HOk (H:Hp) (h:Heap):Prop:=∀ a o,H a=some o→ObjOk P w H h a o
end
section
variable {P:Program}{w:World}{H H':Hp}{h h':Heap}{a:Addr}{o:HO}
theorem ObjOk.lt (x:ObjOk P w H h a o):a<h.objs.size:=by
 cases o with
 | lst xs=>obtain ⟨_,_,_,_,e⟩:=x; exact Heap.lt_size e
 | tup xs=>obtain ⟨_,_,_,p⟩:=x; exact p.lt
 | dK kvs=>obtain ⟨_,_,_,_,o,_,_,e,_⟩:=x; exact Heap.lt_size e
 | dT kvs=>obtain ⟨_,_,_,_,o,_,_,e,_⟩:=x; exact Heap.lt_size e
 | set S n=>obtain ⟨o,_,_,_,e,_⟩:=x; exact Heap.lt_size e
 | ins C dx fs=>obtain ⟨_,_,_,e,_⟩:=x; exact Heap.lt_size e
 | own y=>obtain ⟨_,e⟩:=x; exact Heap.lt_size e
 | xd fs=>obtain ⟨_,⟨_,_,_,e,_⟩,_⟩:=x; exact Heap.lt_size e
 | rng lo hi=>obtain ⟨_,_,_,e⟩:=x; exact Heap.lt_size e
 | frz ob u=>obtain ⟨e,_⟩:=x; exact Heap.lt_size e
 | tbl ps=>exact Heap.lt_size (show h.get? a=some _ from x)
 | met f y=>exact Heap.lt_size (show h.get? a=some _ from x)
 | ext φ=>obtain ⟨_,⟨_,e⟩,_⟩:=x; exact Heap.lt_size e
theorem Paired.mapP {α β:Type}{F G:α→β→Prop}:∀ {l₁:List α}{l₂:List β},Paired F l₁ l₂→(∀ a b,F a b→G a b)→Paired G l₁ l₂
 | _,_,.nil,_=>.nil
 | _,_,.cons r t,f=>.cons (f _ _ r) (Paired.mapP t f)
theorem ObjOk.stay (x:ObjOk P w H h a o) (k:∀ b u,(b=a∨H b=some (.own a))→h.get? b=some u→h'.get? b=some u)
 (ho:∀ b,H b=some (.own a)→H' b=some (.own a)) (ht:∀ b xs,H b=some (.tup xs)→H' b=some (.tup xs)):ObjOk P w H' h' a o:=by
 induction o with
 | lst xs=>obtain ⟨z,its,n,r,e⟩:=x; exact ⟨z,its,n,r,k _ _ (.inl rfl) e⟩
 | tup xs=>obtain ⟨z,its,r,ob,e,c⟩:=x; exact ⟨z,its,r,ob,k _ _ (.inl rfl) e,c⟩
 | dK kvs=>obtain ⟨z,y,vs,r,ob,es,ep,e,c⟩:=x; exact ⟨z,y,vs,r,ob,es,ep,k _ _ (.inl rfl) e,c⟩
 | dT kvs =>
   obtain ⟨z,y,xs,r,ob,es,ep,e,c⟩:=x
   exact ⟨z,y,xs,Paired.mapP r fun p q z=>⟨z.1,ht _ _ z.2.1,z.2.2⟩,ob,es,ep,k _ _ (.inl rfl) e,c⟩
 | set S n=>obtain ⟨ob,es,ep,t,e,c⟩:=x; exact ⟨ob,es,ep,t,k _ _ (.inl rfl) e,c⟩
 | ins C dx fs =>
   obtain ⟨d,z,ne,e,mA,⟨od,es,ep,e2,c⟩,r⟩:=x
   exact ⟨ho _ d,z,ne,k _ _ (.inl rfl) e,mA,⟨od,es,ep,k _ _ (.inr d) e2,c⟩,r⟩
 | own y=>obtain ⟨ob,e⟩:=x; exact ⟨ob,k _ _ (.inl rfl) e⟩
 | xd fs=>obtain ⟨mA,⟨od,es,ep,e,c⟩,r⟩:=x; exact ⟨mA,⟨od,es,ep,k _ _ (.inl rfl) e,c⟩,r⟩
 | rng lo hi=>obtain ⟨t,u,v,e⟩:=x; exact ⟨t,u,v,k _ _ (.inl rfl) e⟩
 | frz ob u ih=>obtain ⟨e,q⟩:=x; exact ⟨k _ _ (.inl rfl) e,ih q⟩
 | tbl ps =>
   have e:h.get? a=some { cls:=.none,data:=.fields ps }:=x
   show h'.get? a=some { cls:=.none,data:=.fields ps }
   exact k a _ (.inl rfl) e
 | met f y =>
   have e:h.get? a=some (PySem.W.methodObj (.ref f) (.ref y)):=x
   show h'.get? a=some (PySem.W.methodObj (.ref f) (.ref y))
   exact k a _ (.inl rfl) e
 | ext φ=>obtain ⟨p,⟨o,e⟩,st⟩:=x; exact ⟨st _ _ p fun o q=>k _ _ (.inl rfl) q,⟨o,k _ _ (.inl rfl) e⟩,st⟩
theorem HOk.lt (x:HOk P w H h) (e:H a=some o):a<h.objs.size:=(x a o e).lt
theorem HOk.fresh (x:HOk P w H h) (e:h.objs.size≤a):H a=none:=by
 cases q:H a with
 | none=>rfl
 | some u=>exact absurd (Nat.lt_of_lt_of_le (x.lt q) e) (Nat.lt_irrefl _)
theorem HOk.kept (x:HOk P w H h) (k:∀ b u,h.get? b=some u→h'.get? b=some u):HOk P w H h':=fun a o e =>
 (x a o e).stay (fun b u _ q=>k b u q) (fun _ q=>q) fun _ _ q=>q
theorem HOk.laid (x:HOk P w H h) (k:∀ b u,h.get? b=some u→h'.get? b=some u) (hp:h.objs.size≤a) (new:ObjOk P w (upd H a o) h' a o):HOk P w (upd H a o) h':=fun b u e=>by
 have hn:=x.fresh hp
 by_cases hb:b=a
 · subst hb; rw [a34] at e; cases e; exact new
 · rw [a08 hb] at e
   exact (x b u e).stay (fun c v _ q=>k c v q) (fun c q=>by rw [a08 (a03 q hn)]; exact q) fun c xs q=>by rw [a08 (a03 q hn)]; exact q
end
def Rd (H:Hp) (a:Addr) (u:HO):Prop:=H a=some u∨∃ o,H a=some (.frz o u)
theorem Rd.ok {P:Program}{w:World}{H:Hp}{h:Heap}{a:Addr}{u:HO}(r:Rd H a u) (x:HOk P w H h):ObjOk P w H h a u:=by
 rcases r with r | ⟨o,r⟩
 · exact x a u r
 · obtain ⟨_,q⟩:=x a _ r
   exact q
def Mut:Option HO→Prop
 | some (.lst _)=>True
 | some (.dK _)=>True
 | some (.dT _)=>True
 | some (.set _ _)=>True
 | some (.ins _ _ _)=>True
 | some (.ext _)=>True
 | _=>False
section
variable {P:Program}{w:World}{H:Hp}{h h':Heap}{x e:Addr}{o':HO}
theorem HOk.write (ok:HOk P w H h) (mu:Mut (H x)) (he:e=x∨H e=some (.own x)) (k:∀ b u,b≠e→h.get? b=some u→h'.get? b=some u) (heo:∃ u,h'.get? e=some u)
 (new:ObjOk P w (upd H x o') h' x o'):HOk P w (upd H x o') h':=fun b u q=>by
 have nown:∀ c y,H c=some (.own y)→c≠x:=fun c y r z=>by subst z; rw [r] at mu; exact mu
 have ntup:∀ c xs,H c=some (.tup xs)→c≠x:=fun c xs r z=>by subst z; rw [r] at mu; exact mu
 by_cases hb:b=x
 · subst hb; rw [a34] at q; cases q; exact new
 · rw [a08 hb] at q
   by_cases hbe:b=e
   · have q':H b=some (.own x):=by
      rcases he with z | z
      · exact absurd (hbe.trans z) hb
      · rw [hbe]; exact z
     rw [q] at q'; cases q'
     obtain ⟨v,hv⟩:=heo
     exact ⟨v,by rw [hbe]; exact hv⟩
   · refine (ok b u q).stay (fun c v hc r=>k c v ?_ r) (fun c r=>by rw [a08 (nown c b r)]; exact r) fun c xs r=>by rw [a08 (ntup c xs r)]; exact r
     rcases hc with rfl | hc
     · exact hbe
     · rintro rfl
       rcases he with z | z
       · exact nown c b hc z
       · rw [hc] at z; cases z; exact hb rfl
end
structure Un (fs ex:List Addr) (H H':Hp) (h h':Heap):Prop where
 keep:∀ b o,h.get? b=some o→H b=none→b∉fs→b∉ex→h'.get? b=some o
 slot:∀ b o,h.get? b=some o→H b=none→b∈fs→b∉ex→∃ sl,h'.get? b=some { o with slots:=sl }
 free:∀ b o,h.get? b=some o→H b=none→b∉ex→H' b=none
 there:∀ b o,h.get? b=some o→b∉ex→∃ o',h'.get? b=some o'
 tups:∀ b xs,H b=some (.tup xs)→H' b=some (.tup xs)
 frzs:∀ b o u,H b=some (.frz o u)→H' b=some (.frz o u)
 tbls:∀ b ps,H b=some (.tbl ps)→∃ more,H' b=some (.tbl (ps++more))
section
variable {fs fs' ex ex':List Addr}{H H1 H2:Hp}{h h1 h2 h':Heap}{a x e:Addr}{o:HO}
theorem Un.any (u:Un fs ex H H1 h h1) {b:Addr}{ob:Obj}(q:h.get? b=some ob) (n:H b=none) (hx:b∉ex):∃ sl,h1.get? b=some { ob with slots:=sl }:=by
 by_cases hb:b∈fs
 · exact u.slot b ob q n hb hx
 · exact ⟨ob.slots,u.keep b ob q n hb hx⟩
theorem Un.kept (k:∀ b u,h.get? b=some u→h'.get? b=some u):Un fs ex H H h h' :=
 ⟨fun b ob q _ _ _=>k b ob q,fun b ob q _ _ _=>⟨ob.slots,k b ob q⟩,fun _ _ _ n _=>n,fun b ob q _=>⟨ob,k b ob q⟩,fun _ _ q=>q,fun _ _ _ q=>q,fun _ ps q=>⟨#[],by rw [q]; simp⟩⟩
theorem Un.refl:Un fs ex H H h h:=Un.kept fun _ _ q=>q
theorem Un.laid (k:∀ b u,h.get? b=some u→h'.get? b=some u) (hp:h.objs.size≤a) (hn:H a=none):Un fs ex H (upd H a o) h h' where
 keep:=fun b u q _ _ _=>k b u q
 slot:=fun b u q _ _ _=>⟨u.slots,k b u q⟩
 free:=fun b u q n _=>by rw [a08 (Nat.ne_of_lt (Nat.lt_of_lt_of_le (Heap.lt_size q) hp))]; exact n
 there:=fun b u q _=>⟨u,k b u q⟩
 tups:=fun b xs q=>by rw [a08 (a03 q hn)]; exact q
 frzs:=fun b u xs q=>by rw [a08 (a03 q hn)]; exact q
 tbls:=fun b ps q=>⟨#[],by rw [a08 (a03 q hn),q]; simp⟩
theorem Un.write (mu:Mut (H x)) (he:e=x∨H e=some (.own x)) (k:∀ b u,b≠e→h.get? b=some u→h'.get? b=some u) (heo:∃ u,h'.get? e=some u):Un fs ex H (upd H x o) h h':=by
 have hx:∀ b,H b=none→b≠x:=fun b n z=>by subst z; rw [n] at mu; exact mu
 have hb:∀ b,H b=none→b≠e:=fun b n z=>by
  subst z
  rcases he with r | r
  · exact hx b n r
  · rw [n] at r; cases r
 have hm:∀ b u,H b=some u→¬ Mut (some u)→b≠x:=fun b u q nm z=>by subst z; rw [q] at mu; exact nm mu
 refine ⟨fun b u q n _ _=>k b u (hb b n) q,fun b u q n _ _=>⟨u.slots,k b u (hb b n) q⟩,fun b u q n _=>by rw [a08 (hx b n)]; exact n,fun b u q _=>?_,
  fun b xs q=>by rw [a08 (hm b _ q fun z=>z)]; exact q,fun b u xs q=>by rw [a08 (hm b _ q fun z=>z)]; exact q,fun b ps q=>⟨#[],by rw [a08 (hm b _ q fun z=>z),q]; simp⟩⟩
 by_cases hbe:b=e
 · subst hbe; exact heo
 · exact ⟨u,k b u hbe q⟩
end
def trk (h:Heap) (H:Hp):List Addr:=(List.range h.objs.size).filter fun a=>(H a).isSome
def hidT (h:Heap) (H:Hp):Heap:=PySem.W.hideAll h (trk h H)
theorem b80 (h:Heap) (H:Hp):(hidT h H).objs.size=h.objs.size:=PySem.W.hideAll_size _ _
theorem bh1 {h:Heap}{H:Hp}{b:Addr}{o:Obj}(e:h.get? b=some o) (n:H b=none):(hidT h H).get? b=some o :=
 PySem.W.hideAll_get _ e fun hm=>by
  have q:(H b).isSome=true:=(List.mem_filter.mp hm).2
  rw [n] at q; simp at q
theorem br4 {h:Heap}{H:Hp}{b:Addr}{o:Obj}(e:(hidT h H).get? b=some o):h.get? b=some o∧H b=none:=by
 have e':h.get? b=some o:=PySem.W.of_hideAll (trk h H) e
 refine ⟨e',?_⟩
 cases q:H b with
 | none=>rfl
 | some x =>
   have hm:b∈trk h H:=List.mem_filter.mpr ⟨List.mem_range.mpr (Heap.lt_size e'),by simp [q]⟩
   have z:(hidT h H).get? b=none:=PySem.W.hideAll_none (trk h H) hm
   rw [z] at e; cases e
def allNews (g h:Heap) (L:Addr):List (Addr×Obj):=(List.range h.objs.size).filterMap fun a=>if a=L∨(g.get? a).isSome=true then none else (h.get? a).map fun o=>(a,o)
def rest (g h:Heap) (L d:Addr):List (Addr×Obj):=(allNews g h L).filter fun p=>decide (p.1≠d)
structure Mod (K:PySem.W.Frag) (mg:Str→Option Value) (base:Heap):Prop where
 kin:K.In base
 glob:base.Ns mainGlobals mg
 blt:∃ mb,base.Ns builtinsNs mb∧∀ x:Str,x≠"__name__"→mb x=bootBuiltins x
 nolimit:base.NoLimit
structure Cx where
 prog:Program
 w:World
 K:PySem.W.Frag
 mg:Str→Option Value
 base:Heap
 A:Around
 N:List Str
 s₀:Shared
 H₀:Hp
 env:Env
 outer:List Env
 stack:List Env
 ex:List Addr
 fn:Str→Bool
 calm:Bool
 pn:List (Addr×Obj)
 xe:Value→Shared→Prop
def frs (l:List Env):List Addr:=l.filterMap (·.frame)
abbrev Cx.fs (X:Cx):List Addr:=frs X.outer
def Vis (sc:Scope) (x:Str):Prop:=sc.names.lookup x=some .local∨sc.names.lookup x=some .cell∨sc.names.lookup x=some .free
def Loc (sc:Scope) (x:Str):Prop:=sc.names.lookup x=some .local∨sc.names.lookup x=some .cell
def Look (env:Env) (h:Heap) (m:Str→Option Value) (x:Str) (u:Value):Prop :=
 (env.kindOf x=some .local∧m x=some u)∨((env.kindOf x=some .cell∨env.kindOf x=some .free)∧∃ c,env.cells.lookup x=some c∧h.IsCell c (some u))
structure Cx.Ok (X:Cx):Prop where
 mod:Mod X.K X.mg X.base
 kind:X.env.scope.kind=.function
 glob:X.env.globals=mainGlobals
 blt:X.env.builtins=builtinsNs
 above:X.s₀.heap.objs.size≤X.env.locals
 inj:∀ x y c,X.env.cells.lookup x=some c→X.env.cells.lookup y=some c→x=y
 has:∀ x,(X.env.kindOf x=some .cell∨X.env.kindOf x=some .free)→∃ c,X.env.cells.lookup x=some c
 cab:∀ x c,X.fn x=true→X.env.cells.lookup x=some c→X.s₀.heap.objs.size≤c
 hd:X.calm=true→X.A.handled=none
 frames:X.A.frames=some X.stack
 stk:X.stack=X.outer∨(X.stack=X.env::X.outer∧X.env.frame=some X.env.locals)
 exf:∀ b∈X.ex,b≠X.env.locals∧∀ x c,X.env.cells.lookup x=some c→c≠b
 bs:∀ b o,X.base.get? b=some o→X.s₀.heap.get? b=some o∧X.H₀ b=none
 bsz:X.base.objs.size≤X.s₀.heap.objs.size
 noex:∀ b o,X.base.get? b=some o→b∉X.ex
 exfs:∀ b∈X.ex,b∉X.fs
 funs:X.s₀.heap.FunFrames X.base X.outer
 frf:∀ b∈X.fs,X.H₀ b=none
structure Inv (X:Cx) (pins:List (Addr×Obj)) (σ:List (Option V)) (H:Hp) (s:Shared):Prop where
 ok:X.Ok
 os:s.os=X.s₀.os
 bare:AllBare s.gens
 base:Un X.fs X.ex X.H₀ H X.s₀.heap s.heap
 loc:∃ m,s.heap.Ns X.env.locals m∧∀ (i:Nat) (x:Str) (v:V),X.N[i]?=some x→σ[i]?=some (some v)→Vis X.env.scope x→∃ u,RelV v u∧Look X.env s.heap m x u
 cell:∀ x c,X.env.cells.lookup x=some c→∃ v,s.heap.IsCell c v
 free:H X.env.locals=none
 freeC:∀ x c,X.env.cells.lookup x=some c→H c=none
 pin:∀ p∈X.pn++pins,s.heap.get? p.1=some p.2∧H p.1=none∧p.1≠X.env.locals∧p.1∉X.fs∧∀ v,p.2.data≠.cell v
 hok:HOk X.prog X.w H s.heap
 len:σ.length=X.N.length
section
variable {X:Cx}{pins:List (Addr×Obj)}{σ:List (Option V)} {H H':Hp}{s:Shared}{h':Heap}
theorem Cx.Ok.nofr (ok:X.Ok) {b:Addr}{o:Obj}(e:X.base.get? b=some o):b∉X.fs:=fun hb=>by
 have:=(ok.funs.mem hb).1
 rw [e] at this; cases this
theorem Inv.bs (I:Inv X pins σ H s):∀ b o,X.base.get? b=some o→s.heap.get? b=some o∧H b=none:=fun b o e =>
 ⟨I.base.keep b o (I.ok.bs b o e).1 (I.ok.bs b o e).2 (I.ok.nofr e) (I.ok.noex b o e),I.base.free b o (I.ok.bs b o e).1 (I.ok.bs b o e).2 (I.ok.noex b o e)⟩
theorem Inv.bk (I:Inv X pins σ H s):∀ b o,X.base.get? b=some o→s.heap.get? b=some o:=fun b o e=>(I.bs b o e).1
theorem Inv.mod (I:Inv X pins σ H s):Mod X.K X.mg X.base:=I.ok.mod
theorem Inv.kIn (I:Inv X pins σ H s):X.K.In s.heap:=I.ok.mod.kin.keeps I.bk
theorem Inv.lt (I:Inv X pins σ H s):X.env.locals<s.heap.objs.size:=let ⟨_,hn,_⟩:=I.loc; hn.lt
theorem Inv.sz (I:Inv X pins σ H s):X.s₀.heap.objs.size≤s.heap.objs.size:=Nat.le_trans I.ok.above (Nat.le_of_lt I.lt)
theorem Inv.nofs (I:Inv X pins σ H s) {a:Addr}(h:s.heap.objs.size≤a):a∉X.fs:=fun hb=>by
 obtain ⟨_,o,ho,_⟩:=I.ok.funs.mem hb
 exact absurd (Nat.lt_of_lt_of_le (Heap.lt_size ho) (Nat.le_trans I.sz h)) (Nat.lt_irrefl _)
theorem Inv.cne (I:Inv X pins σ H s):∀ x c,X.env.cells.lookup x=some c→c≠X.env.locals:=fun x c e z=>by
 obtain ⟨v,o,ho,hd⟩:=I.cell x c e
 obtain ⟨m,⟨o',es,ep,ho',hd',_⟩,_⟩:=I.loc
 rw [z,ho'] at ho; cases ho; rw [hd'] at hd; cases hd
theorem Inv.funs (I:Inv X pins σ H s):s.heap.FunFrames X.base X.outer:=by
 have all:∀ (l:List Env),(∀ b∈frs l,b∈X.fs)→X.s₀.heap.FunFrames X.base l→s.heap.FunFrames X.base l:=by
  intro l
  induction l with
  | nil=>intro _ _; trivial
  | cons env r ih =>
    intro hs hl
    obtain ⟨hk,⟨L,o,hf,hn,ho,hd⟩,hr⟩:=hl
    have hL:L∈X.fs:=hs L (by unfold frs; rw [List.filterMap_cons,hf]; exact List.mem_cons_self)
    obtain ⟨sl,e⟩:=I.base.slot L o ho (I.ok.frf L hL) hL fun z=>I.ok.exfs L z hL
    exact ⟨hk,⟨L,_,hf,hn,e,hd⟩,ih (fun b hb=>hs b (by unfold frs; rw [List.filterMap_cons,hf]; exact List.mem_cons_of_mem _ hb)) hr⟩
 exact all X.outer (fun _ hb=>hb) I.ok.funs
theorem Inv.stack (I:Inv X pins σ H s):s.heap.FunFrames X.base X.stack:=by
 rcases I.ok.stk with e | ⟨e,hf⟩
 · rw [e]; exact I.funs
 · rw [e]
   obtain ⟨m,hn,_⟩:=I.loc
   refine .cons (by rw [I.ok.kind]; decide) hf hn ?_ I.funs
   exact Heap.get?_none_of_le (Nat.le_trans I.ok.bsz I.ok.above)
theorem Inv.stkSub (I:Inv X pins σ H s):∀ b∈frs X.stack,b∈X.env.locals::X.fs:=fun b hb=>by
 rcases I.ok.stk with e | ⟨e,hf⟩
 · rw [e] at hb; exact List.mem_cons_of_mem _ hb
 · rw [e] at hb
   unfold frs at hb
   rw [List.filterMap_cons,hf] at hb
   exact hb
theorem Inv.stkFree (I:Inv X pins σ H s):∀ b∈frs X.stack,H b=none:=fun b hb=>by
 rcases List.mem_cons.mp (I.stkSub b hb) with e | hb
 · rw [e]; exact I.free
 · obtain ⟨_,o,ho,_⟩:=I.ok.funs.mem hb
   exact I.base.free b o ho (I.ok.frf b hb) fun z=>I.ok.exfs b z hb
theorem Inv.step {g':Array GenState}{t':Nat}{d':Drawn}{ch:List Addr}(I:Inv X pins σ H s)
 (hch:∀ b∈ch,(b∈X.ex∨X.s₀.heap.objs.size≤b)∧b≠X.env.locals∧(∀ x c,X.env.cells.lookup x=some c→c≠b)∧∀ p∈X.pn++pins,p.1≠b)
 (keep:∀ b o,b≠X.env.locals→b∉X.fs→b∉ch→s.heap.get? b=some o→H b=none→h'.get? b=some o)
 (slot:∀ b o,b≠X.env.locals→b∈X.fs→b∉ch→s.heap.get? b=some o→H b=none→∃ sl,h'.get? b=some { o with slots:=sl }) (free:∀ b o,b∉ch→s.heap.get? b=some o→H b=none→H' b=none)
 (there:∀ b o,b∉ch→s.heap.get? b=some o→∃ o',h'.get? b=some o')
 (tups:∀ b xs,H b=some (.tup xs)→H' b=some (.tup xs)) (frzs:∀ b o u,H b=some (.frz o u)→H' b=some (.frz o u)) (tbls:∀ b ps,H b=some (.tbl ps)→∃ more,H' b=some (.tbl (ps++more)))
 (ns:∀ m,s.heap.Ns X.env.locals m→h'.Ns X.env.locals m) (hok:HOk X.prog X.w H' h') (hg:AllBare g') :
 Inv X pins σ H' { s with heap:=h',gens:=g',drawn:=d',toks:=t' }:=by
 have neL:∀ b o,X.s₀.heap.get? b=some o→b≠X.env.locals:=fun b o e=>Nat.ne_of_lt (Nat.lt_of_lt_of_le (Heap.lt_size e) I.ok.above)
 have neC:∀ b o,X.s₀.heap.get? b=some o→b∉X.ex→b∉ch:=fun b o e hx hb=>by
  rcases (hch b hb).1 with z | z
  · exact hx z
  · exact absurd (Nat.lt_of_lt_of_le (Heap.lt_size e) z) (Nat.lt_irrefl _)
 have cellK:∀ x c,X.env.cells.lookup x=some c→∀ v,s.heap.IsCell c v→h'.IsCell c v:=fun x c e v ⟨o,ho,hd⟩=>by
  have nch:c∉ch:=fun z=>(hch c z).2.2.1 x c e rfl
  by_cases hc:c∈X.fs
  · obtain ⟨sl,q⟩:=slot c o (I.cne x c e) hc nch ho (I.freeC x c e)
    exact ⟨_,q,hd⟩
  · exact ⟨o,keep c o (I.cne x c e) hc nch ho (I.freeC x c e),hd⟩
 refine ⟨I.ok,I.os,hg,⟨fun b o e n hb hx=>?_,fun b o e n hb hx=>?_,fun b o e n hx=>?_,fun b o e hx=>?_,fun b xs e=>tups b xs (I.base.tups b xs e),fun b o xs e=>frzs b o xs (I.base.frzs b o xs e),fun b ps e=>?_⟩,?_,fun x c e=>?_,?_,fun x c e=>?_,fun p hp=>?_,hok,I.len⟩
 · exact keep b o (neL b o e) hb (neC b o e hx) (I.base.keep b o e n hb hx) (I.base.free b o e n hx)
 · obtain ⟨sl,e1⟩:=I.base.slot b o e n hb hx
   obtain ⟨sl',e2⟩:=slot b _ (neL b o e) hb (neC b o e hx) e1 (I.base.free b o e n hx)
   exact ⟨sl',e2⟩
 · obtain ⟨o',e1⟩:=I.base.there b o e hx
   exact free b o' (neC b o e hx) e1 (I.base.free b o e n hx)
 · obtain ⟨o',e1⟩:=I.base.there b o e hx
   exact there b o' (neC b o e hx) e1
 · obtain ⟨m1,e1⟩:=I.base.tbls b ps e
   obtain ⟨m2,e2⟩:=tbls b _ e1
   exact ⟨m1++m2,by rw [e2,Array.append_assoc]⟩
 · obtain ⟨m,hn,hl⟩:=I.loc
   refine ⟨m,ns m hn,fun i x v e1 e2 e3=>?_⟩
   obtain ⟨u,r,l⟩:=hl i x v e1 e2 e3
   refine ⟨u,r,?_⟩
   rcases l with l | ⟨k,c,e,z⟩
   · exact .inl l
   · exact .inr ⟨k,c,e,cellK x c e _ z⟩
 · obtain ⟨v,z⟩:=I.cell x c e
   exact ⟨v,cellK x c e v z⟩
 · obtain ⟨m,⟨o,_,_,ho,_⟩,_⟩:=I.loc
   exact free _ o (fun z=>(hch _ z).2.1 rfl) ho I.free
 · obtain ⟨v,o,ho,hd⟩:=I.cell x c e
   exact free c o (fun z=>(hch c z).2.2.1 x c e rfl) ho (I.freeC x c e)
 · obtain ⟨e,n,ne,nf,d⟩:=I.pin p hp
   have nch:p.1∉ch:=fun z=>(hch p.1 z).2.2.2 p hp rfl
   exact ⟨keep p.1 p.2 ne nf nch e n,free p.1 p.2 nch e n,ne,nf,d⟩
theorem Inv.un {t':Nat}(I:Inv X pins σ H s) (u:Un X.fs [] H H' s.heap h') (hok:HOk X.prog X.w H' h'):Inv X pins σ H' { s with heap:=h',toks:=t' }:=by
 obtain ⟨m,⟨o,es,ep,ho,r⟩,_⟩:=id I.loc
 obtain ⟨sl,hL⟩:=u.any ho I.free (by simp)
 exact I.step (g':=s.gens) (d':=s.drawn) (ch:=[]) (fun _ z=>nomatch z) (fun b o _ hb _ e n=>u.keep b o e n hb (by simp)) (fun b o _ hb _ e n=>u.slot b o e n hb (by simp)) (fun b o _ e n=>u.free b o e n (by simp)) (fun b o _ e=>u.there b o e (by simp)) u.tups u.frzs u.tbls (fun m' hm=>by
  obtain ⟨o',es',ep',ho',r'⟩:=hm
  rw [ho] at ho'; cases ho'
  exact ⟨_,es',ep',hL,r'⟩) hok I.bare
theorem Inv.call {g':Array GenState}{t':Nat}{d':Drawn}{ch:List Addr}(I:Inv X pins σ H s) (u:Un (frs X.stack) ch H H' s.heap h') (hok:HOk X.prog X.w H' h') (hg:AllBare g')
 (hch:∀ b∈ch,(b∈X.ex∨X.s₀.heap.objs.size≤b)∧b≠X.env.locals∧(∀ x c,X.env.cells.lookup x=some c→c≠b)∧∀ p∈X.pn++pins,p.1≠b) :
 Inv X pins σ H' { s with heap:=h',gens:=g',drawn:=d',toks:=t' }:=by
 obtain ⟨m,⟨o,es,ep,ho,r⟩,_⟩:=id I.loc
 obtain ⟨sl,hL⟩:=u.any ho I.free fun z=>(hch _ z).2.1 rfl
 exact I.step (ch:=ch) hch (fun b o hL hb hc e n=>u.keep b o e n (fun z=>(List.mem_cons.mp (I.stkSub b z)).elim hL hb) hc) (fun b o _ _ hc e n=>u.any e n hc) (fun b o hc e n=>u.free b o e n hc) (fun b o hc e=>u.there b o e hc) u.tups u.frzs u.tbls (fun m' hm=>by
  obtain ⟨o',es',ep',ho',r'⟩:=hm
  rw [ho] at ho'; cases ho'
  exact ⟨_,es',ep',hL,r'⟩) hok hg
theorem Inv.turned {t':Nat}{it:Addr}(I:Inv X pins σ H s) (k:∀ b o,b≠it→s.heap.get? b=some o→h'.get? b=some o) (hn:H it=none) (hL:it≠X.env.locals)
 (h1:it∈X.ex∨X.s₀.heap.objs.size≤it) (h2:∀ x c,X.env.cells.lookup x=some c→c≠it) (h3:∀ p∈X.pn++pins,p.1≠it):Inv X pins σ H { s with heap:=h',toks:=t' }:=by
 have nit:∀ b u,H b=some u→b≠it:=fun b u e z=>by rw [z,hn] at e; cases e
 refine I.step (g':=s.gens) (d':=s.drawn) (ch:=[it]) (fun b hb=>?_) (fun b o _ _ hc e _=>k b o (fun z=>hc (by simp [z])) e) (fun b o _ _ hc e _=>⟨o.slots,k b o (fun z=>hc (by simp [z])) e⟩) (fun _ _ _ _ n=>n)
  (fun b o hc e=>⟨o,k b o (fun z=>hc (by simp [z])) e⟩) (fun _ _ e=>e) (fun _ _ _ e=>e) (fun b ps e=>⟨#[],by rw [e]; simp⟩) (fun m hm=>?_) (fun b u e=>?_) I.bare
 · have e:b=it:=by simpa using hb
   subst e
   exact ⟨h1,hL,h2,h3⟩
 · obtain ⟨o,es,ep,ho,r⟩:=hm
   exact ⟨o,es,ep,k _ o (Ne.symm hL) ho,r⟩
 · refine (I.hok b u e).stay (fun c v hc q=>k c v ?_ q) (fun _ q=>q) fun _ _ q=>q
   rcases hc with z | z
   · rw [z]; exact nit b u e
   · exact nit c _ z
theorem Inv.tok (I:Inv X pins σ H s) (t:Nat):Inv X pins σ H { s with toks:=t }:=I.un (h':=s.heap) (t':=t) Un.refl I.hok
theorem Inv.kept {t':Nat}(I:Inv X pins σ H s) (k:∀ b u,s.heap.get? b=some u→h'.get? b=some u):Inv X pins σ H { s with heap:=h',toks:=t' }:=I.un (Un.kept k) (I.hok.kept k)
theorem Inv.laid {a:Addr}{o:HO}{t':Nat}(I:Inv X pins σ H s) (k:∀ b u,s.heap.get? b=some u→h'.get? b=some u) (hp:s.heap.objs.size≤a) (new:ObjOk X.prog X.w (upd H a o) h' a o) :
 Inv X pins σ (upd H a o) { s with heap:=h',toks:=t' }:=I.un (Un.laid k hp (I.hok.fresh hp)) (I.hok.laid k hp new)
theorem Inv.write {x e:Addr}{o:HO}{t':Nat}(I:Inv X pins σ H s) (mu:Mut (H x)) (he:e=x∨H e=some (.own x)) (k:∀ b u,b≠e→s.heap.get? b=some u→h'.get? b=some u) (heo:∃ u,h'.get? e=some u)
 (new:ObjOk X.prog X.w (upd H x o) h' x o):Inv X pins σ (upd H x o) { s with heap:=h',toks:=t' }:=I.un (Un.write mu he k heo) (I.hok.write mu he k heo new)
theorem Inv.pins_of {pins':List (Addr×Obj)}(I:Inv X pins σ H s) (h:∀ p∈pins',s.heap.get? p.1=some p.2∧H p.1=none∧p.1≠X.env.locals∧p.1∉X.fs∧∀ v,p.2.data≠.cell v):Inv X pins' σ H s :=
 ⟨I.ok,I.os,I.bare,I.base,I.loc,I.cell,I.free,I.freeC,fun p hp=>(List.mem_append.mp hp).elim (fun z=>I.pin p (List.mem_append_left _ z)) (h p),I.hok,I.len⟩
theorem az1 {N:List Str}(hN:N.Nodup) {i j:Nat}{x:Str}(a:N[i]?=some x) (b:N[j]?=some x):i=j:=by
 obtain ⟨h1,e1⟩:=List.getElem?_eq_some_iff.mp a
 obtain ⟨h2,e2⟩:=List.getElem?_eq_some_iff.mp b
 exact (List.getElem_inj hN).mp (e1.trans e2.symm)
theorem ar4 {M:Model}{A:Around}{E:Value→Shared→Prop}{i:Nat}{x:Str}{v:V}{u:Value}{Q:Unit→Shared→Prop}(I:Inv X pins σ H s) (hN:X.N.Nodup) (hi:X.N[i]?=some x) (hx:Loc X.env.scope x) (r:RelV v u)
 (h:∀ s',Inv X pins (σ.set i (some v)) H s'→(∃ a,Heap.SameBut a s.heap s'.heap∧(a=X.env.locals∨X.env.cells.lookup x=some a))→Q () s') (hf:X.fn x=true∨X.env.scope.names.lookup x=some .local:=by first | exact .inl rfl | exact .inr rfl | assumption):wpAny M A (storeName X.env x u) Q E s:=by
 obtain ⟨m,hn,hl⟩:=id I.loc
 have hcls:(X.env.scope.kind == .class || (X.env.scope.kind == .module && X.env.locals != X.env.globals))=false:=by rw [I.ok.kind]; rfl
 have hiσ:i<σ.length:=by rw [I.len]; exact (List.getElem?_eq_some_iff.mp hi).1
 have cne:=I.cne
 have tracked:∀ {a:Addr}{h':Heap},(∃ o,s.heap.get? a=some o∧H a=none)→Heap.SameBut a s.heap h'→HOk X.prog X.w H h':=fun {a h'} ha hs b ob e=>by
  obtain ⟨_,_,hfree⟩:=ha
  refine (I.hok b ob e).stay (fun c w' hc q=>(hs.2 c ?_).trans q) (fun _ q=>q) fun _ _ q=>q
  rintro rfl
  rcases hc with rfl | hc
  · rw [hfree] at e; cases e
  · rw [hfree] at hc; cases hc
 rcases hx with hk | hk
 · refine wpAny_storeName_local hk hn (fun h' hn' hs=>?_) hcls
   obtain ⟨oL,_,_,hoL,_⟩:=id hn
   refine h _ ⟨I.ok,I.os,I.bare,⟨fun b o e n hb hx=>?_,fun b o e n hb hx=>?_,I.base.free,fun b o e hx=>?_,I.base.tups,I.base.frzs,I.base.tbls⟩,⟨_,hn',fun j y v' e1 e2 e3=>?_⟩,fun y c e=>?_,I.free,I.freeC,fun p hp=>?_,tracked ⟨oL,hoL,I.free⟩ hs,by simpa using I.len⟩ ⟨_,hs,.inl rfl⟩
   · exact (hs.2 b (Nat.ne_of_lt (Nat.lt_of_lt_of_le (Heap.lt_size e) I.ok.above))).trans (I.base.keep b o e n hb hx)
   · obtain ⟨sl,e1⟩:=I.base.slot b o e n hb hx
     exact ⟨sl,(hs.2 b (Nat.ne_of_lt (Nat.lt_of_lt_of_le (Heap.lt_size e) I.ok.above))).trans e1⟩
   · obtain ⟨o',e1⟩:=I.base.there b o e hx
     exact ⟨o',(hs.2 b (Nat.ne_of_lt (Nat.lt_of_lt_of_le (Heap.lt_size e) I.ok.above))).trans e1⟩
   · by_cases hj:j=i
     · subst hj
       rw [hi] at e1; cases e1
       rw [List.getElem?_set_self hiσ] at e2
       cases e2
       exact ⟨u,r,.inl ⟨hk,by simp⟩⟩
     · rw [List.getElem?_set_ne (Ne.symm hj)] at e2
       obtain ⟨u',r',q⟩:=hl j y v' e1 e2 e3
       refine ⟨u',r',?_⟩
       rcases q with ⟨k,e⟩ | ⟨k,c,e,z⟩
       · refine .inl ⟨k,?_⟩
         have:y≠x:=fun e=>hj (az1 hN e1 (e ▸ hi))
         simp [this,e]
       · exact .inr ⟨k,c,e,z.sameBut hs (cne y c e)⟩
   · obtain ⟨w',z⟩:=I.cell y c e
     exact ⟨w',z.sameBut hs (cne y c e)⟩
   · obtain ⟨e,n,ne,nf,d⟩:=I.pin p hp
     exact ⟨(hs.2 p.1 ne).trans e,n,ne,nf,d⟩
 · have hfn:X.fn x=true:=by
    rcases hf with z | z
    · exact z
    · rw [z] at hk; cases hk
   obtain ⟨c,hc⟩:=I.ok.has x (.inl hk)
   obtain ⟨w',z⟩:=I.cell x c hc
   refine wpAny_storeName_cell I.ok.kind hk hc z (fun h' hc' hs=>?_)
   obtain ⟨oc,hoc,hocd⟩:=id z
   refine h { s with heap:=h' } ⟨I.ok,I.os,I.bare,⟨fun b o e n hb hx=>?_,fun b o e n hb hx=>?_,I.base.free,fun b o e hx=>?_,I.base.tups,I.base.frzs,I.base.tbls⟩,⟨m,hn.sameBut hs (Ne.symm (cne x c hc)),fun j y v' e1 e2 e3=>?_⟩,fun y c' e=>?_,I.free,I.freeC,fun p hp=>?_,tracked ⟨oc,hoc,I.freeC x c hc⟩ hs,by simpa using I.len⟩ ⟨c,hs,.inr hc⟩
   · exact (hs.2 b (Nat.ne_of_lt (Nat.lt_of_lt_of_le (Heap.lt_size e) (I.ok.cab x c hfn hc)))).trans (I.base.keep b o e n hb hx)
   · obtain ⟨sl,e1⟩:=I.base.slot b o e n hb hx
     exact ⟨sl,(hs.2 b (Nat.ne_of_lt (Nat.lt_of_lt_of_le (Heap.lt_size e) (I.ok.cab x c hfn hc)))).trans e1⟩
   · obtain ⟨o',e1⟩:=I.base.there b o e hx
     exact ⟨o',(hs.2 b (Nat.ne_of_lt (Nat.lt_of_lt_of_le (Heap.lt_size e) (I.ok.cab x c hfn hc)))).trans e1⟩
   · by_cases hj:j=i
     · subst hj
       rw [hi] at e1; cases e1
       rw [List.getElem?_set_self hiσ] at e2
       cases e2
       exact ⟨u,r,.inr ⟨.inl hk,c,hc,hc'⟩⟩
     · rw [List.getElem?_set_ne (Ne.symm hj)] at e2
       obtain ⟨u',r',q⟩:=hl j y v' e1 e2 e3
       refine ⟨u',r',?_⟩
       rcases q with q | ⟨k,c',e,z'⟩
       · exact .inl q
       · refine .inr ⟨k,c',e,z'.sameBut hs ?_⟩
         rintro rfl
         exact hj (az1 hN e1 (I.ok.inj _ _ _ e hc ▸ hi))
   · by_cases hcc:c'=c
     · subst hcc; exact ⟨_,hc'⟩
     · obtain ⟨w2,z2⟩:=I.cell y c' e
       exact ⟨w2,z2.sameBut hs hcc⟩
   · obtain ⟨e,n,ne,nf,d⟩:=I.pin p hp
     refine ⟨(hs.2 p.1 ?_).trans e,n,ne,nf,d⟩
     intro q
     rw [q,hoc] at e
     have q':oc=p.2:=Option.some.inj e
     exact d w' (by rw [← q']; exact hocd)
theorem ao5 {M:Model}{A:Around}{E:Value→Shared→Prop}{i:Nat}{x:Str}{v:V}{u:Value}{Q:Unit→Shared→Prop}(I:Inv X pins σ H s) (hN:X.N.Nodup) (hi:X.N[i]?=some x) (hx:Loc X.env.scope x) (r:RelV v u)
 (h:∀ s',Inv X pins (σ.set i (some v)) H s'→Q () s') (hf:X.fn x=true∨X.env.scope.names.lookup x=some .local:=by first | exact .inl rfl | exact .inr rfl | assumption):wpAny M A (storeName X.env x u) Q E s :=
 ar4 I hN hi hx r (fun s' I' _=>h s' I') hf
theorem Inv.call' {s':Shared}{ch:List Addr}(I:Inv X pins σ H s) (ho:s'.os=s.os) (u:Un (frs X.stack) ch H H' s.heap s'.heap) (hok:HOk X.prog X.w H' s'.heap) (hg:AllBare s'.gens)
 (hch:∀ b∈ch,(b∈X.ex∨X.s₀.heap.objs.size≤b)∧b≠X.env.locals∧(∀ x c,X.env.cells.lookup x=some c→c≠b)∧∀ p∈X.pn++pins,p.1≠b):Inv X pins σ H' s':=by
 obtain ⟨h',g',d',t',o'⟩:=s'
 have e:o'=s.os:=ho
 subst e
 exact I.call (g':=g') (t':=t') (d':=d') u hok hg hch
end
abbrev XK:=Value→Option Addr→Hp→Prop
abbrev St:=List (Option V)
abbrev VK:=V→Hp→Prop
abbrev TE:=St→Hp→VK→Prop
abbrev TT:=St→Hp→(Bool→Hp→Prop)→Prop
abbrev TA:=St→Hp→(List V→Hp→Prop)→Prop
structure Ends where
 nx:St→Hp→Prop
 rt:VK
 bk:St→Hp→Prop:=fun _ _=>False
 ct:St→Hp→Prop:=fun _ _=>False
abbrev TS:=Ends→St→Hp→Prop
def EP (X:Cx) (pins:List (Addr×Obj)) (σ:St) (Q:VK) (u:Value) (s':Shared):Prop:=∃ v H',Inv X pins σ H' s'∧RelV v u∧Q v H'
def TP (X:Cx) (pins:List (Addr×Obj)) (σ:St) (Q:Bool→Hp→Prop) (b:Bool) (s':Shared):Prop:=∃ H',Inv X pins σ H' s'∧Q b H'
def AP (X:Cx) (pins:List (Addr×Obj)) (σ:St) (Q:List V→Hp→Prop) (us:List Value) (s':Shared):Prop:=∃ vs H',Inv X pins σ H' s'∧Vals vs us∧Q vs H'
def SP (X:Cx) (pins:List (Addr×Obj)) (D:Ends) (f:Flow) (s':Shared):Prop :=
 match f with
 | .next=>∃ σ' H',Inv X pins σ' H' s'∧D.nx σ' H'
 | .brk=>∃ σ' H',Inv X pins σ' H' s'∧D.bk σ' H'
 | .cont=>∃ σ' H',Inv X pins σ' H' s'∧D.ct σ' H'
 | .ret u=>∃ v σ' H',Inv X pins σ' H' s'∧RelV v u∧D.rt v H'
def PE (X:Cx) (e:Expr) (t:TE):Prop :=
 ∀ (pins:List (Addr×Obj)) (s:Shared) (σ:St) (H:Hp) (Q:VK),Inv X pins σ H s→t σ H Q→wpAny (model X.prog X.w) X.A (eval e X.env) (EP X pins σ Q) X.xe s
def PT (X:Cx) (e:Expr) (t:TT):Prop :=
 ∀ (pins:List (Addr×Obj)) (s:Shared) (σ:St) (H:Hp) (Q:Bool→Hp→Prop),Inv X pins σ H s→t σ H Q→wpAny (model X.prog X.w) X.A (isTrue e X.env (eval e X.env)) (TP X pins σ Q) X.xe s
def PW (X:Cx) (e:Expr) (t:TT):Prop :=
 ∀ (whole:Sem Value) (pins:List (Addr×Obj)) (s:Shared) (σ:St) (H:Hp) (Q:Bool→Hp→Prop),Inv X pins σ H s→t σ H Q→wpAny (model X.prog X.w) X.A (isTrue e X.env whole) (TP X pins σ Q) X.xe s
theorem PW.pt {X:Cx}{e:Expr}{t:TT}(h:PW X e t):PT X e t:=h _
def PA (X:Cx) (es:List Expr) (t:TA):Prop :=
 ∀ (pos:Pos) (pins:List (Addr×Obj)) (s:Shared) (σ:St) (H:Hp) (Q:List V→Hp→Prop),Inv X pins σ H s→t σ H Q→wpAny (model X.prog X.w) X.A (spliced (backTo pos (starEach es X.env))) (AP X pins σ Q) X.xe s
def PS (X:Cx) (st:Stmt) (t:TS):Prop :=
 ∀ (pins:List (Addr×Obj)) (s:Shared) (σ:St) (H:Hp) (D:Ends),Inv X pins σ H s→t D σ H→wpAny (model X.prog X.w) X.A (exec st X.env) (SP X pins D) X.xe s
def PSs (X:Cx) (st:List Stmt) (t:TS):Prop :=
 ∀ (pins:List (Addr×Obj)) (s:Shared) (σ:St) (H:Hp) (D:Ends),Inv X pins σ H s→t D σ H→wpAny (model X.prog X.w) X.A (execs st X.env) (SP X pins D) X.xe s
theorem thn {α:Type}{t:Sem α}{Q Q':α→Shared→Prop}{M:Model}{A:Around}{E:Value→Shared→Prop}{s:Shared}(h:wpAny M A t Q E s) (hQ:∀ a s,Q a s→Q' a s):wpAny M A t Q' E s:=wpAny_mono h hQ fun _ _ x=>x
section
variable {X:Cx}
def tVar (i:Nat):TE:=fun σ H Q=>∃ v,σ[i]?=some (some v)∧Q v H
def tC (v:V):TE:=fun _ H Q=>Q v H
theorem by7 {i:Nat}{x:Str}{pos:Pos}(hN:X.N[i]?=some x) (hv:Vis X.env.scope x) (hd:(x == ("__debug__":Str))=false:=by decide) (hcd:(x == ("__classdict__":Str))=false:=by decide):PE X (.Name x pos) (tVar i):=by
 intro pins s σ H Q I h
 obtain ⟨v,e,h⟩:=h
 obtain ⟨m,hn,hl⟩:=I.loc
 obtain ⟨u,r,l⟩:=hl i x v hN e hv
 have fin:EP X pins σ Q u s:=⟨v,H,I,r,h⟩
 rcases l with ⟨hk,hm⟩ | ⟨hk,c,hc,hcell⟩
 · exact wpAny_Name (wpAny_loadName_local I.ok.kind hk hn hm fin) hd
 · rcases hk with hk | hk
   · exact wpAny_Name (wpAny_loadName_cell I.ok.kind hk hc hcell fin) hd
   · exact wpAny_Name (wpAny_loadName_free I.ok.kind hk hc hcell fin hcd) hd
theorem a05 {i j pos}:PE X (.Constant (.int i) j pos) (tC (.int i)):=fun _ _ _ H _ I h=>wpAny_Constant_int ⟨.int i,H,I.tok _,⟨_,rfl⟩,h⟩
theorem b39 {b j pos}:PE X (.Constant (.bool b) j pos) (tC (.bl b)):=fun _ _ _ H _ I h=>Constant_bool ⟨.bl b,H,I,rfl,h⟩
theorem bp2 {j pos}:PE X (.Constant .none j pos) (tC .non):=fun _ _ _ H _ I h=>Constant_none ⟨.non,H,I,rfl,h⟩
theorem a62 {x j pos}:PE X (.Constant (.str x) j pos) (tC (.str x)):=fun _ _ _ H _ I h=>Calls.Constant_str ⟨.str x,H,I.tok _,⟨_,rfl⟩,h⟩
def Gl (X:Cx) (x:Str):Prop:=X.env.kindOf x=some .globalImplicit
theorem av8 {E:Value→Shared→Prop}{pins:List (Addr×Obj)}{s:Shared}{σ:St} {H:Hp}{x:Str}{u:Value}{pos:Pos}{Q:Value→Shared→Prop}(I:Inv X pins σ H s) (hg:Gl X x) (hm:X.mg x=some u) (h:Q u s)
 (hd:(x == ("__debug__":Str))=false:=by decide):wpAny (model X.prog X.w) X.A (eval (.Name x pos) X.env) Q E s :=
 Calls.Name_function_global I.ok.kind hg (Calls.loadGlobal_global (by rw [I.ok.glob]; exact I.mod.glob.keeps I.bk) hm h) hd
theorem ag4 {E:Value→Shared→Prop}{pins:List (Addr×Obj)}{s:Shared}{σ:St} {H:Hp}{x:Str}{u:Value}{pos:Pos}{Q:Value→Shared→Prop}(I:Inv X pins σ H s) (hg:Gl X x) (hm:X.mg x=none) (hv:bootBuiltins x=some u) (h:Q u s)
 (hn:x≠"__name__":=by decide) (hd:(x == ("__debug__":Str))=false:=by decide):wpAny (model X.prog X.w) X.A (eval (.Name x pos) X.env) Q E s:=by
 obtain ⟨mb,h1,h2⟩:=I.mod.blt
 exact Calls.Name_function_global I.ok.kind hg (Calls.loadGlobal_builtin (by rw [I.ok.glob]; exact I.mod.glob.keeps I.bk) hm (by rw [I.ok.blt]; exact h1.keeps I.bk) ((h2 x hn).trans hv) h) hd
theorem ah9 {x:Str}{v:V}{u:Value}{pos:Pos}(hg:Gl X x) (hm:X.mg x=some u) (r:RelV v u) (hd:(x == ("__debug__":Str))=false:=by decide):PE X (.Name x pos) (tC v) :=
 fun _ _ _ H _ I h=>av8 I hg hm ⟨v,H,I,r,h⟩ hd
variable {a b:Expr}{ta tb:TE}{pos:Pos}
def PC (X:Cx) (op:CmpOp) (a b:Expr) (t:TE):Prop :=
 ∀ (pins:List (Addr×Obj)) (s:Shared) (σ:St) (H:Hp) (Q:VK),Inv X pins σ H s→t σ H Q →
  wpAny (model X.prog X.w) X.A (eval a X.env) (fun v s₁=>wpAny (model X.prog X.w) X.A (eval b X.env) (fun u s₂=>wpAny (model X.prog X.w) X.A (compareOp op v u) (EP X pins σ Q) X.xe s₂) X.xe s₁) X.xe s
theorem nobehind (b:Expr) {op:CmpOp}(h:op≠.In) (h2:op≠.NotIn):behindInMarks op b=false:=by
 have e1:(op == CmpOp.In)=false:=by cases op <;> first | rfl | exact absurd rfl h
 have e2:(op == CmpOp.NotIn)=false:=by cases op <;> first | rfl | exact absurd rfl h2
 cases b <;> simp [behindInMarks,e1,e2]
def tB (t:TE):TT:=fun σ H Q=>t σ H fun x H1=>∃ c,x=.bl c∧Q c H1
theorem by8 {op:CmpOp}{t:TE}(h:PC X op a b t) (h1:behindInMarks op b=false:=by first | exact nobehind _ (by decide) (by decide) | rfl):PT X (.Compare a [op] [b] pos) (tB t):=by
 intro pins s σ H Q I hw
 refine wpAny_isTrue_Compare1 (thn (h pins s σ H _ I hw) fun v s1 h1=>thn h1 fun u s2 h2=>thn h2 fun c s3 ⟨x,H1,I1,r1,q1⟩=>?_) h1
 obtain ⟨d,rfl,q⟩:=q1
 cases r1
 exact wpAny_truthy_bool ⟨H1,I1,q⟩
variable {tA tB':TT}{rest:List Expr}
def tAnd (t u:TT):TT:=fun σ H Q=>t σ H fun c H1=>if c=true then u σ H1 Q else Q false H1
def tOr (t u:TT):TT:=fun σ H Q=>t σ H fun c H1=>if c=true then Q true H1 else u σ H1 Q
theorem br5 (ha:PT X a tA):PW X (.BoolOp .And [a] pos) tA:=by
 intro wh pins s σ H Q I h
 refine isTrue_and (thn (ha pins s σ H Q I h) fun c s1 e=>?_)
 cases c with
 | true=>exact isTrue_and_nil e
 | false=>exact e
theorem bp3 (ha:PT X a tA):PW X (.BoolOp .Or [a] pos) tA:=by
 intro wh pins s σ H Q I h
 refine isTrue_or (thn (ha pins s σ H Q I h) fun c s1 e=>?_)
 cases c with
 | false=>exact isTrue_or_nil e
 | true=>exact e
theorem by9 (ha:PT X a tA) (hb:PW X (.BoolOp .And (b::rest) pos) tB'):PW X (.BoolOp .And (a::b::rest) pos) (tAnd tA tB'):=by
 intro wh pins s σ H Q I h
 refine isTrue_and (thn (ha pins s σ H _ I h) fun c s1 ⟨H1,I1,q1⟩=>?_)
 cases c with
 | true=>exact hb wh pins s1 σ H1 Q I1 q1
 | false=>exact ⟨H1,I1,q1⟩
theorem bz0 (ha:PT X a tA) (hb:PW X (.BoolOp .Or (b::rest) pos) tB'):PW X (.BoolOp .Or (a::b::rest) pos) (tOr tA tB'):=by
 intro wh pins s σ H Q I h
 refine isTrue_or (thn (ha pins s σ H _ I h) fun c s1 ⟨H1,I1,q1⟩=>?_)
 cases c with
 | true=>exact ⟨H1,I1,q1⟩
 | false=>exact hb wh pins s1 σ H1 Q I1 q1
def tIf (t:TT) (ta tb:TE):TE:=fun σ H Q=>t σ H fun c H1=>if c=true then ta σ H1 Q else tb σ H1 Q
theorem aj2 {c:Expr}(hc:PT X c tA) (ha:PE X a ta) (hb:PE X b tb):PE X (.IfExp c a b pos) (tIf tA ta tb):=by
 intro pins s σ H Q I h
 refine wpAny_IfExp (thn (hc pins s σ H _ I h) fun d s1 ⟨H1,I1,q1⟩=>?_)
 cases d with
 | true=>exact ha pins s1 σ H1 Q I1 q1
 | false=>exact hb pins s1 σ H1 Q I1 q1
end
def SqL (K:PySem.W.Frag) (H:Hp) (a:Addr) (xs:List V):Prop :=
 Rd H a (.lst xs) ∨
  ∃ (o:Obj) (its:Array Value) (n:Nat),K.lookup a=some o∧o.cls=.type "list"∧o.dict=none∧o.data=.seq its n∧its.size≤sizeLine∧Vals xs its.toList
def SqT (K:PySem.W.Frag) (H:Hp) (a:Addr) (xs:List V):Prop :=
 Rd H a (.tup xs) ∨
  ∃ (o:Obj) (its:Array Value) (n:Nat),K.lookup a=some o∧o.cls=.type "tuple"∧o.data=.seq its n∧its.size≤sizeLine∧Vals xs its.toList
def absV:Value→Option V
 | .none=>some .non
 | .bool b=>some (.bl b)
 | .int i _=>some (.int i)
 | .str x _=>some (.str x)
 | .bytes b _=>some (.byt b)
 | .float b _=>some (.flt b)
 | .ref a=>some (.ref a)
 | .type n=>some (.ty n)
 | _=>none
theorem RelV.abs {x:V}{u:Value}(r:RelV x u):absV u=some x:=by
 cases x with
 | non=>cases r; rfl
 | bl _=>cases r; rfl
 | int _=>obtain ⟨t,rfl⟩:=r; rfl
 | str _=>obtain ⟨t,rfl⟩:=r; rfl
 | byt _=>obtain ⟨t,rfl⟩:=r; rfl
 | flt _=>obtain ⟨t,rfl⟩:=r; rfl
 | ref _=>cases r; rfl
 | ty _=>cases r; rfl
theorem RelV.inj {x y:V}{u:Value}(r:RelV x u) (q:RelV y u):x=y:=Option.some.inj (r.abs.symm.trans q.abs)
theorem Vals.inj:∀ {xs ys:List V}{us:List Value},Vals xs us→Vals ys us→xs=ys
 | _,_,_,.nil,.nil=>rfl
 | _,_,_,.cons r t,.cons r' t'=>by rw [r.inj r',Vals.inj t t']
section
variable {X:Cx}{pins:List (Addr×Obj)}{σ:St} {H:Hp}{s:Shared}{a:Addr}{xs ys:List V}
theorem SqL.of {K:PySem.W.Frag}(h:H a=some (.lst xs)):SqL K H a xs:=.inl (.inl h)
theorem SqT.of {K:PySem.W.Frag}(h:H a=some (.tup xs)):SqT K H a xs:=.inl (.inl h)
theorem Inv.list (I:Inv X pins σ H s) (h:SqL X.K H a xs):∃ its:List Value,Vals xs its∧PlainL s.heap a its.toArray∧xs.length≤sizeLine:=by
 rcases h with h | ⟨o,its,n,hk,hc,hd,hs,hz,r⟩
 · obtain ⟨z,its,n,r,e⟩:=h.ok I.hok
   exact ⟨its,r,⟨_,n,e,rfl,rfl,rfl⟩,z⟩
 · refine ⟨its.toList,r,⟨o,n,I.kIn a o hk,hc,hd,by simpa using hs⟩,?_⟩
   have e:=r.length
   simp only [Array.length_toList] at e
   omega
theorem Inv.tuple (I:Inv X pins σ H s) (h:SqT X.K H a xs):∃ its:List Value,Vals xs its∧IsTup s.heap a its.toArray∧xs.length≤sizeLine:=by
 rcases h with h | ⟨o,its,n,hk,hc,hs,hz,r⟩
 · obtain ⟨z,its,r,p⟩:=h.ok I.hok
   exact ⟨its,r,p,z⟩
 · refine ⟨its.toList,r,⟨o,I.kIn a o hk,hc,n,by simpa using hs⟩,?_⟩
   have e:=r.length
   simp only [Array.length_toList] at e
   omega
theorem Inv.list_inj (I:Inv X pins σ H s) (h:SqL X.K H a xs) (h':SqL X.K H a ys):xs=ys:=by
 obtain ⟨its,r,⟨o,n,e,_,_,d⟩,_⟩:=I.list h
 obtain ⟨its',r',⟨o',n',e',_,_,d'⟩,_⟩:=I.list h'
 rw [e] at e'; cases e'
 rw [d] at d'
 injection d' with d1 _
 have:its=its':=by simpa using congrArg Array.toList d1
 subst this
 exact r.inj r'
theorem Inv.tuple_inj (I:Inv X pins σ H s) (h:SqT X.K H a xs) (h':SqT X.K H a ys):xs=ys:=by
 obtain ⟨its,r,⟨o,e,_,n,d⟩,_⟩:=I.tuple h
 obtain ⟨its',r',⟨o',e',_,n',d'⟩,_⟩:=I.tuple h'
 rw [e] at e'; cases e'
 rw [d] at d'
 injection d' with d1 _
 have:its=its':=by simpa using congrArg Array.toList d1
 subst this
 exact r.inj r'
end
abbrev Cx.wish (X:Cx) (E:Value→Shared→Prop):Cx:={ X with xe:=E }
abbrev Cx.nox (X:Cx):Cx:=X.wish fun _ _=>False
theorem Cx.Ok.wish {X:Cx}(ok:X.Ok) (E:Value→Shared→Prop):(X.wish E).Ok :=
 ⟨ok.mod,ok.kind,ok.glob,ok.blt,ok.above,ok.inj,ok.has,ok.cab,ok.hd,ok.frames,ok.stk,ok.exf,ok.bs,ok.bsz,ok.noex,ok.exfs,ok.funs,ok.frf⟩
theorem Cx.Ok.unwish {X:Cx}{E:Value→Shared→Prop}(ok:(X.wish E).Ok):X.Ok :=
 ⟨ok.mod,ok.kind,ok.glob,ok.blt,ok.above,ok.inj,ok.has,ok.cab,ok.hd,ok.frames,ok.stk,ok.exf,ok.bs,ok.bsz,ok.noex,ok.exfs,ok.funs,ok.frf⟩
section
variable {X:Cx}{pins:List (Addr×Obj)}{σ:St} {H:Hp}{s:Shared}{E:Value→Shared→Prop}
theorem Inv.wish (I:Inv X pins σ H s) (E:Value→Shared→Prop):Inv (X.wish E) pins σ H s:=⟨I.ok.wish E,I.os,I.bare,I.base,I.loc,I.cell,I.free,I.freeC,I.pin,I.hok,I.len⟩
theorem Inv.unwish (I:Inv (X.wish E) pins σ H s):Inv X pins σ H s:=⟨I.ok.unwish,I.os,I.bare,I.base,I.loc,I.cell,I.free,I.freeC,I.pin,I.hok,I.len⟩
theorem SP.unwish {D:Ends}{f:Flow}{s':Shared}(h:SP (X.wish E) pins D f s'):SP X pins D f s':=by
 cases f with
 | next=>obtain ⟨σ',H',I,q⟩:=h; exact ⟨σ',H',I.unwish,q⟩
 | brk=>obtain ⟨σ',H',I,q⟩:=h; exact ⟨σ',H',I.unwish,q⟩
 | cont=>obtain ⟨σ',H',I,q⟩:=h; exact ⟨σ',H',I.unwish,q⟩
 | ret u=>obtain ⟨v,σ',H',I,r,q⟩:=h; exact ⟨v,σ',H',I.unwish,r,q⟩
theorem PSs.nox {st:List Stmt}{t:TS}(h:PSs X.nox st t):PSs X st t:=fun pins s σ H D I hw =>
 wpAny_mono (h pins s σ H D (I.wish _) hw) (fun _ _ q=>q.unwish) fun _ _ z=>False.elim z
end
section
variable {X:Cx}{st:Stmt}{rest:List Stmt}{t u:TS}{e:Expr}{te:TE}{pos:Pos}
def tNext:TS:=fun D σ H=>D.nx σ H
def tSeq (t u:TS):TS:=fun D σ H=>t { D with nx:=u D } σ H
theorem ac1:PSs X [] tNext:=fun _ _ σ H _ I h=>wpAny_execs_nil ⟨σ,H,I,h⟩
theorem a02 (h1:PS X st t) (h2:PSs X rest u):PSs X (st::rest) (tSeq t u):=by
 intro pins s σ H D I h
 refine wpAny_execs_cons (thn (h1 pins s σ H { D with nx:=u D } I h) fun f s1 q=>?_)
 cases f with
 | next =>
   obtain ⟨σ',H',I',q⟩:=q
   exact h2 pins s1 σ' H' D I' q
 | ret v=>exact q
 | brk=>exact q
 | cont=>exact q
theorem a09 (h1:PS X st t):PSs X [st] t:=by
 intro pins s σ H D I h
 refine wpAny_execs_cons (thn (h1 pins s σ H D I h) fun f s1 q=>?_)
 cases f with
 | next=>exact wpAny_execs_nil q
 | ret v=>exact q
 | brk=>exact q
 | cont=>exact q
theorem Inv.quiet {pins:List (Addr×Obj)}{σ:St} {H:Hp}{s:Shared}(I:Inv X pins σ H s):interactive X.env=false:=by simp [interactive,I.ok.kind]
def tDrop (te:TE):TS:=fun D σ H=>te σ H fun _ H1=>D.nx σ H1
theorem aa1 (he:PE X e te) (hs:swapsWith e none pos.line X.env=pure false:=by rfl):PS X (.Expr e pos) (tDrop te):=by
 intro pins s σ H D I h
 exact wpAny_Expr_any (thn (he pins s σ H _ I h) fun v s1 ⟨x,H1,I1,r1,q1⟩=>⟨σ,H1,I1,q1⟩) I.quiet hs
def tRet (te:TE):TS:=fun D σ H=>te σ H D.rt
theorem a53 (he:PE X e te):PS X (.Return (some e) pos) (tRet te):=by
 intro pins s σ H D I h
 exact wpAny_Return_some (thn (he pins s σ H _ I h) fun v s1 ⟨x,H1,I1,r1,q1⟩=>⟨x,σ,H1,I1,r1,q1⟩)
def tIfS (c:TT) (t u:TS):TS:=fun D σ H=>c σ H fun b H1=>if b=true then t D σ H1 else u D σ H1
theorem ai7 {c:Expr}{a b:List Stmt}{tc:TT}(hc:PT X c tc) (ha:PSs X a t) (hb:PSs X b u):PS X (.If c a b pos) (tIfS tc t u):=by
 intro pins s σ H D I h
 refine wpAny_If (thn (hc pins s σ H _ I h) fun d s1 ⟨H1,I1,q1⟩=>?_)
 cases d with
 | true=>exact ha pins s1 σ H1 D I1 q1
 | false=>exact hb pins s1 σ H1 D I1 q1
end
abbrev TG:=V→St→Hp→(St→Hp→Prop)→Prop
abbrev TGs:=List V→St→Hp→(St→Hp→Prop)→Prop
def PG (X:Cx) (target:Expr) (t:TG):Prop :=
 ∀ (pins:List (Addr×Obj)) (s:Shared) (σ:St) (H:Hp) (v:V) (u:Value) (Q:St→Hp→Prop),Inv X pins σ H s→RelV v u→t v σ H Q →
  wpAny (model X.prog X.w) X.A (assign target X.env u) (fun _ s'=>∃ σ' H',Inv X pins σ' H' s'∧Q σ' H') X.xe s
def PGs (X:Cx) (ts:List Expr) (t:TGs):Prop :=
 ∀ (pins:List (Addr×Obj)) (s:Shared) (σ:St) (H:Hp) (vs:List V) (us:List Value) (Q:St→Hp→Prop),Inv X pins σ H s→Vals vs us→t vs σ H Q →
  wpAny (model X.prog X.w) X.A (assignInOrder ((assignEach ts X.env).map (·.2)) us) (fun _ s'=>∃ σ' H',Inv X pins σ' H' s'∧Q σ' H') X.xe s
abbrev TSet:=V→V→V→Hp→(Hp→Prop)→Prop
def PSet (X:Cx) (t:TSet):Prop :=
 ∀ (pins:List (Addr×Obj)) (s:Shared) (σ:St) (H:Hp) (o i v:V) (ov iv u:Value) (Q:Hp→Prop),Inv X pins σ H s→RelV o ov→RelV i iv→RelV v u→t o i v H Q →
  wpAny (model X.prog X.w) X.A (setItem ov iv u) (fun _ s'=>∃ H',Inv X pins σ H' s'∧Q H') X.xe s
abbrev TIp:=V→V→Hp→VK→Prop
def PIp (X:Cx) (op:Operator) (t:TIp):Prop :=
 ∀ (pins:List (Addr×Obj)) (s:Shared) (σ:St) (H:Hp) (x y:V) (v u:Value) (Q:VK),Inv X pins σ H s→RelV x v→RelV y u→t x y H Q →
  wpAny (model X.prog X.w) X.A (inplaceOp op v u) (EP X pins σ Q) X.xe s
section
variable {X:Cx}{pos:Pos}
def gName (i:Nat):TG:=fun v σ H Q=>Q (σ.set i (some v)) H
theorem a36 {i:Nat}{x:Str}(hN:X.N.Nodup) (hi:X.N[i]?=some x) (hx:Loc X.env.scope x) (hf:X.fn x=true∨X.env.scope.names.lookup x=some .local:=by first | exact .inl rfl | exact .inr rfl | assumption):PG X (.Name x pos) (gName i):=by
 intro pins s σ H v u Q I r h
 exact wpAny_assign_Name (ao5 I hN hi hx r (fun s' I'=>⟨_,H,I',h⟩) hf)
def gNil:TGs:=fun vs σ H Q=>vs=[]∧Q σ H
def gCons (t:TG) (u:TGs):TGs:=fun vs σ H Q=>∃ v r,vs=v::r∧t v σ H fun σ' H'=>u r σ' H' Q
theorem ab5:PGs X [] gNil:=by
 intro pins s σ H vs us Q I r h
 obtain ⟨e,h⟩:=h
 subst e
 cases r
 exact assignInOrder_nil ⟨σ,H,I,h⟩
theorem a50 {e:Expr}{es:List Expr}{t:TG}{u:TGs}(h1:PG X e t) (h2:PGs X es u)
 (hs:(assignEach (e::es) X.env).map (·.2)=assign e X.env::(assignEach es X.env).map (·.2):=by rfl):PGs X (e::es) (gCons t u):=by
 intro pins s σ H vs us Q I r h
 obtain ⟨v,vr,e1,h⟩:=h
 subst e1
 cases r with
 | cons r rr =>
   rw [hs]
   refine assignInOrder_cons (thn (h1 pins s σ H _ _ _ I r h) fun _ s1 ⟨σ1,H1,I1,q1⟩=>?_)
   exact h2 pins s1 σ1 H1 _ _ Q I1 rr q1
def gTup (K:PySem.W.Frag) (n:Nat) (t:TGs):TG:=fun v σ H Q=>∃ a xs,v=.ref a∧SqT K H a xs∧xs.length=n∧t xs σ H Q
theorem bz1 {es:List Expr}{k:Nat}{t:TGs}{n:Nat}(hc:X.calm=true) (h:PGs X es t)
 (hn:(assignEach es X.env).length=n:=by rfl) (hst:(assignEach es X.env).findIdx? (·.1)=none:=by rfl):PG X (.Tuple es k pos) (gTup X.K n t):=by
 intro pins s σ H v u Q I r hw
 obtain ⟨a,xs,e1,hq,hl,hw⟩:=hw
 subst e1
 cases r
 obtain ⟨its,rv,ht,hz⟩:=I.tuple hq
 refine assign_Tuple_tuple (I.ok.hd hc) ht (by simp [hn,←hl,rv.length]) hst fun h' hx=>?_
 have I1:Inv X pins σ H { s with heap:=h' }:=I.kept (t':=s.toks) fun b o e=>hx b o (Nat.ne_of_lt (Heap.lt_size e)) e
 exact h pins _ σ H xs _ Q I1 (by simpa using rv) hw
def gSub (to ti:TE) (t:TSet):TG:=fun v σ H Q=>to σ H fun o H1=>ti σ H1 fun i H2=>t o i v H2 fun H3=>Q σ H3
theorem ar5 {o i:Expr}{to ti:TE}{t:TSet}(ho:PE X o to) (hi:PE X i ti) (hs:PSet X t)
 (ha:∀ v,assign (.Subscript o i pos) X.env v=(do
  let ov←holding [v] (eval o X.env)
  let iv←holding [v,ov] (eval i X.env)
  standAt pos
  holding [v,ov,iv] (setItem ov iv v)
  release [v,ov,iv] []):=by intro _; rfl):PG X (.Subscript o i pos) (gSub to ti t):=by
 intro pins s σ H v u Q I r h
 rw [ha]
 refine wpAny_bind (wpAny_holding (thn (ho pins s σ H _ I h) fun ov s1 ⟨x,H1,I1,r1,q1⟩=>?_))
 refine wpAny_bind (wpAny_holding (thn (hi pins s1 σ H1 _ I1 q1) fun iv s2 ⟨y,H2,I2,r2,q2⟩=>?_))
 refine wpAny_bind (wpAny_standAt (wpAny_bind (wpAny_holding (thn (hs pins s2 σ H2 x y v ov iv u _ I2 r1 r2 r q2) fun _ s3 ⟨H3,I3,q3⟩=>?_))))
 exact wpAny_release ⟨σ,H3,I3,q3⟩
def tAsg (te:TE) (g:TG):TS:=fun D σ H=>te σ H fun x H1=>g x σ H1 D.nx
theorem am2 {tg e:Expr}{te:TE}{g:TG}(he:PE X e te) (hg:PG X tg g) (hs:swapsWithSole [tg] e pos.line X.env=pure false:=by rfl) (hw:swappedStores [tg] e X.env=pure none:=by rfl)
 (h1:(assignEach [tg] X.env).map (·.2)=[assign tg X.env]:=by rfl):PS X (.Assign [tg] e pos) (tAsg te g):=by
 intro pins s σ H D I h
 refine wpAny_Assign_stores (thn (he pins s σ H _ I h) fun v s1 ⟨x,H1,I1,r1,q1⟩=>?_) hs hw
 rw [h1]
 exact thn (hg pins s1 σ H1 x v _ I1 r1 q1) fun _ s2 q=>q
theorem a47 {i:Nat}{x:Str}{e:Expr}{te:TE}{pos':Pos}(hN:X.N.Nodup) (hi:X.N[i]?=some x) (hx:Loc X.env.scope x) (he:PE X e te) (hs:swapsWith e (some (.Name x pos')) pos.line X.env=pure false:=by rfl) (hf:X.fn x=true∨X.env.scope.names.lookup x=some .local:=by first | exact .inl rfl | exact .inr rfl | assumption) :
 PS X (.Assign [.Name x pos'] e pos) (tAsg te (gName i)):=by
 intro pins s σ H D I h
 refine wpAny_Assign_Name (thn (he pins s σ H _ I h) fun v s1 ⟨y,H1,I1,r1,q1⟩=>?_) hs
 exact ao5 I1 hN hi hx r1 (fun s2 I2=>⟨_,H1,I2,q1⟩) hf
def tAug (i:Nat) (te:TE) (ti:TIp):TS:=fun D σ H=>∃ x,σ[i]?=some (some x)∧te σ H fun y H1=>ti x y H1 fun z H2=>D.nx (σ.set i (some z)) H2
theorem bz2 {i:Nat}{x:Str}{e:Expr}{te:TE}{op:Operator}{ti:TIp}{pos':Pos}(hN:X.N.Nodup) (hi:X.N[i]?=some x) (hx:Loc X.env.scope x) (he:PE X e te) (ho:PIp X op ti) (hf:X.fn x=true∨X.env.scope.names.lookup x=some .local:=by first | exact .inl rfl | exact .inr rfl | assumption) :
 PS X (.AugAssign (.Name x pos') op e pos) (tAug i te ti):=by
 intro pins s σ H D I h
 obtain ⟨v,e1,h⟩:=h
 obtain ⟨m,hn,hl⟩:=I.loc
 have vis:Vis X.env.scope x:=by rcases hx with k | k; exact .inl k; exact .inr (.inl k)
 obtain ⟨u,r,l⟩:=hl i x v hi e1 vis
 refine wpAny_AugAssign_Name ?_
 have go:wpAny (model X.prog X.w) X.A (eval e X.env) (fun w s₂=>wpAny (model X.prog X.w) X.A (inplaceOp op u w) (fun r s₃=>wpAny (model X.prog X.w) X.A (storeName X.env x r) (fun _=>SP X pins D .next) X.xe s₃) X.xe s₂) X.xe s:=by
  refine thn (he pins s σ H _ I h) fun w s1 ⟨y,H1,I1,r1,q1⟩=>?_
  refine thn (ho pins s1 σ H1 v y u w _ I1 r r1 q1) fun z s2 ⟨zv,H2,I2,r2,q2⟩=>?_
  exact ao5 I2 hN hi hx r2 (fun s3 I3=>⟨_,H2,I3,q2⟩) hf
 rcases l with ⟨hk,hm⟩ | ⟨hk,c,hc,hcell⟩
 · exact wpAny_loadName_local I.ok.kind hk hn hm go
 · rcases hk with hk | hk
   · exact wpAny_loadName_cell I.ok.kind hk hc hcell go
   · rcases hx with k | k
     · have:X.env.scope.names.lookup x=some .free:=hk
       rw [k] at this; cases this
     · have:X.env.scope.names.lookup x=some .free:=hk
       rw [k] at this; cases this
def ipI (f:Int→Int→Int):TIp:=fun x y H Q=>∃ i j,x=.int i∧y=.int j∧Q (.int (f i j)) H
theorem bz3:PIp X .Add (ipI fun i j=>i+j):=by
 intro pins s σ H x y v u Q I r1 r2 h
 obtain ⟨i,j,e1,e2,q⟩:=h
 subst e1; subst e2
 obtain ⟨t,rfl⟩:=r1
 obtain ⟨t',rfl⟩:=r2
 exact iadd_int ⟨.int _,H,I.tok _,⟨_,rfl⟩,q⟩
end
section
variable {X:Cx}{pos:Pos}
def tWhile (c:TT) (tb:TS):TS:=fun D σ H=>∃ W:Nat→St→Hp→Prop,(∃ m,W m σ H)∧∀ m σ H,W m σ H →
 c σ H fun b H1=>if b=true then ∃ N:St→Hp→Prop,(∀ σ' H',N σ' H'→∃ m',m'<m∧W m' σ' H')∧tb { D with nx:=N,ct:=N,bk:=D.nx } σ H1 else D.nx σ H1
theorem bh2 {c:Expr}{body:List Stmt}{tc:TT}{tb:TS}(hp:PassesOwn (model X.prog X.w) X.A X.env X.xe) (hc:PT X c tc) (hb:PSs X body tb):PS X (.While c body [] pos) (tWhile tc tb):=by
 intro pins s σ H D I h
 obtain ⟨W,⟨m0,w0⟩,turn⟩:=h
 refine wpAny_While (codeAny_whileLoop (fun n s'=>∃ σ' H',Inv X pins σ' H' s'∧W n σ' H') ?_ m0 ⟨σ,H,I,w0⟩)
 rintro n s1 ⟨σ1,H1,I1,w1⟩
 refine wpAny_passesOwn hp (thn (hc pins s1 σ1 H1 _ I1 (turn n σ1 H1 w1)) fun b s2 ⟨H2,I2,q2⟩=>?_)
 cases b with
 | true =>
   obtain ⟨N,hN,q2⟩:=q2
   rw [if_pos rfl]
   refine wpAny_passesOwn hp (thn (hb pins s2 σ1 H2 _ I2 q2) fun f s3 q3=>?_)
   cases f with
   | next =>
     obtain ⟨σ3,H3,I3,n3⟩:=q3
     obtain ⟨m',hm,w3⟩:=hN σ3 H3 n3
     exact ⟨m',hm,σ3,H3,I3,w3⟩
   | cont =>
     obtain ⟨σ3,H3,I3,n3⟩:=q3
     obtain ⟨m',hm,w3⟩:=hN σ3 H3 n3
     exact ⟨m',hm,σ3,H3,I3,w3⟩
   | brk=>exact q3
   | ret v=>exact q3
 | false =>
   rw [if_neg Bool.false_ne_true]
   exact wpAny_execs_nil ⟨σ1,H2,I2,q2⟩
end
structure It where
 go:Nat→Hp→Prop
 yld:Nat→Hp→V→Hp→Prop
 stop:Nat→Hp→Prop
def FpOk (X:Cx) (pins:List (Addr×Obj)) (H:Hp) (b:Addr):Prop :=
 H b=none∧b≠X.env.locals∧b∉X.fs∧(b∈X.ex∨X.s₀.heap.objs.size≤b)∧(∀ x c,X.env.cells.lookup x=some c→c≠b)∧∀ p∈X.pn++pins,p.1≠b
theorem Inv.fpOk {X:Cx}{pins:List (Addr×Obj)}{σ:St} {H H':Hp}{s:Shared}{b:Addr}(I:Inv X pins σ H s) (hb:s.heap.objs.size≤b) (hn:H' b=none):FpOk X pins H' b:=by
 refine ⟨hn,Nat.ne_of_gt (Nat.lt_of_lt_of_le I.lt hb),I.nofs hb,.inr (Nat.le_trans I.sz hb),fun x c e z=>?_,fun p hp z=>?_⟩
 · obtain ⟨v,q⟩:=I.cell x c e
   exact absurd (Nat.lt_of_lt_of_le q.lt (by rw [z]; exact hb)) (Nat.lt_irrefl _)
 · exact absurd (Nat.lt_of_lt_of_le (Heap.lt_size (I.pin p hp).1) (by rw [z]; exact hb)) (Nat.lt_irrefl _)
structure Turn (P:Program) (w:World) (K:PySem.W.Frag) (tg:Expr) (J:It) (fp:List Addr) (it:Addr) (tn:Nat→Heap→Prop):Prop where
 mem:it∈fp
 obj:∀ i h,tn i h→∀ b∈fp,∃ o,h.get? b=some o∧∀ v,o.data≠.cell v
 keep:∀ i h h',tn i h→(∀ b∈fp,∀ o,h.get? b=some o→h'.get? b=some o)→tn i h'
 item:∀ (X:Cx),X.prog=P→X.w=w→X.K=K→X.calm=true→∀ (i:Nat) (pins:List (Addr×Obj)) (s:Shared) (σ:St) (H:Hp) (E:Value→Shared→Prop),Inv X pins σ H s→(∀ b∈fp,FpOk X pins H b)→tn i s.heap→J.go i H →
  wpAny (model P w) X.A (pyNext (.ref it)) (fun r s1=>∃ u,r=some u ∧
   wpAny (model P w) X.A (letOwnedTupleGo tg (.ref it) u) (fun _ s2=>∃ x H',Inv X pins σ H' s2∧RelV x u∧J.yld i H x H'∧tn (i+1) s2.heap∧∀ b∈fp,H' b=none) E s1) E s
 done:∀ (X:Cx),X.prog=P→X.w=w→X.K=K→X.calm=true→∀ (i:Nat) (pins:List (Addr×Obj)) (s:Shared) (σ:St) (H:Hp) (E:Value→Shared→Prop),Inv X pins σ H s→(∀ b∈fp,FpOk X pins H b)→tn i s.heap→J.stop i H →
  wpAny (model P w) X.A (pyNext (.ref it)) (fun r s1=>r=none∧Inv X pins σ H s1) E s
 self:∀ (A:Around) (i:Nat) (s:Shared) (Q:Value→Shared→Prop) (E:Value→Shared→Prop),tn i s.heap→Q (.ref it) s→wpAny (model P w) A (pyIter (.ref it)) Q E s
abbrev TI:=St→Hp→(It→Hp→Prop)→Prop
def PIE (X:Cx) (pins:List (Addr×Obj)) (σ:St) (tg:Expr) (R:It→Hp→Prop) (itv:Value) (s2:Shared):Prop :=
 ∃ (it:Addr) (fp:List Addr) (tn:Nat→Heap→Prop) (J:It) (H':Hp),itv=.ref it∧Inv X pins σ H' s2∧Turn X.prog X.w X.K tg J fp it tn∧tn 0 s2.heap∧(∀ b∈fp,FpOk X pins H' b)∧R J H'
def PI (X:Cx) (tg iter:Expr) (wi:TI):Prop :=
 ∀ (pins:List (Addr×Obj)) (s:Shared) (σ:St) (H:Hp) (R:It→Hp→Prop),Inv X pins σ H s→wi σ H R →
  wpAny (model X.prog X.w) X.A (eval iter X.env) (fun v s1=>wpAny (model X.prog X.w) X.A (pyIter v) (PIE X pins σ tg R) X.xe s1) X.xe s
theorem b40 {M:Model}{A:Around}{E:Value→Shared→Prop}{s:Shared}{tg:Expr}{it:Addr}{u:Value}{o:Obj}{n:String}{vs:Array Value}{Q:Unit→Shared→Prop}(ho:s.heap.get? it=some o) (hc:o.cls=.type n) (hd:o.data=.fields vs)
 (hn:["enumerate","zip","dict_itemiterator","dict_reverseitemiterator","odict_iterator","itertools.zip_longest","itertools.pairwise"].contains n=false) (hQ:Q () s):wpAny M A (letOwnedTupleGo tg (.ref it) u) Q E s:=by
 unfold letOwnedTupleGo
 cases tg <;> first
  | exact wpAny_pure hQ
  | (cases u <;> first
   | exact wpAny_pure hQ
   | (refine wpAny_bind (wpAny_load ho ?_)
      rw [hc,hd]
      show wpAny M A (if (["enumerate","zip","dict_itemiterator","dict_reverseitemiterator","odict_iterator","itertools.zip_longest","itertools.pairwise"].contains n && vs[0]? == some (rawInt _))=true then _ else _) Q E s
      rw [if_neg (by intro h; rw [hn,Bool.false_and] at h; cases h)]
      exact wpAny_pure hQ))
def Itl (K:PySem.W.Frag) (a:Addr):It :=
 ⟨fun i H=>∃ xs x,SqL K H a xs∧xs[i]?=some x,fun i H x H'=>H'=H∧∀ xs,SqL K H a xs→xs[i]?=some x,fun i H=>∃ xs,SqL K H a xs∧xs.length≤i⟩
def Itt (K:PySem.W.Frag) (a:Addr):It :=
 ⟨fun i H=>∃ xs x,SqT K H a xs∧xs[i]?=some x,fun i H x H'=>H'=H∧∀ xs,SqT K H a xs→xs[i]?=some x,fun i H=>∃ xs,SqT K H a xs∧xs.length≤i⟩
def Itr (lo:Int) (n:Nat):It:=⟨fun i _=>i<n,fun i H x H'=>H'=H∧x=.int (lo+i),fun i _=>n≤i⟩
theorem b81 {P:Program}{w:World}{K:PySem.W.Frag}{tg:Expr}(a it:Addr):Turn P w K tg (Itl K a) [it] it (fun i h=>h.IsListIter it a i) where
 mem:=by simp
 obj:=fun i h st b hb=>by
  have e:b=it:=by simpa using hb
  subst e
  obtain ⟨o,e,c,d⟩:=st
  exact ⟨o,e,fun v z=>by rw [d] at z; cases z⟩
 keep:=fun i h h' st k=>st.at fun o e=>k it (by simp) o e
 item:=by
  intro X hP hw hK hc i pins s σ H E I hf st hg
  subst hP hw hK
  obtain ⟨xs,x,hq,hx⟩:=hg
  obtain ⟨its,rv,p,hz⟩:=I.list hq
  obtain ⟨u,hu,ru⟩:=rv.get hx
  obtain ⟨f0,f1,f2,f3,f4,f5⟩:=hf it (by simp)
  refine wpAny_pyNext_list_item st p.isList (x:=u) (by simpa using hu) fun h' st' sb=>?_
  have I1:Inv X pins σ H { s with heap:=h' }:=I.turned (t':=s.toks) (fun b o hb e=>(sb.2 b hb).trans e) f0 f1 f3 f4 f5
  obtain ⟨o,e,c,d⟩:=id st'
  exact ⟨u,rfl,b40 (s:={ s with heap:=h' }) e c d (by decide) ⟨x,H,I1,ru,⟨rfl,fun ys hy=>by rw [I.list_inj hy hq]; exact hx⟩,st',fun b hb=>(hf b hb).1⟩⟩
 done:=by
  intro X hP hw hK hc i pins s σ H E I hf st hg
  subst hP hw hK
  obtain ⟨xs,hq,hx⟩:=hg
  obtain ⟨its,rv,p,hz⟩:=I.list hq
  obtain ⟨f0,f1,f2,f3,f4,f5⟩:=hf it (by simp)
  have hl:=rv.length
  exact wpAny_pyNext_list_end (I.ok.hd hc) st p.isList (by simp; omega) fun h' eb=>⟨rfl,I.turned (t':=s.toks) (fun b o hb e=>eb b o hb e) f0 f1 f3 f4 f5⟩
 self:=fun _ _ _ _ _ st h=>wpAny_pyIter_listiter st h
theorem b41 {P:Program}{w:World}{K:PySem.W.Frag}{tg:Expr}(a it:Addr):Turn P w K tg (Itt K a) [it] it (fun i h=>h.IsTupleIter it a i) where
 mem:=by simp
 obj:=fun i h st b hb=>by
  have e:b=it:=by simpa using hb
  subst e
  obtain ⟨o,e,c,d⟩:=st
  exact ⟨o,e,fun v z=>by rw [d] at z; cases z⟩
 keep:=fun i h h' st k=>st.at fun o e=>k it (by simp) o e
 item:=by
  intro X hP hw hK hc i pins s σ H E I hf st hg
  subst hP hw hK
  obtain ⟨xs,x,hq,hx⟩:=hg
  obtain ⟨its,rv,p,hz⟩:=I.tuple hq
  obtain ⟨u,hu,ru⟩:=rv.get hx
  obtain ⟨f0,f1,f2,f3,f4,f5⟩:=hf it (by simp)
  refine wpAny_pyNext_tuple_item st (show s.heap.IsTuple a its.toArray from p) (x:=u) (by simpa using hu) fun h' st' sb=>?_
  have I1:Inv X pins σ H { s with heap:=h' }:=I.turned (t':=s.toks) (fun b o hb e=>(sb.2 b hb).trans e) f0 f1 f3 f4 f5
  obtain ⟨o,e,c,d⟩:=id st'
  exact ⟨u,rfl,b40 (s:={ s with heap:=h' }) e c d (by decide) ⟨x,H,I1,ru,⟨rfl,fun ys hy=>by rw [I.tuple_inj hy hq]; exact hx⟩,st',fun b hb=>(hf b hb).1⟩⟩
 done:=by
  intro X hP hw hK hc i pins s σ H E I hf st hg
  subst hP hw hK
  obtain ⟨xs,hq,hx⟩:=hg
  obtain ⟨its,rv,p,hz⟩:=I.tuple hq
  obtain ⟨f0,f1,f2,f3,f4,f5⟩:=hf it (by simp)
  have hl:=rv.length
  exact wpAny_pyNext_tuple_end (I.ok.hd hc) st (show s.heap.IsTuple a its.toArray from p) (by simp; omega) fun h' eb=>⟨rfl,I.turned (t':=s.toks) (fun b o hb e=>eb b o hb e) f0 f1 f3 f4 f5⟩
 self:=fun _ _ _ _ _ st h=>wpAny_pyIter_tupleiter st h
theorem b42 {P:Program}{w:World}{K:PySem.W.Frag}{tg:Expr}(it:Addr) (lo:Int) (n:Nat):Turn P w K tg (Itr lo n) [it] it (fun i h=>IsRangeIter h it (lo+(i:Nat)*1) ((n:Int) - (i:Nat)) 1) where
 mem:=by simp
 obj:=fun i h st b hb=>by
  have e:b=it:=by simpa using hb
  subst e
  exact ⟨_,st,fun v z=>by
   have z':Data.fields _=Data.cell v:=z
   cases z'⟩
 keep:=fun i h h' st k=>k it (by simp) _ st
 item:=by
  intro X hP hw hK hc i pins s σ H E I hf st hg
  subst hP hw hK
  obtain ⟨f0,f1,f2,f3,f4,f5⟩:=hf it (by simp)
  have W:=Walks.range (prog:=X.prog) (w:=X.w) (I.ok.hd hc) it lo 1 n
  refine W.item i s _ _ hg st fun v h' tk hv st' kk=>?_
  obtain ⟨t,rfl⟩:=hv
  have I1:Inv X pins σ H { s with heap:=h',toks:=tk }:=I.turned (fun b o hb e=>kk b o (by simpa using hb) e) f0 f1 f3 f4 f5
  refine ⟨_,rfl,b40 (s:={ s with heap:=h',toks:=tk }) (n:="range_iterator") st' rfl rfl (by decide) ⟨.int (lo+i),H,I1,⟨t,?_⟩,⟨rfl,rfl⟩,st',fun b hb=>(hf b hb).1⟩⟩
  rw [Int.mul_one]
 done:=by
  intro X hP hw hK hc i pins s σ H E I hf st hg
  subst hP hw hK
  obtain ⟨f0,f1,f2,f3,f4,f5⟩:=hf it (by simp)
  exact wpAny_pyNext_range_end (I.ok.hd hc) st (by have:n≤i:=hg; omega) fun h' eb=>⟨rfl,I.turned (t':=s.toks) (fun b o hb e=>eb b o hb e) f0 f1 f3 f4 f5⟩
 self:=fun _ _ _ _ _ st h=>wpAny_pyIter_rangeiter st h
section
variable {X:Cx}{tg:Expr}
def iList (K:PySem.W.Frag) (tl:TE):TI:=fun σ H R=>tl σ H fun x H1=>∃ a,x=.ref a∧(∃ xs,SqL K H1 a xs)∧R (Itl K a) H1
def iTup (K:PySem.W.Frag) (tl:TE):TI:=fun σ H R=>tl σ H fun x H1=>∃ a,x=.ref a∧(∃ xs,SqT K H1 a xs)∧R (Itt K a) H1
theorem br6 {l:Expr}{tl:TE}(hl:PE X l tl):PI X tg l (iList X.K tl):=by
 intro pins s σ H R I h
 refine thn (hl pins s σ H _ I h) fun v s1 ⟨x,H1,I1,r1,q1⟩=>?_
 obtain ⟨a,e,⟨xs,hq⟩,q⟩:=q1
 subst e
 cases r1
 obtain ⟨its,rv,p,hz⟩:=I1.list hq
 refine wpAny_pyIter_list p.isList ?_
 refine ⟨s1.heap.objs.size,[s1.heap.objs.size],_,_,H1,rfl,I1.kept (t':=s1.toks) fun b o e=>Heap.get?_push_of_some _ e,b81 a _,⟨_,Heap.get?_push_size _ rfl,rfl,rfl⟩,fun b hb=>?_,q⟩
 have e:b=s1.heap.objs.size:=by simpa using hb
 subst e
 exact I1.fpOk (Nat.le_refl _) (I1.hok.fresh (Nat.le_refl _))
theorem bz4 {l:Expr}{tl:TE}(hl:PE X l tl):PI X tg l (iTup X.K tl):=by
 intro pins s σ H R I h
 refine thn (hl pins s σ H _ I h) fun v s1 ⟨x,H1,I1,r1,q1⟩=>?_
 obtain ⟨a,e,⟨xs,hq⟩,q⟩:=q1
 subst e
 cases r1
 obtain ⟨its,rv,p,hz⟩:=I1.tuple hq
 refine wpAny_pyIter_tuple (show s1.heap.IsTuple a its.toArray from p) ?_
 refine ⟨s1.heap.objs.size,[s1.heap.objs.size],_,_,H1,rfl,I1.kept (t':=s1.toks) fun b o e=>Heap.get?_push_of_some _ e,b41 a _,⟨_,Heap.get?_push_size _ rfl,rfl,rfl⟩,fun b hb=>?_,q⟩
 have e:b=s1.heap.objs.size:=by simpa using hb
 subst e
 exact I1.fpOk (Nat.le_refl _) (I1.hok.fresh (Nat.le_refl _))
theorem bh3 {pins:List (Addr×Obj)}{σ:St} {H:Hp}{s:Shared}{R:It→Hp→Prop}{E:Value→Shared→Prop}{lo hi:Int}{t u v:Tok}{tk:Nat}(I:Inv X pins σ H s) (h1:-(2 ^ 62)≤lo) (h2:lo<2 ^ 62) (h3:-(2 ^ 62)≤hi) (h4:hi<2 ^ 62)
 (q:R (Itr lo (hi - lo).toNat) H):wpAny (model X.prog X.w) X.A (pyIter (.ref s.heap.objs.size)) (PIE X pins σ tg R) E { s with heap:=s.heap.push { cls:=.type "range",data:=.fields #[.int lo t,.int hi u,.int 1 v] },toks:=tk }:=by
 refine wpAny_pyIter_range (IsRange.new ..) (small_one h1 h2 h3 h4) ?_
 have I1:Inv X pins σ H { s with heap:=s.heap.push { cls:=.type "range",data:=.fields #[.int lo t,.int hi u,.int 1 v] },toks:=tk }:=I.kept fun b o e=>Heap.get?_push_of_some _ e
 refine ⟨(s.heap.push { cls:=.type "range",data:=.fields #[.int lo t,.int hi u,.int 1 v] }).objs.size,[(s.heap.push { cls:=.type "range",data:=.fields #[.int lo t,.int hi u,.int 1 v] }).objs.size],_,_,H,rfl,
  I1.kept (t':=tk) fun b o e=>Heap.get?_push_of_some _ e,b42 _ lo (hi - lo).toNat,?_,fun b hb=>?_,q⟩
 · have e1:lo+((0:Nat):Int)*1=lo:=by simp
   have e2:(((hi - lo).toNat:Nat):Int) - ((0:Nat):Int)=Builtin.Range.rangeSize lo hi 1:=by rw [rangeSize_one]; split <;> omega
   show IsRangeIter _ _ (lo+((0:Nat):Int)*1) ((((hi - lo).toNat:Nat):Int) - ((0:Nat):Int)) 1
   rw [e1,e2]
   exact Heap.get?_push_size _ rfl
 · have e:b=(s.heap.push { cls:=.type "range",data:=.fields #[.int lo t,.int hi u,.int 1 v] }).objs.size:=by simpa using hb
   subst e
   exact I1.fpOk (Nat.le_refl _) (I1.hok.fresh (Nat.le_refl _))
def bz5 (ta:TA):TI:=fun σ H R=>ta σ H fun vs H1=>∃ j:Int,vs=[.int j]∧-(2 ^ 62)≤j∧j<2 ^ 62∧R (Itr 0 j.toNat) H1
theorem ak1 {a:Expr}{ta:TA}{p pos:Pos}(hg:Gl X "range") (hm:X.mg "range"=none) (ha:PA X [a] ta) (hs:starEach [a] X.env=[(false,eval a X.env)]:=by rfl):PI X tg (.Call (.Name "range" p) [a] [] pos) (bz5 ta):=by
 intro pins s σ H R I h
 refine Call_ (ag4 I hg hm boot_range (PyProof.Rows.callWith_type1 (thn (ha pos pins s σ H _ I h) fun us s1 ⟨vs,H1,I1,r1,q1⟩=>?_) hs rfl))
 obtain ⟨j,e,q1,q2,q⟩:=q1
 subst e
 cases r1 with
 | cons r rr =>
   cases rr
   obtain ⟨t,rfl⟩:=r
   exact call_range_1 (bh3 I1 (by omega) (by omega) q1 q2 (by simpa using q))
def tFor (wi:TI) (g:TG) (tb:TS):TS:=fun D σ H=>wi σ H fun J H1=>∃ W:Nat→Nat→St→Hp→Prop,(∃ m,W 0 m σ H1)∧∀ i m σ H,W i m σ H →
 (J.stop i H∧D.nx σ H)∨(J.go i H∧∃ N:St→Hp→Prop,(∀ σ' H',N σ' H'→∃ m',m'<m∧W (i+1) m' σ' H')∧∀ x H',J.yld i H x H'→g x σ H' fun σ2 H2=>tb { D with nx:=N,ct:=N,bk:=D.nx } σ2 H2)
def pinsAt (fp:List Addr) (h:Heap):List (Addr×Obj):=fp.filterMap fun b=>(h.get? b).map fun o=>(b,o)
theorem af3 {fp:List Addr}{h:Heap}{b:Addr}{o:Obj}(hb:b∈fp) (e:h.get? b=some o):(b,o)∈pinsAt fp h:=List.mem_filterMap.mpr ⟨b,hb,by rw [e]; rfl⟩
theorem b82 {fp:List Addr}{h:Heap}{p:Addr×Obj}(hp:p∈pinsAt fp h):p.1∈fp∧h.get? p.1=some p.2:=by
 obtain ⟨b,hb,e⟩:=List.mem_filterMap.mp hp
 cases q:h.get? b with
 | none=>rw [q] at e; cases e
 | some o =>
   rw [q] at e
   have e':(b,o)=p:=Option.some.inj e
   subst e'
   exact ⟨hb,q⟩
theorem Inv.pinned {pins:List (Addr×Obj)}{σ:St} {H:Hp}{s:Shared}{fp:List Addr}(I:Inv X pins σ H s) (hf:∀ b∈fp,FpOk X pins H b) (ho:∀ b∈fp,∃ o,s.heap.get? b=some o∧∀ v,o.data≠.cell v):Inv X (pins++pinsAt fp s.heap) σ H s :=
 I.pins_of fun p hp=>(List.mem_append.mp hp).elim (fun z=>I.pin p (List.mem_append_right _ z)) fun z=>by
  obtain ⟨hb,e⟩:=b82 z
  obtain ⟨f0,f1,f2,_⟩:=hf p.1 hb
  obtain ⟨o,e',d⟩:=ho p.1 hb
  rw [e] at e'; cases e'
  exact ⟨e,f0,f1,f2,d⟩
theorem Inv.unpinned {pins pl:List (Addr×Obj)}{σ:St} {H:Hp}{s:Shared}(I:Inv X (pins++pl) σ H s):Inv X pins σ H s:=I.pins_of fun p hp=>I.pin p (List.mem_append_right _ (List.mem_append_left _ hp))
theorem aa3 {iter:Expr}{body:List Stmt}{wi:TI}{g:TG}{tb:TS}{pos:Pos}(hp:PassesOwn (model X.prog X.w) X.A X.env X.xe) (hc:X.calm=true) (hi:PI X tg iter wi) (hg:PG X tg g) (hb:PSs X body tb)
 (hs:∀ x,foldedSetIterable iter X.env x=pure x:=by intro _; rfl):PS X (.For tg iter body [] pos) (tFor wi g tb):=by
 intro pins s σ H D I h
 refine wpAny_For (thn (hi pins s σ H _ I h) fun v s1 h1=>thn h1 fun itv s2 h2=>?_) hs
 obtain ⟨it,fp,tn,J,H2,e,I2,T,st2,f2,W,⟨m0,w0⟩,turn⟩:=h2
 subst e
 have stat:∀ {H':Hp},(∀ b∈fp,H' b=none)→∀ b∈fp,FpOk X pins H' b:=fun hn b hb=>⟨hn b hb,(f2 b hb).2⟩
 refine codeAny_forLoop_any (fun n s'=>∃ i σ' H',Inv X pins σ' H' s'∧tn i s'.heap∧(∀ b∈fp,H' b=none)∧W i n σ' H') ?_ m0 ⟨0,σ,H2,I2,st2,fun b hb=>(f2 b hb).1,w0⟩
 rintro n s3 ⟨i,σ3,H3,I3,st3,fr3,w3⟩
 rcases turn i n σ3 H3 w3 with ⟨stop,qn⟩ | ⟨go,N,hN,step⟩
 · refine wpAny_passesOwn hp (thn (T.done X rfl rfl rfl hc i pins s3 σ3 H3 X.xe I3 (stat fr3) st3 stop) fun r s4 ⟨hr,I4⟩=>?_)
   subst hr
   exact wpAny_execs_nil ⟨σ3,H3,I4,qn⟩
 · refine wpAny_passesOwn hp (thn (T.item X rfl rfl rfl hc i pins s3 σ3 H3 X.xe I3 (stat fr3) st3 go) fun r s4 ⟨u,hr,h4⟩=>?_)
   subst hr
   refine wpAny_passesOwn hp (thn h4 fun _ s5 ⟨x,H5,I5,r5,y5,st5,fr5⟩=>?_)
   have I5':=I5.pinned (stat fr5) (T.obj _ _ st5)
   refine wpAny_passesOwn hp (thn (hg _ s5 σ3 H5 x u _ I5' r5 (step x H5 y5)) fun _ s6 ⟨σ6,H6,I6,q6⟩=>?_)
   refine wpAny_passesOwn hp (thn (hb _ s6 σ6 H6 _ I6 q6) fun f s7 q7=>?_)
   have again:∀ {σ7:St} {H7:Hp},Inv X (pins++pinsAt fp s5.heap) σ7 H7 s7→N σ7 H7→∃ m,m<n∧∃ i σ' H',Inv X pins σ' H' s7∧tn i s7.heap∧(∀ b∈fp,H' b=none)∧W i m σ' H':=fun {σ7 H7} I7 n7=>by
    obtain ⟨m',hm,w7⟩:=hN σ7 H7 n7
    refine ⟨m',hm,i+1,σ7,H7,I7.unpinned,T.keep _ _ _ st5 fun b hb o e=>(I7.pin (b,o) (List.mem_append_right _ (List.mem_append_right _ (af3 hb e)))).1,fun b hb=>?_,w7⟩
    obtain ⟨o,e,d⟩:=T.obj _ _ st5 b hb
    exact (I7.pin (b,o) (List.mem_append_right _ (List.mem_append_right _ (af3 hb e)))).2.1
   cases f with
   | next=>obtain ⟨σ7,H7,I7,n7⟩:=q7; exact again I7 n7
   | cont=>obtain ⟨σ7,H7,I7,n7⟩:=q7; exact again I7 n7
   | brk=>obtain ⟨σ7,H7,I7,q7⟩:=q7; exact ⟨σ7,H7,I7.unpinned,q7⟩
   | ret v=>obtain ⟨x7,σ7,H7,I7,r7,q7⟩:=q7; exact ⟨x7,σ7,H7,I7.unpinned,r7,q7⟩
end
theorem ac6 {K:PySem.W.Frag}{a:Addr}{xs:List V}{g:TG}{tb:TS}{D:Ends}{σ:St} {H:Hp}(Pv:Nat→St→Hp→Prop) (h0:Pv 0 σ H) (hl:∀ i σ H,i≤xs.length→Pv i σ H→SqL K H a xs)
 (hs:∀ i x σ H,xs[i]?=some x→Pv i σ H→g x σ H fun σ2 H2=>tb { D with nx:=Pv (i+1),ct:=Pv (i+1),bk:=D.nx } σ2 H2) (hd:∀ σ H,Pv xs.length σ H→D.nx σ H) :
 ∃ W:Nat→Nat→St→Hp→Prop,(∃ m,W 0 m σ H)∧∀ i m σ H,W i m σ H →
  ((Itl K a).stop i H∧D.nx σ H)∨((Itl K a).go i H∧∃ N:St→Hp→Prop,(∀ σ' H',N σ' H'→∃ m',m'<m∧W (i+1) m' σ' H')∧∀ x H',(Itl K a).yld i H x H'→g x σ H' fun σ2 H2=>tb { D with nx:=N,ct:=N,bk:=D.nx } σ2 H2):=by
 refine ⟨fun i m σ H=>m=xs.length - i∧i≤xs.length∧Pv i σ H,⟨xs.length,by simp,Nat.zero_le _,h0⟩,?_⟩
 rintro i m σ H ⟨rfl,hi,p⟩
 have q:=hl i σ H hi p
 by_cases hlt:i<xs.length
 · refine .inr ⟨⟨xs,xs[i],q,by simp [hlt]⟩,Pv (i+1),fun σ' H' p'=>⟨xs.length - (i+1),by omega,rfl,hlt,p'⟩,fun x H' y=>?_⟩
   obtain ⟨e,y⟩:=y
   subst e
   exact hs i x σ _ (y xs q) p
 · have e:i=xs.length:=by omega
   subst e
   exact .inl ⟨⟨xs,q,Nat.le_refl _⟩,hd σ H p⟩
theorem br7 {K:PySem.W.Frag}{a:Addr}{xs:List V}{g:TG}{tb:TS}{D:Ends}{σ:St} {H:Hp}(Pv:Nat→St→Hp→Prop) (h0:Pv 0 σ H) (hl:∀ i σ H,i≤xs.length→Pv i σ H→SqT K H a xs)
 (hs:∀ i x σ H,xs[i]?=some x→Pv i σ H→g x σ H fun σ2 H2=>tb { D with nx:=Pv (i+1),ct:=Pv (i+1),bk:=D.nx } σ2 H2) (hd:∀ σ H,Pv xs.length σ H→D.nx σ H) :
 ∃ W:Nat→Nat→St→Hp→Prop,(∃ m,W 0 m σ H)∧∀ i m σ H,W i m σ H →
  ((Itt K a).stop i H∧D.nx σ H)∨((Itt K a).go i H∧∃ N:St→Hp→Prop,(∀ σ' H',N σ' H'→∃ m',m'<m∧W (i+1) m' σ' H')∧∀ x H',(Itt K a).yld i H x H'→g x σ H' fun σ2 H2=>tb { D with nx:=N,ct:=N,bk:=D.nx } σ2 H2):=by
 refine ⟨fun i m σ H=>m=xs.length - i∧i≤xs.length∧Pv i σ H,⟨xs.length,by simp,Nat.zero_le _,h0⟩,?_⟩
 rintro i m σ H ⟨rfl,hi,p⟩
 have q:=hl i σ H hi p
 by_cases hlt:i<xs.length
 · refine .inr ⟨⟨xs,xs[i],q,by simp [hlt]⟩,Pv (i+1),fun σ' H' p'=>⟨xs.length - (i+1),by omega,rfl,hlt,p'⟩,fun x H' y=>?_⟩
   obtain ⟨e,y⟩:=y
   subst e
   exact hs i x σ _ (y xs q) p
 · have e:i=xs.length:=by omega
   subst e
   exact .inl ⟨⟨xs,q,Nat.le_refl _⟩,hd σ H p⟩
theorem ar6 {lo:Int}{n:Nat}{g:TG}{tb:TS}{D:Ends}{σ:St} {H:Hp}(Pv:Nat→St→Hp→Prop) (h0:Pv 0 σ H)
 (hs:∀ i σ H,i<n→Pv i σ H→g (.int (lo+i)) σ H fun σ2 H2=>tb { D with nx:=Pv (i+1),ct:=Pv (i+1),bk:=D.nx } σ2 H2) (hd:∀ σ H,Pv n σ H→D.nx σ H) :
 ∃ W:Nat→Nat→St→Hp→Prop,(∃ m,W 0 m σ H)∧∀ i m σ H,W i m σ H →
  ((Itr lo n).stop i H∧D.nx σ H)∨((Itr lo n).go i H∧∃ N:St→Hp→Prop,(∀ σ' H',N σ' H'→∃ m',m'<m∧W (i+1) m' σ' H')∧∀ x H',(Itr lo n).yld i H x H'→g x σ H' fun σ2 H2=>tb { D with nx:=N,ct:=N,bk:=D.nx } σ2 H2):=by
 refine ⟨fun i m σ H=>m=n - i∧i≤n∧Pv i σ H,⟨n,by simp,Nat.zero_le _,h0⟩,?_⟩
 rintro i m σ H ⟨rfl,hi,p⟩
 by_cases hlt:i<n
 · refine .inr ⟨hlt,Pv (i+1),fun σ' H' p'=>⟨n - (i+1),by omega,rfl,hlt,p'⟩,fun x H' y=>?_⟩
   obtain ⟨e,y⟩:=y
   subst e y
   exact hs i σ _ hlt p
 · have e:i=n:=by omega
   subst e
   exact .inl ⟨Nat.le_refl _,hd σ H p⟩
abbrev R2:=V→V→Hp→VK→Prop
def OpR (X:Cx) (f:Value→Value→Sem Value) (r:R2):Prop :=
 ∀ (pins:List (Addr×Obj)) (s:Shared) (σ:St) (H:Hp) (x y:V) (v u:Value) (Q:VK),Inv X pins σ H s→RelV x v→RelV y u→r x y H Q →
  wpAny (model X.prog X.w) X.A (f v u) (EP X pins σ Q) X.xe s
def UnR (X:Cx) (f:Value→Sem Value) (r:V→Hp→VK→Prop):Prop :=
 ∀ (pins:List (Addr×Obj)) (s:Shared) (σ:St) (H:Hp) (x:V) (v:Value) (Q:VK),Inv X pins σ H s→RelV x v→r x H Q →
  wpAny (model X.prog X.w) X.A (f v) (EP X pins σ Q) X.xe s
def CallR (X:Cx) (f:Value) (r:List V→Hp→VK→Prop):Prop :=
 ∀ (pins:List (Addr×Obj)) (s:Shared) (σ:St) (H:Hp) (xs:List V) (us:List Value) (Q:VK),Inv X pins σ H s→Vals xs us→r xs H Q →
  wpAny (model X.prog X.w) X.A (call f us) (EP X pins σ Q) X.xe s
def TruR (X:Cx) (r:V→Hp→(Bool→Hp→Prop)→Prop):Prop :=
 ∀ (pins:List (Addr×Obj)) (s:Shared) (σ:St) (H:Hp) (x:V) (v:Value) (Q:Bool→Hp→Prop),Inv X pins σ H s→RelV x v→r x H Q →
  wpAny (model X.prog X.w) X.A (truthy v) (TP X pins σ Q) X.xe s
def tOp (r:R2) (ta tb:TE):TE:=fun σ H Q=>ta σ H fun x H1=>tb σ H1 fun y H2=>r x y H2 Q
def tUn (r:V→Hp→VK→Prop) (ta:TE):TE:=fun σ H Q=>ta σ H fun x H1=>r x H1 Q
def rI (C:Int→Int→Prop) (g:Int→Int→V):R2:=fun x y H Q=>∃ i j,x=.int i∧y=.int j∧C i j∧Q (g i j) H
def rI0 (g:Int→Int→V):R2:=fun x y H Q=>∃ i j,x=.int i∧y=.int j∧Q (g i j) H
def rU (g:Int→V):V→Hp→VK→Prop:=fun x H Q=>∃ i,x=.int i∧Q (g i) H
section
variable {X:Cx}{a b c:Expr}{ta tb tc:TE}{pos:Pos}
theorem binT (ha:PE X a ta) (hb:PE X b tb) {pins:List (Addr×Obj)}{s:Shared}{σ:St} {H:Hp}{R:V→V→Hp→Prop}(I:Inv X pins σ H s)
 (h:ta σ H fun x H1=>tb σ H1 fun y H2=>R x y H2) {Q:Value→Shared→Prop}{f:Value→Value→Sem Value}
 (hf:∀ v u s2 x y H2,Inv X pins σ H2 s2→RelV x v→RelV y u→R x y H2→wpAny (model X.prog X.w) X.A (f v u) Q X.xe s2) :
 wpAny (model X.prog X.w) X.A (eval a X.env) (fun v s₁=>wpAny (model X.prog X.w) X.A (eval b X.env) (fun u s₂=>wpAny (model X.prog X.w) X.A (f v u) Q X.xe s₂) X.xe s₁) X.xe s:=by
 refine thn (ha pins s σ H _ I h) fun v s1 ⟨x,H1,I1,r1,q1⟩=>?_
 refine thn (hb pins s1 σ H1 _ I1 q1) fun u s2 ⟨y,H2,I2,r2,q2⟩=>?_
 exact hf v u s2 x y H2 I2 r1 r2 q2
theorem a80 {op:Operator}{r:R2}(ho:OpR X (binaryOp op) r) (ha:PE X a ta) (hb:PE X b tb):PE X (.BinOp a op b pos) (tOp r ta tb):=by
 intro pins s σ H Q I h
 exact wpAny_BinOp (binT ha hb I h fun v u s2 x y H2 I2 rx ry q=>ho pins s2 σ H2 x y v u Q I2 rx ry q)
theorem bz6 {op:UnaryOp}{r:V→Hp→VK→Prop}(ho:UnR X (unaryOp op) r) (ha:PE X a ta):PE X (.UnaryOp op a pos) (tUn r ta):=by
 intro pins s σ H Q I h
 exact UnaryOp_ (thn (ha pins s σ H _ I h) fun v s1 ⟨x,H1,I1,r1,q1⟩=>ho pins s1 σ H1 x v Q I1 r1 q1)
theorem opI {f:Value→Value→Sem Value}{C:Int→Int→Prop}{g:Int→Int→Int}
 (rule:∀ (i j:Int) (t u:Tok) (s:Shared) (Q:Value→Shared→Prop) (E:Value→Shared→Prop),C i j→Q (.int (g i j) s.toks) { s with toks:=s.toks+1 }→wpAny (model X.prog X.w) X.A (f (.int i t) (.int j u)) Q E s) :
 OpR X f (rI C fun i j=>.int (g i j)):=by
 intro pins s σ H x y v u Q I rx ry h
 obtain ⟨i,j,rfl,rfl,hc,q⟩:=h
 obtain ⟨t,rfl⟩:=rx
 obtain ⟨t',rfl⟩:=ry
 exact rule i j t t' s _ _ hc ⟨.int (g i j),H,I.tok _,⟨_,rfl⟩,q⟩
theorem opI0 {f:Value→Value→Sem Value}{g:Int→Int→Int}
 (rule:∀ (i j:Int) (t u:Tok) (s:Shared) (Q:Value→Shared→Prop) (E:Value→Shared→Prop),Q (.int (g i j) s.toks) { s with toks:=s.toks+1 }→wpAny (model X.prog X.w) X.A (f (.int i t) (.int j u)) Q E s) :
 OpR X f (rI0 fun i j=>.int (g i j)):=by
 intro pins s σ H x y v u Q I rx ry h
 obtain ⟨i,j,rfl,rfl,q⟩:=h
 obtain ⟨t,rfl⟩:=rx
 obtain ⟨t',rfl⟩:=ry
 exact rule i j t t' s _ _ ⟨.int (g i j),H,I.tok _,⟨_,rfl⟩,q⟩
theorem opB0 {f:Value→Value→Sem Value}{g:Int→Int→Bool}
 (rule:∀ (i j:Int) (t u:Tok) (s:Shared) (Q:Value→Shared→Prop) (E:Value→Shared→Prop),Q (.bool (g i j)) s→wpAny (model X.prog X.w) X.A (f (.int i t) (.int j u)) Q E s) :
 OpR X f (rI0 fun i j=>.bl (g i j)):=by
 intro pins s σ H x y v u Q I rx ry h
 obtain ⟨i,j,rfl,rfl,q⟩:=h
 obtain ⟨t,rfl⟩:=rx
 obtain ⟨t',rfl⟩:=ry
 exact rule i j t t' s _ _ ⟨.bl (g i j),H,I,rfl,q⟩
def CDiv (i j:Int):Prop:=0<j∧j<1073741824
def CMul (i j:Int):Prop:=(-(2 ^ 64)<i∧i<2 ^ 64)∨(-(2 ^ 64)<j∧j<2 ^ 64)
theorem CMul.ok {i j:Int}(h:CMul i j):IntMulOk i j:=by
 rcases h with ⟨h1,h2⟩ | ⟨h1,h2⟩
 · exact .of_left (intBits_le_64 h1 h2)
 · exact .of_right (intBits_le_64 h1 h2)
theorem bz7:OpR X (binaryOp .Add) (rI0 fun i j=>.int (i+j)):=opI0 fun _ _ _ _ _ _ _ q=>add_int q
theorem bz8:OpR X (binaryOp .Sub) (rI0 fun i j=>.int (i - j)):=opI0 fun _ _ _ _ _ _ _ q=>sub_int q
theorem ao6:OpR X (binaryOp .FloorDiv) (rI CDiv fun i j=>.int (i / j)):=opI fun i j _ _ _ _ _ hc q=>by
 have h1:(0:Int)<j:=hc.1
 have h2:j<1073741824:=hc.2
 exact floordiv_int (by omega) (by rw [Int.fdiv_eq_ediv_of_nonneg i (by omega)]; exact q) (.inl (PyProof.noPylong_small (by omega)))
theorem ak2:OpR X (binaryOp .Mod) (rI (fun _ j=>0<j) fun i j=>.int (i % j)):=opI fun i j _ _ _ _ _ hc q=>by
 have h1:(0:Int)<j:=hc
 exact mod_int' (by omega) (by rw [Int.fmod_eq_emod_of_nonneg i (by omega)]; exact q)
theorem unI {f:Value→Sem Value}{g:Int→Int}
 (rule:∀ (i:Int) (t:Tok) (s:Shared) (Q:Value→Shared→Prop) (E:Value→Shared→Prop),Q (.int (g i) s.toks) { s with toks:=s.toks+1 }→wpAny (model X.prog X.w) X.A (f (.int i t)) Q E s) :
 UnR X f (rU fun i=>.int (g i)):=by
 intro pins s σ H x v Q I rx h
 obtain ⟨i,rfl,q⟩:=h
 obtain ⟨t,rfl⟩:=rx
 exact rule i t s _ _ ⟨.int (g i),H,I.tok _,⟨_,rfl⟩,q⟩
theorem bp4:UnR X (unaryOp .USub) (rU fun i=>.int (-i)):=unI fun _ _ _ _ _ q=>neg_int q
end
def scal:V→V→Bool
 | .non,.non=>true | .non,.int _=>true | .int _,.non=>true | .non,.bl _=>true | .bl _,.non=>true | .non,.str _=>true | .str _,.non=>true
 | .int _,.int _=>true | .bl _,.bl _=>true | .str _,.str _=>true | .byt _,.byt _=>true
 | .int _,.str _=>true | .str _,.int _=>true | .bl _,.str _=>true | .str _,.bl _=>true
 | _,_=>false
def rEq:R2:=fun x y H Q=>scal x y=true∧Q (.bl (decide (x=y))) H
def rNe:R2:=fun x y H Q=>scal x y=true∧Q (.bl (!decide (x=y))) H
theorem b83 {i j:Int}:decide (V.int i=V.int j)=(i == j):=by
 rw [Bool.eq_iff_iff]
 simp
theorem bp5 {i j:Bool}:decide (V.bl i=V.bl j)=(i == j):=by
 rw [Bool.eq_iff_iff]
 simp
theorem b84 {i j:Str}:decide (V.str i=V.str j)=(i == j):=by
 rw [Bool.eq_iff_iff]
 simp
theorem b85 {i j:Array UInt8}:decide (V.byt i=V.byt j)=(i.toList == j.toList):=by
 rw [Bool.eq_iff_iff]
 cases i
 cases j
 simp
section
variable {X:Cx}{a b c:Expr}{ta tb tc:TE}{pos:Pos}
theorem a72 {pins:List (Addr×Obj)}{σ:St} {H:Hp}{s:Shared}{Q:VK}{k k':Bool}(I:Inv X pins σ H s) (q:Q (.bl k) H) (e:k=k'):EP X pins σ Q (.bool k') s:=by
 subst e
 exact ⟨.bl k,H,I,rfl,q⟩
theorem bh4:OpR X (compareOp .Eq) rEq:=by
 intro pins s σ H x y v u Q I rx ry h
 obtain ⟨hs,q⟩:=h
 cases x with
 | non =>
   cases rx
   cases y with
   | non=>cases ry; exact PySem.EqNone.eq_none_none (a72 I q (by simp))
   | bl j=>cases ry; exact PySem.EqNone.eq_none_bool (a72 I q (by simp))
   | int j=>obtain ⟨t',rfl⟩:=ry; exact PySem.EqNone.eq_none_int (a72 I q (by simp))
   | str j=>obtain ⟨t',rfl⟩:=ry; exact PySem.EqNone.eq_none_str (a72 I q (by simp))
   | _=>exact absurd (show false=true from hs) Bool.false_ne_true
 | bl i =>
   cases rx
   cases y with
   | non=>cases ry; exact PySem.EqNone.eq_bool_none (a72 I q (by simp))
   | bl j=>cases ry; exact eq_bool (a72 I q bp5)
   | str j=>obtain ⟨t',rfl⟩:=ry; exact PySem.EqMixed.eq_bool_str (a72 I q (by simp))
   | _=>exact absurd (show false=true from hs) Bool.false_ne_true
 | int i =>
   obtain ⟨t,rfl⟩:=rx
   cases y with
   | non=>cases ry; exact PySem.EqNone.eq_int_none (a72 I q (by simp))
   | int j=>obtain ⟨t',rfl⟩:=ry; exact eq_int (a72 I q b83)
   | str j=>obtain ⟨t',rfl⟩:=ry; exact PySem.EqMixed.eq_int_str (a72 I q (by simp))
   | _=>exact absurd (show false=true from hs) Bool.false_ne_true
 | str i =>
   obtain ⟨t,rfl⟩:=rx
   cases y with
   | non=>cases ry; exact PySem.EqNone.eq_str_none (a72 I q (by simp))
   | bl j=>cases ry; exact PySem.EqMixed.eq_str_bool (a72 I q (by simp))
   | int j=>obtain ⟨t',rfl⟩:=ry; exact PySem.EqMixed.eq_str_int (a72 I q (by simp))
   | str j=>obtain ⟨t',rfl⟩:=ry; exact eq_str (a72 I q b84)
   | _=>exact absurd (show false=true from hs) Bool.false_ne_true
 | byt i =>
   obtain ⟨t,rfl⟩:=rx
   cases y with
   | byt j=>obtain ⟨t',rfl⟩:=ry; exact PySem.W.eq_bytes (a72 I q b85)
   | _=>exact absurd (show false=true from hs) Bool.false_ne_true
 | _=>cases y <;> exact absurd (show false=true from hs) Bool.false_ne_true
theorem c97:OpR X (compareOp .NotEq) rNe:=by
 intro pins s σ H x y v u Q I rx ry h
 obtain ⟨hs,q⟩:=h
 cases x with
 | non =>
   cases rx
   cases y with
   | non=>cases ry; exact PySem.EqNone.ne_none_none (a72 I q (by simp))
   | bl j=>cases ry; exact PySem.EqNone.ne_none_bool (a72 I q (by simp))
   | int j=>obtain ⟨t',rfl⟩:=ry; exact PySem.EqNone.ne_none_int (a72 I q (by simp))
   | str j=>obtain ⟨t',rfl⟩:=ry; exact PySem.EqNone.ne_none_str (a72 I q (by simp))
   | _=>exact absurd (show false=true from hs) Bool.false_ne_true
 | bl i =>
   cases rx
   cases y with
   | non=>cases ry; exact PySem.EqNone.ne_bool_none (a72 I q (by simp))
   | bl j=>cases ry; exact ne_bool (a72 I q (congrArg not bp5))
   | str j=>obtain ⟨t',rfl⟩:=ry; exact PySem.EqMixed.ne_bool_str (a72 I q (by simp))
   | _=>exact absurd (show false=true from hs) Bool.false_ne_true
 | int i =>
   obtain ⟨t,rfl⟩:=rx
   cases y with
   | non=>cases ry; exact PySem.EqNone.ne_int_none (a72 I q (by simp))
   | int j=>obtain ⟨t',rfl⟩:=ry; exact ne_int (a72 I q (congrArg not b83))
   | str j=>obtain ⟨t',rfl⟩:=ry; exact PySem.EqMixed.ne_int_str (a72 I q (by simp))
   | _=>exact absurd (show false=true from hs) Bool.false_ne_true
 | str i =>
   obtain ⟨t,rfl⟩:=rx
   cases y with
   | non=>cases ry; exact PySem.EqNone.ne_str_none (a72 I q (by simp))
   | bl j=>cases ry; exact PySem.EqMixed.ne_str_bool (a72 I q (by simp))
   | int j=>obtain ⟨t',rfl⟩:=ry; exact PySem.EqMixed.ne_str_int (a72 I q (by simp))
   | str j=>obtain ⟨t',rfl⟩:=ry; exact ne_str (a72 I q (congrArg not b84))
   | _=>exact absurd (show false=true from hs) Bool.false_ne_true
 | byt i =>
   obtain ⟨t,rfl⟩:=rx
   cases y with
   | byt j=>obtain ⟨t',rfl⟩:=ry; exact PySem.W.ne_bytes (a72 I q (congrArg not b85))
   | _=>exact absurd (show false=true from hs) Bool.false_ne_true
 | _=>cases y <;> exact absurd (show false=true from hs) Bool.false_ne_true
theorem br8:OpR X (compareOp .Lt) (rI0 fun i j=>.bl (decide (i<j))):=opB0 fun _ _ _ _ _ _ _ q=>lt_int q
theorem bz9:OpR X (compareOp .LtE) (rI0 fun i j=>.bl (decide (i≤j))):=opB0 fun _ _ _ _ _ _ _ q=>le_int q
theorem c98:OpR X (compareOp .Gt) (rI0 fun i j=>.bl (decide (j<i))):=opB0 fun _ _ _ _ _ _ _ q=>gt_int q
theorem c99:OpR X (compareOp .GtE) (rI0 fun i j=>.bl (decide (j≤i))):=opB0 fun _ _ _ _ _ _ _ q=>ge_int q
theorem nomark (b:Expr) {op:CmpOp}(h:op≠.In:=by decide) (h2:op≠.NotIn:=by decide):behindInMarks op b=false:=by
 have e1:(op == CmpOp.In)=false:=by cases op <;> first | rfl | exact absurd rfl h
 have e2:(op == CmpOp.NotIn)=false:=by cases op <;> first | rfl | exact absurd rfl h2
 cases b <;> simp [behindInMarks,e1,e2]
def tTest (t:TE):TT:=fun σ H Q=>t σ H fun x H'=>∃ k,x=.bl k∧Q k H'
theorem a83 {op:CmpOp}{r:R2}(ho:OpR X (compareOp op) r) (ha:PE X a ta) (hb:PE X b tb) (hm:behindInMarks op b=false):PT X (.Compare a [op] [b] pos) (tTest (tOp r ta tb)):=by
 intro pins s σ H Q I h
 refine wpAny_isTrue_Compare1 (thn (ha pins s σ H _ I h) fun v s1 ⟨x,H1,I1,r1,q1⟩=>thn (hb pins s1 σ H1 _ I1 q1) fun u s2 ⟨y,H2,I2,r2,q2⟩ =>
  thn (ho pins s2 σ H2 x y v u _ I2 r1 r2 q2) fun c s3 ⟨z,H3,I3,r3,k,e,q3⟩=>?_) hm
 subst e
 cases r3
 exact wpAny_truthy_bool ⟨H3,I3,q3⟩
def TruV (K:PySem.W.Frag) (x:V) (H:Hp) (k:Bool):Prop :=
 match x with
 | .non=>k=false
 | .bl b=>k=b
 | .int i=>k=(i != 0)
 | .str y=>y.length≤sizeLine∧k=((y.length:Int) != 0)
 | .byt y=>y.size≤sizeLine∧k=((y.size:Int) != 0)
 | .ref p=>(∃ xs,SqL K H p xs∧k=!xs.isEmpty)∨(∃ xs,SqT K H p xs∧k=!xs.isEmpty)∨∃ kvs,H p=some (.dK kvs)∧k=!kvs.isEmpty
 | _=>False
theorem b43 {κ:Type} {kvs:List (κ×V)}{vs:List (κ×Value)}(r:KV kvs vs):(!vs.isEmpty)=!kvs.isEmpty:=by
 cases r <;> rfl
theorem am3 {xs:List V}{its:List Value}(r:Vals xs its):(!its.toArray.isEmpty)=!xs.isEmpty:=by
 cases r <;> simp
theorem ar7:(sizeLine:Nat)<2 ^ 63:=by rw [sizeLine_eq]; decide
theorem c00:TruR X (fun x H Q=>∃ k,TruV X.K x H k∧Q k H):=by
 intro pins s σ H x v Q I rx h
 obtain ⟨k,e,q⟩:=h
 have hl:=ar7
 have hs:sizeLine=16777216:=sizeLine_eq
 cases x with
 | non =>
   cases rx
   have e':k=false:=e
   subst e'
   exact truthy_none ⟨H,I,q⟩
 | bl b =>
   cases rx
   have e':k=b:=e
   subst e'
   exact wpAny_truthy_bool ⟨H,I,q⟩
 | int i =>
   obtain ⟨t,rfl⟩:=rx
   have e':k=(i != 0):=e
   subst e'
   exact PySem.P.truthy_int ⟨H,I,q⟩
 | str y =>
   obtain ⟨t,rfl⟩:=rx
   obtain ⟨hy,e'⟩:y.length≤sizeLine∧k=((y.length:Int) != 0):=e
   subst e'
   exact PySem.P.truthy_str (by omega) ⟨H,I.tok _,q⟩
 | byt y =>
   obtain ⟨t,rfl⟩:=rx
   obtain ⟨hy,e'⟩:y.size≤sizeLine∧k=((y.size:Int) != 0):=e
   subst e'
   exact PySem.W.truthy_bytes (by omega) ⟨H,I.tok _,q⟩
 | ref p =>
   cases rx
   have e':(∃ xs,SqL X.K H p xs∧k=!xs.isEmpty)∨(∃ xs,SqT X.K H p xs∧k=!xs.isEmpty)∨∃ kvs,H p=some (.dK kvs)∧k=!kvs.isEmpty:=e
   rcases e' with ⟨xs,hx,e'⟩ | ⟨xs,hx,e'⟩ | ⟨kvs,hx,e'⟩
   · subst e'
     obtain ⟨its,r,pl,hz⟩:=I.list hx
     have hlen:=r.length
     exact wpAny_truthy_list pl.isList (by simp only [List.size_toArray]; omega) ⟨H,I.tok _,by rw [am3 r]; exact q⟩
   · subst e'
     obtain ⟨its,r,pl,hz⟩:=I.tuple hx
     have hlen:=r.length
     exact truthy_tuple pl (by simp only [List.size_toArray]; omega) ⟨H,I.tok _,by rw [am3 r]; exact q⟩
   · subst e'
     obtain ⟨hz,hS,vs,r,m⟩:kvs.length≤sizeLine∧(p == sysModules)=false∧∃ vs,KV kvs vs∧s.heap.DictOf (mixKind X.prog X.w) p vs:=I.hok p _ hx
     have hlen:kvs.length=vs.length:=Paired.length r
     exact wpAny_truthy_dict hS m (by omega) ⟨H,I.tok _,by rw [b43 r]; exact q⟩
 | _=>exact (show False from e).elim
theorem bh5 (ha:PE X a ta) (he:∀ whole,isTrue a X.env whole=(do let v←whole; standAt a.pos; holding [v] (truthy v))) :
 PT X a (fun σ H Q=>ta σ H fun x H'=>∃ k,TruV X.K x H' k∧Q k H'):=by
 intro pins s σ H Q I h
 exact isTrue_plain (thn (ha pins s σ H _ I h) fun v s1 ⟨x,H1,I1,r1,q1⟩=>c00 pins s1 σ H1 x v Q I1 r1 q1) (he _)
theorem b44:OpR X (binaryOp .Add) (fun x y H Q=>∃ i j,x=.str i∧y=.str j∧i.length+j.length≤sizeLine∧Q (.str (i++j)) H):=by
 intro pins s σ H x y v u Q I rx ry h
 obtain ⟨i,j,rfl,rfl,hz,q⟩:=h
 obtain ⟨t,rfl⟩:=rx
 obtain ⟨t',rfl⟩:=ry
 exact add_str (fun t' tk=>⟨.str (i++j),H,I.tok _,⟨_,rfl⟩,q⟩) hz
theorem b86 {x:V}{us:List Value}(r:Vals [x] us):∃ u,us=[u]∧RelV x u:=by
 cases r with
 | cons r1 r2=>cases r2; exact ⟨_,rfl,r1⟩
theorem c01 {x y:V}{us:List Value}(r:Vals [x,y] us):∃ u w',us=[u,w']∧RelV x u∧RelV y w':=by
 cases r with
 | cons r1 r2 =>
   cases r2 with
   | cons r3 r4=>cases r4; exact ⟨_,_,rfl,r1,r3⟩
def LenV (K:PySem.W.Frag) (x:V) (H:Hp) (n:Nat):Prop :=
 match x with
 | .str y=>y.length≤sizeLine∧n=y.length
 | .byt y=>y.size≤sizeLine∧n=y.size
 | .ref p=>(∃ xs,SqL K H p xs∧n=xs.length)∨∃ xs,SqT K H p xs∧n=xs.length
 | _=>False
theorem bh6:CallR X (.builtin "len") (fun xs H Q=>∃ x n,xs=[x]∧LenV X.K x H n∧Q (.int n) H):=by
 intro pins s σ H xs us Q I r h
 obtain ⟨x,n,rfl,e,q⟩:=h
 obtain ⟨u,rfl,rx⟩:=b86 r
 have hl:=ar7
 have hs:sizeLine=16777216:=sizeLine_eq
 cases x with
 | str y =>
   obtain ⟨t,rfl⟩:=rx
   obtain ⟨hy,e'⟩:y.length≤sizeLine∧n=y.length:=e
   subst e'
   exact len_str (by omega) ⟨.int _,H,I.tok _,⟨_,rfl⟩,q⟩
 | byt y =>
   obtain ⟨t,rfl⟩:=rx
   obtain ⟨hy,e'⟩:y.size≤sizeLine∧n=y.size:=e
   subst e'
   exact PySem.W.len_bytes (by omega) ⟨.int _,H,I.tok _,⟨_,rfl⟩,q⟩
 | ref p =>
   cases rx
   have e':(∃ xs,SqL X.K H p xs∧n=xs.length)∨∃ xs,SqT X.K H p xs∧n=xs.length:=e
   rcases e' with ⟨xs,hx,e'⟩ | ⟨xs,hx,e'⟩
   · subst e'
     obtain ⟨its,r',pl,hz⟩:=I.list hx
     have hlen:=r'.length
     exact Calls.call_len_list pl.isList (by simp only [List.size_toArray]; omega) ⟨.int xs.length,H,I.tok _,⟨_,by simp only [List.size_toArray]; rw [hlen]⟩,q⟩
   · subst e'
     obtain ⟨its,r',pl,hz⟩:=I.tuple hx
     have hlen:=r'.length
     exact len_tuple pl (by simp only [List.size_toArray]; omega) ⟨.int xs.length,H,I.tok _,⟨_,by simp only [List.size_toArray]; rw [hlen]⟩,q⟩
 | _=>exact (show False from e).elim
end
structure ObjM (h:Heap) (x dx C:Addr) (mA:Str→Option Value):Prop where
 obj:h.get? x=some (PySem.W.instObj C dx)
 ns:h.Ns1 dx mA
 ne:dx≠x
theorem b87 {h:Heap}{dx:Addr}{mA:Str→Option Value}(n:h.Ns1 dx mA):∃ od,h.get? dx=some od∧∀ name,PySem.W.lookIn name od=some (mA name):=by
 obtain ⟨o,es,ep,ho,hd,hk,_,hm⟩:=n
 refine ⟨o,ho,fun name=>?_⟩
 have e:=hm name
 unfold nsFind findBy at e
 rw [← Array.find?_toList] at e
 unfold PySem.W.lookIn
 rw [hd]
 dsimp only
 split
 · rename_i y q
   rw [q] at e
   exact congrArg some e
 · rename_i q
   rw [q] at e
   have a:es.toList.any (·.refKey)=false:=by
    rw [List.any_eq_false]
    intro y hy
    obtain ⟨z,t,hkey⟩:=hk y (Array.mem_toList_iff.mp hy)
    simp [DictEntry.refKey,hkey]
   have a':¬ es.toList.any (·.refKey)=true:=by rw [a]; exact Bool.false_ne_true
   rw [if_neg a']
   exact congrArg some e
theorem ObjM.look {h:Heap}{x dx C:Addr}{mA:Str→Option Value}(I:ObjM h x dx C mA):∃ od,PySem.W.InstAt h x (PySem.W.instObj C dx) C (some od)∧∀ name,PySem.W.lookIn name od=some (mA name) :=
 let ⟨od,ho,hl⟩:=b87 I.ns
 ⟨od,⟨I.obj,rfl,rfl,ho⟩,hl⟩
section
variable {prog:Program}{w:World}{A:Around}{E:Value→Shared→Prop}{s:Shared}{K:PySem.W.Frag}{x dx C f:Addr}{mA:Str→Option Value}{name:Str}{v:Value}
theorem br9 {expr:Bool}{Q:Value→Shared→Prop}(X:K.In s.heap) (I:ObjM s.heap x dx C mA) (hg:PySem.W.plainGet K C name=true) (hh:PySem.W.hasDictIn K C=true)
 (ha:PySem.W.findIn K (.ref C) name=some none) (hv:mA name=some v) (hv':PySem.W.handedIn v=true) (h:Q v { s with toks:=s.toks+1 }) :
 wpAny (model prog w) A (getAttr (.ref x) name expr) Q E s:=by
 obtain ⟨od,J,hl⟩:=I.look
 exact PySem.W.get_value X J (PySem.W.plainGet_of hg).1 (PySem.W.findObj_own hh ha rfl (by rw [hl,hv])) hv' h
theorem bh7 {pl:Sem Bool}{Q:Value×List Value→Shared→Prop}(X:K.In s.heap) (I:ObjM s.heap x dx C mA) (hg:PySem.W.plainGet K C name=true)
 (hf:PySem.W.findIn K (.ref C) name=some (some (.ref f))) (ht:PySem.W.isFn K (.ref f)=true) (hv:mA name=none) (h:Q (.ref f,[.ref x]) s) :
 wpAny (model prog w) A (getMethod (.ref x) name pl) Q E s:=by
 obtain ⟨od,J,hl⟩:=I.look
 exact PySem.W.method_fn X J (PySem.W.plainGet_of hg).1 (PySem.W.plainGet_of hg).2 hf (beq_iff_eq.mp ht) (by show (PySem.W.lookIn name od).map (·.isSome)=some false; rw [hl,hv]; rfl) h
theorem bs0 {ns:List Str}{Q:Unit→Shared→Prop}(X:K.In s.heap) (I:ObjM s.heap x dx C mA)
 (hs:PySem.W.findIn K (.ref C) "__setattr__"=some (some (.builtin "object.__setattr__"))) (hp:PySem.W.plainOver K C=true) (ht:PySem.W.takerIn K C name=some none) (hh:PySem.W.hasDictIn K C=true)
 (hw:PySem.Within mA ns) (hsz:ns.length≤sizeLine)
 (h:∀ h',ObjM h' x dx C (fun y=>if y=name then some v else mA y)→Heap.SameBut dx s.heap h'→Q () { s with heap:=h',toks:=s.toks+2 }) :
 wpAny (model prog w) A (setAttr (.ref x) name v) Q E s:=by
 obtain ⟨od,J,hl⟩:=I.look
 refine PySem.W.set_plain X J hs (PySem.W.osa_open (s:={ s with toks:=s.toks+1 }) (r:=none) X J hp ht fun b=>?_)
 obtain ⟨cd,hc,hd'⟩:=PySem.W.any_some hh
 have hx:s.heap.get? x=some ⟨.ref C,some dx,.plain,#[]⟩:=I.obj
 refine wpAny_bind (wpAny_pure (wpAny_bind (wpAny_bind (wpAny_loadPart hx (wpAny_bind (PySem.W.Looks.here (s:={ s with toks:=s.toks+1 }) (PySem.W.looks_clsIn X hc) ?_))))))
 rw [hd']
 refine wpAny_pure (a:=some dx) (wpAny_bind (wpAny_pure (wpAny_bind ?_)))
 refine wpAny_nsSet1 (s:={ s with toks:=s.toks+1 }) I.ns fun h' hn2 hs2=>?_
 obtain ⟨oD,esD,epD,hoD,hdD,hcD⟩:=hn2.count (PySem.Within.cons name v hw)
 refine wpAny_bind (wpAny_lookBehind hoD (by rw [hdD]; exact pastItsLine_dict (Nat.le_trans hcD (by rw [List.length_cons]; omega))) ?_)
 exact wpAny_pure (h _ ⟨(hs2.2 _ (Ne.symm I.ne)).trans I.obj,hn2,I.ne⟩ hs2)
theorem bh8 {R:Result→Shared→Prop}{vs:List Value}{kw:List (Str×Value)}(X:K.In s.heap) (hm:PySem.W.makesIn K C=true)
 (hi:PySem.W.findIn K (.ref C) "__init__"=some (some (.ref f))) (hf:PySem.W.typeIn K (.ref f)=some (.type "function"))
 (h:codeAny (model prog w) (A.under (.builtin "type.__call__" ⟨.ref C::vs,kw⟩)) (.call (.ref f) ⟨.ref (s.heap.objs.size+1)::vs,kw⟩) (PySem.W.InitBack (s.heap.objs.size+1) R)
  { s with heap:=(s.heap.push PySem.W.emptyDict).push (PySem.W.instObj C s.heap.objs.size) }) :
 codeAny (model prog w) A (.call (.ref C) ⟨vs,kw⟩) R s:=by
 obtain ⟨hh,g,d,t,os⟩:=s
 exact PySem.W.make_core (PySem.W.makes_of X hm) (PySem.W.looks_findIn X hi) (fun self=>PySem.W.bind_fn X self hf) (.inl rfl) h
end
def putF (f:Str) (v:V):List (Str×V)→List (Str×V)
 | []=>[(f,v)]
 | (g,x)::r=>if g=f then (g,v)::r else (g,x)::putF f v r
theorem a06 (f g:Str) (v:V):∀ fs:List (Str×V),(putF f v fs).lookup g=if g=f then some v else fs.lookup g
 | []=>by
   show List.lookup g [(f,v)]=_
   by_cases h:g=f
   · have hb:(g == f)=true:=beq_iff_eq.mpr h
     simp only [List.lookup,hb,if_pos h]
   · have hb:(g == f)=false:=beq_eq_false_iff_ne.mpr h
     simp only [List.lookup,hb,if_neg h]
 | (k,x)::r=>by
   have ih:=a06 f g v r
   rw [show putF f v ((k,x)::r)=(if k=f then (k,v)::r else (k,x)::putF f v r) from rfl]
   by_cases hk:k=f
   · rw [if_pos hk]
     by_cases h:g=k
     · have hb:(g == k)=true:=beq_iff_eq.mpr h
       simp only [List.lookup,hb,if_pos (h.trans hk)]
     · have hb:(g == k)=false:=beq_eq_false_iff_ne.mpr h
       simp only [List.lookup,hb,if_neg (fun e:g=f=>h (e.trans hk.symm))]
   · rw [if_neg hk]
     by_cases h:g=k
     · have hb:(g == k)=true:=beq_iff_eq.mpr h
       simp only [List.lookup,hb,if_neg (fun e:g=f=>hk (h.symm.trans e))]
     · have hb:(g == k)=false:=beq_eq_false_iff_ne.mpr h
       simp only [List.lookup,hb]
       exact ih
theorem ak3 (f:Str) (v:V):∀ fs:List (Str×V),f∈(putF f v fs).map (·.1)∧∀ g,g∈fs.map (·.1)→g∈(putF f v fs).map (·.1)
 | []=>⟨by simp [putF],fun g h=>by simp at h⟩
 | (k,x)::r=>by
   obtain ⟨i1,i2⟩:=ak3 f v r
   rw [show putF f v ((k,x)::r)=(if k=f then (k,v)::r else (k,x)::putF f v r) from rfl]
   by_cases hk:k=f
   · rw [if_pos hk]
     subst hk
     exact ⟨by simp,fun g h=>by simpa using h⟩
   · rw [if_neg hk]
     refine ⟨?_,fun g h=>?_⟩
     · rw [List.map_cons]
       exact List.mem_cons_of_mem _ i1
     · rw [List.map_cons] at h ⊢
       rcases List.mem_cons.mp h with e | e
       · exact List.mem_cons.mpr (.inl e)
       · exact List.mem_cons_of_mem _ (i2 g e)
theorem a74 (f:Str) (v:V):∀ fs:List (Str×V),(putF f v fs).length≤fs.length+1
 | []=>by simp [putF]
 | (k,x)::r=>by
   have ih:=a74 f v r
   rw [show putF f v ((k,x)::r)=(if k=f then (k,v)::r else (k,x)::putF f v r) from rfl]
   by_cases hk:k=f
   · rw [if_pos hk,List.length_cons,List.length_cons]; omega
   · rw [if_neg hk,List.length_cons,List.length_cons]; omega
theorem RelO.some_of {v:V}{o:Option Value}(r:RelO (some v) o):∃ u,o=some u∧RelV v u:=by
 cases o with
 | none=>exact (show False from r).elim
 | some u=>exact ⟨u,rfl,r⟩
theorem RelO.none_of {o:Option Value}(r:RelO none o):o=none:=by
 cases o with
 | none=>rfl
 | some u=>exact (show False from r).elim
theorem b88 {v:V}{u:Value}(r:RelV v u):PySem.W.handedIn u=true:=by
 cases v with
 | non=>cases (show u=Value.none from r); rfl
 | bl b=>cases (show u=Value.bool b from r); rfl
 | int i=>obtain ⟨t,e⟩:=(show ∃ t,u=Value.int i t from r); cases e; rfl
 | str x=>obtain ⟨t,e⟩:=(show ∃ t,u=Value.str x t from r); cases e; rfl
 | byt b=>obtain ⟨t,e⟩:=(show ∃ t,u=Value.bytes b t from r); cases e; rfl
 | flt b=>obtain ⟨t,e⟩:=(show ∃ t,u=Value.float b t from r); cases e; rfl
 | ref a=>cases (show u=Value.ref a from r); rfl
 | ty n=>cases (show u=Value.type n from r); rfl
section
variable {P:Program}{w:World}{H H':Hp}{h h':Heap}{a C dx:Addr}{fs fs':List (Str×V)}
theorem av9 (hok:HOk P w H h) (e:H a=some (.ins C dx fs)):∃ mA,ObjM h a dx C mA∧(∀ f,RelO (fs.lookup f) (mA f))∧PySem.Within mA (fs.map (·.1))∧fs.length≤1000∧H dx=some (.own a):=by
 obtain ⟨d,z,ne,ob,mA,n,r,q⟩:=(show ObjOk P w H h a (.ins C dx fs) from hok a _ e)
 exact ⟨mA,⟨ob,n,ne⟩,r,q,z,d⟩
end
structure Cls (K:PySem.W.Frag) (C:Addr):Prop where
 pg:PySem.W.plainGet K C Str.empty=true
 hd:PySem.W.hasDictIn K C=true
 po:PySem.W.plainOver K C=true
 sa:PySem.W.findIn K (.ref C) "__setattr__"=some (some (.builtin "object.__setattr__"))
theorem Cls.get {K:PySem.W.Frag}{C:Addr}(c:Cls K C) (f:Str):PySem.W.plainGet K C f=true:=c.pg
def NoAttr (K:PySem.W.Frag) (C:Addr) (f:Str):Prop:=PySem.W.findIn K (.ref C) f=some none
theorem NoAttr.taker {K:PySem.W.Frag}{C:Addr}{f:Str}(n:NoAttr K C f):PySem.W.takerIn K C f=some none:=by
 unfold PySem.W.takerIn
 rw [show PySem.W.findIn K (.ref C) f=some none from n]
 rfl
structure Meth (K:PySem.W.Frag) (C:Addr) (m:Str) (f:Addr):Prop where
 at_:PySem.W.findIn K (.ref C) m=some (some (.ref f))
 fn:PySem.W.isFn K (.ref f)=true
 kp:PySem.W.keepIn K (.ref f)=true
section
variable {X:Cx}{pins:List (Addr×Obj)}{σ:St} {H:Hp}{s:Shared}{a C dx:Addr}{fs:List (Str×V)}{f:Str}{v:V}{A:Around}{E:Value→Shared→Prop}
theorem b45 {b:Bool}{Q:Value→Shared→Prop}(I:Inv X pins σ H s) (e:H a=some (.ins C dx fs)) (c:Cls X.K C) (n:NoAttr X.K C f) (l:fs.lookup f=some v)
 (h:∀ u s',Inv X pins σ H s'→RelV v u→Q u s'):wpAny (model X.prog X.w) A (getAttr (.ref a) f b) Q E s:=by
 obtain ⟨mA,O,r,_,_,_⟩:=av9 I.hok e
 obtain ⟨u,hu,ru⟩:=RelO.some_of (v:=v) (o:=mA f) (by rw [← l]; exact r f)
 exact br9 I.kIn O (c.get f) c.hd n hu (b88 ru) (h u _ (I.tok _) ru)
theorem ac0 {m:Str}{g:Addr}{pl:Sem Bool}{Q:Value×List Value→Shared→Prop}(I:Inv X pins σ H s) (e:H a=some (.ins C dx fs)) (c:Cls X.K C) (k:Meth X.K C m g) (l:fs.lookup m=none)
 (h:Q (.ref g,[.ref a]) s):wpAny (model X.prog X.w) A (getMethod (.ref a) m pl) Q E s:=by
 obtain ⟨mA,O,r,_,_,_⟩:=av9 I.hok e
 have hn:mA m=none:=RelO.none_of (by rw [← l]; exact r m)
 exact bh7 I.kIn O (c.get m) k.at_ k.fn hn h
theorem b46 {y:V}{u:Value}{Q:Unit→Shared→Prop}(I:Inv X pins σ H s) (e:H a=some (.ins C dx fs)) (c:Cls X.K C) (n:NoAttr X.K C f) (hl:fs.length<1000) (ry:RelV y u)
 (h:∀ s',Inv X pins σ (upd H a (.ins C dx (putF f y fs))) s'→Q () s'):wpAny (model X.prog X.w) A (setAttr (.ref a) f u) Q E s:=by
 obtain ⟨mA,O,r,wi,_,ho⟩:=av9 I.hok e
 have hz:(fs.map (·.1)).length≤sizeLine:=by rw [List.length_map,sizeLine_eq]; omega
 refine bs0 I.kIn O c.sa c.po n.taker c.hd wi hz fun h' O' sb=>h _ ?_
 have hd:∃ o,h'.get? dx=some o:=let ⟨o,_,_,e',_⟩:=O'.ns; ⟨o,e'⟩
 refine I.write (x:=a) (e:=dx) (by rw [e]; exact True.intro) (.inr ho) (fun b q hb z=>(sb.2 b hb).trans z) hd ?_
 refine ⟨by rw [a08 O.ne]; exact ho,?_,O.ne,O'.obj,_,O'.ns,fun g=>?_,fun g hg=>?_⟩
 · have:=a74 f y fs; omega
 · show RelO ((putF f y fs).lookup g) (if g=f then some u else mA g)
   rw [a06]
   by_cases q:g=f
   · rw [if_pos q,if_pos q]; exact ry
   · rw [if_neg q,if_neg q]; exact r g
 · by_cases q:g=f
   · rw [q]; exact (ak3 f y fs).1
   · refine (ak3 f y fs).2 g (wi g fun z=>hg ?_)
     show (if g=f then some u else mA g)=none
     rw [if_neg q]; exact z
theorem Inv.made (I:Inv X pins σ H s):Inv X pins σ (upd (upd H s.heap.objs.size (.own (s.heap.objs.size+1))) (s.heap.objs.size+1) (.ins C s.heap.objs.size []))
 { s with heap:=(s.heap.push PySem.W.emptyDict).push (PySem.W.instObj C s.heap.objs.size) }:=by
 have e1:(s.heap.push PySem.W.emptyDict).get? s.heap.objs.size=some PySem.W.emptyDict:=Heap.get?_push_size s.heap rfl
 have e2:((s.heap.push PySem.W.emptyDict).push (PySem.W.instObj C s.heap.objs.size)).get? (s.heap.objs.size+1)=some (PySem.W.instObj C s.heap.objs.size):=by
  have:=Heap.get?_push_size (s.heap.push PySem.W.emptyDict) (o:=PySem.W.instObj C s.heap.objs.size) rfl
  rwa [Heap.size_push] at this
 have e3:(s.heap.push PySem.W.emptyDict).Ns s.heap.objs.size (fun _=>none):=⟨PySem.W.emptyDict,#[],_,e1,rfl,(fun e he=>absurd he (by simp)),fun _=>rfl⟩
 have I1:=I.laid (a:=s.heap.objs.size) (o:=.own (s.heap.objs.size+1)) (h':=s.heap.push PySem.W.emptyDict) (t':=s.toks) (fun b u q=>Heap.get?_push_of_some _ q) (Nat.le_refl _) ⟨_,e1⟩
 refine I1.laid (a:=s.heap.objs.size+1) (o:=.ins C s.heap.objs.size []) (t':=s.toks) (fun b u q=>Heap.get?_push_of_some _ q) (Nat.le_of_eq (Heap.size_push _ _)) ?_
 have ne:s.heap.objs.size≠s.heap.objs.size+1:=Nat.ne_of_lt (Nat.lt_succ_self _)
 refine ⟨by rw [a08 ne,a34],Nat.zero_le _,ne,e2,fun _=>none,(Heap.Ns1.of_empty e3).at fun o q=>Heap.get?_push_of_some _ q,fun _=>True.intro,fun y hy=>absurd rfl hy⟩
theorem bs1 {prog:Program}{w:World}{env:Env}{e:Expr}{f:Str}{pos:Pos}{s:Shared}{Q:Value→Shared→Prop}(hb:attributeBase e f env (eval e env)=eval e env)
 (h:wpAny (model prog w) A (eval e env) (fun o s₁=>wpAny (model prog w) A (getAttr o f true) Q E s₁) E s):wpAny (model prog w) A (eval (.Attribute e f pos) env) Q E s :=
 Attribute_any_ h (by rw [arm_eval_Attribute,hb])
end
def tFld (K:PySem.W.Frag) (ta:TE) (f:Str):TE:=fun σ H Q=>ta σ H fun x H1=>∃ a C dx fs v,x=.ref a∧H1 a=some (.ins C dx fs)∧Cls K C∧NoAttr K C f∧fs.lookup f=some v∧Q v H1
def sFld (K:PySem.W.Frag) (ta tv:TE) (f:Str):TS:=fun D σ H=>tv σ H fun y H1=>ta σ H1 fun x H2=>∃ a C dx fs,x=.ref a∧H2 a=some (.ins C dx fs)∧Cls K C∧NoAttr K C f∧fs.length<1000 ∧
 D.nx σ (upd H2 a (.ins C dx (putF f y fs)))
section
variable {X:Cx}{o e value:Expr}{f:Str}{pos pos' tpos:Pos}{ta tv:TE}
theorem c02 (he:PE X e ta) (hb:attributeBase e f X.env (eval e X.env)=eval e X.env):PE X (.Attribute e f pos) (tFld X.K ta f):=by
 intro pins s σ H Q I h
 refine bs1 hb (thn (he pins s σ H _ I h) fun u s1 ⟨x,H1,I1,rx,a,C,dx,fs,v,ex,ea,c,n,l,q⟩=>?_)
 subst ex
 obtain rfl:u=Value.ref a:=rx
 exact b45 I1 ea c n l fun u' s2 I2 ru=>⟨v,H1,I2,ru,q⟩
theorem c03 (ha:PE X o ta) (hv:PE X value tv) (hs:swapsWith value (some (.Attribute o f pos')) pos.line X.env=pure false):PS X (.Assign [.Attribute o f pos'] value pos) (sFld X.K ta tv f):=by
 intro pins s σ H D I h
 refine plainObj_wpAny_Assign_Attribute (thn (hv pins s σ H _ I h) fun u s1 ⟨y,H1,I1,ry,q⟩=>thn (ha pins s1 σ H1 _ I1 q) fun ov s2 ⟨x,H2,I2,rx,a,C,dx,fs,ex,ea,c,n,l,q2⟩=>?_) hs
 subst ex
 obtain rfl:ov=Value.ref a:=rx
 exact b46 I2 ea c n l ry fun s3 I3=>⟨σ,_,I3,q2⟩
end
section
variable {X:Cx}{pins:List (Addr×Obj)}{σ:St} {H:Hp}{s:Shared}{A:Around}{E:Value→Shared→Prop}{Q:Value→Shared→Prop}{c:Value}{b:Bool}
end
structure Room (k:Nat) (A:Around):Prop where
 hd:A.handled=none
 dp:A.depth+3*k+5<recursionLimit
 un:A.units+16*k+200<cLine
theorem Room.mono {j k:Nat}{A:Around}(r:Room k A) (h:j≤k):Room j A:=⟨r.hd,by have:=r.dp; omega,by have:=r.un; omega⟩
theorem Room.deeper {k:Nat}{A:Around}(r:Room (k+1) A) (env:Env):Room k (A.deeper env) :=
 ⟨r.hd,by have:=r.dp; show A.depth+1+3*k+5<_; omega,by have:=r.un; show A.units+3+16*k+200<_; omega⟩
theorem b47 {A:Around}{C:Addr}{us:List Value}{kw:List (Str×Value)}:(A.under (.builtin "type.__call__" ⟨.ref C::us,kw⟩)).depth=A.depth+1:=by
 first | rfl | simp [Around.under,Code.weight,Code.isCreation,Code.isGuard,Code.isCaller,Code.frames,Code.isFrame,guardIds]
theorem b48 {A:Around}{C:Addr}{us:List Value}{kw:List (Str×Value)}:(A.under (.builtin "type.__call__" ⟨.ref C::us,kw⟩)).units=A.units+1:=by
 first | rfl | simp [Around.under,Code.cUnits,Code.frames,Code.isFrame]
theorem Room.make {k:Nat}{A:Around}(r:Room (k+1) A) (C:Addr) (us:List Value) (kw:List (Str×Value)):Room k (A.under (.builtin "type.__call__" ⟨.ref C::us,kw⟩)) :=
 ⟨r.hd,by have:=r.dp; rw [b47]; omega,by have:=r.un; rw [b48]; omega⟩
theorem Room.depth {k:Nat}{A:Around}(r:Room k A):A.depth<recursionLimit:=by have:=r.dp; omega
theorem Room.units {k:Nat}{A:Around}(r:Room k A):A.units+64<cLine:=by have:=r.un; omega
def tNil:TA:=fun _ H Q=>Q [] H
def tCons (ta:TE) (tr:TA):TA:=fun σ H Q=>ta σ H fun x H1=>tr σ H1 fun xs H2=>Q (x::xs) H2
section
variable {X:Cx}{e:Expr}{es:List Expr}{te:TE}{t:TA}{pos:Pos}
theorem a01:PA X [] tNil:=fun _ _ _ _ H Q I h=>Calls.spliced_nil ⟨[],H,I,.nil,h⟩
theorem a00 (ha:PE X e te) (hr:PA X es t) (hs:starEach (e::es) X.env=(false,eval e X.env)::starEach es X.env:=by rfl):PA X (e::es) (tCons te t):=by
 intro pos pins s σ H Q I h
 rw [hs]
 show wpAny _ _ (spliced ((false,eval e X.env)::backTo pos (starEach es X.env))) _ _ s
 refine Calls.spliced_cons (thn (ha pins s σ H _ I h) fun u s1 ⟨x,H1,I1,r1,q1⟩=>?_)
 exact thn (hr pos pins s1 σ H1 _ I1 q1) fun us s2 ⟨xs,H2,I2,r2,q2⟩=>⟨x::xs,H2,I2,.cons r1 r2,q2⟩
end
abbrev Sp:=List V→Hp→VK→XK→Prop
abbrev CXT:=List Env→Hp→Shared→XK→Value→Shared→Prop
structure Env0 (P:Program) (w:World) (K:PySem.W.Frag) (mg:Str→Option Value) (base:Heap) (A:Around) (outer:List Env) (s:Shared) (H:Hp):Prop where
 frames:A.frames=some outer
 mod:Mod K mg base
 bs:∀ b o,base.get? b=some o→s.heap.get? b=some o∧H b=none
 bsz:base.objs.size≤s.heap.objs.size
 funs:s.heap.FunFrames base outer
 frf:∀ b∈frs outer,H b=none
 hok:HOk P w H s.heap
 bare:AllBare s.gens
def CE (outer:List Env) (P:Program) (w:World) (H:Hp) (s:Shared) (Q:VK) (u:Value) (s':Shared):Prop :=
 ∃ v H',s'.os=s.os∧AllBare s'.gens∧Un (frs outer) [] H H' s.heap s'.heap∧HOk P w H' s'.heap∧RelV v u∧Q v H'
def CR (CX:CXT) (outer:List Env) (P:Program) (w:World) (H:Hp) (s:Shared) (Q:VK) (E:XK) (r:Result) (s':Shared):Prop :=
 match r with
 | .ok (.ret u)=>CE outer P w H s Q u s'
 | .ok _=>False
 | .error e=>CX outer H s E e s'
structure FnOk (P:Program) (w:World) (K:PySem.W.Frag) (mg:Str→Option Value) (base:Heap) (CX:CXT) (k:Nat) (f:Addr) (fd:FuncData) (ps:List Str) (sp:Sp):Prop where
 len:∀ vs H Q E,sp vs H Q E→vs.length=ps.length
 run:∀ (A:Around) (outer:List Env) (s:Shared) (H:Hp) (args:Args) (us:List Value) (vs:List V) (Q:VK) (E:XK),Room k A→Env0 P w K mg base A outer s H→BindsTo s fd args (ps.zip us)→Vals vs us→sp vs H Q E →
  codeAny (model P w) A (.call (.ref f) args) (CR CX outer P w H s Q E) s
theorem Env0.make {P:Program}{w:World}{K:PySem.W.Frag}{mg:Str→Option Value}{base:Heap}{A:Around}{outer:List Env}{s:Shared}{H:Hp}(e:Env0 P w K mg base A outer s H) (C:Addr) (us:List Value) (kw:List (Str×Value)) :
 Env0 P w K mg base (A.under (.builtin "type.__call__" ⟨.ref C::us,kw⟩)) outer s H:=⟨by first | exact e.frames | (simpa [Around.under,Code.envs,Code.isFrame,pushEnvs] using e.frames),e.mod,e.bs,e.bsz,e.funs,e.frf,e.hok,e.bare⟩
section
variable {X:Cx}{pins:List (Addr×Obj)}{σ:St} {H:Hp}{s s':Shared}
theorem Inv.env0 (I:Inv X pins σ H s):Env0 X.prog X.w X.K X.mg X.base X.A X.stack s H :=
 ⟨I.ok.frames,I.ok.mod,I.bs,Nat.le_trans I.ok.bsz I.sz,I.stack,I.stkFree,I.hok,I.bare⟩
theorem Inv.after {Q:VK}{u:Value}(I:Inv X pins σ H s) (h:CE X.stack X.prog X.w H s Q u s'):EP X pins σ Q u s':=by
 obtain ⟨v,H',os,bare,un,hok,r,q⟩:=h
 obtain ⟨hh,g,d,t,os'⟩:=s'
 obtain rfl:os'=s.os:=os
 exact ⟨v,H',I.call (h':=hh) (g':=g) (d':=d) (t':=t) (ch:=[]) un hok bare (fun b z=>absurd z (by simp)),r,q⟩
end
def tCall (sp:Sp) (dvs:List V) (E:XK) (t:TA):TE:=fun σ H Q=>t σ H fun vs H1=>sp (vs++dvs) H1 Q E
def tMeth (C:Addr) (m:Str) (sp:Sp) (dvs:List V) (E:XK) (ta:TE) (t:TA):TE:=fun σ H Q=>ta σ H fun x H1=>∃ a dx fs,x=.ref a∧H1 a=some (.ins C dx fs)∧fs.lookup m=none ∧
 t σ H1 fun vs H2=>sp (x::(vs++dvs)) H2 Q E
def tMake (C:Addr) (sp:Sp) (dvs:List V) (E:XK) (t:TA):TE:=fun σ H Q=>t σ H fun vs H1=>∀ x dx,H1 x=none→H1 dx=none→dx≠x →
 sp (.ref x::(vs++dvs)) (upd (upd H1 dx (.own x)) x (.ins C dx [])) (fun v H2=>v=.non∧Q (.ref x) H2) E
def Binds (K:PySem.W.Frag) (fd:FuncData) (ps:List Str) (ds:List Value):Prop :=
 ∀ (s:Shared) (us:List Value),K.In s.heap→(us++ds).length=ps.length→BindsTo s fd ⟨us,[]⟩ (ps.zip (us++ds))
theorem Binds.all {K:PySem.W.Frag}{fd:FuncData}{ps:List Str}(h:∀ us:List Value,us.length=ps.length→bindArgs fd ⟨us,[]⟩=pure (ps.zip us)):Binds K fd ps []:=fun s us _ hl=>by
 rw [List.append_nil] at hl ⊢
 exact .of_eq (h us hl)
def Passes (CX:CXT) (X:Cx) (E:XK):Prop:=∀ (pins:List (Addr×Obj)) (σ:St) (H:Hp) (s:Shared) (e:Value) (s':Shared),Inv X pins σ H s→CX X.stack H s E e s'→X.xe e s'
section
variable {X:Cx}{CX:CXT}{k:Nat}{f C:Addr}{fd:FuncData}{ps:List Str}{sp:Sp}{dvs:List V}{ds:List Value}{E:XK}{x m:Str}{p pos apos:Pos}{e o:Expr}{es:List Expr}{ta:TE}{t:TA}
theorem ak4 {pins:List (Addr×Obj)}{σ:St} {H:Hp}{s:Shared}{Q:VK}{us:List Value}{vs:List V}(F:FnOk X.prog X.w X.K X.mg X.base CX k f fd ps sp) (hr:Room k X.A) (hb:Binds X.K fd ps ds) (hd:Vals dvs ds) (hx:Passes CX X E)
 (I:Inv X pins σ H s) (r:Vals vs us) (h:sp (vs++dvs) H Q E):wpAny (model X.prog X.w) X.A (call (.ref f) us) (EP X pins σ Q) X.xe s:=by
 have r2:Vals (vs++dvs) (us++ds):=r.append hd
 have hl:(us++ds).length=ps.length:=by rw [← r2.length]; exact F.len _ _ _ _ h
 refine wpAny_call (codeAny_mono (F.run X.A X.stack s H ⟨us,[]⟩ (us++ds) (vs++dvs) Q E hr I.env0 (hb s us I.kIn hl) r2 h) fun r s' hq=>?_)
 cases r with
 | error e=>exact hx pins σ H s e s' I hq
 | ok fl =>
   cases fl with
   | ret u=>exact I.after hq
   | next=>exact False.elim hq
   | brk=>exact False.elim hq
   | cont=>exact False.elim hq
theorem a38 (F:FnOk X.prog X.w X.K X.mg X.base CX k f fd ps sp) (hr:Room k X.A) (hg:Gl X x) (hm:X.mg x=some (.ref f)) (hk:PySem.W.keepIn X.K (.ref f)=true) (hb:Binds X.K fd ps ds) (hd:Vals dvs ds) (hx:Passes CX X E)
 (ha:PA X (e::es) t) (hdb:(x == ("__debug__":Str))=false:=by decide) (he:starEach (e::es) X.env=(false,eval e X.env)::starEach es X.env:=by rfl) (hpl:(backTo pos (starEach es X.env)).any (·.1)=false:=by rfl) :
 PE X (.Call (.Name x p) (e::es) [] pos) (tCall sp dvs E t):=by
 intro pins s σ H Q I h
 refine wpAny_Call_Name_kw (av8 I hg hm ?_ hdb)
 refine PySem.W.callWith_K (h₀:=X.base) I.ok.mod.kin hk (thn (ha pos pins s σ H _ I h) fun us s1 ⟨vs,H1,I1,r,q⟩=>⟨I1.kIn,?_⟩) he hpl
 exact ak4 F hr hb hd hx I1 r q
theorem ag0 {pl:Sem Bool}(he:PE X o ta) (c:Cls X.K C) (hm:Meth X.K C m f) (F:FnOk X.prog X.w X.K X.mg X.base CX k f fd ps sp) (hr:Room k X.A) (hb:Binds X.K fd ps ds) (hd:Vals dvs ds) (hx:Passes CX X E) (ha:PA X (e::es) t)
 (hst:starEach (e::es) X.env=(false,eval e X.env)::starEach es X.env:=by rfl) (hpl:(backTo pos (starEach es X.env)).any (·.1)=false:=by rfl)
 (ht:eval (.Call (.Attribute o m apos) (e::es) [] pos) X.env=(do
  let ov←eval o X.env
  standAt apos.atName
  let (f,first)←holding [ov] (getMethod ov m pl)
  callWith pos f first (backTo pos (starEach (e::es) X.env)) (backToKw pos (keywordEach [] X.env))):=by rfl) :
 PE X (.Call (.Attribute o m apos) (e::es) [] pos) (tMeth C m sp dvs E ta t):=by
 intro pins s σ H Q I h
 refine PySem.W.methodCall_KW (pl:=pl) (thn (he pins s σ H _ I h) fun u s1 ⟨x,H1,I1,rx,a,dx,fs,ex,ea,l,q⟩=>?_) ht
 subst ex
 obtain rfl:u=Value.ref a:=rx
 refine ac0 I1 ea c hm l ?_
 refine PySem.W.callWith_K (first:=[.ref a]) (h₀:=X.base) I.ok.mod.kin hm.kp (thn (ha pos pins s1 σ H1 _ I1 q) fun us s2 ⟨vs,H2,I2,r,q2⟩=>⟨I2.kIn,?_⟩) hst hpl
 exact ak4 (us:=.ref a::us) (vs:=.ref a::vs) F hr hb hd hx I2 (.cons rfl r) q2
theorem az2 {pl:Sem Bool}(he:PE X o ta) (c:Cls X.K C) (hm:Meth X.K C m f) (F:FnOk X.prog X.w X.K X.mg X.base CX k f fd ps sp) (hr:Room k X.A) (hb:Binds X.K fd ps ds) (hd:Vals dvs ds) (hx:Passes CX X E)
 (ht:eval (.Call (.Attribute o m apos) [] [] pos) X.env=(do
  let ov←eval o X.env
  standAt apos.atName
  let (f,first)←holding [ov] (getMethod ov m pl)
  callWith pos f first (backTo pos (starEach [] X.env)) (backToKw pos (keywordEach [] X.env))):=by rfl) :
 PE X (.Call (.Attribute o m apos) [] [] pos) (tMeth C m sp dvs E ta tNil):=by
 intro pins s σ H Q I h
 refine PySem.W.methodCall_KW (pl:=pl) (thn (he pins s σ H _ I h) fun u s1 ⟨x,H1,I1,rx,a,dx,fs,ex,ea,l,q⟩=>?_) ht
 subst ex
 obtain rfl:u=Value.ref a:=rx
 refine ac0 I1 ea c hm l ?_
 exact PySem.W.callWith_K0 (first:=[.ref a]) I1.kIn hm.kp (ak4 (us:=[.ref a]) (vs:=[.ref a]) F hr hb hd hx I1 (.cons rfl .nil) q)
structure Mk (K:PySem.W.Frag) (C f:Addr):Prop where
 makes:PySem.W.makesIn K C=true
 init:PySem.W.findIn K (.ref C) "__init__"=some (some (.ref f))
 fn:PySem.W.isFn K (.ref f)=true
 kp:PySem.W.keepIn K (.ref C)=true
theorem bh9 {pins:List (Addr×Obj)}{σ:St} {H:Hp}{s:Shared}{Q:VK}{us:List Value}{vs:List V}(M:Mk X.K C f) (F:FnOk X.prog X.w X.K X.mg X.base CX k f fd ps sp) (hr:Room (k+1) X.A) (hb:Binds X.K fd ps ds) (hd:Vals dvs ds)
 (hx:Passes CX X E) (I:Inv X pins σ H s) (r:Vals vs us)
 (h:∀ x dx,H x=none→H dx=none→dx≠x→sp (.ref x::(vs++dvs)) (upd (upd H dx (.own x)) x (.ins C dx [])) (fun v H2=>v=.non∧Q (.ref x) H2) E) :
 wpAny (model X.prog X.w) X.A (call (.ref C) us) (EP X pins σ Q) X.xe s:=by
 have hq:=h (s.heap.objs.size+1) s.heap.objs.size (I.hok.fresh (Nat.le_succ _)) (I.hok.fresh (Nat.le_refl _)) (Nat.ne_of_lt (Nat.lt_succ_self _))
 have I2:=Inv.made (C:=C) I
 have r2:Vals (V.ref (s.heap.objs.size+1)::(vs++dvs)) (Value.ref (s.heap.objs.size+1)::(us++ds)):=.cons rfl (r.append hd)
 have hl:(Value.ref (s.heap.objs.size+1)::us++ds).length=ps.length:=by
  have e:=r2.length
  rw [F.len _ _ _ _ hq] at e
  exact e.symm
 refine wpAny_call (bh8 (f:=f) I.kIn M.makes M.init (beq_iff_eq.mp M.fn) (codeAny_mono (F.run _ X.stack _ _ ⟨Value.ref (s.heap.objs.size+1)::us,[]⟩ (Value.ref (s.heap.objs.size+1)::(us++ds)) _ _ E (hr.make C us [])
  (I2.env0.make C us []) (hb _ (Value.ref (s.heap.objs.size+1)::us) I2.kIn hl) r2 hq) fun r s' hq'=>?_))
 cases r with
 | error e=>exact hx pins σ _ _ e s' I2 hq'
 | ok fl =>
   cases fl with
   | ret u =>
     obtain ⟨v,H',I3,rv,ev,q3⟩:=I2.after hq'
     subst ev
     exact ⟨rv,⟨V.ref (s.heap.objs.size+1),H',I3,rfl,q3⟩⟩
   | next=>exact False.elim hq'
   | brk=>exact False.elim hq'
   | cont=>exact False.elim hq'
theorem ao7 (M:Mk X.K C f) (F:FnOk X.prog X.w X.K X.mg X.base CX k f fd ps sp) (hr:Room (k+1) X.A) (hg:Gl X x) (hm:X.mg x=some (.ref C)) (hb:Binds X.K fd ps ds) (hd:Vals dvs ds) (hx:Passes CX X E)
 (ha:PA X (e::es) t) (hdb:(x == ("__debug__":Str))=false:=by decide) (he:starEach (e::es) X.env=(false,eval e X.env)::starEach es X.env:=by rfl) (hpl:(backTo pos (starEach es X.env)).any (·.1)=false:=by rfl) :
 PE X (.Call (.Name x p) (e::es) [] pos) (tMake C sp dvs E t):=by
 intro pins s σ H Q I h
 refine wpAny_Call_Name_kw (av8 I hg hm ?_ hdb)
 refine PySem.W.callWith_K (h₀:=X.base) I.ok.mod.kin M.kp (thn (ha pos pins s σ H _ I h) fun us s1 ⟨vs,H1,I1,r,q⟩=>⟨I1.kIn,?_⟩) he hpl
 exact bh9 M F hr hb hd hx I1 r q
end
section
variable {X:Cx}{CX:CXT}{k:Nat}{f C:Addr}{fd:FuncData}{ps ks:List Str}{sp:Sp}{E:XK}{x m:Str}{p pos apos kpos:Pos}{e o:Expr}{es:List Expr}{kws:List Keyword}{te ta:TE}{t tk:TA}{nm:Option Str}
variable {g:List Value→List Value→List Value}{gV:List V→List V→List V}
end
structure FnScope (N P:List Str) (sc:Scope):Prop where
 kind:sc.kind=.function
 co:sc.isCoroutine=false
 gen:sc.isGenerator=false
 nd:N.Nodup
 pre:N.take P.length=P
 par:∀ x∈P,sc.names.lookup x=some .local∨sc.names.lookup x=some .cell
 nofree:∀ y∈sc.names,y.2≠.free
theorem ar8 {kindOf:Str→Option NameKind}{x:Str}:∀ {binds:List (Str×Value)}{m:Str→Option Value},(∀ v,(x,v)∉binds)→bindL kindOf binds m x=m x
 | [],_,_=>rfl
 | (n,v)::r,m,h=>by
   unfold bindL
   rw [ar8 fun w hw=>h w (List.mem_cons_of_mem _ hw)]
   split
   · have:x≠n:=by rintro rfl; exact h v List.mem_cons_self
     simp [this]
   · rfl
theorem ar9 {kindOf:Str→Option NameKind}{x:Str}:∀ {binds:List (Str×Value)}{m:Str→Option Value},(∀ v,(x,v)∉binds)→bindC kindOf binds m x=m x
 | [],_,_=>rfl
 | (n,v)::r,m,h=>by
   unfold bindC
   rw [ar9 fun w hw=>h w (List.mem_cons_of_mem _ hw)]
   split
   · rfl
   · have:x≠n:=by rintro rfl; exact h v List.mem_cons_self
     simp [this]
theorem as0 {kindOf:Str→Option NameKind}{x:Str}{v:Value}:∀ {P:List Str}{vs:List Value}{i:Nat}{m:Str→Option Value},P.Nodup→P[i]?=some x→vs[i]?=some v→kindOf x=some .local →
 bindL kindOf (P.zip vs) m x=some v
 | [],_,_,_,_,h,_,_=>by simp at h
 | _::_,[],_,_,_,_,h,_=>by simp at h
 | p::P,w::vs,0,m,nd,h1,h2,hk=>by
   simp at h1 h2; subst h1; subst h2
   show bindL kindOf ((p,w)::P.zip vs) m p=_
   unfold bindL
   rw [ar8 fun v hv=>(List.nodup_cons.mp nd).1 (List.of_mem_zip hv).1,if_pos hk]
   simp
 | p::P,w::vs,i+1,m,nd,h1,h2,hk=>by
   show bindL kindOf ((p,w)::P.zip vs) m x=_
   unfold bindL
   exact as0 (i:=i) (List.nodup_cons.mp nd).2 (by simpa using h1) (by simpa using h2) hk
theorem as1 {kindOf:Str→Option NameKind}{x:Str}{v:Value}:∀ {P:List Str}{vs:List Value}{i:Nat}{m:Str→Option Value},P.Nodup→P[i]?=some x→vs[i]?=some v→kindOf x≠some .local →
 bindC kindOf (P.zip vs) m x=some v
 | [],_,_,_,_,h,_,_=>by simp at h
 | _::_,[],_,_,_,_,h,_=>by simp at h
 | p::P,w::vs,0,m,nd,h1,h2,hk=>by
   simp at h1 h2; subst h1; subst h2
   show bindC kindOf ((p,w)::P.zip vs) m p=_
   unfold bindC
   rw [ar9 fun v hv=>(List.nodup_cons.mp nd).1 (List.of_mem_zip hv).1,if_neg hk]
   simp
 | p::P,w::vs,i+1,m,nd,h1,h2,hk=>by
   show bindC kindOf ((p,w)::P.zip vs) m x=_
   unfold bindC
   exact as1 (i:=i) (List.nodup_cons.mp nd).2 (by simpa using h1) (by simpa using h2) hk
def start (N:List Str) (vs:List V):St:=vs.map some++List.replicate (N.length - vs.length) none
def cxOf (CX:CXT) (P:Program) (w:World) (K:PySem.W.Frag) (mg:Str→Option Value) (base:Heap) (N:List Str) (qual:Str) (scope:Scope) (f:Addr) (cd:Value) (A:Around) (outer:List Env) (s:Shared) (H:Hp) (E:XK):Cx where
 prog:=P
 w:=w
 K:=K
 mg:=mg
 base:=base
 A:=A.deeper (envOfC qual scope s.heap.objs.size f cd)
 N:=N
 s₀:=s
 H₀:=H
 env:=envOfC qual scope s.heap.objs.size f cd
 outer:=outer
 stack:=envOfC qual scope s.heap.objs.size f cd::outer
 ex:=[]
 calm:=true
 fn:=fun _=>true
 pn:=[]
 xe:=fun e s'=>wpAny (model P w) (A.deeper (envOfC qual scope s.heap.objs.size f cd)) (leaving (envOfC qual scope s.heap.objs.size f cd) e) (fun _ s''=>CX outer H s E e s'') (fun e' s''=>CX outer H s E e' s'') s'
theorem az3 {sc:Scope}{n:Nat}{x:Str}(h:sc.names.lookup x=some .cell):∃ c,(cellsFrom n sc.names []).lookup x=some c:=by
 have q:=PySem.W.cellsFrom_some sc.names n [] (.inl h)
 exact Option.isSome_iff_exists.mp q
theorem b89 {CX:CXT}{P:Program}{w:World}{K:PySem.W.Frag}{mg:Str→Option Value}{base:Heap}{N ps:List Str}{qual:Str}{scope:Scope}{f:Addr}{cd:Value}{A:Around}{outer:List Env}{s s1:Shared}{H:Hp}{E:XK}{us:List Value}{vs:List V}
 (S:FnScope N ps scope) (hd:A.handled=none) (e0:Env0 P w K mg base A outer s H) (hl:vs.length=ps.length) (r:Vals vs us)
 (x:InCallC s s.heap.objs.size (bindL (envOfC qual scope s.heap.objs.size f cd).kindOf (ps.zip us) fun _=>none) (cellsFrom (s.heap.objs.size+1) scope.names []) (bindC (envOfC qual scope s.heap.objs.size f cd).kindOf (ps.zip us) fun _=>none) s1) :
 Inv (cxOf CX P w K mg base N qual scope f cd A outer s H E) [] (start N vs) H s1:=by
 have hpl:ps.length≤N.length:=by have:=congrArg List.length S.pre; rw [List.length_take] at this; omega
 obtain ⟨h1,tk,rfl,hk⟩:=x.done
 have noA:∀ b:Addr,b∉(cxOf CX P w K mg base N qual scope f cd A outer s H E).ex:=fun b z=>absurd (show b∈([]:List Addr) from z) (by simp)
 refine ⟨⟨e0.mod,S.kind,rfl,rfl,Nat.le_refl _,fun y z c h1 h2=>?_,fun y hy=>?_,fun y c _ h=>?_,fun _=>hd,Around.frames_deeper e0.frames,.inr ⟨rfl,rfl⟩,fun b z=>absurd z (noA b),e0.bs,e0.bsz,fun b _ _=>noA b,fun b z=>absurd z (noA b),e0.funs,e0.frf⟩,
  rfl,e0.bare,Un.kept hk,⟨_,x.toInCall.ns,fun i y v h1 h2 h3=>?_⟩,fun y c h=>⟨_,x.cell y c h⟩,e0.hok.fresh (Nat.le_refl _),fun y c h=>?_,fun p hp=>absurd (show p∈([]:List (Addr×Obj)) from hp) (by simp),e0.hok.kept hk,?_⟩
 · exact name_of_addr x.apart (PySem.mem_of_lookup h1) (PySem.mem_of_lookup h2)
 · have hy:scope.names.lookup y=some .cell∨scope.names.lookup y=some .free:=hy
   rcases hy with hy | hy
   · exact az3 hy
   · exact absurd rfl (S.nofree _ (PySem.mem_of_lookup hy))
 · exact Nat.le_of_lt (x.above y c (PySem.mem_of_lookup h))
 · have hi:i<vs.length:=by
    unfold start at h2
    by_cases hi:i<vs.length
    · exact hi
    · rw [List.getElem?_append_right (by simpa using hi)] at h2
      rw [List.getElem?_replicate] at h2
      split at h2 <;> cases h2
   have ha:vs[i]?=some v:=by
    unfold start at h2
    rw [List.getElem?_append_left (by simpa using hi),List.getElem?_map] at h2
    cases e:vs[i]? with
    | none=>rw [e] at h2; cases h2
    | some a=>rw [e] at h2; cases h2; rfl
   obtain ⟨u,hu,rv⟩:=r.get ha
   have hp:ps[i]?=some y:=by
    rw [← S.pre,List.getElem?_take_of_lt (by omega)]; exact h1
   have ndP:ps.Nodup:=by rw [← S.pre]; exact S.nd.sublist (List.take_sublist _ _)
   refine ⟨u,rv,?_⟩
   rcases S.par y (List.mem_of_getElem? hp) with k | k
   · exact .inl ⟨k,as0 ndP hp hu k⟩
   · obtain ⟨c,e⟩:=az3 (n:=s.heap.objs.size+1) k
     refine .inr ⟨.inl k,c,e,?_⟩
     have q:=x.cell y c e
     rw [as1 ndP hp hu (by show scope.names.lookup y≠_; rw [k]; decide)] at q
     exact q
 · exact e0.hok.fresh (Nat.le_of_lt (x.above y c (PySem.mem_of_lookup h)))
 · unfold start
   show _=N.length
   rw [List.length_append,List.length_map,List.length_replicate]
   omega
theorem ca0 {CX:CXT}{P:Program}{w:World}{K:PySem.W.Frag}{mg:Str→Option Value}{base:Heap}{k:Nat}{f:Addr}{name qual:Str}{params:Arguments}{body:List Stmt}{scope:Scope}{dV kV doc pm cdv ct oc:Value}{an od:Option Addr}
 {osl:Array (Option Value)}{N ps:List Str}{sp:Sp}(lk:K.lookup f=some ⟨oc,od,.func (PySem.W.fnOf name qual params body scope dV kV doc pm an cdv ct),osl⟩) (hcd:PySem.W.codeIn K cdv qual=true) (S:FnScope N ps scope)
 (len:∀ vs H Q E,sp vs H Q E→vs.length=ps.length)
 (hbody:∀ (A:Around) (outer:List Env) (s:Shared) (H:Hp) (vs:List V) (Q:VK) (E:XK),Room k (A.deeper (envOfC qual scope s.heap.objs.size f cdv))→sp vs H Q E →
  ∃ t,PSs (cxOf CX P w K mg base N qual scope f cdv A outer s H E) body t∧t { nx:=fun _ H'=>Q .non H',rt:=Q } (start N vs) H) :
 FnOk P w K mg base CX (k+1) f (PySem.W.fnOf name qual params body scope dV kV doc pm an cdv ct) ps sp:=by
 refine ⟨len,fun A outer s H args us vs Q E hr e0 hb r hsp=>?_⟩
 have hl:=len _ _ _ _ hsp
 have KX:K.In s.heap:=e0.mod.kin.keeps fun b o e=>(e0.bs b o e).1
 have lim:s.heap.NoLimit:=e0.mod.nolimit.keeps fun b o e=>(e0.bs b o e).1
 have hkind:∀ y∈ps.zip us,scope.names.lookup y.1=some .local∨(scope.names.lookup y.1=some .cell∧((cellsFrom (s.heap.objs.size+1) scope.names []).lookup y.1).isSome=true):=fun ⟨n,v⟩ hy=>by
  rcases S.par n (List.of_mem_zip hy).1 with q | q
  · exact .inl q
  · exact .inr ⟨q,PySem.W.cellsFrom_some _ _ _ (.inl q)⟩
 refine codeAny_call_function hr.depth (KX _ _ lk) rfl S.co S.gen rfl (PySem.W.codeRec_of KX hcd) (hb _ _ _ _ ?_)
 refine wpAny_newFunctionEnv_cells S.kind hkind fun env he s1 x=>?_
 subst he
 refine ⟨lim.keeps x.toInCall.keep,codeAny_func ?_⟩
 obtain ⟨t,ht,hq⟩:=hbody A outer s H vs Q E (hr.deeper _) hsp
 have I:Inv (cxOf CX P w K mg base N qual scope f cdv A outer s H E) [] (start N vs) H s1:=b89 S hr.hd e0 hl r x
 refine wpAny_mono (ht [] s1 (start N vs) H _ I hq) (fun fl s' hs=>?_) fun e s' hs=>hs
 have fin:∀ {σ':St} {H':Hp}{v:V}{u:Value},Inv (cxOf CX P w K mg base N qual scope f cdv A outer s H E) [] σ' H' s'→RelV v u→Q v H'→CE outer P w H s Q u s' :=
  fun {σ' H' v u} J rv q=>⟨v,H',J.os,J.bare,J.base,J.hok,rv,q⟩
 cases fl with
 | ret u =>
   obtain ⟨v,σ',H',J,rv,q⟩:=hs
   exact fin J rv q
 | next =>
   obtain ⟨σ',H',J,q⟩:=hs
   exact fin (v:=V.non) (u:=Value.none) J rfl q
 | brk =>
   obtain ⟨_,_,_,q⟩:=hs
   exact False.elim q
 | cont =>
   obtain ⟨_,_,_,q⟩:=hs
   exact False.elim q
section
variable {X:Cx}{x:Str}{p pos:Pos}{e:Expr}{es:List Expr}{t:TA}{id T:String}{r:List V→Hp→VK→Prop}
def tCB (r:List V→Hp→VK→Prop) (t:TA):TE:=fun σ H Q=>t σ H fun vs H1=>r vs H1 Q
theorem a70 (hc:CallR X (.builtin id) r) (hg:Gl X x) (hm:X.mg x=none) (hv:bootBuiltins x=some (.builtin id)) (ha:PA X (e::es) t) (hn:x≠"__name__":=by decide) (hdb:(x == ("__debug__":Str))=false:=by decide)
 (he:starEach (e::es) X.env=(false,eval e X.env)::starEach es X.env:=by rfl) (hpl:(backTo pos (starEach es X.env)).any (·.1)=false:=by rfl):PE X (.Call (.Name x p) (e::es) [] pos) (tCB r t):=by
 intro pins s σ H Q I h
 refine wpAny_Call_Name_kw (ag4 I hg hm hv ?_ hn hdb)
 exact PyProof.Rows.callWith_builtin1 (thn (ha pos pins s σ H _ I h) fun us s1 ⟨vs,H1,I1,r1,q1⟩=>hc pins s1 σ H1 vs us Q I1 r1 q1) he hpl
theorem a46 (hc:CallR X (.type T) r) (hg:Gl X x) (hm:X.mg x=none) (hv:bootBuiltins x=some (.type T)) (ha:PA X (e::es) t) (hn:x≠"__name__":=by decide) (hdb:(x == ("__debug__":Str))=false:=by decide)
 (he:starEach (e::es) X.env=(false,eval e X.env)::starEach es X.env:=by rfl) (hpl:(backTo pos (starEach es X.env)).any (·.1)=false:=by rfl):PE X (.Call (.Name x p) (e::es) [] pos) (tCB r t):=by
 intro pins s σ H Q I h
 refine wpAny_Call_Name_kw (ag4 I hg hm hv ?_ hn hdb)
 exact PyProof.Rows.callWith_type1 (thn (ha pos pins s σ H _ I h) fun us s1 ⟨vs,H1,I1,r1,q1⟩=>hc pins s1 σ H1 vs us Q I1 r1 q1) he hpl
end
end L2
namespace HT
open PySem PyProof.Rows
section
open PySem.SeqAt
open PySem.AutoSeq1 (wpAny_loadPart')
open PySem.MeetsSeq PySem.MeetsSeq2 PySem.MeetsSeq3
end
section
variable {prog:Program}{w:World}{A:Around}{E:Value→Shared→Prop}{s:Shared}
def sIx (n d:Nat):Option Int→Nat
 | none=>d
 | some v=>if v<0 then (v+(n:Int)).toNat else min v.toNat n
theorem sIx_none (n d:Nat):sIx n d none=d:=rfl
theorem sIx_nat (n d k:Nat):sIx n d (some (k:Int))=min k n:=by
 show (if (k:Int)<0 then ((k:Int)+(n:Int)).toNat else min (k:Int).toNat n)=min k n
 rw [if_neg (by omega),Int.toNat_natCast]
theorem c04 (n d:Nat) (hd:d≤n) (o:Option Int):sIx n d o≤n:=by
 cases o with
 | none=>exact hd
 | some v =>
   show (if v<0 then (v+(n:Int)).toNat else min v.toNat n)≤n
   by_cases hv:v<0
   · rw [if_pos hv]; omega
   · rw [if_neg hv]; exact Nat.min_le_right _ _
theorem b90 (v:Int) (n d:Nat):(if v<0 then max (v+(n:Int)) 0 else min v (n:Int))=((sIx n d (some v):Nat):Int):=by
 show (if v<0 then max (v+(n:Int)) 0 else min v (n:Int))=(((if v<0 then (v+(n:Int)).toNat else min v.toNat n):Nat):Int)
 by_cases hv:v<0
 · simp only [if_pos hv]; omega
 · simp only [if_neg hv]; omega
theorem b49 (lo hi:Option Int) (n:Nat):Builtin.Slice.sliceAdjust lo hi 1 (n:Int)=(((sIx n 0 lo:Nat):Int),((sIx n n hi:Nat):Int)):=by
 have h1:¬ ((1:Int)<0):=by omega
 unfold Builtin.Slice.sliceAdjust
 simp only [h1,if_false]
 refine Prod.ext ?_ ?_
 · cases lo with
   | none=>rfl
   | some v=>exact b90 v n 0
 · cases hi with
   | none=>rfl
   | some v=>exact b90 v n n
theorem b50 (i j:Nat):Builtin.Slice.slicePlaces (i:Int) (j:Int) 1=j - i:=by
 unfold Builtin.Slice.slicePlaces
 have h1:(1:Int) > 0:=by omega
 simp only [h1,if_true,Int.ediv_one]
 split <;> omega
theorem am4 {v:Value}{o:Option Int}{Q:Option Int→Shared→Prop}(p:IsPart v o) (h:Q o s):wpAny (model prog w) A (Builtin.Slice.slicePartIndex v) Q E s:=by
 cases p with
 | none=>exact slicePart_none h
 | int i t=>exact slicePart_int h
theorem sliceApplied_gen {sl:Addr}{vl vu:Value}{lo hi:Option Int}{n:Nat}{Q:Int×Int×Nat→Shared→Prop}(hs:s.heap.IsSliceOf sl vl vu .none) (pl:IsPart vl lo) (pu:IsPart vu hi)
 (h:Q (((sIx n 0 lo:Nat):Int),1,sIx n n hi - sIx n 0 lo) s):wpAny (model prog w) A (Builtin.Slice.sliceApplied (.ref sl) (pure (n:Int))) Q E s:=by
 obtain ⟨os,hos,hcs,hds⟩:=id hs
 unfold Builtin.Slice.sliceApplied Builtin.Slice.sliceFields
 refine wpAny_bind (wpAny_bind (wpAny_field hos hds (x:=vl) rfl (wpAny_bind (wpAny_field hos hds (x:=vu) rfl (wpAny_bind (wpAny_field hos hds (x:=.none) rfl (wpAny_pure ?_)))))))
 refine wpAny_bind (slicePart_none ?_)
 show wpAny _ _ (if ((1:Int) == 0)=true then _ else _) _ _ s
 rw [if_neg (by decide)]
 refine wpAny_bind (am4 pl (wpAny_bind (am4 pu (wpAny_bind (wpAny_pure ?_)))))
 show wpAny _ _ (match Builtin.Slice.sliceAdjust lo hi 1 (n:Int) with | (lo,hi)=>pure (lo,(1:Int),Builtin.Slice.slicePlaces lo hi 1)) _ _ s
 rw [b49 lo hi n]
 show wpAny _ _ (pure (((sIx n 0 lo:Nat):Int),(1:Int),Builtin.Slice.slicePlaces ((sIx n 0 lo:Nat):Int) ((sIx n n hi:Nat):Int) 1)) _ _ s
 rw [b50]
 exact wpAny_pure h
theorem bi0 (xs:Array Value) (i k:Nat):((List.range k).filterMap fun (m:Nat)=>xs[((i:Int)+(m:Int)*1).toNat]?).toArray=((xs.toList.drop i).take k).toArray:=by
 have e:(fun (m:Nat)=>xs[((i:Int)+(m:Int)*1).toNat]?)=fun m=>xs[i+m]?:=by
  funext m
  have:((i:Int)+(m:Int)*1).toNat=i+m:=by omega
  rw [this]
 rw [e]
 have:=pick_run xs i k
 rw [List.filterMap_map] at this
 have e2:((fun x=>xs[x]?)∘fun x=>i+x)=fun m=>xs[i+m]?:=rfl
 rw [e2] at this
 rw [this]
theorem getItem_tuple_cut {t sl:Addr}{items:Array Value}{vl vu:Value}{lo hi:Option Int}{Q:Value→Shared→Prop}(ht:IsTup s.heap t items) (hs:s.heap.IsSliceOf sl vl vu .none) (pl:IsPart vl lo) (pu:IsPart vu hi)
 (hw:¬ (sIx items.size 0 lo=0∧sIx items.size items.size hi=items.size))
 (h:Q (.ref s.heap.objs.size) { s with heap:=s.heap.push { cls:=.type "tuple",data:=.seq ((items.toList.drop (sIx items.size 0 lo)).take (sIx items.size items.size hi - sIx items.size 0 lo)).toArray } })
 (hsz:items.size≤sizeLine):wpAny (model prog w) A (getItem (.ref t) (.ref sl)) Q E s:=by
 have htake:sizeOk (.seq ((items.toList.drop (sIx items.size 0 lo)).take (sIx items.size items.size hi - sIx items.size 0 lo)).toArray):=by
  show ((items.toList.drop (sIx items.size 0 lo)).take (sIx items.size items.size hi - sIx items.size 0 lo)).toArray.size≤sizeLine
  rw [List.size_toArray,List.length_take,List.length_drop,Array.length_toList]
  omega
 have hj:sIx items.size items.size hi≤items.size:=c04 _ _ (Nat.le_refl _) hi
 obtain ⟨os,hos,hcs,hds⟩:=id hs
 have hTs:s.TypeIs (.ref sl) "slice":=⟨os,hos,hcs⟩
 unfold getItem
 try with_reducible refine wpAny_holding ?_
 first | refine wpAny_bind (wpAny_pure ?_) | skip
 refine wpAny_bind (wpAny_sequenceKey ht.typeIs (by decide) ?_)
 refine wpAny_bind (wpAny_callSpecial?_slot (name:=Str.ofString "__getitem__") ht.typeIs PyProof.Rows.slot_tuple_getitem
  (wpAny_call_entry PyProof.Rows.slot_tuple_getitem ht.typeIs entry_tuple_getitem ?_ (args_tuple_getitem _ _)))
 show wpAny _ _ (Builtin.Tuple.tupleItemsOf (.ref t) >>= _) _ _ s
 refine wpAny_bind (tupleItemsOf_ ht ?_)
 refine wpAny_bind (wpAny_typeOf hTs ?_)
 rw [if_pos (by decide)]
 refine wpAny_bind (sliceApplied_gen hs pl pu ?_)
 have hno:¬ ((((sIx items.size 0 lo:Nat):Int) == 0 && (1:Int) == 1 && (sIx items.size items.size hi - sIx items.size 0 lo) == items.size)=true):=by
  intro q
  rw [Bool.and_eq_true,Bool.and_eq_true] at q
  have q1:((sIx items.size 0 lo:Nat):Int)=0:=eq_of_beq q.1.1
  have q2:sIx items.size items.size hi - sIx items.size 0 lo=items.size:=eq_of_beq q.2
  exact hw ⟨by omega,by omega⟩
 show wpAny _ _ (if (((sIx items.size 0 lo:Nat):Int) == 0 && (1:Int) == 1 && (sIx items.size items.size hi - sIx items.size 0 lo) == items.size)=true then _ else _) _ _ s
 rw [if_neg hno,bi0]
 first
  | exact wpAny_bind (m:=Builtin.Tuple.tupleExact _) (wpAny_newObj_type (wpAny_pure ⟨_,rfl,wpAny_pure h⟩) htake)
  | exact wpAny_bind (m:=Builtin.Tuple.tupleExact _) (wpAny_newObj_type (wpAny_bind (wpAny_pure (wpAny_pure ⟨_,rfl,wpAny_pure h⟩))) htake)
  | exact wpAny_bind (wpAny_bind (m:=Builtin.Tuple.tupleExact _) (wpAny_newObj_type (wpAny_pure (wpAny_pure ⟨_,rfl,wpAny_pure h⟩)) htake))
  | exact wpAny_bind (wpAny_bind (m:=Builtin.Tuple.tupleExact _) (wpAny_newObj_type (wpAny_pure ⟨_,rfl,wpAny_pure h⟩) htake))
end
end HT
namespace L2
open PySem PySem.Spec PyProof.Rows
abbrev TO:=St→Hp→(Option Int→Hp→Prop)→Prop
def PO (X:Cx) (e:Option Expr) (t:TO):Prop :=
 ∀ (pins:List (Addr×Obj)) (s:Shared) (σ:St) (H:Hp) (Q:Option Int→Hp→Prop),Inv X pins σ H s→t σ H Q →
  wpAny (model X.prog X.w) X.A (evalPart e X.env) (fun u s'=>∃ o H',Inv X pins σ H' s'∧IsPart u o∧Q o H') X.xe s
def tNoPart:TO:=fun _ H Q=>Q none H
def tPart (t:TE):TO:=fun σ H Q=>t σ H fun x H1=>∃ i,x=.int i∧Q (some i) H1
theorem b51 {ns:List Int}:∀ {us:List Value},Vals (ns.map V.int) us→IntsAre us ns:=by
 induction ns with
 | nil=>intro us r; rw [List.map_nil] at r; cases r; exact .nil
 | cons n ns ih =>
   intro us r
   rw [List.map_cons] at r
   cases r with
   | cons r1 r2 =>
     obtain ⟨t,e⟩:=r1
     subst e
     exact .cons n t (ih r2)
section
variable {X:Cx}{e:Expr}{te:TE}{lo hi:Option Expr}{tl th:TO}{pos p2:Pos}
theorem b91:PO X none tNoPart:=by
 intro pins s σ H Q I h
 rw [evalPart_none]
 exact wpAny_pure ⟨none,H,I,.none,h⟩
theorem ai0 (h:PE X e te):PO X (some e) (tPart te):=by
 intro pins s σ H Q I hw
 rw [evalPart_some]
 refine thn (h pins s σ H _ I hw) fun u s1 ⟨x,H1,I1,r1,q1⟩=>?_
 obtain ⟨i,rfl,q⟩:=q1
 obtain ⟨t,rfl⟩:=r1
 exact ⟨some i,H1,I1,.int i t,q⟩
def SlR (X:Cx) (r:V→Option Int→Option Int→Hp→VK→Prop):Prop :=
 ∀ (pins:List (Addr×Obj)) (s:Shared) (σ:St) (H:Hp) (x:V) (v vl vu:Value) (lo hi:Option Int) (sl:Addr) (Q:VK),Inv X pins σ H s→RelV x v→s.heap.IsSliceOf sl vl vu .none→IsPart vl lo→IsPart vu hi→r x lo hi H Q →
  ∃ T id,typeLookup (.type T) "__getitem__"=pure (some (.builtin id))∧s.TypeIs v T∧wpAny (model X.prog X.w) X.A (getItem v (.ref sl)) (EP X pins σ Q) X.xe s
def tSl (r:V→Option Int→Option Int→Hp→VK→Prop) (te:TE) (tl th:TO):TE:=fun σ H Q=>te σ H fun x H1=>tl σ H1 fun l H2=>th σ H2 fun u H3=>r x l u H3 Q
theorem aj3 {r:V→Option Int→Option Int→Hp→VK→Prop}(hr:SlR X r) (he:PE X e te) (hl:PO X lo tl) (hu:PO X hi th):PE X (.Subscript e (.Slice lo hi none p2) pos) (tSl r te tl th):=by
 intro pins s σ H Q I h
 refine Subscript_ (thn (he pins s σ H _ I h) fun v s1 ⟨x,H1,I1,r1,q1⟩=>?_)
 refine wpAny_Slice (thn (hl pins s1 σ H1 _ I1 q1) fun vl s2 ⟨l,H2,I2,pl,q2⟩=>thn (hu pins s2 σ H2 _ I2 q2) fun vu s3 ⟨u,H3,I3,pu,q3⟩=>?_)
 rw [evalPart_none]
 refine wpAny_pure ?_
 have I4:Inv X pins σ H3 { s3 with heap:=s3.heap.push { cls:=.type "slice",data:=.fields #[vl,vu,.none] } }:=I3.kept (t':=s3.toks) fun b ob q=>Heap.get?_push_of_some _ q
 obtain ⟨T,id,hT,ht,hg⟩:=hr pins { s3 with heap:=s3.heap.push { cls:=.type "slice",data:=.fields #[vl,vu,.none] } } σ H3 x v vl vu l u s3.heap.objs.size Q I4 r1 (Heap.IsSliceOf.new ..) pl pu q3
 show wpAny (model X.prog X.w) X.A (subscriptTail e (.Slice lo hi none p2) v (.ref s3.heap.objs.size)) (EP X pins σ Q) X.xe { s3 with heap:=s3.heap.push { cls:=.type "slice",data:=.fields #[vl,vu,.none] } }
 exact tail_any (ops:=[.ref s3.heap.objs.size,v]) ht hT hg (by with_unfolding_all rfl)
def cutV (xs:List V) (lo hi:Option Int):List V:=(xs.drop (HT.sIx xs.length 0 lo)).take (HT.sIx xs.length xs.length hi - HT.sIx xs.length 0 lo)
theorem ak5 (xs:List V) (lo hi:Option Int):(cutV xs lo hi).length≤xs.length:=by
 unfold cutV
 rw [List.length_take,List.length_drop]
 omega
def rSlT (K:PySem.W.Frag):V→Option Int→Option Int→Hp→VK→Prop:=fun x lo hi H Q=>∃ a xs,x=.ref a∧SqT K H a xs ∧
 ¬ (HT.sIx xs.length 0 lo=0∧HT.sIx xs.length xs.length hi=xs.length)∧∀ p,H p=none→Q (.ref p) (upd H p (.tup (cutV xs lo hi)))
theorem c05:SlR X (rSlT X.K):=by
 intro pins s σ H x v vl vu lo hi sl Q I rx hs pl pu h
 obtain ⟨a,xs,rfl,hx,hw,q⟩:=h
 cases rx
 obtain ⟨its,r,ht,hz⟩:=I.tuple hx
 have hlen:its.toArray.size=xs.length:=by rw [List.size_toArray]; exact r.length.symm
 refine ⟨"tuple",_,PyProof.Rows.slot_tuple_getitem.lookup,ht.typeIs,?_⟩
 refine HT.getItem_tuple_cut ht hs pl pu (by rw [hlen]; exact hw) ?_ (by rw [hlen]; exact hz)
 rw [hlen]
 refine ⟨.ref s.heap.objs.size,_,I.laid (t':=s.toks) (o:=.tup (cutV xs lo hi)) (fun b ob q=>Heap.get?_push_of_some _ q) (Nat.le_refl _) ?_,rfl,q _ (I.hok.fresh (Nat.le_refl _))⟩
 exact ⟨Nat.le_trans (ak5 xs lo hi) hz,_,(r.drop (HT.sIx xs.length 0 lo)).take (HT.sIx xs.length xs.length hi - HT.sIx xs.length 0 lo),IsTup.new _ _⟩
theorem Vals.nil_iff {xs:List V}{us:List Value}(r:Vals xs us):us=[]↔xs=[]:=by
 cases r with
 | nil=>simp
 | cons _ _=>simp
end
def ixN (n:Nat) (i:Int):Option Nat:=if 0≤i then (if i<n then some i.toNat else none) else if -(n:Int)≤i then some (i+n).toNat else none
def atI {α:Type}(xs:List α) (i:Int):Option α:=(ixN xs.length i).bind fun j=>xs[j]?
theorem b92 {n:Nat}{i:Int}{j:Nat}(h:ixN n i=some j):seqIndex? i n=some j∧j<n∧-(n:Int)≤i∧i<n:=by
 unfold ixN at h
 by_cases h0:0≤i
 · rw [if_pos h0] at h
   by_cases h1:i<n
   · rw [if_pos h1] at h
     have e:i.toNat=j:=Option.some.inj h
     exact ⟨by rw [seqIndex_of h0 h1,e],by omega,by omega,h1⟩
   · rw [if_neg h1] at h; cases h
 · rw [if_neg h0] at h
   by_cases h1:-(n:Int)≤i
   · rw [if_pos h1] at h
     have e:(i+n).toNat=j:=Option.some.inj h
     exact ⟨by rw [seqIndex_neg (by omega) h1,e],by omega,h1,by omega⟩
   · rw [if_neg h1] at h; cases h
theorem b93 {α:Type}{xs:List α}{i:Int}{v:α}(h:atI xs i=some v):∃ j,seqIndex? i xs.length=some j∧xs[j]?=some v∧j<xs.length∧-(xs.length:Int)≤i∧i<xs.length:=by
 unfold atI at h
 cases e:ixN xs.length i with
 | none=>rw [e] at h; cases h
 | some j =>
   rw [e] at h
   obtain ⟨h1,h2,h3,h4⟩:=b92 e
   exact ⟨j,h1,h,h2,h3,h4⟩
theorem a07 {α:Type}{xs:List α}{j:Nat}{v:α}(h:xs[j]?=some v):atI xs (j:Int)=some v:=by
 have hj:j<xs.length:=(List.getElem?_eq_some_iff.mp h).1
 have e:ixN xs.length (j:Int)=some j:=by
  unfold ixN
  rw [if_pos (by omega),if_pos (by omega)]; simp
 unfold atI; rw [e]; exact h
theorem bi1 {α:Type}(xs:List α) (v:α):atI (xs++[v]) (-1)=some v:=by
 have hl:(xs++[v]).length=xs.length+1:=by simp
 have e:ixN (xs++[v]).length (-1)=some xs.length:=by
  unfold ixN
  rw [hl,if_neg (by decide),if_pos (by omega)]
  congr 1
  omega
 unfold atI
 rw [e]
 show (xs++[v])[xs.length]?=some v
 simp
def PlainIx (b:Expr):Prop:=∀ o i,subscripted b false o i=operate [o,i] (getItem o i)
def IxR (X:Cx) (r:R2):Prop :=
 ∀ (value slice:Expr) (pins:List (Addr×Obj)) (s:Shared) (σ:St) (H:Hp) (x y:V) (v u:Value) (Q:VK),Inv X pins σ H s→RelV x v→RelV y u→r x y H Q →
  subscripted slice false v u=operate [v,u] (getItem v u)→wpAny (model X.prog X.w) X.A (subscriptTail value slice v u) (EP X pins σ Q) X.xe s
def MtR (X:Cx) (id:String) (r:V→List V→Hp→VK→Prop):Prop :=
 ∀ (pins:List (Addr×Obj)) (s:Shared) (σ:St) (H:Hp) (x:V) (xs:List V) (v:Value) (us:List Value) (Q:VK),Inv X pins σ H s→RelV x v→Vals xs us→r x xs H Q →
  wpAny (model X.prog X.w) X.A (call (.builtin id) (v::us)) (EP X pins σ Q) X.xe s
section
variable {X:Cx}{a b:Expr}{ta tb:TE}{pos:Pos}
theorem a49 {r:R2}(hr:IxR X r) (ha:PE X a ta) (hb:PE X b tb) (hs:PlainIx b):PE X (.Subscript a b pos) (tOp r ta tb):=by
 intro pins s σ H Q I h
 exact Subscript_ (binT ha hb I h fun v u s2 x y H2 I2 rx ry q=>hr a b pins s2 σ H2 x y v u Q I2 rx ry q (hs _ _))
def rIxL (K:PySem.W.Frag):R2:=fun x y H Q=>∃ p xs i v,x=.ref p∧y=.int i∧SqL K H p xs∧atI xs i=some v∧Q v H
def rIxT (K:PySem.W.Frag):R2:=fun x y H Q=>∃ p xs i v,x=.ref p∧y=.int i∧SqT K H p xs∧atI xs i=some v∧Q v H
theorem bs2:IxR X (rIxL X.K):=by
 intro value slice pins s σ H x y v u Q I rx ry h hs
 obtain ⟨p,xs,i,z,rfl,rfl,hq,he,q⟩:=h
 cases rx
 obtain ⟨t,rfl⟩:=ry
 obtain ⟨its,r,pl,hz⟩:=I.list hq
 obtain ⟨j,h1,h2,h3,h4,h5⟩:=b93 he
 obtain ⟨w,ew,rw'⟩:=r.get h2
 have hl:=r.length
 have hn:=ar7
 have fin:EP X pins σ Q w s:=⟨z,H,I,rw',q⟩
 by_cases h0:0≤i
 · have hj:i.toNat=j:=by
    rw [seqIndex_of h0 h5] at h1
    exact Option.some.inj h1
   exact item_listR pl.isList h0 (by omega) (by rw [hj]; simpa using ew) fin hs
 · have hj:(i+(its.toArray.size:Int)).toNat=j:=by
    rw [seqIndex_neg (by omega) h4] at h1
    rw [List.size_toArray,←hl]
    exact Option.some.inj h1
   exact subscriptTail_builtinR (x:=w) pl.isList.typeIs slot_list_getitem.lookup
    (wpAny_getItem_list_neg (Q:=fun r s'=>r=w∧EP X pins σ Q r s') pl.isList (by omega) (by rw [List.size_toArray] <;> omega) (by omega) (by rw [hj]; simpa using ew) ⟨rfl,fin⟩) hs
theorem c06:IxR X (rIxT X.K):=by
 intro value slice pins s σ H x y v u Q I rx ry h hs
 obtain ⟨p,xs,i,z,rfl,rfl,hq,he,q⟩:=h
 cases rx
 obtain ⟨t,rfl⟩:=ry
 obtain ⟨its,r,pl,hz⟩:=I.tuple hq
 obtain ⟨j,h1,h2,h3,h4,h5⟩:=b93 he
 obtain ⟨w,ew,rw'⟩:=r.get h2
 have hl:=r.length
 have hn:=ar7
 have fin:EP X pins σ Q w s:=⟨z,H,I,rw',q⟩
 exact subscriptTail_builtinR (x:=w) pl.typeIs slot_tuple_getitem.lookup
  (getItem_tuple (j:=j) (Q:=fun r s'=>r=w∧EP X pins σ Q r s') pl (by omega) (by omega) (by rw [List.size_toArray,←hl]; exact h1) (by simpa using ew) ⟨rfl,fin⟩) hs
theorem b52 (its:List Value) (n j:Nat) (u:Value):Obj.mapSeq (·.setIfInBounds j u) { cls:=.type "list",data:=.seq its.toArray n }={ cls:=.type "list",data:=.seq (its.set j u).toArray n }:=by
 simp [Obj.mapSeq]
theorem Inv.lst {pins:List (Addr×Obj)}{σ:St} {H:Hp}{s:Shared}{p:Addr}{xs:List V}(I:Inv X pins σ H s) (h:H p=some (.lst xs)) :
 ∃ (its:List Value) (n:Nat),Vals xs its∧s.heap.get? p=some { cls:=.type "list",data:=.seq its.toArray n }∧xs.length≤sizeLine:=by
 obtain ⟨z,its,n,r,e⟩:=I.hok p _ h
 exact ⟨its,n,r,e,z⟩
theorem Inv.lstUpd {pins:List (Addr×Obj)}{σ:St} {H:Hp}{s:Shared}{p:Addr}{xs ys:List V}{its its':List Value}{n n':Nat}{f:Obj→Obj}(I:Inv X pins σ H s) (h:H p=some (.lst xs))
 (ho:s.heap.get? p=some { cls:=.type "list",data:=.seq its.toArray n }) (hf:f { cls:=.type "list",data:=.seq its.toArray n }={ cls:=.type "list",data:=.seq its'.toArray n' }) (r:Vals ys its') (hz:ys.length≤sizeLine) (t:Nat) :
 Inv X pins σ (upd H p (.lst ys)) { s with heap:=s.heap.update p f,toks:=t }:=by
 have e:(s.heap.update p f).get? p=some { cls:=.type "list",data:=.seq its'.toArray n' }:=by
  rw [Heap.get?_update_self f ho (by rw [hf] <;> rfl),hf]
 refine I.write (x:=p) (e:=p) (by rw [h]; trivial) (.inl rfl) (fun b u hb q=>(Heap.get?_update_other _ _ (Ne.symm hb)).trans q) ⟨_,e⟩ ?_
 exact ⟨hz,its',n',r,e⟩
def rSetL:V→V→V→Hp→(Hp→Prop)→Prop:=fun o i v H Q=>∃ p xs k j,o=.ref p∧i=.int k∧H p=some (.lst xs)∧ixN xs.length k=some j∧Q (upd H p (.lst (xs.set j v)))
theorem ag5:PSet X rSetL:=by
 intro pins s σ H o i v ov iv u Q I ro ri rv h
 obtain ⟨p,xs,k,j,rfl,rfl,hp,hj,q⟩:=h
 cases ro
 obtain ⟨t,rfl⟩:=ri
 obtain ⟨its,n,r,ho,hz⟩:=I.lst hp
 obtain ⟨h1,h2,h3,h4⟩:=b92 hj
 have hl:=r.length
 have hn:=ar7
 have I':Inv X pins σ (upd H p (.lst (xs.set j v))) { s with heap:=s.heap.update p (Obj.mapSeq (·.setIfInBounds j u)) } :=
  I.lstUpd hp ho (b52 its n j u) (r.set rv j) (by rw [List.length_set]; exact hz) s.toks
 by_cases h0:0≤k
 · have hk:k.toNat=j:=by
    rw [seqIndex_of h0 h4] at h1
    exact Option.some.inj h1
   exact PySem.W.ki_setAt ho h0 (by omega) (by rw [List.size_toArray,←hl]; exact h4) (by rw [hk]; exact ⟨_,I',q⟩)
 · have hk:(k+(its.toArray.size:Int)).toNat=j:=by
    rw [seqIndex_neg (by omega) h3] at h1
    rw [List.size_toArray,←hl]
    exact Option.some.inj h1
   exact PySem.W.ki_setBack ho (by omega) (by rw [List.size_toArray,←hl]; exact h3) (by omega) (by rw [hk]; exact ⟨_,I',q⟩)
theorem as2 (lo hi:Option Int) (n:Nat):(sliceBounds lo hi none n).1=((HT.sIx n 0 lo:Nat):Int)∧(sliceBounds lo hi none n).2.1=((HT.sIx n n hi:Nat):Int)∧(sliceBounds lo hi none n).2.2=1:=by
 refine ⟨?_,?_,rfl⟩
 · cases lo with
   | none=>simp [sliceBounds,HT.sIx]
   | some i =>
     simp only [sliceBounds,HT.sIx,Option.getD_none,show (1:Int) > 0 by decide,if_true]
     by_cases h:i<0
     · simp only [h,if_true] <;> omega
     · simp only [h,if_false] <;> omega
 · cases hi with
   | none=>simp [sliceBounds,HT.sIx]
   | some i =>
     simp only [sliceBounds,HT.sIx,Option.getD_none,show (1:Int) > 0 by decide,if_true]
     by_cases h:i<0
     · simp only [h,if_true] <;> omega
     · simp only [h,if_false] <;> omega
theorem ao8 (its:List Value) (lo hi:Option Int):slicePick its.toArray lo hi none=((its.drop (HT.sIx its.length 0 lo)).take (HT.sIx its.length its.length hi - HT.sIx its.length 0 lo)).toArray:=by
 obtain ⟨h1,h2,h3⟩:=as2 lo hi its.toArray.size
 unfold slicePick
 rw [h1,h2,h3]
 simp only [sliceRange_one,pick_run,List.size_toArray] <;> rfl
def rSlL (K:PySem.W.Frag):V→Option Int→Option Int→Hp→VK→Prop:=fun x lo hi H Q=>∃ a xs,x=.ref a∧SqL K H a xs∧∀ p,H p=none→Q (.ref p) (upd H p (.lst (cutV xs lo hi)))
theorem bs3:SlR X (rSlL X.K):=by
 intro pins s σ H x v vl vu lo hi sl Q I rx hs pl pu h
 obtain ⟨a,xs,rfl,hx,q⟩:=h
 cases rx
 obtain ⟨its,r,ht,hz⟩:=I.list hx
 have hlen:=r.length
 refine ⟨"list",_,slot_list_getitem.lookup,ht.isList.typeIs,?_⟩
 refine wpAny_getItem_list_slice ht.isList hs pl pu .none (by simp) ?_ (by rw [List.size_toArray] <;> omega)
 rw [ao8,←hlen]
 refine ⟨.ref s.heap.objs.size,_,I.laid (t':=s.toks) (o:=.lst (cutV xs lo hi)) (fun b ob q=>Heap.get?_push_of_some _ q) (Nat.le_refl _) ?_,rfl,q _ (I.hok.fresh (Nat.le_refl _))⟩
 exact ⟨Nat.le_trans (ak5 xs lo hi) hz,_,0,(r.drop (HT.sIx xs.length 0 lo)).take (HT.sIx xs.length xs.length hi - HT.sIx xs.length 0 lo),Heap.get?_push_size _ rfl⟩
theorem as3:CallR X (.type "list") (fun xs H Q=>∃ p ys,xs=[.ref p]∧(SqL X.K H p ys∨SqT X.K H p ys)∧∀ l,H l=none→Q (.ref l) (upd H l (.lst ys))):=by
 intro pins s σ H xs us Q I r h
 obtain ⟨p,ys,rfl,hq,q⟩:=h
 obtain ⟨u,rfl,rx⟩:=b86 r
 cases rx
 have fin:∀ (its:List Value),Vals ys its→ys.length≤sizeLine→∀ (h':Heap) (c':Nat),(∀ b o',s.heap.get? b=some o'→h'.get? b=some o') →
  h'.get? s.heap.objs.size=some { cls:=.type "list",dict:=none,data:=.seq its.toArray c',slots:=#[] }→EP X pins σ Q (.ref s.heap.objs.size) { s with heap:=h' }:=fun its r' hz h' c' kp e =>
  ⟨.ref s.heap.objs.size,_,I.laid (t':=s.toks) kp (Nat.le_refl _) (show ObjOk X.prog X.w _ h' _ (.lst ys) from ⟨hz,its,c',r',e⟩),rfl,q _ (I.hok.fresh (Nat.le_refl _))⟩
 rcases hq with hq | hq
 · obtain ⟨its,r',pl,hz⟩:=I.list hq
   have hlen:=r'.length
   obtain ⟨o,ho,hc,n,hd⟩:=pl.isList
   exact call_list_seq p (.inl rfl) ho hc hd (fun h' c' kp e=>fin its r' hz h' c' kp e) (by simp only [List.size_toArray] <;> omega)
 · obtain ⟨its,r',pl,hz⟩:=I.tuple hq
   have hlen:=r'.length
   obtain ⟨o,ho,hc,n,hd⟩:=pl
   exact call_list_seq p (.inr rfl) ho hc hd (fun h' c' kp e=>fin its r' hz h' c' kp e) (by simp only [List.size_toArray] <;> omega)
theorem ao9:CallR X (.type "tuple") (fun xs H Q=>∃ p ys,xs=[.ref p]∧((SqL X.K H p ys∧∀ l,H l=none→Q (.ref l) (upd H l (.tup ys)))∨(SqT X.K H p ys∧Q (.ref p) H))):=by
 intro pins s σ H xs us Q I r h
 obtain ⟨p,ys,rfl,h⟩:=h
 obtain ⟨u,rfl,rx⟩:=b86 r
 cases rx
 rcases h with ⟨hq,q⟩ | ⟨hq,q⟩
 · obtain ⟨its,r',pl,hz⟩:=I.list hq
   have hlen:=r'.length
   refine call_tuple_list pl.isList (fun h' kp=>?_) (by simp only [List.size_toArray] <;> omega)
   have I1:Inv X pins σ H { s with heap:=h' }:=I.kept (t':=s.toks) kp
   have I2:Inv X pins σ (upd H h'.objs.size (.tup ys)) { s with heap:=h'.push { cls:=.type "tuple",data:=.seq its.toArray } } :=
    I1.laid (t':=s.toks) (fun b o e=>Heap.get?_push_of_some _ e) (Nat.le_refl _) (show ObjOk X.prog X.w _ _ _ (.tup ys) from ⟨hz,its,r',IsTup.new _ _⟩)
   exact ⟨.ref h'.objs.size,_,I2,rfl,q _ (I1.hok.fresh (Nat.le_refl _))⟩
 · obtain ⟨its,r',pl,hz⟩:=I.tuple hq
   exact call_tuple_same pl ⟨.ref p,H,I,rfl,q⟩
def tyV (K:PySem.W.Frag) (T:String) (x:V) (H:Hp):Prop:=match x with
 | .str _=>T="str"
 | .int _=>T="int"
 | .ref p=>(T="list"∧∃ xs,SqL K H p xs)∨(T="tuple"∧∃ o,K.lookup p=some o∧o.cls=.type "tuple"∧o.dict=none) ∨
  (T="dict"∧((∃ kvs,H p=some (.dK kvs))∨∃ kvs,H p=some (.dT kvs)))∨(T="set"∧∃ S n,H p=some (.set S n))
 | _=>False
theorem c07 {pins:List (Addr×Obj)}{σ:St} {H:Hp}{s:Shared}{T:String}{x:V}{v:Value}(I:Inv X pins σ H s) (r:RelV x v) (ty:tyV X.K T x H) :
 s.TypeIs v T∧∀ a,v=.ref a→∃ ob,s.heap.get? a=some ob∧ob.dict=none:=by
 cases x with
 | str z =>
   obtain ⟨t,rfl⟩:=r
   cases (show T="str" from ty)
   exact ⟨typeIs_str s z t,fun _ e=>nomatch e⟩
 | int i =>
   obtain ⟨t,rfl⟩:=r
   cases (show T="int" from ty)
   exact ⟨typeIs_int s i t,fun _ e=>nomatch e⟩
 | ref p =>
   cases r
   rcases ty with ⟨rfl,xs,hq⟩ | ⟨rfl,o,hk,hc,hd⟩ | ⟨rfl,hk⟩ | ⟨rfl,S,n,hk⟩
   · obtain ⟨its,_,pl,_⟩:=I.list hq
     refine ⟨pl.isList.typeIs,fun a e=>?_⟩
     cases e
     obtain ⟨o,n,e,c,hd,_⟩:=pl
     exact ⟨o,e,hd⟩
   · refine ⟨⟨o,I.kIn p o hk,hc⟩,fun a e=>?_⟩
     cases e
     exact ⟨o,I.kIn _ o hk,hd⟩
   · have z:∃ o,s.heap.get? p=some o∧o.ExactDict:=by
      rcases hk with ⟨kvs,hk⟩ | ⟨kvs,hk⟩
      · obtain ⟨_,_,_,_,o,_,_,e,ex,_⟩:=I.hok p _ hk
        exact ⟨o,e,ex⟩
      · obtain ⟨_,_,_,_,o,_,_,e,ex,_⟩:=I.hok p _ hk
        exact ⟨o,e,ex⟩
     obtain ⟨o,e,ex⟩:=z
     refine ⟨⟨o,e,ex.1⟩,fun a e2=>?_⟩
     cases e2
     exact ⟨o,e,ex.2.1⟩
   · obtain ⟨o,_,_,_,e,ex,_⟩:=I.hok p _ hk
     refine ⟨⟨o,e,ex.1⟩,fun a e2=>?_⟩
     cases e2
     exact ⟨o,e,ex.2.1⟩
 | _=>exact False.elim ty
def tBM (K:PySem.W.Frag) (T:String) (r:V→List V→Hp→VK→Prop) (to:TE) (t:TA):TE:=fun σ H Q=>to σ H fun x H1=>tyV K T x H1∧t σ H1 fun xs H2=>r x xs H2 Q
variable {o e:Expr}{es:List Expr}{to:TE}{t:TA}{name:Str}{apos cpos:Pos}{T id:String}{r:V→List V→Hp→VK→Prop}
theorem ca1 (pa:PlainAttrs T) (slot:Slot T name id) (hty:typeOf (.builtin id)=pure (.type "method_descriptor")) (hm:MtR X id r) (ho:PE X o to) (ha:PA X (e::es) t)
 (hbase:attributeBase o name X.env (eval o X.env)=eval o X.env:=by rfl)
 (hfew:((backTo cpos (starEach (e::es) X.env)).all (fun x=>!x.1) && (backToKw cpos (keywordEach [] X.env)).all (fun x=>x.1.isSome)
  && decide ((e::es).length+([]:List Keyword).length+(if ([]:List Keyword).isEmpty then 0 else 1)<30))=true:=by rfl)
 (hline:(apos.endLine == cpos.line)=true:=by rfl) (hs:starEach (e::es) X.env=(false,eval e X.env)::starEach es X.env:=by rfl) (hplain:(backTo cpos (starEach es X.env)).any (·.1)=false:=by rfl) :
 PE X (.Call (.Attribute o name apos) (e::es) [] cpos) (tBM X.K T r to t):=by
 intro pins s σ H Q I h
 refine wpAny_Call_method_late hbase hfew hline rfl (thn (ho pins s σ H _ I h) fun v s1 ⟨x,H1,I1,r1,ty,q1⟩=>?_)
 obtain ⟨h1,h2⟩:=c07 I1 r1 ty
 refine ⟨T,id,pa,slot,hty,h1,h2,?_⟩
 have hA:=ha cpos pins s1 σ H1 _ I1 q1
 rw [hs] at hA ⊢
 refine Calls.callWith_builtin (by show (false || (backTo cpos (starEach es X.env)).any (·.1))=false; rw [hplain] <;> rfl) (Calls.evalArgs_plain ?_)
 exact thn hA fun us s2 ⟨vs,H2,I2,r2,q2⟩=>hm pins s2 σ H2 x vs v us Q I2 r1 r2 q2
/- xs.append(e),list.index on a module's tuple .. are MtR facts of 06m -/
end
def MtM (X:Cx) (id:String) (r:V→List V→Hp→VK→Prop):Prop :=
 ∀ (pins:List (Addr×Obj)) (s:Shared) (σ:St) (H:Hp) (x:V) (xs:List V) (v:Value) (us:List Value) (Q:VK),Inv X pins σ H s→RelV x v→Vals xs us→r x xs H Q →
  wpAny (model X.prog X.w) X.A (call (.builtin id) (v::us)) (EP X pins σ Q) X.xe s
theorem Vals.one:∀ {x:V}{us:List Value},Vals [x] us→∃ u,us=[u]∧RelV x u
 | _,_,.cons r .nil=>⟨_,rfl,r⟩
theorem Vals.reverse {xs:List V}{us:List Value}(h:Vals xs us):Vals xs.reverse us.reverse:=by
 induction h with
 | nil=>exact .nil
 | cons r t ih=>rw [List.reverse_cons,List.reverse_cons]; exact Vals.append ih (.cons r .nil)
section
variable {X:Cx}{pins:List (Addr×Obj)}{σ:St} {H:Hp}{s:Shared}{l b:Addr}{xs ys zs:List V}
theorem Inv.lset {its its':List Value}{n:Nat}{f:Array Value→Array Value}{t':Nat}(I:Inv X pins σ H s) (hH:H l=some (.lst xs))
 (e:s.heap.get? l=some { cls:=.type "list",data:=.seq its.toArray n }) (hf:f its.toArray=its'.toArray) (hv:Vals ys its') (hz:ys.length≤sizeLine) :
 Inv X pins σ (upd H l (.lst ys)) { s with heap:=s.heap.update l (Obj.mapSeq f),toks:=t' }:=by
 have q:=PySem.IsL.update e f
 rw [hf] at q
 refine I.write (x:=l) (e:=l) (by rw [hH]; exact trivial) (.inl rfl) (fun b' u hb hu=>(Heap.get?_update_other s.heap (Obj.mapSeq f) (Ne.symm hb)).trans hu) ⟨_,q⟩ ?_
 exact ⟨hz,its',_,hv,q⟩
theorem Inv.lnew {its:List Value}{t':Nat}(I:Inv X pins σ H s) (hv:Vals ys its) (hz:ys.length≤sizeLine) :
 Inv X pins σ (upd H s.heap.objs.size (.lst ys)) { s with heap:=s.heap.push { cls:=.type "list",data:=.seq its.toArray },toks:=t' } :=
 I.laid (fun _ _ q=>Heap.get?_push_of_some _ q) (Nat.le_refl _) ⟨hz,its,0,hv,Heap.get?_push_size _ rfl⟩
theorem Inv.fresh (I:Inv X pins σ H s):H s.heap.objs.size=none:=I.hok.fresh (Nat.le_refl _)
theorem Inv.lstM (I:Inv X pins σ H s) (hH:H l=some (.lst xs)):xs.length≤sizeLine∧∃ (its:List Value) (n:Nat),Vals xs its∧xs.length=its.length∧s.heap.get? l=some { cls:=.type "list",data:=.seq its.toArray n }:=by
 obtain ⟨z,its,n,r,e⟩:=I.hok l _ hH
 exact ⟨z,its,n,r,r.length,e⟩
theorem notLongL {n:Nat}(h:n≤sizeLine):Builtin.List.listTooLong n=false:=by
 unfold Builtin.List.listTooLong
 exact decide_eq_false (by omega)
end
section
variable {X:Cx}
def rAppend:V→List V→Hp→VK→Prop:=fun x vs H Q=>∃ l xs y,x=.ref l∧vs=[y]∧H l=some (.lst xs)∧xs.length<sizeLine∧Q .non (upd H l (.lst (xs++[y])))
theorem aa4:MtM X "list.append" rAppend:=by
 intro pins s σ H x vs v us Q I rx rv h
 obtain ⟨l,xs,y,rfl,rfl,hH,hz,q⟩:=h
 cases rx
 obtain ⟨u,rfl,ru⟩:=rv.one
 obtain ⟨z,its,n,r,hl,e⟩:=I.lstM hH
 refine call_meets F.slot_list_append ⟨_,e,rfl⟩ F.entry_list_append (F.args_list_append_2 _ _) (PySem.list_append l its.toArray n u (by rw [List.size_toArray]; omega)) ⟨e,?_⟩
 refine ⟨.non,_,I.lset (its':=its++[u]) hH e (by simp) (r.append (.cons ru .nil)) ?_,rfl,q⟩
 rw [List.length_append,List.length_singleton]
 omega
def rExtend:V→List V→Hp→VK→Prop:=fun x vs H Q=>∃ l b xs zs,x=.ref l∧vs=[.ref b]∧H l=some (.lst xs)∧H b=some (.lst zs)∧xs.length+zs.length≤sizeLine∧Q .non (upd H l (.lst (xs++zs)))
theorem ag6:MtM X "list.extend" rExtend:=by
 intro pins s σ H x vs v us Q I rx rv h
 obtain ⟨l,b,xs,zs,rfl,rfl,hH,hB,hz,q⟩:=h
 cases rx
 obtain ⟨u,rfl,ru⟩:=rv.one
 cases ru
 obtain ⟨z,its,n,r,hl,e⟩:=I.lstM hH
 obtain ⟨z2,its2,n2,r2,hl2,e2⟩:=I.lstM hB
 have hsz:its.toArray.size+its2.toArray.size≤sizeLine:=by rw [List.size_toArray,List.size_toArray]; omega
 have hlong:¬ (!its.toArray.isEmpty && Builtin.List.listTooLong (its.toArray.size+its2.toArray.size))=true:=by
  rw [notLongL hsz,Bool.and_false]
  exact Bool.false_ne_true
 refine call_meets F.slot_list_extend ⟨_,e,rfl⟩ F.entry_list_extend (F.args_list_extend_2 _ _)
  (AutoSeq1.list_extend_list_list_0 l its.toArray n b its2.toArray n2 hlong (by rw [List.size_toArray]; omega) (by omega)) ⟨e,e2,?_⟩
 refine ⟨.non,_,I.lset (its':=its++its2) hH e (by simp) (r.append r2) ?_,rfl,q⟩
 rw [List.length_append]
 omega
def rCat:R2:=fun x y H Q=>∃ l b xs zs,x=.ref l∧y=.ref b∧H l=some (.lst xs)∧H b=some (.lst zs)∧xs.length+zs.length≤sizeLine∧∀ p,H p=none→Q (.ref p) (upd H p (.lst (xs++zs)))
theorem c08:OpR X (binaryOp .Add) rCat:=by
 intro pins s σ H x y v u Q I rx ry h
 obtain ⟨l,b,xs,zs,rfl,rfl,hH,hB,hz,q⟩:=h
 cases rx
 cases ry
 obtain ⟨z,its,n,r,hl,e⟩:=I.lstM hH
 obtain ⟨z2,its2,n2,r2,hl2,e2⟩:=I.lstM hB
 refine PySem.P.add_list e e2 ?_ (by rw [List.size_toArray,List.size_toArray]; omega)
 have ea:its.toArray++its2.toArray=(its++its2).toArray:=by simp
 rw [ea]
 exact ⟨.ref _,_,I.lnew (t':=s.toks) (r.append r2) (by rw [List.length_append]; omega),rfl,q _ I.fresh⟩
end
section
variable {prog:Program}{w:World}{A:Around}{E:Value→Shared→Prop}{s:Shared}
set_option maxRecDepth 100000 in
end
section
variable {X:Cx}
end
end L2
namespace Att
open PySem PySem.W PySem.Calls PyProof.Rows
theorem ak6 {P:Params}{h:Heap}:∀ (ns:List Int) (vs:List Value),WellAll P h vs (ns.map WData.int)→IntsAre vs ns:=by
 intro ns
 induction ns with
 | nil =>
   intro vs w
   rw [List.map_nil] at w
   cases w
   exact .nil
 | cons n ns ih =>
   intro vs w
   rw [List.map_cons] at w
   cases w with
   | cons a b =>
     cases a
     exact .cons _ _ (ih _ b)
theorem b94 {l:OpenLaw}{n:Nat}(hn:l.most=some n) {P:Params}{h:Heap}{args:List WData}{vals:List Value}
 (hpre:l.row.toRowW.claim.pre args=true) (hwl:WellAll P h vals args) :
 ∃ a vs ns,vals=[Value.ref a]∧args=[WData.list (ns.map WData.int)]∧h.get? a=some { cls:=.type "list",data:=.seq vs.toArray }∧IntsAre vs ns∧ns.length≤n:=by
 have hsh:WShape.hasAll [] args [.list .int]=true:=(pre_splitW hpre).1
 have hc:l.pre.holds [] { args:=args }=true:=(pre_splitW hpre).2
 obtain ⟨d,r,rfl,h1,h2⟩:=hasAllW_cons hsh
 obtain rfl:=hasAllW_nil h2
 obtain ⟨xs,rfl,h3⟩:=hasW_list h1
 obtain ⟨ns,rfl⟩:=items_int h3
 have hlen:ns.length≤n:=by
  unfold OpenLaw.pre at hc
  have h4:(WTm.not (.lt (.lit (.int (n:Int))) (.len (.arg 0)))).holds [] { args:=[.list (ns.map .int)] }=true:=by
   have h4:=(holds_andW hc).1
   rw [hn] at h4
   exact h4
  have h5:=condW_of h4 (w_not (w_lt w_lit (w_len_list (w_arg rfl))))
  rw [List.length_map] at h5
  refine Nat.le_of_not_lt fun q=>?_
  have q':(n:Int)<((ns.length:Nat):Int):=by omega
  first
   | (rw [decide_eq_true q'] at h5; exact absurd h5 (by decide))
   | (simp at h5; omega)
 cases hwl with
 | cons w1 w2 =>
   cases w2
   cases w1 with
   | list ho hall=>exact ⟨_,_,ns,rfl,rfl,ho,ak6 ns _ hall,hlen⟩
theorem b95 (l:OpenLaw) (args:List WData):l.row.toRowW.claim.post args (.bool true) args=true :=
 postW_of (r:=l.row.toRowW) (X:=(true == true))
  (show WShape.has [] (.bool true) .bool=true by first | rfl | decide | simp [WShape.has,WShape.arms,WShape.armsAll])
  (show (WTm.eq .res (.lit (.bool true))).value [] { args:=args,res:=some (.bool true),after:=args }=some (.bool (true == true)) from w_eq_bool (w_res rfl) w_lit) rfl
theorem attach_call {l:OpenLaw}{n:Nat}{q:Program}{loose:List Str}{XP:(Str→Option Value)→Heap→Prop}{YP:World→Heap→Prop}{d:DefRec}
 (hn:l.most=some n) (hdf:d.params.defaults=[])
 (call:∀ (w:World) (s₀ s₁:Shared) (mg mb:Str→Option Value) (fa:Addr) (o:Obj) (pm cd doc:Value) (a:Addr) (vs:List Value) (ns:List Int),
  Ground q loose [] XP w s₀ mg mb s₁.heap→YP w s₁.heap →
  s₁.heap.get? fa=some o→o.data=.func (docDef d.name d.params d.body d.scope pm cd doc)→s₁.heap.CodeRec cd d.name→mg d.name=some (.ref fa) →
  s₁.heap.get? a=some { cls:=.type "list",data:=.seq vs.toArray }→IntsAre vs ns→ns.length≤n→s₁.gens=#[] →
  codeAny (model l.prog w) callerA (.call (.ref fa) ⟨[.ref a],[]⟩) (fun r s'=>r=.ok (.ret (.bool true))∧OldK s₁.heap s'.heap∧s'.os=s₁.os∧AllBare s'.gens) s₁) :
 WalkO q loose XP YP l.row.toRowW d [] (fun f vs=>PySem.call f vs):=by
 intro w s₀ s₁ mg mb G Y fa o pm cd doc dV kV ho hd hcd hD hmg hg args vals as hpre hlay hrd hwl hlo
 obtain rfl:dV=.none:=Dflts.none hD hdf
 obtain rfl:kV=.none:=Dflts.noKw hD
 obtain ⟨a,vs,ns,rfl,rfl,hobj,hints,hlen⟩:=b94 hn hpre hwl
 refine enter_call (codeAny_mono (call w s₀ s₁ mg mb fa o pm cd doc a vs ns G Y ho (fd_plain hd) hcd hmg hobj hints hlen hg) fun r s' hq=>?_)
 obtain ⟨rfl,h2,h3,h4⟩:=hq
 exact ⟨.inl ⟨.bool true,.bool true,[],rfl,fun _=>rfl,.bool true,b95 l _,fun _=>⟨List.Pairwise.nil,fun _ hm=>(nomatch hm)⟩⟩,h2,h3,h4⟩
section
variable {prog:Program}{w:World}{A:Around}{E:Value→Shared→Prop}{s:Shared}{K:Frag}
end
end Att
namespace L2
open PySem PySem.Spec PyProof.Rows
theorem as4:∀ {vs:List Value}{ns:List Int},IntsAre vs ns→Vals (ns.map V.int) vs
 | _,_,.nil=>.nil
 | _,_,.cons n t h=>.cons ⟨t,rfl⟩ (as4 h)
def Only (H:Hp):Prop:=∀ b,H b=none∨∃ o xs,H b=some (.frz o (.lst xs))
theorem bi2 {P:Program}{w:World}{K:PySem.W.Frag}{mg mb:Str→Option Value}{CX:CXT}{k:Nat}{fa a:Addr}{fd:FuncData}{x:Str}{sp:Sp}{s₁:Shared}{vs:List Value}{ns:List Int}
 (KX:K.In s₁.heap) (hns:s₁.heap.Ns mainGlobals mg) (hb:s₁.heap.Ns builtinsNs mb) (hbb:∀ x:Str,x≠"__name__"→mb x=bootBuiltins x) (hlim:s₁.heap.NoLimit) (hg:s₁.gens=#[])
 (ha:s₁.heap.get? a=some { cls:=.type "list",data:=.seq vs.toArray }) (hi:IntsAre vs ns) (hl:ns.length≤sizeLine) (hr:Room k callerA)
 (F:∀ base:Heap,K.In base→base.Ns mainGlobals mg→FnOk P w K mg base CX k fa fd [x] sp) (hbind:∀ (s:Shared) (u:Value),BindsTo s fd ⟨[u],[]⟩ [(x,u)])
 (hsp:∀ H:Hp,Only H→SqL K H a (ns.map V.int)→sp [.ref a] H (fun v _=>v=.bl true) fun _ _ _=>False)
 (hCX:∀ H e s',CX [] H s₁ (fun _ _ _=>False) e s'→False) :
 codeAny (model P w) callerA (.call (.ref fa) ⟨[.ref a],[]⟩) (fun r s'=>r=.ok (.ret (.bool true))∧OldK s₁.heap s'.heap∧s'.os=s₁.os∧AllBare s'.gens) s₁:=by
 have rv:=as4 hi
 have lenV:=hi.length
 have core:∀ H:Hp,Only H→SqL K H a (ns.map V.int)→HOk P w H s₁.heap→(∀ b,H b≠none→b=a)→(H a≠none→K.lookup a=none) →
  codeAny (model P w) callerA (.call (.ref fa) ⟨[.ref a],[]⟩) (fun r s'=>r=.ok (.ret (.bool true))∧OldK s₁.heap s'.heap∧s'.os=s₁.os∧AllBare s'.gens) s₁:=by
  intro H hO hS hok hA hK
  have base_of:∀ {b:Addr}{o:Obj},s₁.heap.get? b=some o→H b=none→(hidT s₁.heap H).get? b=some o:=fun e n=>bh1 e n
  have noA:∀ {b:Addr}{o:Obj}{es:Array DictEntry}{ep:Nat},s₁.heap.get? b=some o→o.data=.dict es ep→H b=none:=fun {b o es ep} e d=>by
   cases q:H b with
   | none=>rfl
   | some u =>
     have e':b=a:=hA b (by rw [q]; simp)
     subst e'
     rw [ha] at e; cases e
     have d':Data.seq vs.toArray _=Data.dict es ep:=d
     cases d'
  have nsK:∀ {b:Addr}{m:Str→Option Value},s₁.heap.Ns b m→(hidT s₁.heap H).Ns b m:=fun {b m} ⟨o,es,ep,e,d,r⟩=>⟨o,es,ep,base_of e (noA e d),d,r⟩
  have hKb:K.In (hidT s₁.heap H):=fun b o e=>base_of (KX b o e) (by
   cases q:H b with
   | none=>rfl
   | some u =>
     have e':b=a:=hA b (by rw [q]; simp)
     subst e'
     rw [hK (by rw [q]; simp)] at e; cases e)
  have hM:Mod K mg (hidT s₁.heap H):=⟨hKb,nsK hns,⟨mb,nsK hb,hbb⟩,let ⟨mc,h1,h2⟩:=hlim; ⟨mc,nsK h1,h2⟩⟩
  have e0:Env0 P w K mg (hidT s₁.heap H) callerA [] s₁ H:=⟨rfl,hM,fun b o e=>br4 e,Nat.le_of_eq (b80 _ _),trivial,fun b hb=>absurd (show b∈([]:List Addr) from hb) (by simp),hok,.of_eq hg⟩
  refine codeAny_mono ((F _ hKb (nsK hns)).run callerA [] s₁ H ⟨[.ref a],[]⟩ [.ref a] [.ref a] _ _ hr e0 (hbind s₁ (.ref a)) (.cons rfl .nil) (hsp H hO hS)) fun r s' h=>?_
  cases r with
  | error e=>exact (hCX H e s' h).elim
  | ok fl =>
    cases fl with
    | next=>exact False.elim h
    | brk=>exact False.elim h
    | cont=>exact False.elim h
    | ret u =>
      obtain ⟨v,H',os,bare,un,hok',r',q⟩:=h
      have q':v=.bl true:=q
      subst q'
      obtain rfl:u=Value.bool true:=r'
      refine ⟨rfl,OldK.of_keep fun b o e=>?_,os,bare⟩
      cases q:H b with
      | none=>exact un.keep b o e q (by intro z; exact absurd (show b∈([]:List Addr) from z) (by simp)) (by simp)
      | some u =>
        rcases hO b with z | ⟨ob,xs,z⟩
        · rw [q] at z; cases z
        · have z2:=un.frzs b ob _ z
          obtain ⟨e1,_⟩:=hok b _ z
          obtain ⟨e2,_⟩:=hok' b _ z2
          rw [e] at e1; cases e1
          exact e2
 cases hk:K.lookup a with
 | some o =>
   have e:=KX a o hk
   rw [ha] at e
   cases e
   refine core (fun _=>none) (fun _=>.inl rfl) (.inr ⟨_,vs.toArray,_,hk,rfl,rfl,rfl,by rw [List.size_toArray,lenV]; exact hl,by simpa using rv⟩) (fun b u z=>by have z':(none:Option HO)=some u:=z; cases z') (fun b z=>absurd rfl z) fun z=>absurd rfl z
 | none =>
   refine core (fun b=>if b=a then some (.frz { cls:=.type "list",data:=.seq vs.toArray } (.lst (ns.map V.int))) else none) (fun b=>?_) (.inl (.inr ⟨{ cls:=.type "list",data:=.seq vs.toArray },if_pos rfl⟩)) (fun b u z=>?_) (fun b z=>?_) fun _=>hk
   · by_cases hb:b=a
     · exact .inr ⟨_,_,if_pos hb⟩
     · exact .inl (if_neg hb)
   · by_cases hb:b=a
     · have z':=(if_pos hb).symm.trans z
       cases z'
       subst hb
       exact ⟨ha,by rw [List.length_map]; exact hl,vs,_,rv,ha⟩
     · have z':=(if_neg hb).symm.trans z
       cases z'
   · by_cases hb:b=a
     · exact hb
     · exact absurd (if_neg hb) z
theorem walk_of {l:PySem.W.OpenLaw}{n k:Nat}{q:Program}{loose:List Str}{XP:(Str→Option Value)→Heap→Prop}{YP:World→Heap→Prop}{d:DefRec}{K:Params→PySem.W.Frag}{CX:World→CXT}{sp:World→Sp}{x:Str}
 (hn:l.most=some n) (hn2:n≤sizeLine) (hdf:d.params.defaults=[]) (hr:Room k callerA)
 (hY:∀ (w:World) (h:Heap),YP w h→(K w.params).In h)
 (F:∀ (w:World) (mg:Str→Option Value) (fa:Addr) (h:Heap),(K w.params).In h→h.Ns mainGlobals mg→mg d.name=some (.ref fa) →
  ∃ fd:FuncData,(∀ (s:Shared) (u:Value),BindsTo s fd ⟨[u],[]⟩ [(x,u)]) ∧
   ∀ base:Heap,(K w.params).In base→base.Ns mainGlobals mg→FnOk l.prog w (K w.params) mg base (CX w) k fa fd [x] (sp w))
 (hsp:∀ (w:World) (H:Hp) (a:Addr) (ns:List Int),ns.length≤n→Only H→SqL (K w.params) H a (ns.map V.int)→sp w [.ref a] H (fun v _=>v=.bl true) fun _ _ _=>False)
 (hCX:∀ (w:World) (H:Hp) (s:Shared) (e:Value) (s':Shared),CX w [] H s (fun _ _ _=>False) e s'→False) :
 PySem.W.WalkO q loose XP YP l.row.toRowW d [] (fun f vs=>PySem.call f vs):=by
 refine Att.attach_call hn hdf fun w s₀ s₁ mg mb fa o pm cd doc a vs ns G Y ho hd hcd hmg hobj hints hlen hg=>?_
 have KX:=hY w _ Y
 obtain ⟨fd,hb,hF⟩:=F w mg fa _ KX G.T.g hmg
 exact bi2 KX G.T.g G.T.b G.T.builtins G.T.nolimit hg hobj hints (Nat.le_trans hlen hn2) hr hF hb (fun H hO hS=>hsp w H a ns hlen hO hS) fun H e s'=>hCX w H s₁ e s'
def inClass (s:Stmt) (j:Nat):Stmt:=match s with
 | .ClassDef _ _ _ body _ _ _ _ _ _ _=>body.getD j (.Pass ⟨0,0,0,0⟩)
 | _=>.Pass ⟨0,0,0,0⟩
def defArgs (s:Stmt):Arguments:=match s with
 | .FunctionDef _ a _ _ _ _ _ _ _ _=>a
 | _=>{ posonlyargs:=[],args:=[],vararg:=none,kwonlyargs:=[],kw_defaults:=[],kwarg:=none,defaults:=[] }
def defBody (s:Stmt):List Stmt:=match s with
 | .FunctionDef _ _ b _ _ _ _ _ _ _=>b
 | _=>[]
def defScope (s:Stmt):Scope:=match s with
 | .FunctionDef _ _ _ _ _ _ sc _ _ _=>sc
 | _=>{ kind:=.function,names:=[],isGenerator:=false,isCoroutine:=false }
abbrev CX0:CXT:=fun _ _ _ _ _ _=>False
abbrev E0:XK:=fun _ _ _=>False
theorem a52 {X:Cx}:Passes CX0 X E0:=fun _ _ _ _ _ _ _ h=>h.elim
structure Fun (K:PySem.W.Frag) (x qual:Str) (st:Stmt) (f:Addr) (fd:FuncData):Prop where
 ex:∃ (oc:Value) (od:Option Addr) (kV doc pm:Value) (an:Option Addr) (cdv ct:Value) (osl:Array (Option Value)),
  fd=PySem.W.fnOf x qual (defArgs st) (defBody st) (defScope st) .none kV doc pm an cdv ct∧K.lookup f=some ⟨oc,od,.func fd,osl⟩∧PySem.W.codeIn K cdv qual=true
 kp:PySem.W.keepIn K (.ref f)=true
section
variable {P:Program}{w:World}{K:PySem.W.Frag}{mg:Str→Option Value}{base:Heap}
theorem Fun.ok {x qual:Str}{st:Stmt}{f:Addr}{fd:FuncData}{N ps:List Str}{k:Nat}{sp:Sp}(F:Fun K x qual st f fd) (S:FnScope N ps (defScope st)) (len:∀ vs H Q E,sp vs H Q E→vs.length=ps.length)
 (hbody:∀ (cdv:Value) (A:Around) (outer:List Env) (s:Shared) (H:Hp) (vs:List V) (Q:VK) (E:XK),Room k (A.deeper (envOfC qual (defScope st) s.heap.objs.size f cdv))→sp vs H Q E →
  ∃ t,PSs (cxOf CX0 P w K mg base N qual (defScope st) f cdv A outer s H E).nox (defBody st) t∧t { nx:=fun _ H'=>Q .non H',rt:=Q } (start N vs) H):FnOk P w K mg base CX0 (k+1) f fd ps sp:=by
 obtain ⟨oc,od,kV,doc,pm,an,cdv,ct,osl,rfl,lk,hcd⟩:=F.ex
 refine ca0 lk hcd S len fun A outer s H vs Q E hr hsp=>?_
 obtain ⟨t,h,q⟩:=hbody cdv A outer s H vs Q E hr hsp
 exact ⟨t,h.nox,q⟩
theorem Fun.binds {x qual:Str}{st:Stmt}{f:Addr}{fd:FuncData}{ps:List Str}(F:Fun K x qual st f fd)
 (h:∀ (kV doc pm:Value) (an:Option Addr) (cdv ct:Value) (us:List Value),us.length=ps.length→bindArgs (PySem.W.fnOf x qual (defArgs st) (defBody st) (defScope st) .none kV doc pm an cdv ct) ⟨us,[]⟩=pure (ps.zip us)):Binds K fd ps []:=by
 obtain ⟨oc,od,kV,doc,pm,an,cdv,ct,osl,rfl,lk,hcd⟩:=F.ex
 exact .all (h kV doc pm an cdv ct)
theorem a61 {x qual:Str}{st:Stmt}{f:Addr}{oc:Value}{od an:Option Addr}{osl:Array (Option Value)}{kV doc pm cdv ct:Value}(l:K.lookup f=some ⟨oc,od,.func (PySem.W.fnOf x qual (defArgs st) (defBody st) (defScope st) .none kV doc pm an cdv ct),osl⟩)
 (c:PySem.W.codeIn K cdv qual=true) (k:PySem.W.keepIn K (.ref f)=true):Fun K x qual st f (PySem.W.fnOf x qual (defArgs st) (defBody st) (defScope st) .none kV doc pm an cdv ct):=⟨⟨oc,od,kV,doc,pm,an,cdv,ct,osl,rfl,l,c⟩,k⟩
end
theorem small1000 {n:Nat}(h:n≤1000):n<sizeLine:=Nat.lt_of_le_of_lt h (by decide)
section
variable {X:Cx}
theorem pv (i:Nat) {x:Str}{pos:Pos}(hN:X.N[i]?=some x:=by rfl) (hv:Vis X.env.scope x:=by first | exact Or.inl rfl | exact Or.inr (Or.inl rfl) | exact Or.inr (Or.inr rfl)) (hd:(x == ("__debug__":Str))=false:=by decide)
 (hcd:(x == ("__classdict__":Str))=false:=by decide):PE X (.Name x pos) (tVar i):=by7 hN hv hd hcd
end
theorem iteF {A B:Prop}(h:B):if false=true then A else B:=by
 rw [if_neg Bool.false_ne_true]
 exact h
theorem iteT {A B:Prop}(h:A):if true=true then A else B:=by
 rw [if_pos rfl]
 exact h
theorem ite2 {c A B:Prop} [Decidable c] (h1:c→A) (h2:¬ c→B):if c then A else B:=by
 by_cases h:c
 · rw [if_pos h]
   exact h1 h
 · rw [if_neg h]
   exact h2 h
def Same (H H':Hp):Prop:=∀ b o,H b=some o→H' b=some o
theorem Same.refl (H:Hp):Same H H:=fun _ _ h=>h
theorem Same.trans {H H1 H2:Hp}(a:Same H H1) (b:Same H1 H2):Same H H2:=fun c o h=>b c o (a c o h)
theorem Same.free {H H':Hp}(e:Same H H') {l:Addr}(h:H' l=Option.none):H l=Option.none:=by
 cases q:H l with
 | none=>rfl
 | some o =>
   rw [e l o q] at h
   cases h
theorem Same.seq {K:PySem.W.Frag}{H H':Hp}{a:Addr}{xs:List V}(e:Same H H') (h:SqL K H a xs):SqL K H' a xs:=by
 rcases h with (h | ⟨o,h⟩) | h
 · exact .inl (.inl (e _ _ h))
 · exact .inl (.inr ⟨o,e _ _ h⟩)
 · exact .inr h
end L2
namespace K86
open PySem L2
def top (i:Nat):Stmt:=PySem.Challenge.pw_callmill_k86_whole_halls_of_other_machin.main.body.getD i (.Pass ⟨0,0,0,0⟩)
def view:Program:={ PySem.Challenge.pw_callmill_k86_whole_halls_of_other_machin with main:={ PySem.Challenge.pw_callmill_k86_whole_halls_of_other_machin.main with body:=[top 0,top 2,top 3,top 5,top 6,top 7,top 8,top 9,top 11,top 13,top 14,top 15,top 16,top 17,top 18,top 19,top 20,top 21,top 22,top 23,top 24,top 26,top 27,top 28,top 29,top 31,top 33,top 34,top 35,top 36,top 37,top 38] } }
abbrev a54:Stmt:=inClass (top 6) 0
abbrev a66:Stmt:=inClass (top 6) 1
abbrev a84:Stmt:=inClass (top 6) 2
abbrev ab8:Stmt:=top 7
abbrev a73:Stmt:=top 8
abbrev a51:Stmt:=top 9
abbrev aa5:Stmt:=top 11
abbrev ae8:Stmt:=top 14
abbrev a67:Stmt:=top 15
abbrev a88:Stmt:=top 16
abbrev a93:Stmt:=top 17
abbrev ad5:Stmt:=top 18
abbrev a63:Stmt:=top 19
abbrev a58:Stmt:=top 20
abbrev a59:Stmt:=top 21
abbrev a89:Stmt:=top 22
abbrev a94:Stmt:=top 23
abbrev a75:Stmt:=top 24
abbrev a76:Stmt:=top 26
abbrev a85:Stmt:=top 27
abbrev a95:Stmt:=top 28
abbrev a35:Stmt:=inClass (top 29) 0
abbrev a41:Stmt:=inClass (top 29) 1
abbrev a43:Stmt:=inClass (top 29) 2
abbrev a37:Stmt:=inClass (top 31) 0
abbrev a44:Stmt:=inClass (top 31) 1
abbrev a48:Stmt:=inClass (top 31) 2
abbrev a39:Stmt:=inClass (top 31) 5
abbrev a96:Stmt:=top 33
abbrev a97:Stmt:=top 34
abbrev a98:Stmt:=top 35
abbrev a56:Stmt:=top 36
abbrev a86:Stmt:=top 37
abbrev ak7:Stmt:=top 38
def am5 (K:PySem.W.Frag):Sp:=fun vs H Q _=>∃ (a:Addr) (ns:List Int),vs=[.ref a]∧SqL K H a (ns.map V.int)∧ns.length≤63∧∀ H',Q (.bl true) H'
theorem walk {l:PySem.W.OpenLaw}{q:Program}{loose:List Str}{XP:(Str→Option Value)→Heap→Prop}{YP:World→Heap→Prop}{d:DefRec}{K:Params→PySem.W.Frag}(hn:l.most=some 63) (hdf:d.params.defaults=[])
 (hY:∀ (w:World) (h:Heap),YP w h→(K w.params).In h)
 (F:∀ (w:World) (mg:Str→Option Value) (fa:Addr) (h:Heap),(K w.params).In h→h.Ns mainGlobals mg→mg d.name=some (.ref fa) →
  ∃ fd:FuncData,(∀ (s:Shared) (u:Value),BindsTo s fd ⟨[u],[]⟩ [("script",u)])∧∀ base:Heap,(K w.params).In base→base.Ns mainGlobals mg→FnOk l.prog w (K w.params) mg base CX0 6 fa fd ["script"] (am5 (K w.params))) :
 PySem.W.WalkO q loose XP YP l.row.toRowW d [] (fun f vs=>PySem.call f vs) :=
 L2.walk_of (n:=63) (k:=6) (x:="script") (CX:=fun _=>CX0) (sp:=fun w=>am5 (K w.params)) hn (by decide) hdf ⟨rfl,by decide,by decide⟩ hY F (fun _ _ a ns hl _ hS=>⟨a,ns,rfl,hS,hl,fun _=>rfl⟩) fun _ _ _ _ _ z=>z
def HF (P:Params) (K:PySem.W.Frag):Prop:=∀ R:Prop,(∀
 {C_Machine:Addr}(aC_Machine:PySem.W.nsIn K mainGlobals "Machine"=some (some (.ref C_Machine)))
 {C_Hall:Addr}(aC_Hall:PySem.W.nsIn K mainGlobals "Hall"=some (some (.ref C_Hall)))
 (pg_Hall:PySem.W.plainGet K C_Hall Str.empty=true) (hd_Hall:PySem.W.hasDictIn K C_Hall=true) (po_Hall:PySem.W.plainOver K C_Hall=true) (sa_Hall:PySem.W.findIn K (.ref C_Hall) "__setattr__"=some (some (.builtin "object.__setattr__"))) (mk_Hall:PySem.W.makesIn K C_Hall=true) (kc_Hall:PySem.W.keepIn K (.ref C_Hall)=true)
 (nF_Hall_lines:PySem.W.findIn K (.ref C_Hall) "lines"=some none)
 (nF_Hall_machines:PySem.W.findIn K (.ref C_Hall) "machines"=some none)
 {C_TableMachine:Addr}(aC_TableMachine:PySem.W.nsIn K mainGlobals "TableMachine"=some (some (.ref C_TableMachine)))
 (pg_TableMachine:PySem.W.plainGet K C_TableMachine Str.empty=true) (hd_TableMachine:PySem.W.hasDictIn K C_TableMachine=true) (po_TableMachine:PySem.W.plainOver K C_TableMachine=true) (sa_TableMachine:PySem.W.findIn K (.ref C_TableMachine) "__setattr__"=some (some (.builtin "object.__setattr__"))) (mk_TableMachine:PySem.W.makesIn K C_TableMachine=true) (kc_TableMachine:PySem.W.keepIn K (.ref C_TableMachine)=true)
 (nF_TableMachine_places:PySem.W.findIn K (.ref C_TableMachine) "places"=some none)
 (nF_TableMachine_rooms:PySem.W.findIn K (.ref C_TableMachine) "rooms"=some none)
 (nF_TableMachine_saying:PySem.W.findIn K (.ref C_TableMachine) "saying"=some none)
 {C_PackMachine:Addr}(aC_PackMachine:PySem.W.nsIn K mainGlobals "PackMachine"=some (some (.ref C_PackMachine)))
 (pg_PackMachine:PySem.W.plainGet K C_PackMachine Str.empty=true) (hd_PackMachine:PySem.W.hasDictIn K C_PackMachine=true) (po_PackMachine:PySem.W.plainOver K C_PackMachine=true) (sa_PackMachine:PySem.W.findIn K (.ref C_PackMachine) "__setattr__"=some (some (.builtin "object.__setattr__"))) (mk_PackMachine:PySem.W.makesIn K C_PackMachine=true) (kc_PackMachine:PySem.W.keepIn K (.ref C_PackMachine)=true)
 (nF_PackMachine_cells:PySem.W.findIn K (.ref C_PackMachine) "cells"=some none)
 (nF_PackMachine_places:PySem.W.findIn K (.ref C_PackMachine) "places"=some none)
 (nF_PackMachine_sayings:PySem.W.findIn K (.ref C_PackMachine) "sayings"=some none)
 (nF_PackMachine_shapes:PySem.W.findIn K (.ref C_PackMachine) "shapes"=some none)
 (nF_PackMachine_texts:PySem.W.findIn K (.ref C_PackMachine) "texts"=some none)
 {f0:Addr}{od0 an0:Option Addr}{sl0:Array (Option Value)}{oc0 kV0 dc0 pm0 cd0 ct0:Value}
 {f1:Addr}{od1 an1:Option Addr}{sl1:Array (Option Value)}{oc1 kV1 dc1 pm1 cd1 ct1:Value}
 {f2:Addr}{od2 an2:Option Addr}{sl2:Array (Option Value)}{oc2 kV2 dc2 pm2 cd2 ct2:Value}
 {f3:Addr}{od3 an3:Option Addr}{sl3:Array (Option Value)}{oc3 kV3 dc3 pm3 cd3 ct3:Value}
 {f4:Addr}{od4 an4:Option Addr}{sl4:Array (Option Value)}{oc4 kV4 dc4 pm4 cd4 ct4:Value}
 {f5:Addr}{od5 an5:Option Addr}{sl5:Array (Option Value)}{oc5 kV5 dc5 pm5 cd5 ct5:Value}
 {f6:Addr}{od6 an6:Option Addr}{sl6:Array (Option Value)}{oc6 kV6 dc6 pm6 cd6 ct6:Value}
 {f7:Addr}{od7 an7:Option Addr}{sl7:Array (Option Value)}{oc7 kV7 dc7 pm7 cd7 ct7:Value}
 {f8:Addr}{od8 an8:Option Addr}{sl8:Array (Option Value)}{oc8 kV8 dc8 pm8 cd8 ct8:Value}
 {f9:Addr}{od9 an9:Option Addr}{sl9:Array (Option Value)}{oc9 kV9 dc9 pm9 cd9 ct9:Value}
 {f10:Addr}{od10 an10:Option Addr}{sl10:Array (Option Value)}{oc10 kV10 dc10 pm10 cd10 ct10:Value}
 {f11:Addr}{od11 an11:Option Addr}{sl11:Array (Option Value)}{oc11 kV11 dc11 pm11 cd11 ct11:Value}
 {f12:Addr}{od12 an12:Option Addr}{sl12:Array (Option Value)}{oc12 kV12 dc12 pm12 cd12 ct12:Value}
 {f13:Addr}{od13 an13:Option Addr}{sl13:Array (Option Value)}{oc13 kV13 dc13 pm13 cd13 ct13:Value}
 {f14:Addr}{od14 an14:Option Addr}{sl14:Array (Option Value)}{oc14 kV14 dc14 pm14 cd14 ct14:Value}
 {f15:Addr}{od15 an15:Option Addr}{sl15:Array (Option Value)}{oc15 kV15 dc15 pm15 cd15 ct15:Value}
 {f16:Addr}{od16 an16:Option Addr}{sl16:Array (Option Value)}{oc16 kV16 dc16 pm16 cd16 ct16:Value}
 {f17:Addr}{od17 an17:Option Addr}{sl17:Array (Option Value)}{oc17 kV17 dc17 pm17 cd17 ct17:Value}
 {f18:Addr}{od18 an18:Option Addr}{sl18:Array (Option Value)}{oc18 kV18 dc18 pm18 cd18 ct18:Value}
 {f19:Addr}{od19 an19:Option Addr}{sl19:Array (Option Value)}{oc19 kV19 dc19 pm19 cd19 ct19:Value}
 {f20:Addr}{od20 an20:Option Addr}{sl20:Array (Option Value)}{oc20 kV20 dc20 pm20 cd20 ct20:Value}
 {f21:Addr}{od21 an21:Option Addr}{sl21:Array (Option Value)}{oc21 kV21 dc21 pm21 cd21 ct21:Value}
 {f22:Addr}{od22 an22:Option Addr}{sl22:Array (Option Value)}{oc22 kV22 dc22 pm22 cd22 ct22:Value}
 {f23:Addr}{od23 an23:Option Addr}{sl23:Array (Option Value)}{oc23 kV23 dc23 pm23 cd23 ct23:Value}
 {f24:Addr}{od24 an24:Option Addr}{sl24:Array (Option Value)}{oc24 kV24 dc24 pm24 cd24 ct24:Value}
 {f25:Addr}{od25 an25:Option Addr}{sl25:Array (Option Value)}{oc25 kV25 dc25 pm25 cd25 ct25:Value}
 {f26:Addr}{od26 an26:Option Addr}{sl26:Array (Option Value)}{oc26 kV26 dc26 pm26 cd26 ct26:Value}
 {f27:Addr}{od27 an27:Option Addr}{sl27:Array (Option Value)}{oc27 kV27 dc27 pm27 cd27 ct27:Value}
 {f28:Addr}{od28 an28:Option Addr}{sl28:Array (Option Value)}{oc28 kV28 dc28 pm28 cd28 ct28:Value}
 {f29:Addr}{od29 an29:Option Addr}{sl29:Array (Option Value)}{oc29 kV29 dc29 pm29 cd29 ct29:Value}
 {f30:Addr}{od30 an30:Option Addr}{sl30:Array (Option Value)}{oc30 kV30 dc30 pm30 cd30 ct30:Value}
 {f31:Addr}{od31 an31:Option Addr}{sl31:Array (Option Value)}{oc31 kV31 dc31 pm31 cd31 ct31:Value}
 {f32:Addr}{od32 an32:Option Addr}{sl32:Array (Option Value)}{oc32 kV32 dc32 pm32 cd32 ct32:Value}
 {f33:Addr}{od33 an33:Option Addr}{sl33:Array (Option Value)}{oc33 kV33 dc33 pm33 cd33 ct33:Value}
 (a0:PySem.W.findIn K (.ref C_Hall) "__init__"=some (some (.ref f0))) (i0:PySem.W.isFn K (.ref f0)=true) (l0:K.lookup f0=some ⟨oc0,od0,.func (PySem.W.fnOf "__init__" "Hall.__init__" (defArgs a54) (defBody a54) (defScope a54) .none kV0 dc0 pm0 an0 cd0 ct0),sl0⟩) (c0:PySem.W.codeIn K cd0 "Hall.__init__"=true) (k0:PySem.W.keepIn K (.ref f0)=true)
 (a1:PySem.W.findIn K (.ref C_Hall) "begin"=some (some (.ref f1))) (i1:PySem.W.isFn K (.ref f1)=true) (l1:K.lookup f1=some ⟨oc1,od1,.func (PySem.W.fnOf "begin" "Hall.begin" (defArgs a66) (defBody a66) (defScope a66) .none kV1 dc1 pm1 an1 cd1 ct1),sl1⟩) (c1:PySem.W.codeIn K cd1 "Hall.begin"=true) (k1:PySem.W.keepIn K (.ref f1)=true)
 (a2:PySem.W.findIn K (.ref C_Hall) "step"=some (some (.ref f2))) (i2:PySem.W.isFn K (.ref f2)=true) (l2:K.lookup f2=some ⟨oc2,od2,.func (PySem.W.fnOf "step" "Hall.step" (defArgs a84) (defBody a84) (defScope a84) .none kV2 dc2 pm2 an2 cd2 ct2),sl2⟩) (c2:PySem.W.codeIn K cd2 "Hall.step"=true) (k2:PySem.W.keepIn K (.ref f2)=true)
 (a3:PySem.W.nsIn K mainGlobals "copied"=some (some (.ref f3))) (l3:K.lookup f3=some ⟨oc3,od3,.func (PySem.W.fnOf "copied" "copied" (defArgs ab8) (defBody ab8) (defScope ab8) .none kV3 dc3 pm3 an3 cd3 ct3),sl3⟩) (c3:PySem.W.codeIn K cd3 "copied"=true) (k3:PySem.W.keepIn K (.ref f3)=true)
 (a4:PySem.W.nsIn K mainGlobals "put_behind"=some (some (.ref f4))) (l4:K.lookup f4=some ⟨oc4,od4,.func (PySem.W.fnOf "put_behind" "put_behind" (defArgs a73) (defBody a73) (defScope a73) .none kV4 dc4 pm4 an4 cd4 ct4),sl4⟩) (c4:PySem.W.codeIn K cd4 "put_behind"=true) (k4:PySem.W.keepIn K (.ref f4)=true)
 (a5:PySem.W.nsIn K mainGlobals "settled_turn"=some (some (.ref f5))) (l5:K.lookup f5=some ⟨oc5,od5,.func (PySem.W.fnOf "settled_turn" "settled_turn" (defArgs a51) (defBody a51) (defScope a51) .none kV5 dc5 pm5 an5 cd5 ct5),sl5⟩) (c5:PySem.W.codeIn K cd5 "settled_turn"=true) (k5:PySem.W.keepIn K (.ref f5)=true)
 (a6:PySem.W.nsIn K mainGlobals "counted"=some (some (.ref f6))) (l6:K.lookup f6=some ⟨oc6,od6,.func (PySem.W.fnOf "counted" "counted" (defArgs aa5) (defBody aa5) (defScope aa5) .none kV6 dc6 pm6 an6 cd6 ct6),sl6⟩) (c6:PySem.W.codeIn K cd6 "counted"=true) (k6:PySem.W.keepIn K (.ref f6)=true)
 (a7:PySem.W.nsIn K mainGlobals "pack"=some (some (.ref f7))) (l7:K.lookup f7=some ⟨oc7,od7,.func (PySem.W.fnOf "pack" "pack" (defArgs ae8) (defBody ae8) (defScope ae8) .none kV7 dc7 pm7 an7 cd7 ct7),sl7⟩) (c7:PySem.W.codeIn K cd7 "pack"=true) (k7:PySem.W.keepIn K (.ref f7)=true)
 (a8:PySem.W.nsIn K mainGlobals "sayings_of"=some (some (.ref f8))) (l8:K.lookup f8=some ⟨oc8,od8,.func (PySem.W.fnOf "sayings_of" "sayings_of" (defArgs a67) (defBody a67) (defScope a67) .none kV8 dc8 pm8 an8 cd8 ct8),sl8⟩) (c8:PySem.W.codeIn K cd8 "sayings_of"=true) (k8:PySem.W.keepIn K (.ref f8)=true)
 (a9:PySem.W.nsIn K mainGlobals "pairs_of"=some (some (.ref f9))) (l9:K.lookup f9=some ⟨oc9,od9,.func (PySem.W.fnOf "pairs_of" "pairs_of" (defArgs a88) (defBody a88) (defScope a88) .none kV9 dc9 pm9 an9 cd9 ct9),sl9⟩) (c9:PySem.W.codeIn K cd9 "pairs_of"=true) (k9:PySem.W.keepIn K (.ref f9)=true)
 (a10:PySem.W.nsIn K mainGlobals "texts_in"=some (some (.ref f10))) (l10:K.lookup f10=some ⟨oc10,od10,.func (PySem.W.fnOf "texts_in" "texts_in" (defArgs a93) (defBody a93) (defScope a93) .none kV10 dc10 pm10 an10 cd10 ct10),sl10⟩) (c10:PySem.W.codeIn K cd10 "texts_in"=true) (k10:PySem.W.keepIn K (.ref f10)=true)
 (a11:PySem.W.nsIn K mainGlobals "block"=some (some (.ref f11))) (l11:K.lookup f11=some ⟨oc11,od11,.func (PySem.W.fnOf "block" "block" (defArgs ad5) (defBody ad5) (defScope ad5) .none kV11 dc11 pm11 an11 cd11 ct11),sl11⟩) (c11:PySem.W.codeIn K cd11 "block"=true) (k11:PySem.W.keepIn K (.ref f11)=true)
 (a12:PySem.W.nsIn K mainGlobals "shape_cells"=some (some (.ref f12))) (l12:K.lookup f12=some ⟨oc12,od12,.func (PySem.W.fnOf "shape_cells" "shape_cells" (defArgs a63) (defBody a63) (defScope a63) .none kV12 dc12 pm12 an12 cd12 ct12),sl12⟩) (c12:PySem.W.codeIn K cd12 "shape_cells"=true) (k12:PySem.W.keepIn K (.ref f12)=true)
 (a13:PySem.W.nsIn K mainGlobals "common_pair"=some (some (.ref f13))) (l13:K.lookup f13=some ⟨oc13,od13,.func (PySem.W.fnOf "common_pair" "common_pair" (defArgs a58) (defBody a58) (defScope a58) .none kV13 dc13 pm13 an13 cd13 ct13),sl13⟩) (c13:PySem.W.codeIn K cd13 "common_pair"=true) (k13:PySem.W.keepIn K (.ref f13)=true)
 (a14:PySem.W.nsIn K mainGlobals "block_places"=some (some (.ref f14))) (l14:K.lookup f14=some ⟨oc14,od14,.func (PySem.W.fnOf "block_places" "block_places" (defArgs a59) (defBody a59) (defScope a59) .none kV14 dc14 pm14 an14 cd14 ct14),sl14⟩) (c14:PySem.W.codeIn K cd14 "block_places"=true) (k14:PySem.W.keepIn K (.ref f14)=true)
 (a15:PySem.W.nsIn K mainGlobals "texts_at"=some (some (.ref f15))) (l15:K.lookup f15=some ⟨oc15,od15,.func (PySem.W.fnOf "texts_at" "texts_at" (defArgs a89) (defBody a89) (defScope a89) .none kV15 dc15 pm15 an15 cd15 ct15),sl15⟩) (c15:PySem.W.codeIn K cd15 "texts_at"=true) (k15:PySem.W.keepIn K (.ref f15)=true)
 (a16:PySem.W.nsIn K mainGlobals "cells_in"=some (some (.ref f16))) (l16:K.lookup f16=some ⟨oc16,od16,.func (PySem.W.fnOf "cells_in" "cells_in" (defArgs a94) (defBody a94) (defScope a94) .none kV16 dc16 pm16 an16 cd16 ct16),sl16⟩) (c16:PySem.W.codeIn K cd16 "cells_in"=true) (k16:PySem.W.keepIn K (.ref f16)=true)
 (a17:PySem.W.nsIn K mainGlobals "others_in"=some (some (.ref f17))) (l17:K.lookup f17=some ⟨oc17,od17,.func (PySem.W.fnOf "others_in" "others_in" (defArgs a75) (defBody a75) (defScope a75) .none kV17 dc17 pm17 an17 cd17 ct17),sl17⟩) (c17:PySem.W.codeIn K cd17 "others_in"=true) (k17:PySem.W.keepIn K (.ref f17)=true)
 (a18:PySem.W.nsIn K mainGlobals "room_with"=some (some (.ref f18))) (l18:K.lookup f18=some ⟨oc18,od18,.func (PySem.W.fnOf "room_with" "room_with" (defArgs a76) (defBody a76) (defScope a76) .none kV18 dc18 pm18 an18 cd18 ct18),sl18⟩) (c18:PySem.W.codeIn K cd18 "room_with"=true) (k18:PySem.W.keepIn K (.ref f18)=true)
 (a19:PySem.W.nsIn K mainGlobals "places_by"=some (some (.ref f19))) (l19:K.lookup f19=some ⟨oc19,od19,.func (PySem.W.fnOf "places_by" "places_by" (defArgs a85) (defBody a85) (defScope a85) .none kV19 dc19 pm19 an19 cd19 ct19),sl19⟩) (c19:PySem.W.codeIn K cd19 "places_by"=true) (k19:PySem.W.keepIn K (.ref f19)=true)
 (a20:PySem.W.nsIn K mainGlobals "place_of"=some (some (.ref f20))) (l20:K.lookup f20=some ⟨oc20,od20,.func (PySem.W.fnOf "place_of" "place_of" (defArgs a95) (defBody a95) (defScope a95) .none kV20 dc20 pm20 an20 cd20 ct20),sl20⟩) (c20:PySem.W.codeIn K cd20 "place_of"=true) (k20:PySem.W.keepIn K (.ref f20)=true)
 (a21:PySem.W.findIn K (.ref C_TableMachine) "__init__"=some (some (.ref f21))) (i21:PySem.W.isFn K (.ref f21)=true) (l21:K.lookup f21=some ⟨oc21,od21,.func (PySem.W.fnOf "__init__" "TableMachine.__init__" (defArgs a35) (defBody a35) (defScope a35) .none kV21 dc21 pm21 an21 cd21 ct21),sl21⟩) (c21:PySem.W.codeIn K cd21 "TableMachine.__init__"=true) (k21:PySem.W.keepIn K (.ref f21)=true)
 (a22:PySem.W.findIn K (.ref C_TableMachine) "begin"=some (some (.ref f22))) (i22:PySem.W.isFn K (.ref f22)=true) (l22:K.lookup f22=some ⟨oc22,od22,.func (PySem.W.fnOf "begin" "TableMachine.begin" (defArgs a41) (defBody a41) (defScope a41) .none kV22 dc22 pm22 an22 cd22 ct22),sl22⟩) (c22:PySem.W.codeIn K cd22 "TableMachine.begin"=true) (k22:PySem.W.keepIn K (.ref f22)=true)
 (a23:PySem.W.findIn K (.ref C_TableMachine) "step"=some (some (.ref f23))) (i23:PySem.W.isFn K (.ref f23)=true) (l23:K.lookup f23=some ⟨oc23,od23,.func (PySem.W.fnOf "step" "TableMachine.step" (defArgs a43) (defBody a43) (defScope a43) .none kV23 dc23 pm23 an23 cd23 ct23),sl23⟩) (c23:PySem.W.codeIn K cd23 "TableMachine.step"=true) (k23:PySem.W.keepIn K (.ref f23)=true)
 (a24:PySem.W.findIn K (.ref C_PackMachine) "__init__"=some (some (.ref f24))) (i24:PySem.W.isFn K (.ref f24)=true) (l24:K.lookup f24=some ⟨oc24,od24,.func (PySem.W.fnOf "__init__" "PackMachine.__init__" (defArgs a37) (defBody a37) (defScope a37) .none kV24 dc24 pm24 an24 cd24 ct24),sl24⟩) (c24:PySem.W.codeIn K cd24 "PackMachine.__init__"=true) (k24:PySem.W.keepIn K (.ref f24)=true)
 (a25:PySem.W.findIn K (.ref C_PackMachine) "begin"=some (some (.ref f25))) (i25:PySem.W.isFn K (.ref f25)=true) (l25:K.lookup f25=some ⟨oc25,od25,.func (PySem.W.fnOf "begin" "PackMachine.begin" (defArgs a44) (defBody a44) (defScope a44) .none kV25 dc25 pm25 an25 cd25 ct25),sl25⟩) (c25:PySem.W.codeIn K cd25 "PackMachine.begin"=true) (k25:PySem.W.keepIn K (.ref f25)=true)
 (a26:PySem.W.findIn K (.ref C_PackMachine) "step"=some (some (.ref f26))) (i26:PySem.W.isFn K (.ref f26)=true) (l26:K.lookup f26=some ⟨oc26,od26,.func (PySem.W.fnOf "step" "PackMachine.step" (defArgs a48) (defBody a48) (defScope a48) .none kV26 dc26 pm26 an26 cd26 ct26),sl26⟩) (c26:PySem.W.codeIn K cd26 "PackMachine.step"=true) (k26:PySem.W.keepIn K (.ref f26)=true)
 (a27:PySem.W.findIn K (.ref C_PackMachine) "said_by"=some (some (.ref f27))) (i27:PySem.W.isFn K (.ref f27)=true) (l27:K.lookup f27=some ⟨oc27,od27,.func (PySem.W.fnOf "said_by" "PackMachine.said_by" (defArgs a39) (defBody a39) (defScope a39) .none kV27 dc27 pm27 an27 cd27 ct27),sl27⟩) (c27:PySem.W.codeIn K cd27 "PackMachine.said_by"=true) (k27:PySem.W.keepIn K (.ref f27)=true)
 (a28:PySem.W.nsIn K mainGlobals "_law_take"=some (some (.ref f28))) (l28:K.lookup f28=some ⟨oc28,od28,.func (PySem.W.fnOf "_law_take" "_law_take" (defArgs a96) (defBody a96) (defScope a96) .none kV28 dc28 pm28 an28 cd28 ct28),sl28⟩) (c28:PySem.W.codeIn K cd28 "_law_take"=true) (k28:PySem.W.keepIn K (.ref f28)=true)
 (a29:PySem.W.nsIn K mainGlobals "_law_cell"=some (some (.ref f29))) (l29:K.lookup f29=some ⟨oc29,od29,.func (PySem.W.fnOf "_law_cell" "_law_cell" (defArgs a97) (defBody a97) (defScope a97) .none kV29 dc29 pm29 an29 cd29 ct29),sl29⟩) (c29:PySem.W.codeIn K cd29 "_law_cell"=true) (k29:PySem.W.keepIn K (.ref f29)=true)
 (a30:PySem.W.nsIn K mainGlobals "_law_said"=some (some (.ref f30))) (l30:K.lookup f30=some ⟨oc30,od30,.func (PySem.W.fnOf "_law_said" "_law_said" (defArgs a98) (defBody a98) (defScope a98) .none kV30 dc30 pm30 an30 cd30 ct30),sl30⟩) (c30:PySem.W.codeIn K cd30 "_law_said"=true) (k30:PySem.W.keepIn K (.ref f30)=true)
 (a31:PySem.W.nsIn K mainGlobals "_law_table"=some (some (.ref f31))) (l31:K.lookup f31=some ⟨oc31,od31,.func (PySem.W.fnOf "_law_table" "_law_table" (defArgs a56) (defBody a56) (defScope a56) .none kV31 dc31 pm31 an31 cd31 ct31),sl31⟩) (c31:PySem.W.codeIn K cd31 "_law_table"=true) (k31:PySem.W.keepIn K (.ref f31)=true)
 (a32:PySem.W.nsIn K mainGlobals "_law_outer"=some (some (.ref f32))) (l32:K.lookup f32=some ⟨oc32,od32,.func (PySem.W.fnOf "_law_outer" "_law_outer" (defArgs a86) (defBody a86) (defScope a86) .none kV32 dc32 pm32 an32 cd32 ct32),sl32⟩) (c32:PySem.W.codeIn K cd32 "_law_outer"=true) (k32:PySem.W.keepIn K (.ref f32)=true)
 (a33:PySem.W.nsIn K mainGlobals "law"=some (some (.ref f33))) (l33:K.lookup f33=some ⟨oc33,od33,.func (PySem.W.fnOf "law" "law" (defArgs ak7) (defBody ak7) (defScope ak7) .none kV33 dc33 pm33 an33 cd33 ct33),sl33⟩) (c33:PySem.W.codeIn K cd33 "law"=true) (k33:PySem.W.keepIn K (.ref f33)=true)
 (z_enumerate:PySem.W.nsIn K mainGlobals "enumerate"=some none)
 (z_int:PySem.W.nsIn K mainGlobals "int"=some none)
 (z_len:PySem.W.nsIn K mainGlobals "len"=some none)
 (z_list:PySem.W.nsIn K mainGlobals "list"=some none)
 (z_max:PySem.W.nsIn K mainGlobals "max"=some none)
 (z_min:PySem.W.nsIn K mainGlobals "min"=some none)
 (z_range:PySem.W.nsIn K mainGlobals "range"=some none)
 (z_set:PySem.W.nsIn K mainGlobals "set"=some none)
 (z_sorted:PySem.W.nsIn K mainGlobals "sorted"=some none)
 (z_sum:PySem.W.nsIn K mainGlobals "sum"=some none)
 (z_tuple:PySem.W.nsIn K mainGlobals "tuple"=some none)
 (z_zip:PySem.W.nsIn K mainGlobals "zip"=some none)
 {u_QUIET:Value}(m_QUIET:PySem.W.nsIn K mainGlobals "QUIET"=some (some u_QUIET))
 {ad_QUIET:Addr}(r_QUIET:RelV (.ref ad_QUIET) u_QUIET)
 {u_MOST_WAITING:Value}(m_MOST_WAITING:PySem.W.nsIn K mainGlobals "MOST_WAITING"=some (some u_MOST_WAITING))
 (r_MOST_WAITING:RelV (.int 3) u_MOST_WAITING)
 {u_HEAD:Value}(m_HEAD:PySem.W.nsIn K mainGlobals "HEAD"=some (some u_HEAD))
 (r_HEAD:RelV (.int 4) u_HEAD)
 {its_QUIET:Array Value}{nn_QUIET:Nat}{od_QUIET:Option Addr}{sl_QUIET:Array (Option Value)}(l_QUIET:K.lookup ad_QUIET=some ⟨.type "tuple",od_QUIET,.seq its_QUIET nn_QUIET,sl_QUIET⟩) (h_QUIET:its_QUIET.size≤sizeLine∧Vals [.str "quiet"] its_QUIET.toList),R)→R
theorem walk2 {l:PySem.W.OpenLaw}{q:Program}{loose:List Str}{XP:(Str→Option Value)→Heap→Prop}{YP:World→Heap→Prop}{d:DefRec}{K:Params→PySem.W.Frag}(hn:l.most=some 63) (hdf:d.params.defaults=[]) (hd:d.name="law") (hl:l=PySem.Challenge.rw_callmill_k86_whole_halls_of_other_machin) (hY:∀ (w:World) (h:Heap),YP w h→(K w.params).In h) (hF:∀ P,HF P (K P)) (G:∀ K:Params→PySem.W.Frag,(∀ P,HF P (K P))→(∀ (w:World) (mg:Str→Option Value) (fa:Addr) (h:Heap),(K w.params).In h→h.Ns mainGlobals mg→mg "law"=some (.ref fa)→∃ fd:FuncData,(∀ (s:Shared) (u:Value),BindsTo s fd ⟨[u],[]⟩ [("script",u)])∧∀ base:Heap,(K w.params).In base→base.Ns mainGlobals mg→FnOk PySem.Challenge.rw_callmill_k86_whole_halls_of_other_machin.prog w (K w.params) mg base CX0 6 fa fd ["script"] (am5 (K w.params)))):PySem.W.WalkO q loose XP YP l.row.toRowW d [] (fun f vs=>PySem.call f vs):=walk hn hdf hY (by rw [hd,hl]; exact G K hF)
section
open PySem PySem.W PyProof.Rows
local macro_rules | `(tactic| o_head $H) => `(tactic| refine holds_open (q := K86.view) (loose := []) (Xt := fun s => xlAt K86.view [] s && recOk (RowW.records _) s) (XP := XL K86.view []) (Yf := Hook.obs $H) (Ya := Hook.val $H) (YP := Hook.says $H) (N := 8000) ?hl (Hook.of $H) (Hook.keeps $H) (fun s e => xl_of s (Bool.and_eq_true_iff.mp e).1) XL.keeps (by rfl) (by rfl) (by rfl) (fun s e => recFacts_of (Bool.and_eq_true_iff.mp e).2) (by rfl) (by first | assumption | decide +kernel) (by decide +kernel) ⟨rfl, rfl, rfl, rfl, rfl, by decide +kernel⟩ ?hw ?hc)
set_option maxRecDepth 100000 in
set_option maxHeartbeats 0 in
theorem head (G:∀ K:Params→PySem.W.Frag,(∀ P,HF P (K P))→(∀ (w:World) (mg:Str→Option Value) (fa:Addr) (h:Heap),(K w.params).In h→h.Ns mainGlobals mg→mg "law"=some (.ref fa)→∃ fd:FuncData,(∀ (s:Shared) (u:Value),BindsTo s fd ⟨[u],[]⟩ [("script",u)])∧∀ base:Heap,(K w.params).In base→base.Ns mainGlobals mg→FnOk PySem.Challenge.rw_callmill_k86_whole_halls_of_other_machin.prog w (K w.params) mg base CX0 6 fa fd ["script"] (am5 (K w.params)))):PySem.Challenge.rw_callmill_k86_whole_halls_of_other_machin.Holds:=by
 w_on; o_law; k_head; (case hw=>w_witness2); (case hl=>intro w; kernel_rfl)
 k_fill
 refine K86.walk2 (l:=PySem.Challenge.rw_callmill_k86_whole_halls_of_other_machin) rfl rfl rfl rfl (fun w h Y=>PySem.W.kIn_of Y) ?facts G
 case facts =>
  intro P R kk
  refine' kk ?aC_Machine ?aC_Hall ?pg_Hall ?hd_Hall ?po_Hall ?sa_Hall ?mk_Hall ?kc_Hall ?nF_Hall_lines ?nF_Hall_machines ?aC_TableMachine ?pg_TableMachine ?hd_TableMachine ?po_TableMachine ?sa_TableMachine ?mk_TableMachine ?kc_TableMachine ?nF_TableMachine_places ?nF_TableMachine_rooms ?nF_TableMachine_saying ?aC_PackMachine ?pg_PackMachine ?hd_PackMachine ?po_PackMachine ?sa_PackMachine ?mk_PackMachine ?kc_PackMachine ?nF_PackMachine_cells ?nF_PackMachine_places ?nF_PackMachine_sayings ?nF_PackMachine_shapes ?nF_PackMachine_texts ?a0 ?i0 ?l0 ?c0 ?k0 ?a1 ?i1 ?l1 ?c1 ?k1 ?a2 ?i2 ?l2 ?c2 ?k2 ?a3 ?l3 ?c3 ?k3 ?a4 ?l4 ?c4 ?k4 ?a5 ?l5 ?c5 ?k5 ?a6 ?l6 ?c6 ?k6 ?a7 ?l7 ?c7 ?k7 ?a8 ?l8 ?c8 ?k8 ?a9 ?l9 ?c9 ?k9 ?a10 ?l10 ?c10 ?k10 ?a11 ?l11 ?c11 ?k11 ?a12 ?l12 ?c12 ?k12 ?a13 ?l13 ?c13 ?k13 ?a14 ?l14 ?c14 ?k14 ?a15 ?l15 ?c15 ?k15 ?a16 ?l16 ?c16 ?k16 ?a17 ?l17 ?c17 ?k17 ?a18 ?l18 ?c18 ?k18 ?a19 ?l19 ?c19 ?k19 ?a20 ?l20 ?c20 ?k20 ?a21 ?i21 ?l21 ?c21 ?k21 ?a22 ?i22 ?l22 ?c22 ?k22 ?a23 ?i23 ?l23 ?c23 ?k23 ?a24 ?i24 ?l24 ?c24 ?k24 ?a25 ?i25 ?l25 ?c25 ?k25 ?a26 ?i26 ?l26 ?c26 ?k26 ?a27 ?i27 ?l27 ?c27 ?k27 ?a28 ?l28 ?c28 ?k28 ?a29 ?l29 ?c29 ?k29 ?a30 ?l30 ?c30 ?k30 ?a31 ?l31 ?c31 ?k31 ?a32 ?l32 ?c32 ?k32 ?a33 ?l33 ?c33 ?k33 ?z_enumerate ?z_int ?z_len ?z_list ?z_max ?z_min ?z_range ?z_set ?z_sorted ?z_sum ?z_tuple ?z_zip ?m_QUIET ?r_QUIET ?m_MOST_WAITING ?r_MOST_WAITING ?m_HEAD ?r_HEAD ?l_QUIET ?h_QUIET
  (case aC_Machine=>k_is)
  (case aC_Hall=>k_is)
  (case pg_Hall=>k_is)
  (case hd_Hall=>k_is)
  (case po_Hall=>k_is)
  (case sa_Hall=>k_is)
  (case mk_Hall=>k_is)
  (case kc_Hall=>k_is)
  (case nF_Hall_lines=>k_is)
  (case nF_Hall_machines=>k_is)
  (case aC_TableMachine=>k_is)
  (case pg_TableMachine=>k_is)
  (case hd_TableMachine=>k_is)
  (case po_TableMachine=>k_is)
  (case sa_TableMachine=>k_is)
  (case mk_TableMachine=>k_is)
  (case kc_TableMachine=>k_is)
  (case nF_TableMachine_places=>k_is)
  (case nF_TableMachine_rooms=>k_is)
  (case nF_TableMachine_saying=>k_is)
  (case aC_PackMachine=>k_is)
  (case pg_PackMachine=>k_is)
  (case hd_PackMachine=>k_is)
  (case po_PackMachine=>k_is)
  (case sa_PackMachine=>k_is)
  (case mk_PackMachine=>k_is)
  (case kc_PackMachine=>k_is)
  (case nF_PackMachine_cells=>k_is)
  (case nF_PackMachine_places=>k_is)
  (case nF_PackMachine_sayings=>k_is)
  (case nF_PackMachine_shapes=>k_is)
  (case nF_PackMachine_texts=>k_is)
  (case a0=>k_is)
  (case i0=>k_is)
  (case l0=>k_is)
  (case c0=>k_is)
  (case k0=>k_is)
  (case a1=>k_is)
  (case i1=>k_is)
  (case l1=>k_is)
  (case c1=>k_is)
  (case k1=>k_is)
  (case a2=>k_is)
  (case i2=>k_is)
  (case l2=>k_is)
  (case c2=>k_is)
  (case k2=>k_is)
  (case a3=>k_is)
  (case l3=>k_is)
  (case c3=>k_is)
  (case k3=>k_is)
  (case a4=>k_is)
  (case l4=>k_is)
  (case c4=>k_is)
  (case k4=>k_is)
  (case a5=>k_is)
  (case l5=>k_is)
  (case c5=>k_is)
  (case k5=>k_is)
  (case a6=>k_is)
  (case l6=>k_is)
  (case c6=>k_is)
  (case k6=>k_is)
  (case a7=>k_is)
  (case l7=>k_is)
  (case c7=>k_is)
  (case k7=>k_is)
  (case a8=>k_is)
  (case l8=>k_is)
  (case c8=>k_is)
  (case k8=>k_is)
  (case a9=>k_is)
  (case l9=>k_is)
  (case c9=>k_is)
  (case k9=>k_is)
  (case a10=>k_is)
  (case l10=>k_is)
  (case c10=>k_is)
  (case k10=>k_is)
  (case a11=>k_is)
  (case l11=>k_is)
  (case c11=>k_is)
  (case k11=>k_is)
  (case a12=>k_is)
  (case l12=>k_is)
  (case c12=>k_is)
  (case k12=>k_is)
  (case a13=>k_is)
  (case l13=>k_is)
  (case c13=>k_is)
  (case k13=>k_is)
  (case a14=>k_is)
  (case l14=>k_is)
  (case c14=>k_is)
  (case k14=>k_is)
  (case a15=>k_is)
  (case l15=>k_is)
  (case c15=>k_is)
  (case k15=>k_is)
  (case a16=>k_is)
  (case l16=>k_is)
  (case c16=>k_is)
  (case k16=>k_is)
  (case a17=>k_is)
  (case l17=>k_is)
  (case c17=>k_is)
  (case k17=>k_is)
  (case a18=>k_is)
  (case l18=>k_is)
  (case c18=>k_is)
  (case k18=>k_is)
  (case a19=>k_is)
  (case l19=>k_is)
  (case c19=>k_is)
  (case k19=>k_is)
  (case a20=>k_is)
  (case l20=>k_is)
  (case c20=>k_is)
  (case k20=>k_is)
  (case a21=>k_is)
  (case i21=>k_is)
  (case l21=>k_is)
  (case c21=>k_is)
  (case k21=>k_is)
  (case a22=>k_is)
  (case i22=>k_is)
  (case l22=>k_is)
  (case c22=>k_is)
  (case k22=>k_is)
  (case a23=>k_is)
  (case i23=>k_is)
  (case l23=>k_is)
  (case c23=>k_is)
  (case k23=>k_is)
  (case a24=>k_is)
  (case i24=>k_is)
  (case l24=>k_is)
  (case c24=>k_is)
  (case k24=>k_is)
  (case a25=>k_is)
  (case i25=>k_is)
  (case l25=>k_is)
  (case c25=>k_is)
  (case k25=>k_is)
  (case a26=>k_is)
  (case i26=>k_is)
  (case l26=>k_is)
  (case c26=>k_is)
  (case k26=>k_is)
  (case a27=>k_is)
  (case i27=>k_is)
  (case l27=>k_is)
  (case c27=>k_is)
  (case k27=>k_is)
  (case a28=>k_is)
  (case l28=>k_is)
  (case c28=>k_is)
  (case k28=>k_is)
  (case a29=>k_is)
  (case l29=>k_is)
  (case c29=>k_is)
  (case k29=>k_is)
  (case a30=>k_is)
  (case l30=>k_is)
  (case c30=>k_is)
  (case k30=>k_is)
  (case a31=>k_is)
  (case l31=>k_is)
  (case c31=>k_is)
  (case k31=>k_is)
  (case a32=>k_is)
  (case l32=>k_is)
  (case c32=>k_is)
  (case k32=>k_is)
  (case a33=>k_is)
  (case l33=>k_is)
  (case c33=>k_is)
  (case k33=>k_is)
  (case z_enumerate=>k_is)
  (case z_int=>k_is)
  (case z_len=>k_is)
  (case z_list=>k_is)
  (case z_max=>k_is)
  (case z_min=>k_is)
  (case z_range=>k_is)
  (case z_set=>k_is)
  (case z_sorted=>k_is)
  (case z_sum=>k_is)
  (case z_tuple=>k_is)
  (case z_zip=>k_is)
  (case m_QUIET=>k_is)
  (case r_QUIET=>exact rfl)
  (case m_MOST_WAITING=>k_is)
  (case r_MOST_WAITING=>exact ⟨_,rfl⟩)
  (case m_HEAD=>k_is)
  (case r_HEAD=>exact ⟨_,rfl⟩)
  (case l_QUIET=>k_is)
  (case h_QUIET=>exact ⟨Nat.le_of_lt (L2.small1000 (by decide)),.cons ⟨_,rfl⟩ (.nil)⟩)
end
end K86
namespace L2
open PySem PySem.Spec PyProof.Rows
section
variable {κ:Type} [DecidableEq κ]
def valV (kvs:List (κ×V)) (k:κ):Option V:=(kvs.find? fun kv=>decide (kv.1=k)).map (·.2)
def putK (kvs:List (κ×V)) (k:κ) (v:V):List (κ×V) :=
 if (kvs.any fun kv=>decide (kv.1=k))=true then kvs.map (fun kv=>if kv.1=k then (kv.1,v) else kv) else kvs++[(k,v)]
theorem ab1 {p:κ×V}{r:List (κ×V)}{k:κ}(e:p.1=k):valV (p::r) k=some p.2:=by simp [valV,List.find?_cons,e]
theorem ab2 {p:κ×V}{r:List (κ×V)}{k:κ}(e:¬ p.1=k):valV (p::r) k=valV r k:=by simp [valV,List.find?_cons,e]
theorem ag7 (k:κ):∀ kvs:List (κ×V),(kvs.any fun kv=>decide (kv.1=k))=(valV kvs k).isSome
 | []=>rfl
 | p::r=>by
   rw [List.any_cons]
   by_cases e:p.1=k
   · simp only [ab1 e,decide_eq_true e,Bool.true_or,Option.isSome_some]
   · rw [ab2 e,decide_eq_false e,Bool.false_or]; exact ag7 k r
theorem az4 (k j:κ) (y:V):∀ kvs:List (κ×V),valV (kvs.map fun kv=>if kv.1=k then (kv.1,y) else kv) j=(valV kvs j).map fun x=>if j=k then y else x
 | []=>rfl
 | p::r=>by
   have ih:=az4 k j y r
   rw [List.map_cons]
   by_cases h:p.1=k
   · rw [if_pos h]
     by_cases e:p.1=j
     · rw [ab1 (p:=(p.1,y)) e,ab1 e,Option.map_some,if_pos (e.symm.trans h)]
     · rw [ab2 (p:=(p.1,y)) e,ab2 e,ih]
   · rw [if_neg h]
     by_cases e:p.1=j
     · rw [ab1 (p:=p) e,ab1 e,Option.map_some,if_neg (fun z=>h (e.trans z))]
     · rw [ab2 (p:=p) e,ab2 e,ih]
theorem as5 (k j:κ) (y:V):∀ kvs:List (κ×V),valV kvs k=none→valV (kvs++[(k,y)]) j=if j=k then some y else valV kvs j
 | [],_=>by
   by_cases e:k=j
   · rw [if_pos e.symm]; exact ab1 (p:=(k,y)) e
   · rw [if_neg (fun z=>e z.symm)]; exact ab2 (p:=(k,y)) e
 | p::r,hn=>by
   rw [List.cons_append]
   have hk:¬ p.1=k:=fun z=>by rw [ab1 z] at hn; cases hn
   rw [ab2 hk] at hn
   have ih:=as5 k j y r hn
   by_cases e:p.1=j
   · rw [ab1 e,ab1 e,if_neg (fun z=>hk (e.trans z))]
   · rw [ab2 e,ab2 e,ih]
theorem az5 (kvs:List (κ×V)) (k j:κ) (y:V):valV (putK kvs k y) j=if j=k then some y else valV kvs j:=by
 unfold putK
 by_cases a:(kvs.any fun kv=>decide (kv.1=k))=true
 · rw [if_pos a,az4]
   rw [ag7] at a
   by_cases e:j=k
   · obtain ⟨x,hx⟩:=Option.isSome_iff_exists.mp a
     rw [if_pos e,e,hx,Option.map_some,if_pos rfl]
   · rw [if_neg e]
     cases valV kvs j with
     | none=>rfl
     | some x=>rw [Option.map_some,if_neg e]
 · rw [if_neg a]
   refine as5 k j y kvs ?_
   rw [ag7] at a
   cases q:valV kvs k with
   | none=>rfl
   | some x=>rw [q] at a; exact (a rfl).elim
theorem ag1 (kvs:List (κ×V)) (k:κ) (v:V):(putK kvs k v).length≤kvs.length+1:=by
 unfold putK
 split
 · rw [List.length_map]; omega
 · rw [List.length_append,List.length_cons,List.length_nil]; omega
theorem bi3 {kvs:List (κ×V)}{k:κ}(v:V) (h:valV kvs k=none):putK kvs k v=kvs++[(k,v)]:=by
 unfold putK
 rw [ag7,h]
 exact if_neg (by decide)
theorem RelO.isSome_eq {o:Option V}{u:Option Value}(r:RelO o u):o.isSome=u.isSome:=by
 cases o with
 | none=>cases u with
   | none=>rfl
   | some _=>exact (show False from r).elim
 | some _=>cases u with
   | none=>exact (show False from r).elim
   | some _=>rfl
theorem RelO.getD {o:Option V}{u:Option Value}{d:V}{d':Value}(r:RelO o u) (rd:RelV d d'):RelV (o.getD d) (u.getD d'):=by
 cases o with
 | none=>cases u with
   | none=>exact rd
   | some _=>exact (show False from r).elim
 | some _=>cases u with
   | none=>exact (show False from r).elim
   | some _=>exact r
end
section
variable {P:Program}{w:World}{H:Hp}{h:Heap}{a:Addr}
end
section
variable {X:Cx}{pins:List (Addr×Obj)}{σ:St} {H:Hp}{s:Shared}{a:Addr}{y v:V}{u r:Value}{o:Option V}{A:Around}{E:Value→Shared→Prop}
theorem Inv.big (I:Inv X pins σ H s):sysModules<s.heap.objs.size:=by
 have h:mainGlobals<s.heap.objs.size:=(I.mod.glob.keeps I.bk).lt
 exact Nat.lt_trans (by decide) h
theorem aw0 {h':Heap}{t':Nat}{ob:HO}(I:Inv X pins σ H s) (mu:Mut (H a)) (hs:Heap.SameBut a s.heap h') (he:∃ q,h'.get? a=some q) (new:ObjOk X.prog X.w (upd H a ob) h' a ob) :
 Inv X pins σ (upd H a ob) { s with heap:=h',toks:=t' } :=
 I.write (x:=a) (e:=a) mu (.inl rfl) (fun b q hb z=>(hs.2 b hb).trans z) he new
end
section
variable {X:Cx}{pins:List (Addr×Obj)}{σ:St} {H:Hp}{s:Shared}{a:Addr}{kvs:List (Key×V)}{k:Key}{u:Value}{A:Around}{E:Value→Shared→Prop}
end
def NoSl (i:Expr):Prop:=∀ ov iv,subscripted i false ov iv=operate [ov,iv] (getItem ov iv)
theorem b96 {prog:Program}{w:World}{A:Around}{E:Value→Shared→Prop}{s:Shared}{env:Env}{value slice:Expr}{pos:Pos}{T id:String}{Q:Value→Shared→Prop}
 (hl:typeLookup (.type T) "__getitem__"=pure (some (.builtin id))) (hs:NoSl slice)
 (h:wpAny (model prog w) A (eval value env) (fun o s₁=>wpAny (model prog w) A (eval slice env) (fun i s₂=>s₂.TypeIs o T∧wpAny (model prog w) A (getItem o i) Q E s₂) E s₁) E s) :
 wpAny (model prog w) A (eval (.Subscript value slice pos) env) Q E s:=by
 refine Subscript_ (wpAny_mono h (fun o s₁ h₁=>wpAny_mono h₁ (fun i s₂ h₂=>?_) fun _ _ x=>x) fun _ _ x=>x)
 obtain ⟨hT,h₂⟩:=h₂
 unfold subscriptTail
 refine wpAny_bind ?_
 rw [getitemInPython_of_ne hT.not_modules]
 refine wpAny_bind (wpAny_specialOf hT hl ?_)
 have fin:wpAny (model prog w) A (subscripted slice false o i) (fun r s₃=>wpAny (model prog w) A (letTemporaryGo value o r >>= fun _=>pure r) Q E s₃) E s₂:=by
  rw [hs o i]
  exact wpAny_operating (wpAny_mono h₂ (fun r s₃ h₃=>wpAny_bind (wpAny_letTemporaryGo (wpAny_pure h₃))) fun _ _ x=>x)
 first
  | exact wpAny_pure (wpAny_bind fin)
  | exact wpAny_bind (wpAny_pure (wpAny_bind fin))
  | exact wpAny_bind fin
section
variable {X:Cx}{o i e value:Expr}{pos pos' tpos:Pos}{td ty tv:TE}
end
section
variable {X:Cx}{pos:Pos}
end
structure M2 (X:Cx) (o:Expr) (m:Str) (apos:Pos) (e f:Expr) (cpos:Pos):Prop where
 base:attributeBase o m X.env (eval o X.env)=eval o X.env
 few:((backTo cpos (starEach [e,f] X.env)).all (fun x=>!x.1) && (backToKw cpos (keywordEach [] X.env)).all (fun x=>x.1.isSome)
  && decide (([e,f]:List Expr).length+([]:List Keyword).length+(if ([]:List Keyword).isEmpty then 0 else 1)<30))=true
 line:(apos.endLine == cpos.line)=true
 trees:backTo cpos (starEach [e,f] X.env)=[(false,eval e X.env),(false,eval f X.env)]
section
variable {X:Cx}{pins:List (Addr×Obj)}{σ:St} {H:Hp}{s:Shared}{a:Addr}{y d:V}{u r:Value}{o:Option V}{A:Around}{E:Value→Shared→Prop}
end
section
variable {X:Cx}{o e f:Expr}{apos cpos:Pos}{td ty tx:TE}
end
section
variable {X:Cx}{pins:List (Addr×Obj)}{σ:St} {H:Hp}{s:Shared}{a:Addr}{kvs:List (Key×V)}{A:Around}{E:Value→Shared→Prop}
end
section
variable {X:Cx}{pins:List (Addr×Obj)}{σ:St} {H:Hp}{s:Shared}{a:Addr}{y:V}{u:Value}{A:Around}{E:Value→Shared→Prop}
end
section
variable {κ:Type} [DecidableEq κ]
theorem bi4 {kvs:List (κ×V)}{k:κ}(h:valV kvs k=none):¬ k∈kvs.map (·.1):=by
 intro m
 obtain ⟨p,hp,e⟩:=List.mem_map.mp m
 have q:(kvs.any fun kv=>decide (kv.1=k))=true:=List.any_eq_true.mpr ⟨p,hp,decide_eq_true e⟩
 rw [ag7,h] at q
 exact absurd q (by simp)
theorem b97:∀ {l:List κ}{k:κ},l.Nodup→¬ k∈l→(l++[k]).Nodup
 | [],k,_,_=>by simp
 | a::r,k,h,hk=>by
   obtain ⟨h1,h2⟩:=List.nodup_cons.mp h
   show (a::(r++[k])).Nodup
   refine List.nodup_cons.mpr ⟨fun m=>?_,b97 h2 fun m=>hk (List.mem_cons.mpr (Or.inr m))⟩
   rcases List.mem_append.mp m with q | q
   · exact h1 q
   · exact hk (List.mem_cons.mpr (Or.inl (List.mem_singleton.mp q).symm))
end
def cxC (X:Cx) (N:List Str) (scope:Scope) (cl:List (Str×Addr)) (C:Addr) (s0:Shared) (H0:Hp) (ex:List Addr):Cx :=
 { X with N:=N,s₀:=s0,H₀:=H0,env:=compEnvC scope cl C X.env,outer:=X.stack,stack:=X.stack,ex:=ex,fn:=fun _=>false,pn:=[],xe:=fun _ _=>False }
theorem am6 {env : Env} (has : ∀ x, (env.kindOf x = some .cell ∨ env.kindOf x = some .free) → ∃ c, env.cells.lookup x = some c) {scope : Scope}
    (hf : ∀ y ∈ scope.names, y.2 = .free → env.kindOf y.1 = some .cell ∨ env.kindOf y.1 = some .free) :
    ∃ cl, closureFor scope env = pure cl ∧ (∀ x c, cl.lookup x = some c → env.cells.lookup x = some c) ∧ (∀ y ∈ scope.names, y.2 = .free → ∃ c, cl.lookup y.1 = some c) := by
  have gen : ∀ (names : List (Str × NameKind)) (cs : List (Str × Addr)), (∀ y ∈ names, y.2 = .free → env.kindOf y.1 = some .cell ∨ env.kindOf y.1 = some .free) →
      (∀ x c, cs.lookup x = some c → env.cells.lookup x = some c) →
      ∃ cl, (forIn (m := Sem) names cs fun p r => do
          match p with
          | (name, kind) => if kind == .free then do let c ← cellOf env name; pure (ForInStep.yield ((name, c) :: r)) else pure (ForInStep.yield r)) = pure cl ∧
        (∀ x c, cl.lookup x = some c → env.cells.lookup x = some c) ∧ (∀ x c, cs.lookup x = some c → ∃ c, cl.lookup x = some c) ∧ (∀ y ∈ names, y.2 = .free → ∃ c, cl.lookup y.1 = some c) := by
    intro names
    induction names with
    | nil => intro cs _ h; exact ⟨cs, rfl, h, fun x c e => ⟨c, e⟩, fun y hy => nomatch hy⟩
    | cons p r ih =>
      intro cs hp h
      obtain ⟨n, k⟩ := p
      by_cases hk : k = .free
      · subst hk
        obtain ⟨c, hc⟩ := has n (hp (n, .free) List.mem_cons_self rfl)
        have h' : ∀ x d, ((n, c) :: cs).lookup x = some d → env.cells.lookup x = some d := by
          intro x d e
          rw [List.lookup_cons] at e
          cases hx : x == n with
          | true =>
            rw [hx] at e
            have : x = n := by simpa using hx
            cases e; rw [this]; exact hc
          | false => rw [hx] at e; exact h x d e
        obtain ⟨cl, e1, e2, e3, e4⟩ := ih ((n, c) :: cs) (fun y hy => hp y (List.mem_cons_of_mem _ hy)) h'
        have hn : ∃ d, cl.lookup n = some d := e3 n c (by simp [List.lookup_cons])
        refine ⟨cl, ?_, e2, fun x d e => ?_, fun y hy hyk => ?_⟩
        · rw [List.forIn_cons]
          have : cellOf env n = pure c := by unfold cellOf; rw [hc]
          simp only [beq_self_eq_true, if_true, this]
          exact e1
        · by_cases hx : x = n
          · subst hx; exact hn
          · exact e3 x d (by rw [List.lookup_cons]; have : (x == n) = false := by simpa using hx
                             rw [this]; exact e)
        · rcases List.mem_cons.mp hy with rfl | hy
          · exact hn
          · exact e4 y hy hyk
      · obtain ⟨cl, e1, e2, e3, e4⟩ := ih cs (fun y hy => hp y (List.mem_cons_of_mem _ hy)) h
        refine ⟨cl, ?_, e2, e3, fun y hy hyk => ?_⟩
        · rw [List.forIn_cons]
          have : (k == NameKind.free) = false := by simpa using hk
          simp only [this]
          exact e1
        · rcases List.mem_cons.mp hy with rfl | hy
          · exact absurd hyk hk
          · exact e4 y hy hyk
  obtain ⟨cl, e1, e2, _, e4⟩ := gen scope.names [] hf (fun x c e => nomatch e)
  refine ⟨cl, ?_, e2, e4⟩
  unfold closureFor
  simp only []
  exact congrArg (· >>= fun cs => pure cs) e1 |>.trans rfl
theorem as6 {scope:Scope}{env:Env}{x:Str}{k:NameKind}(h:(relabel scope env).names.lookup x=some k) (hk:k=.cell∨k=.free) (nc:∀ y∈scope.names,y.2≠.cell):∃ y∈scope.names,y.1=x∧y.2=.free:=by
 have gen:∀ names:List (Str×NameKind),(names.map fun (n,k)=>if (k == NameKind.free && env.scope.kind == .function && env.kindOf n == some .cell) then (n,NameKind.cell) else (n,k)).lookup x=some k→(∀ y∈names,y.2≠.cell) →
  ∃ y∈names,y.1=x∧y.2=.free:=by
  intro names
  induction names with
  | nil=>intro h _; cases h
  | cons p r ih =>
    obtain ⟨n,j⟩:=p
    intro h nc
    rw [List.map_cons,List.lookup_cons] at h
    have e1:(if (j == NameKind.free && env.scope.kind == .function && env.kindOf n == some .cell)=true then (n,NameKind.cell) else (n,j)).1=n:=by split <;> rfl
    dsimp only at h
    rw [e1] at h
    cases hx:x == n with
    | false =>
      rw [hx] at h
      obtain ⟨y,hy,q⟩:=ih h fun y hy=>nc y (List.mem_cons_of_mem _ hy)
      exact ⟨y,List.mem_cons_of_mem _ hy,q⟩
    | true =>
      rw [hx] at h
      have ex:x=n:=by simpa using hx
      have hj:j=.free:=by
       by_cases hc:(j == NameKind.free && env.scope.kind == .function && env.kindOf n == some .cell)=true
       · have:=(Bool.and_eq_true _ _).mp ((Bool.and_eq_true _ _).mp hc).1
         simpa using this.1
       · rw [if_neg hc] at h
         cases h
         rcases hk with z | z
         · exact absurd z (nc (n,j) List.mem_cons_self)
         · exact z
      exact ⟨(n,j),List.mem_cons_self,ex.symm,hj⟩
 exact gen scope.names h nc
section
variable {X:Cx}{pins:List (Addr×Obj)}{σ:St} {H:Hp}{s:Shared}{N:List Str}{scope:Scope}{cl:List (Str×Addr)}{C:Addr}{ex:List Addr}
theorem c09 (I:Inv X pins σ H s) (hC:s.heap.objs.size≤C) (hkind:scope.kind=.function) (nc:∀ y∈scope.names,y.2≠.cell)
 (hcl:∀ x c,cl.lookup x=some c→X.env.cells.lookup x=some c) (hcf:∀ y∈scope.names,y.2=.free→∃ c,cl.lookup y.1=some c)
 (hex:∀ b∈ex,FpOk X pins H b) (hexl:∀ b∈ex,b<s.heap.objs.size):(cxC X N scope cl C s H ex).Ok where
 mod:=I.ok.mod
 kind:=hkind
 glob:=I.ok.glob
 blt:=I.ok.blt
 above:=hC
 inj:=fun x y c h1 h2=>I.ok.inj x y c (hcl x c h1) (hcl y c h2)
 has:=fun x hx=>by
  have hx':∃ k,(relabel scope X.env).names.lookup x=some k∧(k=.cell∨k=.free):=by
   rcases hx with h | h
   · exact ⟨_,h,.inl rfl⟩
   · exact ⟨_,h,.inr rfl⟩
  obtain ⟨k,h,hk⟩:=hx'
  obtain ⟨y,hy,e1,e2⟩:=as6 h hk nc
  rw [← e1]
  exact hcf y hy e2
 cab:=fun x c h=>by cases h
 hd:=I.ok.hd
 frames:=I.ok.frames
 stk:=.inl rfl
 exf:=fun b hb=>⟨Nat.ne_of_lt (Nat.lt_of_lt_of_le (hexl b hb) hC),fun x c e=>(hex b hb).2.2.2.2.1 x c (hcl x c e)⟩
 bs:=I.bs
 bsz:=Nat.le_trans I.ok.bsz I.sz
 noex:=fun b o e hb=>by
  rcases (hex b hb).2.2.2.1 with z | z
  · exact I.ok.noex b o e z
  · have h1:=Heap.lt_size e
    have h2:=I.ok.bsz
    exact absurd (Nat.lt_of_lt_of_le h1 (Nat.le_trans h2 z)) (Nat.lt_irrefl _)
 exfs:=fun b hb z=>by
  have h1:=I.stkSub b z
  rcases List.mem_cons.mp h1 with z | z
  · exact (hex b hb).2.1 z
  · exact (hex b hb).2.2.1 z
 funs:=I.stack
 frf:=I.stkFree
def capV (caps:List Nat) (σ:St):St:=caps.map fun j=>(σ[j]?).join
def cSt (n:Nat) (caps:List Nat) (σ:St):St:=List.replicate n none++capV caps σ
theorem bs4 {caps:List Nat}{Nt Nf:List Str}{s1:Shared}{m:Str→Option Value}(I:Inv X pins σ H s) (ok:(cxC X (Nt++Nf) scope cl C s H ex).Ok)
 (hcl:∀ x c,cl.lookup x=some c→X.env.cells.lookup x=some c)
 (hcap:caps.map (fun j=>X.N[j]?)=Nf.map some)
 (hvis:∀ x∈Nf,scope.names.lookup x=some .free) (hXv:∀ x∈Nf,X.env.kindOf x=some .cell∨X.env.kindOf x=some .free) (hcf:∀ x∈Nf,∃ c,cl.lookup x=some c)
 (hos:s1.os=s.os) (hgens:s1.gens=s.gens) (hk:∀ b o,s.heap.get? b=some o→s1.heap.get? b=some o) (hns:s1.heap.Ns C m) (hC:s.heap.objs.size≤C) :
 Inv (cxC X (Nt++Nf) scope cl C s H ex) [] (cSt Nt.length caps σ) H s1:=by
 have hlen:caps.length=Nf.length:=by
  have:=congrArg List.length hcap
  simpa using this
 refine ⟨ok,hos,by rw [hgens]; exact I.bare,Un.kept hk,⟨m,hns,fun i x v h1 h2 h3=>?_⟩,fun x c e=>?_,I.hok.fresh hC,fun x c e=>I.freeC x c (hcl x c e),fun p hp=>absurd (show p∈([]:List (Addr×Obj)) from hp) (by simp),I.hok.kept hk,?_⟩
 · -- a captured name
   have hi:Nt.length≤i:=by
    refine Nat.le_of_not_lt fun q=>?_
    unfold cSt at h2
    rw [List.getElem?_append_left (by simpa using q),List.getElem?_replicate] at h2
    split at h2 <;> cases h2
   have h1':Nf[i - Nt.length]?=some x:=by
    have:(Nt++Nf)[i]?=some x:=h1
    rwa [List.getElem?_append_right hi] at this
   unfold cSt at h2
   rw [List.getElem?_append_right (by simpa using hi)] at h2
   have e0:i - (List.replicate Nt.length (none:Option V)).length=i - Nt.length:=by simp
   rw [e0] at h2
   generalize hj:i - Nt.length=j at h1' h2
   unfold capV at h2
   rw [List.getElem?_map] at h2
   cases hc:caps[j]? with
   | none=>rw [hc] at h2; cases h2
   | some jj =>
     rw [hc] at h2
     have h2':(σ[jj]?).join=some v:=Option.some.inj h2
     have h2'':σ[jj]?=some (some v):=by
      cases q:σ[jj]? with
      | none=>rw [q] at h2'; cases h2'
      | some z=>rw [q] at h2'; cases z with
        | none=>cases h2'
        | some z'=>cases h2'; rfl
     have hN:X.N[jj]?=some x:=by
      have q:=congrArg (fun l=>l[j]?) hcap
      simp only [List.getElem?_map,hc,h1',Option.map_some] at q
      exact Option.some.inj q
     have hx:x∈Nf:=List.mem_of_getElem? h1'
     have hXk:=hXv x hx
     obtain ⟨mX,_,hl⟩:=I.loc
     obtain ⟨u,ru,lk⟩:=hl jj x v hN h2'' (by
      rcases hXk with z | z
      · exact .inr (.inl z)
      · exact .inr (.inr z))
     refine ⟨u,ru,.inr ?_⟩
     rcases lk with ⟨z,_⟩ | ⟨_,c,hc1,hcell⟩
     · rcases hXk with y | y <;> (rw [z] at y; cases y)
     · obtain ⟨c',hc'⟩:=hcf x hx
       have e:=hcl x c' hc'
       rw [hc1] at e; cases e
       refine ⟨?_,c,hc',?_⟩
       · rcases h3 with z | z | z
         · -- not a local of the block
           exfalso
           have hfree:=hvis x hx
           have z':(relabel scope X.env).names.lookup x=some .local:=z
           have gen:∀ names:List (Str×NameKind),names.lookup x=some .free→(names.map fun (n,k)=>if (k == NameKind.free && X.env.scope.kind == .function && X.env.kindOf n == some .cell) then (n,NameKind.cell) else (n,k)).lookup x≠some .local:=by
            intro names
            induction names with
            | nil=>intro h; cases h
            | cons p r ih =>
              obtain ⟨n,k⟩:=p
              intro h
              rw [List.map_cons,List.lookup_cons]
              rw [List.lookup_cons] at h
              have e1:(if (k == NameKind.free && X.env.scope.kind == .function && X.env.kindOf n == some .cell)=true then (n,NameKind.cell) else (n,k)).1=n:=by split <;> rfl
              dsimp only
              rw [e1]
              cases hx:x == n with
              | false=>rw [hx] at h; exact ih h
              | true =>
                rw [hx] at h
                cases h
                show some (if _ then (n,NameKind.cell) else (n,NameKind.free)).2≠some .local
                split <;> (intro q; cases q)
           exact gen scope.names hfree z'
         · exact .inl z
         · exact .inr z
       · obtain ⟨o,eo,d⟩:=hcell
         exact ⟨o,hk _ _ eo,d⟩
 · obtain ⟨v,q⟩:=I.cell x c (hcl x c e)
   obtain ⟨o,eo,d⟩:=q
   exact ⟨v,o,hk _ _ eo,d⟩
 · show (cSt Nt.length caps σ).length=(Nt++Nf).length
   unfold cSt capV
   simp [hlen]
end
abbrev askIfs (ifs:List Expr) (env:Env):Sem Bool:=forIn ifs true fun c r=>if r=true then do let ok←isTrue c env (eval c env); pure (ForInStep.yield ok) else pure (ForInStep.yield r)
abbrev NoX:Value→Shared→Prop:=fun _ _=>False
theorem as7 {P:Program}{w:World}{B:Around}{R:Result→Shared→Prop}{s:Shared}{y tg l:Expr}{cs:List Expr}{sc:Scope}{ps:Pos}{iv av:Value}{en:Env}(G:Nat→Shared→Prop)
 (one:∀ n s,G n s→wpAny (model P w) B (pyNext iv) (fun r s1=>match r with
  | none=>R (.ok .next) s1
  | some v=>wpAny (model P w) B (letOwnedTupleGo tg iv v) (fun _ s1=>wpAny (model P w) B (assign tg en v) (fun _ s2=>wpAny (model P w) B (askIfs cs en) (fun k s3 =>
   if k=true then wpAny (model P w) B (eval y en) (fun x s4=>wpAny (model P w) B (call (.builtin "list.append") [av,x]) (fun _ s5=>∃ m,m<n∧G m s5) NoX s4) NoX s3
   else ∃ m,m<n∧G m s3) NoX s2) NoX s1) NoX s1) NoX s) (n:Nat) (h:G n s) :
 codeAny (model P w) B (.compLoop (.ListComp y [⟨tg,l,cs,0⟩] sc ps) 0 iv av en) R s:=by
 refine codeAny_loop rfl G (fun n s hG=>?_) n h
 show wpAny _ B ((compTurn (.ListComp y [⟨tg,l,cs,0⟩] sc ps) 0 iv av en).onRaise (fun x=>do noteFrame x en; theTreesLotGoes x)) _ _ s
 refine wpAny_noted ?_
 rw [compTurn_list]
 refine wpAny_bind (wpAny_standAt (wpAny_bind (wpAny_mono (one n s hG) (fun r s1 h1=>?_) fun _ _ z=>z.elim)))
 cases r with
 | none=>exact wpAny_pure h1
 | some v =>
   refine wpAny_bind (wpAny_mono h1 (fun _ s1' h1'=>?_) fun _ _ z=>z.elim)
   refine wpAny_bind (wpAny_mono h1' (fun _ s2 h2=>wpAny_bind (wpAny_mono h2 (fun k s3 h3=>?_) fun _ _ z=>z.elim)) fun _ _ z=>z.elim)
   cases k with
   | false=>exact wpAny_pure ⟨rfl,h3⟩
   | true=>exact wpAny_bind (wpAny_bind (wpAny_mono h3 (fun x s4 h4=>wpAny_bind (wpAny_mono h4 (fun _ s5 h5=>wpAny_pure (wpAny_pure ⟨rfl,h5⟩)) fun _ _ z=>z.elim)) fun _ _ z=>z.elim))
def PTs (X:Cx) (ifs:List Expr) (t:TT):Prop :=
 ∀ (pins:List (Addr×Obj)) (s:Shared) (σ:St) (H:Hp) (Q:Bool→Hp→Prop),Inv X pins σ H s→t σ H Q →
  wpAny (model X.prog X.w) X.A (askIfs ifs X.env) (TP X pins σ Q) X.xe s
def tNoIf:TT:=fun _ H Q=>Q true H
theorem a91 {X:Cx}:PTs X [] tNoIf:=fun pins s σ H Q I h=>wpAny_tests_nil ⟨H,I,h⟩
theorem bs5 {X:Cx}{c:Expr}{t:TT}(h:PT X c t):PTs X [c] t:=fun pins s σ H Q I q=>wpAny_tests_one (h pins s σ H Q I q)
section
variable {X:Cx}{pins:List (Addr×Obj)}{σ:St} {H:Hp}{s:Shared}
theorem Inv.adopt {D:Addr}{o:HO}(I:Inv X pins σ H s) (hD:H D=none) (h1:X.s₀.heap.objs.size≤D) (h2:D≠X.env.locals) (h3:∀ x c,X.env.cells.lookup x=some c→c≠D) (h4:∀ p∈X.pn++pins,p.1≠D)
 (new:ObjOk X.prog X.w (upd H D o) s.heap D o):Inv X pins σ (upd H D o) s:=by
 have old:∀ {b:Addr}{q:Obj},X.s₀.heap.get? b=some q→b≠D:=fun e=>Nat.ne_of_lt (Nat.lt_of_lt_of_le (Heap.lt_size e) h1)
 refine ⟨I.ok,I.os,I.bare,⟨I.base.keep,I.base.slot,fun b q e n hx=>by rw [a08 (old e)]; exact I.base.free b q e n hx,I.base.there,fun b xs e=>?_,fun b q u e=>?_,fun b ps e=>?_⟩,I.loc,I.cell,by rw [a08 (Ne.symm h2)]; exact I.free,fun x c e=>by rw [a08 (h3 x c e)]; exact I.freeC x c e,fun p hp=>?_,fun b u e=>?_,I.len⟩
 · have e':=I.base.tups b xs e
   rw [a08 (a03 e' hD)]; exact e'
 · have e':=I.base.frzs b q u e
   rw [a08 (a03 e' hD)]; exact e'
 · obtain ⟨more,e'⟩:=I.base.tbls b ps e
   exact ⟨more,by rw [a08 (a03 e' hD)]; exact e'⟩
 · obtain ⟨a1,a2,a3,a4,a5⟩:=I.pin p hp
   exact ⟨a1,by rw [a08 (h4 p hp)]; exact a2,a3,a4,a5⟩
 · by_cases hb:b=D
   · subst hb; rw [a34] at e; cases e; exact new
   · rw [a08 hb] at e
     exact (I.hok b u e).stay (fun c v _ q=>q) (fun c q=>by rw [a08 (a03 q hD)]; exact q) fun c xs q=>by rw [a08 (a03 q hD)]; exact q
def tLC (wi:TI) (g:TG) (tt:TT) (te:TE) (n:Nat) (caps:List Nat):TE:=fun σ H Q=>wi σ H fun J H1=>∃ W:Nat→Nat→List V→St→Hp→Prop,(∃ m,W 0 m [] (cSt n caps σ) H1)∧∀ i m acc σ' H',W i m acc σ' H' →
 (J.stop i H'∧∀ l,H' l=none→Q (.ref l) (upd H' l (.lst acc))) ∨
 (J.go i H'∧acc.length<sizeLine∧∃ N:List V→St→Hp→Prop,(∀ ac σ2 H2,N ac σ2 H2→∃ m',m'<m∧W (i+1) m' ac σ2 H2)∧∀ x H2,J.yld i H' x H2→g x σ' H2 fun σ3 H3=>tt σ3 H3 fun b H4=>if b=true then te σ3 H4 fun y H5=>N (acc++[y]) σ3 H5 else N acc σ3 H4)
structure CompOk (X:Cx) (scope:Scope) (Nt Nf:List Str) (caps:List Nat):Prop where
 kind:scope.kind=.function
 nc:∀ y∈scope.names,y.2≠.cell
 nm:∀ y∈scope.names,y.2=.local→scope.names.lookup y.1=some .local
 fr:∀ y∈scope.names,y.2=.free→X.env.kindOf y.1=some .cell∨X.env.kindOf y.1=some .free
 cap:caps.map (fun j=>X.N[j]?)=Nf.map some
 vis:∀ x∈Nf,scope.names.lookup x=some .free
theorem am7 {tg iter elt:Expr}{ifs:List Expr}{scope:Scope}{pos:Pos}{g:TG}{tt:TT}{te:TE}{Nt Nf:List Str}{caps:List Nat}{cl:List (Str×Addr)}{it:Addr}{fp:List Addr}{tn:Nat→Heap→Prop}{J:It}{Q:VK}{E:Value→Shared→Prop}
 {RR:Value→Addr→Result→Shared→Prop}
 (hc:X.calm=true) (S:CompOk X scope Nt Nf caps)
 (hg:∀ cl C s0 H0 ex,PG (cxC X (Nt++Nf) scope cl C s0 H0 ex) tg g)
 (ht:∀ cl C s0 H0 ex,PTs (cxC X (Nt++Nf) scope cl C s0 H0 ex) ifs tt)
 (he:∀ cl C s0 H0 ex,PE (cxC X (Nt++Nf) scope cl C s0 H0 ex) elt te)
 (hcl:∀ x c,cl.lookup x=some c→X.env.cells.lookup x=some c) (hcf:∀ y∈scope.names,y.2=.free→∃ c,cl.lookup y.1=some c)
 (I:Inv X pins σ H s) (T:Turn X.prog X.w X.K tg J fp it tn) (st:tn 0 s.heap) (hfp:∀ b∈fp,FpOk X pins H b)
 (hW:∃ W:Nat→Nat→List V→St→Hp→Prop,(∃ m,W 0 m [] (cSt Nt.length caps σ) H)∧∀ i m acc σ' H',W i m acc σ' H' →
  (J.stop i H'∧∀ l,H' l=none→Q (.ref l) (upd H' l (.lst acc))) ∨
  (J.go i H'∧acc.length<sizeLine∧∃ N:List V→St→Hp→Prop,(∀ ac σ2 H2,N ac σ2 H2→∃ m',m'<m∧W (i+1) m' ac σ2 H2)∧∀ x H2,J.yld i H' x H2→g x σ' H2 fun σ3 H3=>tt σ3 H3 fun b H4=>if b=true then te σ3 H4 fun y H5=>N (acc++[y]) σ3 H5 else N acc σ3 H4))
 (fin:∀ D C m s' H',Inv X pins σ H' s'→Q (.ref D) H'→s'.heap.Ns C m→H' C=none→C≠X.env.locals→X.s₀.heap.objs.size≤C→(∀ x c,X.env.cells.lookup x=some c→c≠C)→(∀ p∈X.pn++pins,p.1≠C)→RR (.ref D) C (.ok .next) s') :
 wpAny (model X.prog X.w) X.A (newList []) (fun acc s₃=>wpAny (model X.prog X.w) X.A (newFunctionEnv scope X.env.globals cl [] X.env.qual none .none (some X.env)) (fun cenv s₄ =>
  codeAny (model X.prog X.w) X.A (.compStart (.ListComp elt [⟨tg,iter,ifs,0⟩] scope pos) 0 (.ref it) acc { cenv with scope:=relabel scope X.env }) (RR acc cenv.locals) s₄) E s₃) E s:=by
 obtain ⟨W,⟨m0,w0⟩,turn⟩:=hW
 refine wpAny_newObj_type (wpAny_newFunctionEnv S.nc (by intro y hy; simp at hy) (fun h₁ hns₁ hsb₁=>?_) S.kind)
 dsimp only at hns₁ hsb₁ ⊢
 generalize hH2:s.heap.push { cls:=.type "list",dict:=none,data:=.seq ([]:List Value).toArray }=P2 at hns₁ hsb₁ ⊢
 have hCs:P2.objs.size=s.heap.objs.size+1:=by rw [← hH2,Heap.size_push]
 have hDC:s.heap.objs.size≠P2.objs.size:=by rw [hCs]; exact Nat.ne_of_lt (Nat.lt_succ_self _)
 have hCle:s.heap.objs.size≤P2.objs.size:=by rw [hCs]; exact Nat.le_succ _
 have below:∀ b,b<s.heap.objs.size→b≠P2.objs.size:=fun b hb=>by rw [hCs]; exact Nat.ne_of_lt (Nat.lt_succ_of_lt hb)
 have old:∀ b o,s.heap.get? b=some o→h₁.get? b=some o:=fun b o e=>hsb₁.extBut b o (below b (Heap.lt_size e)) (Heap.get?_push_of_some _ (hH2 ▸ Heap.get?_push_of_some _ e))
 have hacc:h₁.PlainList s.heap.objs.size #[]:=⟨_,hsb₁.extBut _ _ hDC (Heap.get?_push_of_some _ (hH2 ▸ Heap.get?_push_size _ rfl))⟩
 have fpl:∀ b∈fp,b<s.heap.objs.size:=fun b hb=>by
  obtain ⟨o,e,_⟩:=T.obj _ _ st b hb
  exact Heap.lt_size e
 have st₁:tn 0 h₁:=T.keep _ _ _ st fun b _ o e=>old b o e
 generalize hCe:P2.objs.size=C at hns₁ hsb₁ hDC hCle below ⊢
 generalize hDe:s.heap.objs.size=D at hacc hDC hCle ⊢
 have hDl:X.env.locals<D:=by rw [← hDe]; exact I.lt
 have hDs:X.s₀.heap.objs.size≤D:=by rw [← hDe]; exact I.sz
 have hcD:∀ x c,X.env.cells.lookup x=some c→c<D:=fun x c e=>by
  obtain ⟨v,q⟩:=I.cell x c e
  rw [← hDe]; exact q.lt
 have hpD:∀ p∈X.pn++pins,p.1<D:=fun p hp=>by rw [← hDe]; exact Heap.lt_size (I.pin p hp).1
 let Y:Cx:=cxC X (Nt++Nf) scope cl C s H fp
 have okY:Y.Ok:=c09 I (by rw [hDe]; exact hCle) S.kind S.nc hcl hcf hfp fpl
 have hfsY:∀ b,b∈Y.fs→b<D:=fun b hb=>by
  rcases List.mem_cons.mp (I.stkSub b hb) with z | z
  · rw [z]; exact hDl
  · refine Nat.lt_of_lt_of_le ?_ hDs
    have:=(I.ok.funs.mem z)
    refine Nat.lt_of_not_le fun q=>?_
    exact absurd z (fun z=>by
     have:=I.nofs (a:=b)
     by_cases hb2:s.heap.objs.size≤b
     · exact this hb2 z
     · obtain ⟨_,o,e,_⟩:=I.ok.funs.mem z
       exact absurd (Heap.lt_size e) (Nat.not_lt.mpr q))
 have loop:∀ s₃:Shared,s₃={ s with heap:=h₁,toks:=s.toks+([]:List (Str×Value)).length } →
  codeAny (model X.prog X.w) X.A (.compLoop (.ListComp elt [⟨tg,iter,ifs,0⟩] scope pos) 0 (.ref it) (.ref D) Y.env) (RR (.ref D) C) s₃:=by
  rintro s₃ rfl
  have I0:Inv Y [] (cSt Nt.length caps σ) H { s with heap:=h₁,toks:=s.toks+([]:List (Str×Value)).length } :=
   bs4 I okY hcl S.cap S.vis (fun x hx=>S.fr (x,.free) (PySem.mem_of_lookup (S.vis x hx)) rfl) (fun x hx=>hcf (x,.free) (PySem.mem_of_lookup (S.vis x hx)) rfl) rfl rfl old hns₁ (by rw [hDe]; exact hCle)
  have fpY:∀ {H':Hp},(∀ b∈fp,H' b=none)→∀ b∈fp,FpOk Y [] H' b:=fun hn b hb =>
   ⟨hn b hb,Nat.ne_of_lt (Nat.lt_of_lt_of_le (fpl b hb) (by rw [hDe]; exact hCle)),okY.exfs b hb,.inl hb,fun x c e=>(hfp b hb).2.2.2.2.1 x c (hcl x c e),fun p hp=>absurd (show p∈([]:List (Addr×Obj)) from hp) (by simp)⟩
  have fpD:∀ b∈fp,b≠D:=fun b hb=>Nat.ne_of_lt (by rw [← hDe]; exact fpl b hb)
  refine as7 (fun n s'=>∃ i acc its σ' H',Inv Y [] σ' H' s'∧tn i s'.heap∧(∀ b∈fp,H' b=none)∧s'.heap.PlainList D its∧H' D=none∧Vals acc its.toList∧acc.length≤sizeLine∧W i n acc σ' H') ?_ m0
   ⟨0,[],#[],cSt Nt.length caps σ,H,I0,st₁,fun b hb=>(hfp b hb).1,hacc,by rw [← hDe]; exact I.hok.fresh (Nat.le_refl _),.nil,Nat.zero_le _,w0⟩
  rintro n s3 ⟨i,acc,its,σ3,H3,I3,st3,fr3,⟨nd,e3⟩,hD3,rv3,hl3,w3⟩
  have cD:C≠D:=Ne.symm hDC
  have pinOk:∀ {H':Hp}{s':Shared}{o:Obj},s'.heap.get? D=some o→H' D=none→(∀ v,o.data≠.cell v)→s'.heap.get? D=some o∧H' D=none∧D≠Y.env.locals∧D∉Y.fs∧∀ v,o.data≠.cell v:=fun e n d =>
   ⟨e,n,hDC,fun z=>absurd (hfsY D z) (Nat.lt_irrefl _),d⟩
  have I3':Inv Y [(D,{ cls:=.type "list",data:=.seq its nd })] σ3 H3 s3:=I3.pins_of fun p hp=>by
   obtain rfl:p=(D,({ cls:=.type "list",data:=.seq its nd }:Obj)):=List.mem_singleton.mp hp
   exact pinOk e3 hD3 (fun v z=>by cases z)
  have fpY':∀ {H':Hp},(∀ b∈fp,H' b=none)→∀ b∈fp,FpOk Y [(D,{ cls:=.type "list",data:=.seq its nd })] H' b:=fun hn b hb=>by
   obtain ⟨a1,a2,a3,a4,a5,_⟩:=fpY hn b hb
   refine ⟨a1,a2,a3,a4,a5,fun p hp=>?_⟩
   obtain rfl:p=(D,({ cls:=.type "list",data:=.seq its nd }:Obj)):=List.mem_singleton.mp hp
   exact Ne.symm (fpD b hb)
  rcases turn i n acc σ3 H3 w3 with ⟨stop,qn⟩ | ⟨go,hlt,N,hN,step⟩
  · refine thn (T.done Y rfl rfl rfl hc i _ s3 σ3 H3 _ I3' (fpY' fr3) st3 stop) fun r s4 ⟨hr,I4⟩=>?_
    subst hr
    have e4:=(I4.pin (D,{ cls:=.type "list",data:=.seq its nd }) (List.mem_append_right _ List.mem_cons_self)).1
    have IX:Inv X pins σ H3 s4:=I.call' (ch:=fp) I4.os I4.base I4.hok I4.bare fun b hb=>by
     obtain ⟨_,a2,_,a4,a5,a6⟩:=hfp b hb
     exact ⟨a4,a2,a5,a6⟩
    have IA:=IX.adopt (o:=.lst acc) hD3 hDs (Nat.ne_of_gt hDl) (fun x c e=>Nat.ne_of_lt (hcD x c e)) (fun p hp=>Nat.ne_of_lt (hpD p hp)) ⟨hl3,its.toList,nd,rv3,e4⟩
    obtain ⟨m,nsC,_⟩:=I4.loc
    refine fin D C m s4 _ IA (qn D hD3) nsC (by rw [a08 cD]; exact I4.free) ?_ ?_ ?_ ?_
    · exact Nat.ne_of_gt (Nat.lt_of_lt_of_le hDl hCle)
    · exact Nat.le_trans hDs hCle
    · exact fun x c e=>Nat.ne_of_lt (Nat.lt_of_lt_of_le (hcD x c e) hCle)
    · exact fun p hp=>Nat.ne_of_lt (Nat.lt_of_lt_of_le (hpD p hp) hCle)
  · refine thn (T.item Y rfl rfl rfl hc i _ s3 σ3 H3 _ I3' (fpY' fr3) st3 go) fun r s4 ⟨u,hr,h4⟩=>?_
    subst hr
    refine thn h4 fun _ s5 ⟨x,H5,I5,r5,y5,st5,fr5⟩=>?_
    have I5':=I5.pinned (fpY' fr5) (T.obj _ _ st5)
    refine thn (hg cl C s H fp _ s5 σ3 H5 x u _ I5' r5 (step x H5 y5)) fun _ s6 ⟨σ6,H6,I6,q6⟩=>?_
    refine thn (ht cl C s H fp _ s6 σ6 H6 _ I6 q6) fun b s7 ⟨H7,I7,q7⟩=>?_
    have back:∀ {σ':St} {H':Hp}{s':Shared},Inv Y ([(D,{ cls:=.type "list",data:=.seq its nd })]++pinsAt fp s5.heap) σ' H' s' →
     s'.heap.get? D=some { cls:=.type "list",data:=.seq its nd }∧H' D=none∧tn (i+1) s'.heap∧∀ b∈fp,H' b=none:=fun {σ' H' s'} J7=>by
     have hd:=J7.pin (D,{ cls:=.type "list",data:=.seq its nd }) (List.mem_append_right _ (List.mem_append_left _ List.mem_cons_self))
     refine ⟨hd.1,hd.2.1,T.keep _ _ _ st5 fun b hb o e=>(J7.pin (b,o) (List.mem_append_right _ (List.mem_append_right _ (af3 hb e)))).1,fun b hb=>?_⟩
     obtain ⟨o,e,d⟩:=T.obj _ _ st5 b hb
     exact (J7.pin (b,o) (List.mem_append_right _ (List.mem_append_right _ (af3 hb e)))).2.1
    cases b with
    | false =>
      rw [if_neg Bool.false_ne_true]
      rw [if_neg Bool.false_ne_true] at q7
      obtain ⟨m',hm,w7⟩:=hN _ _ _ q7
      obtain ⟨b1,b2,b3,b4⟩:=back I7
      exact ⟨m',hm,i+1,acc,its,σ6,H7,I7.pins_of (fun p hp=>nomatch hp),b3,b4,⟨nd,b1⟩,b2,rv3,hl3,w7⟩
    | true =>
      rw [if_pos rfl]
      rw [if_pos rfl] at q7
      refine thn (he cl C s H fp _ s7 σ6 H7 _ I7 q7) fun u8 s8 ⟨y,H8,I8,r8,n8⟩=>?_
      obtain ⟨m',hm,w8⟩:=hN _ _ _ n8
      obtain ⟨b1,b2,b3,b4⟩:=back I8
      have hsz:its.size≤sizeLine:=by
       have h1:=rv3.length
       have h2:its.toList.length=its.size:=by simp
       omega
      refine wpAny_list_append_plain (hsz:=hsz) ⟨nd,b1⟩ fun h' pl' sb'=>?_
      have I8':Inv Y [] σ6 H8 s8:=I8.pins_of (fun p hp=>nomatch hp)
      refine ⟨m',hm,i+1,acc++[y],its.push u8,σ6,H8,I8'.turned (t':=s8.toks) (fun b o hb e=>(sb'.2 b hb).trans e) b2 hDC (.inr (by show s.heap.objs.size≤D; rw [hDe]; exact Nat.le_refl _)) (fun x c e=>Nat.ne_of_lt (hcD x c (hcl x c e))) (fun p hp=>absurd (show p∈([]:List (Addr×Obj)) from hp) (by simp)),?_,b4,pl',b2,?_,?_,w8⟩
      · exact T.keep _ _ _ b3 fun b hb o e=>(sb'.2 b (fpD b hb)).trans e
      · rw [Array.toList_push]
        exact rv3.append (.cons r8 .nil)
      · rw [List.length_append,List.length_singleton]
        omega
 exact codeAny_compStart_list (loop _ rfl) (T.self _ _ _ _ _ st₁ (loop _ rfl))
theorem ag8 {tg iter elt:Expr}{ifs:List Expr}{scope:Scope}{pos:Pos}{wi:TI}{g:TG}{tt:TT}{te:TE}{Nt Nf:List Str}{caps:List Nat}(hc:X.calm=true) (S:CompOk X scope Nt Nf caps) (hi:PI X tg iter wi)
 (hg:∀ cl C s0 H0 ex,PG (cxC X (Nt++Nf) scope cl C s0 H0 ex) tg g)
 (ht:∀ cl C s0 H0 ex,PTs (cxC X (Nt++Nf) scope cl C s0 H0 ex) ifs tt)
 (he:∀ cl C s0 H0 ex,PE (cxC X (Nt++Nf) scope cl C s0 H0 ex) elt te)
 (hs:∀ x,foldedSetIterable iter X.env x=pure x:=by intro _; rfl):PE X (.ListComp elt [⟨tg,iter,ifs,0⟩] scope pos) (tLC wi g tt te Nt.length caps):=by
 intro pins s σ H Q I h
 obtain ⟨cl,hclos,hcl,hcf⟩:=am6 I.ok.has S.fr
 rw [eval_ListComp]
 refine wpAny_comprehension_free (use:=none) rfl hs hclos S.kind S.nm (thn (hi pins s σ H _ I h) fun v s1 h1=>thn h1 fun itv s2 h2=>?_)
 obtain ⟨it,fp,tn,J,H2,e,I2,T,st2,f2,hW⟩:=h2
 subst e
 refine am7 (RR:=fun acc C=>compPost (model X.prog X.w) X.A X.xe none (EP X pins σ Q) acc C) (Q:=Q) hc S hg ht he hcl hcf I2 T st2 f2 hW ?_
 intro D C m s' H' I' q nsC hCn hCl hCs hCc hCp
 exact ⟨m,nsC,fun h' sb=>⟨.ref D,H',I'.turned (t':=s'.toks) (fun b o hb e=>(sb.2 b hb).trans e) hCn hCl (.inr hCs) hCc hCp,rfl,q⟩⟩
theorem bi5 {tg iter elt:Expr}{ifs:List Expr}{scope:Scope}{pos spos py:Pos}{y:Str}{i:Nat}{wi:TI}{g:TG}{tt:TT}{te:TE}{Nt Nf:List Str}{caps:List Nat}(hc:X.calm=true) (S:CompOk X scope Nt Nf caps) (hi:PI X tg iter wi)
 (hg:∀ cl C s0 H0 ex,PG (cxC X (Nt++Nf) scope cl C s0 H0 ex) tg g)
 (ht:∀ cl C s0 H0 ex,PTs (cxC X (Nt++Nf) scope cl C s0 H0 ex) ifs tt)
 (he:∀ cl C s0 H0 ex,PE (cxC X (Nt++Nf) scope cl C s0 H0 ex) elt te)
 (hN:X.N.Nodup) (hy:X.N[i]?=some y) (hx:Loc X.env.scope y)
 (hsw:swapsWith (.ListComp elt [⟨tg,iter,ifs,0⟩] scope pos) (some (.Name y py)) spos.line X.env=pure true)
 (hf:X.fn y=true∨X.env.scope.names.lookup y=some .local:=by first | exact .inl rfl | exact .inr rfl | assumption)
 (hs:∀ x,foldedSetIterable iter X.env x=pure x:=by intro _; rfl):PS X (.Assign [.Name y py] (.ListComp elt [⟨tg,iter,ifs,0⟩] scope pos) spos) (tAsg (tLC wi g tt te Nt.length caps) (gName i)):=by
 intro pins s σ H D I h
 obtain ⟨cl,hclos,hcl,hcf⟩:=am6 I.ok.has S.fr
 rw [exec_Assign_Name_used _ _ _ _ hsw]
 refine wpAny_bind (wpAny_standAt (wpAny_bind ?_))
 show wpAny _ X.A (do let _←comprehension (.ListComp elt [⟨tg,iter,ifs,0⟩] scope pos) scope X.env _ (newList []) false (eval iter X.env) (some (assign (.Name y py) X.env))) _ _ s
 refine wpAny_bind (wpAny_mono (wpAny_comprehension_free (use:=some (assign (.Name y py) X.env)) (Q:=fun _ s'=>SP X pins D .next s') rfl hs hclos S.kind S.nm
  (thn (hi pins s σ H _ I h) fun v s1 h1=>thn h1 fun itv s2 h2=>?_)) (fun _ s' hq=>wpAny_pure (wpAny_pure hq)) fun _ _ e=>e)
 obtain ⟨it,fp,tn,J,H2,e,I2,T,st2,f2,hW⟩:=h2
 subst e
 refine am7 (RR:=fun acc C=>compPost (model X.prog X.w) X.A X.xe (some (assign (.Name y py) X.env)) (fun _ s'=>SP X pins D .next s') acc C) (Q:=fun x H1=>gName i x σ H1 D.nx) hc S hg ht he hcl hcf I2 T st2 f2 hW ?_
 intro l C m s' H' I' q nsC hCn hCl hCs hCc hCp
 show wpAny _ X.A (assign (.Name y py) X.env (.ref l)) _ _ _
 refine wpAny_assign_Name (ar4 (v:=.ref l) I' hN hy hx rfl (fun s'' I'' ⟨a,sb,ha⟩=>?_) hf)
 have haC:C≠a:=by
  rcases ha with z | z
  · rw [z]; exact hCl
  · exact fun e=>hCc y a z e.symm
 refine ⟨m,nsC.sameBut sb haC,fun h' sb'=>⟨_,H',I''.turned (t':=s''.toks) (fun b o hb e=>(sb'.2 b hb).trans e) hCn hCl (.inr hCs) hCc hCp,q⟩⟩
end
section
variable {X:Cx}{tg:Expr}
end
section
variable {X:Cx}
def strsV (ys:List Str):List V:=ys.map V.str
def CBig (i j:Int):Prop:=(i.natAbs<2 ^ 4096∧j.natAbs<2 ^ 4096)∨CMul i j
theorem b98 {i:Int}{n:Nat}(h:i.natAbs<2 ^ n):Builtin.Int.intBits i≤n:=by
 unfold Builtin.Int.intBits
 split
 · exact Nat.zero_le _
 · rename_i h0
   have h1:i.natAbs≠0:=by simpa using h0
   have:=(Nat.log2_lt h1).mpr h
   omega
theorem CBig.ok {i j:Int}(h:CBig i j):IntMulOk i j:=by
 rcases h with ⟨h1,h2⟩ | h
 · exact IntMulOk.of_bits (Nat.le_trans (b98 h1) (by decide)) (Nat.le_trans (b98 h2) (by decide))
 · exact h.ok
theorem c34:OpR X (binaryOp .Mult) (rI CBig fun i j=>.int (i*j)):=opI fun _ _ _ _ _ _ _ hc q=>mul_int q hc.ok
end
section
variable {X:Cx}{e:Expr}{te:TE}{pos:Pos}
end
abbrev New (H:Hp) (o:HO) (Q:VK):Prop:=∀ p H',H p=none→Same H H'→H' p=some o→Q (.ref p) H'
theorem Same.new {H:Hp}{p:Addr}{o:HO}(h:H p=none):Same H (upd H p o):=fun b u e=>by rw [a08 (a03 e h)]; exact e
theorem New.to {H:Hp}{Q:VK}{o:HO}(h:New H o Q):∀ p,H p=none→Q (.ref p) (upd H p o):=fun p hp=>h p _ hp (Same.new hp) a34
section
variable {X:Cx}{es:List Expr}{t:TA}{pos:Pos}
def tLstN (t:TA):TE:=fun σ H Q=>t σ H fun xs H1=>xs.length≤sizeLine∧New H1 (.lst xs) Q
def tTupN (t:TA):TE:=fun σ H Q=>t σ H fun xs H1=>xs.length≤sizeLine∧New H1 (.tup xs) Q
theorem a57 {x1}(h:PA X es t):PE X (.Tuple es x1 pos) (tTupN t):=by
 intro pins s σ H Q I hq
 refine wpAny_Tuple_spliced (thn (h pos pins s σ H _ I hq) fun us s1 ⟨xs,H1,I1,r,z,q⟩=>⟨by rw [← r.length]; exact z,?_⟩)
 refine ⟨.ref s1.heap.objs.size,upd H1 s1.heap.objs.size (.tup xs),I1.laid (t':=s1.toks) (fun b u e=>Heap.get?_push_of_some _ e) (Nat.le_refl _) ?_,rfl,New.to q _ (I1.hok.fresh (Nat.le_refl _))⟩
 exact ⟨z,us,r,⟨_,Heap.get?_push_size _ rfl,rfl,_,rfl⟩⟩
theorem a40 (h:PA X es t):PE X (.List es pos) (tLstN t):=by
 intro pins s σ H Q I hq
 refine wpAny_List_spliced (thn (h pos pins s σ H _ I hq) fun us s1 ⟨xs,H1,I1,r,z,q⟩=>⟨by rw [← r.length]; exact z,?_⟩)
 refine ⟨.ref s1.heap.objs.size,upd H1 s1.heap.objs.size (.lst xs),I1.laid (t':=s1.toks) (fun b u e=>Heap.get?_push_of_some _ e) (Nat.le_refl _) ?_,rfl,New.to q _ (I1.hok.fresh (Nat.le_refl _))⟩
 exact ⟨z,us,0,r,Heap.get?_push_size _ rfl⟩
def rSlN (K:PySem.W.Frag):V→Option Int→Option Int→Hp→VK→Prop:=fun x lo hi H Q=>∃ a xs,x=.ref a∧SqL K H a xs∧New H (.lst (cutV xs lo hi)) Q
theorem bi6:SlR X (rSlN X.K):=by
 intro pins s σ H x v vl vu lo hi sl Q I rx hs pl pu h
 obtain ⟨a,xs,e,h1,h2⟩:=h
 exact bs3 pins s σ H x v vl vu lo hi sl Q I rx hs pl pu ⟨a,xs,e,h1,New.to h2⟩
theorem b53:CallR X (.type "list") (fun xs H Q=>∃ p ys,xs=[.ref p]∧(SqL X.K H p ys∨SqT X.K H p ys)∧New H (.lst ys) Q):=by
 intro pins s σ H xs us Q I r h
 obtain ⟨p,ys,e,h1,h2⟩:=h
 exact as3 pins s σ H xs us Q I r ⟨p,ys,e,h1,New.to h2⟩
theorem aw1:CallR X (.type "tuple") (fun xs H Q=>∃ p ys,xs=[.ref p]∧SqL X.K H p ys∧New H (.tup ys) Q):=by
 intro pins s σ H xs us Q I r h
 obtain ⟨p,ys,e,h1,h2⟩:=h
 exact ao9 pins s σ H xs us Q I r ⟨p,ys,e,.inl ⟨h1,New.to h2⟩⟩
end
def tTru (K:PySem.W.Frag) (ta:TE):TT:=fun σ H Q=>ta σ H fun x H'=>∃ k,TruV K x H' k∧Q k H'
def rLen (K:PySem.W.Frag):List V→Hp→VK→Prop:=fun xs H Q=>∃ x n,xs=[x]∧LenV K x H n∧Q (.int n) H
def rListN (K:PySem.W.Frag):List V→Hp→VK→Prop:=fun xs H Q=>∃ p ys,xs=[.ref p]∧(SqL K H p ys∨SqT K H p ys)∧New H (.lst ys) Q
def rTupleN (K:PySem.W.Frag):List V→Hp→VK→Prop:=fun xs H Q=>∃ p ys,xs=[.ref p]∧SqL K H p ys∧New H (.tup ys) Q
section
variable {X:Cx}{a:Expr}{ta:TE}
theorem c35 (ha:PE X a ta) (he:∀ whole,isTrue a X.env whole=(do let v←whole; standAt a.pos; holding [v] (truthy v))):PT X a (tTru X.K ta):=bh5 ha he
theorem c36:CallR X (.builtin "len") (rLen X.K):=bh6
theorem bs6:CallR X (.type "list") (rListN X.K):=b53
theorem bi7:CallR X (.type "tuple") (rTupleN X.K):=aw1
end
def rPlus:R2:=fun x y H Q=>match x,y with
 | .int i,.int j=>Q (.int (i+j)) H
 | .str i,.str j=>i.length+j.length≤sizeLine∧Q (.str (i++j)) H
 | .ref l,.ref b=>∃ xs zs,H l=some (.lst xs)∧H b=some (.lst zs)∧xs.length+zs.length≤sizeLine∧New H (.lst (xs++zs)) Q
 | _,_=>False
def rTimes:R2:=fun x y H Q=>match x,y with
 | .int i,.int j=>CBig i j∧Q (.int (i*j)) H
 | .str z,.int n=>MulOk z n∧Q (.str (Txt.mul z n)) H
 | _,_=>False
def rStr:List V→Hp→VK→Prop:=fun xs H Q=>match xs with
 | [.int i]=>i.natAbs.log2<1920∧Q (.str (toString i)) H
 | [.str z]=>Q (.str z) H
 | _=>False
section
variable {X:Cx}
theorem a78:OpR X (binaryOp .Add) rPlus:=by
 intro pins s σ H x y v u Q I rx ry h
 cases x with
 | int i=>cases y with
   | int j=>exact bz7 pins s σ H _ _ v u Q I rx ry ⟨i,j,rfl,rfl,h⟩
   | _=>exact (show False from h).elim
 | str i=>cases y with
   | str j=>exact b44 pins s σ H _ _ v u Q I rx ry ⟨i,j,rfl,rfl,h⟩
   | _=>exact (show False from h).elim
 | ref l=>cases y with
   | ref b =>
     obtain ⟨xs,zs,h1,h2,h3,h4⟩:=h
     exact c08 pins s σ H _ _ v u Q I rx ry ⟨l,b,xs,zs,rfl,rfl,h1,h2,h3,New.to h4⟩
   | _=>exact (show False from h).elim
 | _=>exact (show False from h).elim
theorem ad6:OpR X (binaryOp .Mult) rTimes:=by
 intro pins s σ H x y v u Q I rx ry h
 cases x with
 | int i=>cases y with
   | int j=>exact c34 pins s σ H _ _ v u Q I rx ry ⟨i,j,rfl,rfl,h⟩
   | _=>exact (show False from h).elim
 | str z=>cases y with
   | int n =>
     obtain ⟨t,rfl⟩:=rx
     obtain ⟨t',rfl⟩:=ry
     exact SB.mul h.1 fun t2 k=>⟨.str _,H,I.tok _,⟨_,rfl⟩,h.2⟩
   | _=>exact (show False from h).elim
 | _=>exact (show False from h).elim
theorem a90 {scope sc:Scope}{Nt Nf:List Str}{caps:List Nat}(hsc:X.env.scope=sc) (kind:scope.kind=.function) (nc:∀ y∈scope.names,y.2≠.cell) (nm:∀ y∈scope.names,y.2=.local→scope.names.lookup y.1=some .local)
 (fr:∀ y∈scope.names,y.2=.free→sc.names.lookup y.1=some .cell∨sc.names.lookup y.1=some .free) (cap:caps.map (fun j=>X.N[j]?)=Nf.map some) (vis:∀ x∈Nf,scope.names.lookup x=some .free):CompOk X scope Nt Nf caps :=
 ⟨kind,nc,nm,fun y hy h=>by show X.env.scope.names.lookup y.1=_∨X.env.scope.names.lookup y.1=_; rw [hsc]; exact fr y hy h,cap,vis⟩
abbrev LcEnd (J:It) (te:TE) (tt:TT) (caps:List Nat) (σ:St) (H:Hp) (Q:VK):Prop:=∃ W:Nat→Nat→List V→St→Hp→Prop,(∃ m,W 0 m [] (cSt 1 caps σ) H)∧∀ i m acc σ' H',W i m acc σ' H' →
 (J.stop i H'∧∀ l,H' l=none→Q (.ref l) (upd H' l (.lst acc))) ∨
 (J.go i H'∧acc.length<sizeLine∧∃ N:List V→St→Hp→Prop,(∀ ac σ2 H2,N ac σ2 H2→∃ m',m'<m∧W (i+1) m' ac σ2 H2)∧∀ x H2,J.yld i H' x H2→gName 0 x σ' H2 fun σ3 H3=>tt σ3 H3 fun b H4=>if b=true then te σ3 H4 fun y H5=>N (acc++[y]) σ3 H5 else N acc σ3 H4)
theorem as8 {J:It}{te:TE}{tt:TT}{caps:List Nat}{σ:St} {H:Hp}{Q:VK}(n:Nat) (hz:n≤sizeLine) (Pv:Nat→List V→Hp→Prop) (h0:Pv 0 [] H) (hl:∀ i acc H,Pv i acc H→acc.length≤i)
 (hgo:∀ i acc H,i<n→Pv i acc H→J.go i H) (hst:∀ acc H,Pv n acc H→J.stop n H)
 (hs:∀ i x acc H H2,i<n→Pv i acc H→J.yld i H x H2→tt (some x::capV caps σ) H2 fun b H4=>if b=true then te (some x::capV caps σ) H4 fun y H5=>Pv (i+1) (acc++[y]) H5 else Pv (i+1) acc H4)
 (hd:∀ acc H,Pv n acc H→New H (.lst acc) Q):LcEnd J te tt caps σ H Q:=by
 refine ⟨fun i m acc σ' H=>m=n - i∧i≤n∧(∃ v,σ'=v::capV caps σ)∧Pv i acc H,⟨n,by simp,Nat.zero_le _,⟨none,rfl⟩,h0⟩,?_⟩
 rintro i m acc σ' H' ⟨rfl,hi,⟨v,rfl⟩,p⟩
 by_cases hlt:i<n
 · refine .inr ⟨hgo i acc H' hlt p,?_,fun ac σ2 H2=>(∃ v,σ2=v::capV caps σ)∧Pv (i+1) ac H2,fun ac σ2 H2 ⟨e,p'⟩=>⟨n - (i+1),by omega,rfl,hlt,e,p'⟩,fun x H2 y=>?_⟩
   · have:=hl i acc H' p
     omega
   · have eN:∀ ac H5,((∃ u,some x::capV caps σ=u::capV caps σ)∧Pv (i+1) ac H5)=Pv (i+1) ac H5:=fun ac H5=>propext ⟨And.right,fun p=>⟨⟨_,rfl⟩,p⟩⟩
     show tt (some x::capV caps σ) H2 fun b H4=>if b=true then te (some x::capV caps σ) H4 fun y H5=>((∃ u,some x::capV caps σ=u::capV caps σ)∧Pv (i+1) (acc++[y]) H5) else ((∃ u,some x::capV caps σ=u::capV caps σ)∧Pv (i+1) acc H4)
     simp only [eN]
     exact hs i x acc H' H2 hlt p y
 · have e:i=n:=by omega
   subst e
   exact .inl ⟨hst acc H' p,New.to (hd acc H' p)⟩
theorem bs7 {K:PySem.W.Frag}{a:Addr}{xs:List V}{te:TE}{tt:TT}{caps:List Nat}{σ:St} {H:Hp}{Q:VK}(hz:xs.length≤sizeLine) (Pv:Nat→List V→Hp→Prop) (h0:Pv 0 [] H) (hl:∀ i acc H,Pv i acc H→acc.length≤i∧SqL K H a xs)
 (hs:∀ i x acc H,xs[i]?=some x→Pv i acc H→tt (some x::capV caps σ) H fun b H4=>if b=true then te (some x::capV caps σ) H4 fun y H5=>Pv (i+1) (acc++[y]) H5 else Pv (i+1) acc H4)
 (hd:∀ acc H,Pv xs.length acc H→New H (.lst acc) Q):LcEnd (Itl K a) te tt caps σ H Q:=by
 refine as8 xs.length hz Pv h0 (fun i acc H p=>(hl i acc H p).1) (fun i acc H hi p=>⟨xs,xs[i],(hl i acc H p).2,by simp [hi]⟩) (fun acc H p=>⟨xs,(hl _ acc H p).2,Nat.le_refl _⟩) ?_ hd
 rintro i x acc H1 H2 hi p ⟨rfl,y⟩
 exact hs i x acc _ (y xs (hl i acc _ p).2) p
theorem c37 {K:PySem.W.Frag}{a:Addr}{xs:List V}{te:TE}{tt:TT}{caps:List Nat}{σ:St} {H:Hp}{Q:VK}(hz:xs.length≤sizeLine) (Pv:Nat→List V→Hp→Prop) (h0:Pv 0 [] H) (hl:∀ i acc H,Pv i acc H→acc.length≤i∧SqT K H a xs)
 (hs:∀ i x acc H,xs[i]?=some x→Pv i acc H→tt (some x::capV caps σ) H fun b H4=>if b=true then te (some x::capV caps σ) H4 fun y H5=>Pv (i+1) (acc++[y]) H5 else Pv (i+1) acc H4)
 (hd:∀ acc H,Pv xs.length acc H→New H (.lst acc) Q):LcEnd (Itt K a) te tt caps σ H Q:=by
 refine as8 xs.length hz Pv h0 (fun i acc H p=>(hl i acc H p).1) (fun i acc H hi p=>⟨xs,xs[i],(hl i acc H p).2,by simp [hi]⟩) (fun acc H p=>⟨xs,(hl _ acc H p).2,Nat.le_refl _⟩) ?_ hd
 rintro i x acc H1 H2 hi p ⟨rfl,y⟩
 exact hs i x acc _ (y xs (hl i acc _ p).2) p
theorem bi8 {lo:Int}{n:Nat}{te:TE}{tt:TT}{caps:List Nat}{σ:St} {H:Hp}{Q:VK}(hz:n≤sizeLine) (Pv:Nat→List V→Hp→Prop) (h0:Pv 0 [] H) (hl:∀ i acc H,Pv i acc H→acc.length≤i)
 (hs:∀ i acc H,i<n→Pv i acc H→tt (some (.int (lo+i))::capV caps σ) H fun b H4=>if b=true then te (some (.int (lo+i))::capV caps σ) H4 fun y H5=>Pv (i+1) (acc++[y]) H5 else Pv (i+1) acc H4)
 (hd:∀ acc H,Pv n acc H→New H (.lst acc) Q):LcEnd (Itr lo n) te tt caps σ H Q:=by
 refine as8 n hz Pv h0 hl (fun i acc H hi p=>hi) (fun acc H p=>Nat.le_refl _) ?_ hd
 rintro i x acc H1 H2 hi p ⟨rfl,rfl⟩
 exact hs i acc _ hi p
end
end L2
namespace L2
open PySem
theorem ex_some_and {α:Type}{a:α}{p:α→Prop}:(∃ v,some (some a)=some (some v)∧p v)↔p a:=⟨fun ⟨_,e,h⟩=>by cases e; exact h,fun h=>⟨a,rfl,h⟩⟩
def ForEnd (J:It) (g:TG) (tb:TS) (D:Ends) (σ:St) (H1:Hp):Prop:=∃ W:Nat→Nat→St→Hp→Prop,(∃ m,W 0 m σ H1)∧∀ i m σ H,W i m σ H →
 (J.stop i H∧D.nx σ H)∨(J.go i H∧∃ N:St→Hp→Prop,(∀ σ' H',N σ' H'→∃ m',m'<m∧W (i+1) m' σ' H')∧∀ x H',J.yld i H x H'→g x σ H' fun σ2 H2=>tb { D with nx:=N,ct:=N,bk:=D.nx } σ2 H2)
def CompEnd (J:It) (g:TG) (tt:TT) (te:TE) (n:Nat) (caps:List Nat) (σ:St) (H:Hp) (Q:VK):Prop:=∃ W:Nat→Nat→List V→St→Hp→Prop,(∃ m,W 0 m [] (cSt n caps σ) H)∧∀ i m acc σ' H',W i m acc σ' H' →
 (J.stop i H'∧∀ l,H' l=none→Q (.ref l) (upd H' l (.lst acc))) ∨
 (J.go i H'∧acc.length<sizeLine∧∃ N:List V→St→Hp→Prop,(∀ ac σ2 H2,N ac σ2 H2→∃ m',m'<m∧W (i+1) m' ac σ2 H2)∧∀ x H2,J.yld i H' x H2→g x σ' H2 fun σ3 H3=>tt σ3 H3 fun b H4=>if b=true then te σ3 H4 fun y H5=>N (acc++[y]) σ3 H5 else N acc σ3 H4)
section
variable {K:PySem.W.Frag}{a:Addr}{xs:List V}{te:TE}{tt:TT}{caps:List Nat}{σ:St} {H:Hp}{Q:VK}{z:Str}{lo:Int}{n:Nat}
theorem ac9 (hz:xs.length≤sizeLine) (Pv:Nat→List V→Hp→Prop) (h0:Pv 0 [] H) (hl:∀ i acc H,Pv i acc H→acc.length≤i∧SqL K H a xs)
 (hs:∀ i x acc H,xs[i]?=some x→Pv i acc H→tt (some x::capV caps σ) H fun b H4=>if b=true then te (some x::capV caps σ) H4 fun y H5=>Pv (i+1) (acc++[y]) H5 else Pv (i+1) acc H4)
 (hd:∀ acc H,Pv xs.length acc H→New H (.lst acc) Q):CompEnd (Itl K a) (gName 0) tt te 1 caps σ H Q:=bs7 hz Pv h0 hl hs hd
theorem c38 (hz:xs.length≤sizeLine) (Pv:Nat→List V→Hp→Prop) (h0:Pv 0 [] H) (hl:∀ i acc H,Pv i acc H→acc.length≤i∧SqT K H a xs)
 (hs:∀ i x acc H,xs[i]?=some x→Pv i acc H→tt (some x::capV caps σ) H fun b H4=>if b=true then te (some x::capV caps σ) H4 fun y H5=>Pv (i+1) (acc++[y]) H5 else Pv (i+1) acc H4)
 (hd:∀ acc H,Pv xs.length acc H→New H (.lst acc) Q):CompEnd (Itt K a) (gName 0) tt te 1 caps σ H Q:=c37 hz Pv h0 hl hs hd
theorem bi9 (hz:n≤sizeLine) (Pv:Nat→List V→Hp→Prop) (h0:Pv 0 [] H) (hl:∀ i acc H,Pv i acc H→acc.length≤i)
 (hs:∀ i acc H,i<n→Pv i acc H→tt (some (.int (lo+i))::capV caps σ) H fun b H4=>if b=true then te (some (.int (lo+i))::capV caps σ) H4 fun y H5=>Pv (i+1) (acc++[y]) H5 else Pv (i+1) acc H4)
 (hd:∀ acc H,Pv n acc H→New H (.lst acc) Q):CompEnd (Itr lo n) (gName 0) tt te 1 caps σ H Q:=bi8 hz Pv h0 hl hs hd
end
theorem cxOf_K {CX:CXT}{P:Program}{w:World}{K:PySem.W.Frag}{mg:Str→Option Value}{base:Heap}{N:List Str}{qual:Str}{scope:Scope}{f:Addr}{cd:Value}{A:Around}{outer:List Env}{s:Shared}{H:Hp}{E:XK} :
 (cxOf CX P w K mg base N qual scope f cd A outer s H E).K=K:=rfl
theorem cxC_K {X:Cx}{N:List Str}{scope:Scope}{cl:List (Str×Addr)}{C:Addr}{s0:Shared}{H0:Hp}{ex:List Addr}:(cxC X N scope cl C s0 H0 ex).K=X.K:=rfl
section
variable {X:Cx}
theorem a42 (K:PySem.W.Frag) (hK:X.K=K:=by rfl):IxR X (rIxL K):=hK ▸ bs2
theorem a45 (K:PySem.W.Frag) (hK:X.K=K:=by rfl):IxR X (rIxT K):=hK ▸ c06
theorem ap0 (K:PySem.W.Frag) (hK:X.K=K:=by rfl):SlR X (rSlN K):=hK ▸ bi6
theorem ac2 (K:PySem.W.Frag) (hK:X.K=K:=by rfl):CallR X (.builtin "len") (rLen K):=hK ▸ c36
theorem aa0 (K:PySem.W.Frag) (hK:X.K=K:=by rfl):CallR X (.type "list") (rListN K):=hK ▸ bs6
theorem ac3 (K:PySem.W.Frag) (hK:X.K=K:=by rfl):CallR X (.type "tuple") (rTupleN K):=hK ▸ bi7
theorem bs8 (K:PySem.W.Frag) {a:Expr}{ta:TE}(ha:PE X a ta) (he:∀ whole,isTrue a X.env whole=(do let v←whole; standAt a.pos; holding [v] (truthy v))) (hK:X.K=K:=by rfl):PT X a (tTru K ta):=hK ▸ c35 ha he
theorem a60 (K:PySem.W.Frag) {tg l:Expr}{tl:TE}(hl:PE X l tl) (hK:X.K=K:=by rfl):PI X tg l (iList K tl):=hK ▸ br6 hl
theorem b99 (K:PySem.W.Frag) {tg l:Expr}{tl:TE}(hl:PE X l tl) (hK:X.K=K:=by rfl):PI X tg l (iTup K tl):=hK ▸ bz4 hl
theorem ab6 (K:PySem.W.Frag) {pos:Pos}{es:List Expr}{k:Nat}{t:TGs}{n:Nat}(hc:X.calm=true) (h:PGs X es t) (hn:(assignEach es X.env).length=n:=by rfl) (hst:(assignEach es X.env).findIdx? (·.1)=none:=by rfl) (hK:X.K=K:=by rfl) :
 PG X (.Tuple es k pos) (gTup K n t):=hK ▸ bz1 hc h hn hst
theorem ac4 (K:PySem.W.Frag) {o e:Expr}{es:List Expr}{to:TE}{t:TA}{name:Str}{apos cpos:Pos}{T id:String}{r:V→List V→Hp→VK→Prop}(pa:PlainAttrs T) (slot:Slot T name id) (hty:typeOf (.builtin id)=pure (.type "method_descriptor")) (hm:MtR X id r) (ho:PE X o to) (ha:PA X (e::es) t)
 (hbase:attributeBase o name X.env (eval o X.env)=eval o X.env:=by rfl)
 (hfew:((backTo cpos (starEach (e::es) X.env)).all (fun x=>!x.1) && (backToKw cpos (keywordEach [] X.env)).all (fun x=>x.1.isSome) && decide ((e::es).length+([]:List Keyword).length+(if ([]:List Keyword).isEmpty then 0 else 1)<30))=true:=by rfl)
 (hline:(apos.endLine == cpos.line)=true:=by rfl) (hs:starEach (e::es) X.env=(false,eval e X.env)::starEach es X.env:=by rfl) (hplain:(backTo cpos (starEach es X.env)).any (·.1)=false:=by rfl) (hK:X.K=K:=by rfl) :
 PE X (.Call (.Attribute o name apos) (e::es) [] cpos) (tBM K T r to t):=hK ▸ ca1 pa slot hty hm ho ha hbase hfew hline hs hplain
end
theorem ac7:bootBuiltins "len"=some (.builtin "len"):=by decide +kernel
theorem ba0:bootBuiltins "sorted"=some (.builtin "sorted"):=by decide +kernel
theorem c39:bootBuiltins "sum"=some (.builtin "sum"):=by decide +kernel
theorem c40:bootBuiltins "min"=some (.builtin "min"):=by decide +kernel
theorem c41:bootBuiltins "max"=some (.builtin "max"):=by decide +kernel
theorem bp6:bootBuiltins "int"=some (.type "int"):=by decide +kernel
theorem aa6:bootBuiltins "list"=some (.type "list"):=by decide +kernel
theorem ad7:bootBuiltins "tuple"=some (.type "tuple"):=by decide +kernel
theorem bj0:bootBuiltins "range"=some (.type "range"):=by decide +kernel
theorem c42:bootBuiltins "set"=some (.type "set"):=by decide +kernel
end L2
local macro_rules | `(tactic| walk_at "rd") => `(tactic| simp only [L2.tCB, L2.tCons, L2.tNil, L2.tVar, L2.rStr, L2.tNoIf, L2.capV, List.map_nil, List.getElem?_cons_zero, L2.ex_some_and, if_true])
namespace L2
open PySem
theorem le_line {n:Nat}(h:n≤1000000):n≤sizeLine:=Nat.le_trans h (by decide)
theorem c43 {ns:List Int}{k:Nat}:cutV (ns.map V.int) none (some (k:Int))=(ns.take k).map V.int:=by
 unfold cutV
 rw [HT.sIx_none,HT.sIx_nat,List.drop_zero,Nat.sub_zero,List.length_map,List.map_take]
 by_cases h:k≤ns.length
 · rw [Nat.min_eq_left h]
 · rw [Nat.min_eq_right (by omega),List.take_of_length_le (by simp),List.take_of_length_le (by simp; omega)]
theorem bj1 {ns:List Int}{j k:Nat}:cutV (ns.map V.int) (some (j:Int)) (some (k:Int))=((ns.drop j).take (k - j)).map V.int:=by
 unfold cutV
 rw [HT.sIx_nat,HT.sIx_nat,List.length_map,List.map_take,List.map_drop]
 by_cases hj:j≤ns.length
 · rw [Nat.min_eq_left hj]
   by_cases h:k≤ns.length
   · rw [Nat.min_eq_left h]
   · rw [Nat.min_eq_right (by omega),List.take_of_length_le (by simp),List.take_of_length_le (by simp; omega)]
 · have hj':min j ns.length=ns.length:=by omega
   rw [hj',List.drop_of_length_le (by simp),List.drop_of_length_le (l:=ns.map V.int) (i:=j) (by simp; omega)]
   simp
theorem nox_K {X:Cx}:X.nox.K=X.K:=rfl
theorem wish_K {X:Cx}{E:Value→Shared→Prop}:(X.wish E).K=X.K:=rfl
section
variable {σ:St} {H:Hp}{Q:VK}{D:Ends}{nn bb cc:St→Hp→Prop}{rr:VK}{t u:TS}{ta tb tc te:TE}{tA tB:TT}{g:TG}{QT:Bool→Hp→Prop}{QA:List V→Hp→Prop}{QS:St→Hp→Prop}
theorem ca2 (h:t ⟨u ⟨nn,rr,bb,cc⟩,rr,bb,cc⟩ σ H):tSeq t u ⟨nn,rr,bb,cc⟩ σ H:=h
theorem ca3 (h:te σ H fun x H1=>g x σ H1 nn):tAsg te g ⟨nn,rr,bb,cc⟩ σ H:=h
theorem i_name {i:Nat}{v:V}(h:QS (σ.set i (some v)) H):gName i v σ H QS:=h
theorem i_var {i:Nat}{v:V}(e:σ[i]?=some (some v)) (h:Q v H):tVar i σ H Q:=⟨v,e,h⟩
theorem i_c {v:V}(h:Q v H):tC v σ H Q:=h
theorem i_op {r:R2}(h:ta σ H fun x H1=>tb σ H1 fun y H2=>r x y H2 Q):tOp r ta tb σ H Q:=h
theorem i_un {r:V→Hp→VK→Prop}(h:ta σ H fun x H1=>r x H1 Q):tUn r ta σ H Q:=h
theorem i_rU {f:Int→V}{i:Int}(h:Q (f i) H):rU f (.int i) H Q:=⟨i,rfl,h⟩
theorem i_rI {C:Int→Int→Prop}{f:Int→Int→V}{i j:Int}(c:C i j) (h:Q (f i j) H):rI C f (.int i) (.int j) H Q:=⟨i,j,rfl,rfl,c,h⟩
theorem ca4 {f:Int→Int→V}{i j:Int}(h:Q (f i j) H):rI0 f (.int i) (.int j) H Q:=⟨i,j,rfl,rfl,h⟩
theorem bs9 {i j:Int}(h:Q (.int (i+j)) H):rPlus (.int i) (.int j) H Q:=h
theorem ap1 {l b:Addr}{xs zs:List V}(h1:H l=some (.lst xs)) (h2:H b=some (.lst zs)) (z:xs.length+zs.length≤sizeLine) (h:New H (.lst (xs++zs)) Q):rPlus (.ref l) (.ref b) H Q:=⟨xs,zs,h1,h2,z,h⟩
theorem af4 {i j:Int}(c:CBig i j) (h:Q (.int (i*j)) H):rTimes (.int i) (.int j) H Q:=⟨c,h⟩
theorem decI (i j:Int):decide (V.int i=V.int j)=decide (i=j):=by rw [Bool.eq_iff_iff]; simp
theorem decS (i j:Str):decide (V.str i=V.str j)=decide (i=j):=by rw [Bool.eq_iff_iff]; simp
theorem ca5 {i j:Int}(h:Q (.bl (decide (i=j))) H):rEq (.int i) (.int j) H Q:=⟨rfl,by rw [decI]; exact h⟩
theorem ca6 {i j:Str}(h:Q (.bl (!decide (i=j))) H):rNe (.str i) (.str j) H Q:=⟨rfl,by rw [decS]; exact h⟩
theorem c44 (h:te σ H fun x H'=>∃ k,x=.bl k∧QT k H'):tTest te σ H QT:=h
theorem i_bl {k:Bool}{p:Bool→Prop}(h:p k):∃ j,V.bl k=V.bl j∧p j:=⟨k,rfl,h⟩
theorem ca7 (h:tA σ H fun b H1=>if b=true then t D σ H1 else u D σ H1):tIfS tA t u D σ H:=h
theorem i_if (h:tA σ H fun b H1=>if b=true then ta σ H1 Q else tb σ H1 Q):tIf tA ta tb σ H Q:=h
theorem ca8 (h:te σ H rr):tRet te ⟨nn,rr,bb,cc⟩ σ H:=h
theorem c45 (h:nn σ H):tNext ⟨nn,rr,bb,cc⟩ σ H:=h
theorem c46 (h:te σ H fun _ H1=>nn σ H1):tDrop te ⟨nn,rr,bb,cc⟩ σ H:=h
theorem c47 {tr:TA}(h:te σ H fun x H1=>tr σ H1 fun xs H2=>QA (x::xs) H2):tCons te tr σ H QA:=h
theorem ca9 (h:QA [] H):tNil σ H QA:=h
theorem i_cb {r:List V→Hp→VK→Prop}{ts:TA}(h:ts σ H fun vs H1=>r vs H1 Q):tCB r ts σ H Q:=h
theorem c48 {sp:Sp}{dvs:List V}{E:XK}{ts:TA}(h:ts σ H fun vs H1=>sp (vs++dvs) H1 Q E):tCall sp dvs E ts σ H Q:=h
theorem cb0 {ts:TA}(h:ts σ H fun xs H1=>xs.length≤sizeLine∧New H1 (.lst xs) Q):tLstN ts σ H Q:=h
theorem cb1 {ts:TA}(h:ts σ H fun xs H1=>xs.length≤sizeLine∧New H1 (.tup xs) Q):tTupN ts σ H Q:=h
theorem c49 {n:Nat}{P:Prop}(h:n≤sizeLine) (p:P):n≤sizeLine∧P:=⟨h,p⟩
theorem i_rgA {j:Int}{P:Prop}(h:-(2 ^ 62)≤j) (h':j<2 ^ 62) (p:P):-(2 ^ 62)≤j∧j<2 ^ 62∧P:=⟨h,h',p⟩
theorem c50 (h:QT true H):tNoIf σ H QT:=h
theorem cb3 (h:tA σ H fun c H1=>if c=true then tB σ H1 QT else QT false H1):tAnd tA tB σ H QT:=h
theorem i_or (h:tA σ H fun c H1=>if c=true then QT true H1 else tB σ H1 QT):tOr tA tB σ H QT:=h
theorem cb4 {wi:TI}(h:wi σ H fun J H1=>ForEnd J g t D σ H1):tFor wi g t D σ H:=h
theorem i_lc {wi:TI}{n:Nat}{caps:List Nat}(h:wi σ H fun J H1=>CompEnd J g tA te n caps σ H1 Q):tLC wi g tA te n caps σ H Q:=h
theorem c51 {R:It→Hp→Prop}{ts:TA}(h:ts σ H fun vs H1=>∃ j:Int,vs=[.int j]∧-(2 ^ 62)≤j∧j<2 ^ 62∧R (Itr 0 j.toNat) H1):bz5 ts σ H R:=h
theorem bt0 {K:PySem.W.Frag}{R:It→Hp→Prop}(h:te σ H fun x H1=>∃ a,x=.ref a∧(∃ xs,SqL K H1 a xs)∧R (Itl K a) H1):iList K te σ H R:=h
theorem c52 {K:PySem.W.Frag}{R:It→Hp→Prop}(h:te σ H fun x H1=>∃ a,x=.ref a∧(∃ xs,SqT K H1 a xs)∧R (Itt K a) H1):iTup K te σ H R:=h
theorem cb5 {j:Int}{p:Int→Prop}(h:p j):∃ i:Int,[V.int j]=[V.int i]∧p i:=⟨j,rfl,h⟩
theorem cb6 {a:Addr}{p:Addr→Prop}(h:p a):∃ b,V.ref a=V.ref b∧p b:=⟨a,rfl,h⟩
theorem i_bm {K:PySem.W.Frag}{T:String}{r:V→List V→Hp→VK→Prop}{to:TE}{ts:TA}(h:to σ H fun x H1=>tyV K T x H1∧ts σ H1 fun xs H2=>r x xs H2 Q):tBM K T r to ts σ H Q:=h
theorem cb7 {K:PySem.W.Frag}{z:Str}{P:Prop}(h:P):tyV K "str" (.str z) H∧P:=⟨rfl,h⟩
theorem a99 {K:PySem.W.Frag}{p:Addr}{xs:List V}{i:Int}{v:V}(h1:SqL K H p xs) (h2:atI xs i=some v) (h:Q v H):rIxL K (.ref p) (.int i) H Q:=⟨p,xs,i,v,rfl,rfl,h1,h2,h⟩
theorem a81 {K:PySem.W.Frag}{p:Addr}{xs:List V}{i:Int}{v:V}(h1:SqT K H p xs) (h2:atI xs i=some v) (h:Q v H):rIxT K (.ref p) (.int i) H Q:=⟨p,xs,i,v,rfl,rfl,h1,h2,h⟩
theorem i_sl {r:V→Option Int→Option Int→Hp→VK→Prop}{tl th:TO}(h:te σ H fun x H1=>tl σ H1 fun l H2=>th σ H2 fun u H3=>r x l u H3 Q):tSl r te tl th σ H Q:=h
theorem bj2 {QO:Option Int→Hp→Prop}(h:QO none H):tNoPart σ H QO:=h
theorem c53 {QO:Option Int→Hp→Prop}(h:te σ H fun x H1=>∃ i,x=.int i∧QO (some i) H1):tPart te σ H QO:=h
theorem cb8 {i:Int}{p:Int→Prop}(h:p i):∃ j,V.int i=V.int j∧p j:=⟨i,rfl,h⟩
theorem bt1 {K:PySem.W.Frag}{a:Addr}{xs:List V}{lo hi:Option Int}(h1:SqL K H a xs) (h:New H (.lst (cutV xs lo hi)) Q):rSlN K (.ref a) lo hi H Q:=⟨a,xs,rfl,h1,h⟩
theorem bt2 {A B:Prop}(h:A):if true=true then A else B:=iteT h
theorem bt3 {A B:Prop}(h:B):if false=true then A else B:=iteF h
theorem bp7 {c A B:Prop} [Decidable c] (hc:c) (h:A):if decide c=true then A else B:=by rw [decide_eq_true hc]; exact iteT h
theorem bp8 {c A B:Prop} [Decidable c] (hc:¬ c) (h:B):if decide c=true then A else B:=by rw [decide_eq_false hc]; exact iteF h
theorem c54 {c A B:Prop} [Decidable c] (hc:¬ c) (h:A):if (!decide c)=true then A else B:=by rw [decide_eq_false hc]; exact iteT h
theorem c55 {c A B:Prop} [Decidable c] (hc:c) (h:B):if (!decide c)=true then A else B:=by rw [decide_eq_true hc]; exact iteF h
theorem ai4 {K:PySem.W.Frag}{n:Nat}{ts:TGs}{a:Addr}{xs:List V}(h1:SqT K H a xs) (h2:xs.length=n) (h:ts xs σ H QS):gTup K n ts (.ref a) σ H QS:=⟨a,xs,rfl,h1,h2,h⟩
theorem c56 (h:QS σ H):gNil [] σ H QS:=⟨rfl,h⟩
theorem bt4 {gt:TG}{us:TGs}{v:V}{r:List V}(h:gt v σ H fun σ' H'=>us r σ' H' QS):gCons gt us (v::r) σ H QS:=⟨v,r,rfl,h⟩
theorem cb9 {K:PySem.W.Frag}(h:te σ H fun x H'=>∃ k,TruV K x H' k∧QT k H'):tTru K te σ H QT:=h
theorem c57 {K:PySem.W.Frag}{k:Bool}{p:Bool→Prop}(h:p k):∃ j,TruV K (.bl k) H j∧p j:=⟨k,rfl,h⟩
theorem ag9 {K:PySem.W.Frag}{p:Addr}{xs:List V}(h1:SqL K H p xs) (h:Q (.int xs.length) H):rLen K [V.ref p] H Q:=⟨_,_,rfl,.inl ⟨xs,h1,rfl⟩,h⟩
theorem bp9 {K:PySem.W.Frag}{p:Addr}{xs:List V}(h1:SqT K H p xs) (h:Q (.int xs.length) H):rLen K [V.ref p] H Q:=⟨_,_,rfl,.inr ⟨xs,h1,rfl⟩,h⟩
theorem ab7 {K:PySem.W.Frag}{p:Addr}{ys:List V}(h1:SqL K H p ys) (h:New H (.lst ys) Q):rListN K [.ref p] H Q:=⟨p,ys,rfl,.inl h1,h⟩
theorem ad8 {K:PySem.W.Frag}{p:Addr}{ys:List V}(h1:SqL K H p ys) (h:New H (.tup ys) Q):rTupleN K [.ref p] H Q:=⟨p,ys,rfl,h1,h⟩
end
end L2
namespace L2
open PySem PySem.Spec PyProof.Rows
section
variable {X:Cx}
end
theorem ap2 {K:PySem.W.Frag}{a:Addr}{xs:List V}{te:TE}{tt:TT}{caps:List Nat}{σ:St} {H:Hp}{Q:VK}(hz:xs.length≤sizeLine) (Pv:Nat→List V→Hp→Prop) (h0:Pv 0 [] H) (hl:∀ i acc H,Pv i acc H→acc.length≤i∧SqL K H a xs)
 (hs:∀ i x acc H,xs[i]?=some x→Pv i acc H→∃ p u v,x=.ref p∧SqT K H p [u,v]∧tt (some u::some v::capV caps σ) H fun b H4=>if b=true then te (some u::some v::capV caps σ) H4 fun y H5=>Pv (i+1) (acc++[y]) H5 else Pv (i+1) acc H4)
 (hd:∀ acc H,Pv xs.length acc H→New H (.lst acc) Q):CompEnd (Itl K a) (gTup K 2 (gCons (gName 0) (gCons (gName 1) gNil))) tt te 2 caps σ H Q:=by
 refine ⟨fun i m acc σ' H=>m=xs.length - i∧i≤xs.length∧(∃ u v,σ'=u::v::capV caps σ)∧Pv i acc H,⟨xs.length,by simp,Nat.zero_le _,⟨none,none,rfl⟩,h0⟩,?_⟩
 rintro i m acc σ' H' ⟨rfl,hi,⟨u0,v0,rfl⟩,p⟩
 obtain ⟨hl1,hq⟩:=hl i acc H' p
 by_cases hlt:i<xs.length
 · refine .inr ⟨⟨xs,xs[i],hq,by simp [hlt]⟩,by omega,fun ac σ2 H2=>(∃ u v,σ2=u::v::capV caps σ)∧Pv (i+1) ac H2,fun ac σ2 H2 ⟨e,p'⟩=>⟨xs.length - (i+1),by omega,rfl,hlt,e,p'⟩,fun x H2 y=>?_⟩
   obtain ⟨e,y⟩:=y
   subst e
   obtain ⟨q,u,v,rfl,hT,hst⟩:=hs i x acc _ (y xs hq) p
   have eN:∀ ac H5,((∃ u1 v1,some u::some v::capV caps σ=u1::v1::capV caps σ)∧Pv (i+1) ac H5)=Pv (i+1) ac H5:=fun ac H5=>propext ⟨And.right,fun p=>⟨⟨_,_,rfl⟩,p⟩⟩
   refine ⟨q,[u,v],rfl,hT,rfl,u,[v],rfl,v,[],rfl,rfl,?_⟩
   show tt (some u::some v::capV caps σ) _ fun b H4=>if b=true then te (some u::some v::capV caps σ) H4 fun y H5=>((∃ u1 v1,some u::some v::capV caps σ=u1::v1::capV caps σ)∧Pv (i+1) (acc++[y]) H5) else ((∃ u1 v1,some u::some v::capV caps σ=u1::v1::capV caps σ)∧Pv (i+1) acc H4)
   simp only [eN]
   exact hst
 · have e:i=xs.length:=by omega
   subst e
   exact .inl ⟨⟨xs,hq,Nat.le_refl _⟩,New.to (hd acc H' p)⟩
section
variable {σ:St} {H:Hp}{Q:VK}
theorem ab9 {l:Addr}{xs:List V}{y:V}(h1:H l=some (.lst xs)) (hz:xs.length<sizeLine) (h:Q .non (upd H l (.lst (xs++[y])))):rAppend (.ref l) [y] H Q:=⟨l,xs,y,rfl,rfl,h1,hz,h⟩
theorem ah0 {K:PySem.W.Frag}{l:Addr}{xs:List V}{P:Prop}(h1:SqL K H l xs) (h:P):tyV K "list" (.ref l) H∧P:=⟨.inl ⟨rfl,xs,h1⟩,h⟩
end
def Tups (H H':Hp):Prop:=∀ b xs,H b=some (.tup xs)→H' b=some (.tup xs)
theorem Same.tups {H H':Hp}(s:Same H H'):Tups H H':=fun b xs h=>s b _ h
theorem Tups.trans {H H1 H2:Hp}(a:Tups H H1) (b:Tups H1 H2):Tups H H2:=fun c xs h=>b c xs (a c xs h)
theorem Tups.upd {H:Hp}{l:Addr}{xs:List V}{o:HO}(h:H l=some (.lst xs)):Tups H (upd H l o):=fun b ys e=>by rw [a08 (ac8 e h (fun z=>nomatch z))]; exact e
end L2
namespace L2
open PySem
theorem Same.updNew {H H1:Hp}{l:Addr}{o:HO}(s:Same H H1) (h:H l=none):Same H (upd H1 l o):=fun b u e=>by rw [a08 (a03 e h)]; exact s b u e
end L2
namespace L2
open PySem PySem.Spec PyProof.Rows
end L2
namespace L2
open PySem
def pick (ys ws:List Str):List Str:=ws.filter fun w=>decide (w∈ys)
end L2
namespace L2
open PySem PySem.Spec PyProof.Rows
end L2
namespace L2
open PySem
inductive Tr where
 | non
 | int (i:Int)
 | str (s:Str)
 | tup (xs:List Tr)
 | lst (xs:List Tr)
mutual
def Tr.At (H:Hp):Tr→V→List Addr→Prop
 | .non,v,fs=>v=.non∧fs=[]
 | .int i,v,fs=>v=.int i∧fs=[]
 | .str s,v,fs=>v=.str s∧fs=[]
 | .tup xs,v,fs=>∃ a vs,v=.ref a∧H a=some (.tup vs)∧Tr.Ats H xs vs fs
 | .lst xs,v,fs=>∃ a vs gs,v=.ref a∧H a=some (.lst vs)∧Tr.Ats H xs vs gs∧fs=a::gs
def Tr.Ats (H:Hp):List Tr→List V→List Addr→Prop
 | [],vs,fs=>vs=[]∧fs=[]
 | x::xs,vs,fs=>∃ v ws f g,vs=v::ws∧fs=f++g∧Tr.At H x v f∧Tr.Ats H xs ws g
end
def Keep (fs:List Addr) (H H':Hp):Prop:=Tups H H'∧∀ a∈fs,∀ xs,H a=some (.lst xs)→H' a=some (.lst xs)
theorem Same.keep {H H':Hp}(s:Same H H') (fs:List Addr):Keep fs H H':=⟨s.tups,fun a _ xs h=>s a _ h⟩
theorem Keep.trans {fs:List Addr}{H H1 H2:Hp}(a:Keep fs H H1) (b:Keep fs H1 H2):Keep fs H H2:=⟨a.1.trans b.1,fun c m xs h=>b.2 c m xs (a.2 c m xs h)⟩
theorem Keep.sub {fs gs:List Addr}{H H':Hp}(k:Keep fs H H') (h:∀ a∈gs,a∈fs):Keep gs H H':=⟨k.1,fun a m=>k.2 a (h a m)⟩
mutual
theorem Tr.At.mono {H H':Hp}:∀ {x:Tr}{v:V}{fs:List Addr},x.At H v fs→Keep fs H H'→x.At H' v fs
 | .non,_,_,h,_=>by simpa only [Tr.At] using h
 | .int _,_,_,h,_=>by simpa only [Tr.At] using h
 | .str _,_,_,h,_=>by simpa only [Tr.At] using h
 | .tup xs,v,fs,h,k=>by
   simp only [Tr.At] at h ⊢
   obtain ⟨a,vs,e,g,r⟩:=h
   exact ⟨a,vs,e,k.1 _ _ g,Tr.Ats.mono r k⟩
 | .lst xs,v,fs,h,k=>by
   simp only [Tr.At] at h ⊢
   obtain ⟨a,vs,gs,e,g,r,rfl⟩:=h
   exact ⟨a,vs,gs,e,k.2 _ (by simp) _ g,Tr.Ats.mono r (k.sub fun b m=>by simp [m]),rfl⟩
theorem Tr.Ats.mono {H H':Hp}:∀ {xs:List Tr}{vs:List V}{fs:List Addr},Tr.Ats H xs vs fs→Keep fs H H'→Tr.Ats H' xs vs fs
 | [],_,_,h,_=>by simpa only [Tr.Ats] using h
 | x::xs,vs,fs,h,k=>by
   simp only [Tr.Ats] at h ⊢
   obtain ⟨v,ws,f,g,e,rfl,a,b⟩:=h
   exact ⟨v,ws,f,g,e,rfl,Tr.At.mono a (k.sub fun c m=>by simp [m]),Tr.Ats.mono b (k.sub fun c m=>by simp [m])⟩
end
theorem Tr.Ats.snoc {H:Hp}:∀ {xs:List Tr}{vs:List V}{fs gs:List Addr}{x:Tr}{v:V},Tr.Ats H xs vs fs→x.At H v gs→Tr.Ats H (xs++[x]) (vs++[v]) (fs++gs)
 | [],vs,fs,gs,x,v,h,a=>by
   simp only [Tr.Ats] at h
   obtain ⟨rfl,rfl⟩:=h
   simp only [List.nil_append,Tr.Ats]
   exact ⟨v,[],gs,[],rfl,by simp,a,rfl,rfl⟩
 | y::xs,vs,fs,gs,x,v,h,a=>by
   simp only [Tr.Ats] at h
   obtain ⟨w,ws,f,g,rfl,rfl,b,c⟩:=h
   simp only [List.cons_append,Tr.Ats]
   exact ⟨w,ws++[v],f,g++gs,rfl,by simp,b,c.snoc a⟩
theorem Tr.Ats.len {H:Hp}:∀ {xs:List Tr}{vs:List V}{fs:List Addr},Tr.Ats H xs vs fs→vs.length=xs.length
 | [],vs,fs,h=>by
   simp only [Tr.Ats] at h
   obtain ⟨rfl,rfl⟩:=h
   rfl
 | y::xs,vs,fs,h=>by
   simp only [Tr.Ats] at h
   obtain ⟨w,ws,f,g,rfl,rfl,b,c⟩:=h
   simp [c.len]
theorem Tr.Ats.get {H:Hp}:∀ {xs:List Tr}{vs:List V}{fs:List Addr},Tr.Ats H xs vs fs→∀ (i:Nat) (v:V),vs[i]?=some v→∃ x f,xs[i]?=some x∧x.At H v f∧∀ a∈f,a∈fs
 | [],vs,fs,h,i,v,e=>by
   simp only [Tr.Ats] at h
   obtain ⟨rfl,rfl⟩:=h
   simp at e
 | y::xs,vs,fs,h,i,v,e=>by
   simp only [Tr.Ats] at h
   obtain ⟨w,ws,f,g,rfl,rfl,b,c⟩:=h
   cases i with
   | zero =>
     simp at e
     subst e
     exact ⟨y,f,rfl,b,fun a m=>by simp [m]⟩
   | succ i =>
     obtain ⟨x,f',h1,h2,h3⟩:=c.get i v (by simpa using e)
     exact ⟨x,f',by simpa using h1,h2,fun a m=>by simp [h3 a m]⟩
end L2
namespace L2
open PySem PySem.Spec PyProof.Rows
mutual
def Tr.h:Tr→Nat
 | .non=>0
 | .int _=>0
 | .str _=>0
 | .tup xs=>Tr.hs xs+1
 | .lst xs=>Tr.hs xs+1
def Tr.hs:List Tr→Nat
 | []=>0
 | x::xs=>max x.h (Tr.hs xs)
end
theorem bq0 (n:Nat):((List.range n).all fun _=>true)=true:=by simp
theorem a68 (A:Around):A.in1.units=A.units+1:=rfl
section
variable {X:Cx}{pins:List (Addr×Obj)}{σ:St} {H:Hp}{s:Shared}
end
section
variable {prog:Program}{w:World}{A:Around}{E:Value→Shared→Prop}
end
section
variable {X:Cx}{pos:Pos}
end
theorem aj4 {H:Hp}{Q:VK}{l b:Addr}{xs zs:List V}(h1:H l=some (.lst xs)) (h2:H b=some (.lst zs)) (hz:xs.length+zs.length≤sizeLine) (h:Q .non (upd H l (.lst (xs++zs)))):rExtend (.ref l) [.ref b] H Q:=⟨l,b,xs,zs,rfl,rfl,h1,h2,hz,h⟩
end L2
namespace L2
open PySem
section
variable {H:Hp}{v:V}{fs:List Addr}
end
section
variable {H:Hp}{v:V}{fs:List Addr}
end
end L2
namespace L2
open PySem PySem.Spec PyProof.Rows
section
variable {X:Cx}
end
end L2
namespace L2
def keptP (ws:List (Option Nat)) (n:Nat):List Nat:=(List.range n).filter fun i=>decide (ws[i]?=some none)
def kept (ws:List (Option Nat)):List Nat:=keptP ws ws.length
end L2
namespace L2
open PySem
section
variable {prog:Program}{w:World}{K:Type} [DecidableEq K] {knd:KeyKind prog w K}{A:Around}{E:Value→Shared→Prop}{s:Shared}
end
section
variable {prog:Program}{w:World}{K:Type} [DecidableEq K] {knd:KeyKind prog w K}{A:Around}{E:Value→Shared→Prop}{s:Shared}
end
end L2
namespace L2
open PySem PySem.Spec PyProof.Rows
section
variable {X:Cx}{pins:List (Addr×Obj)}{σ:St} {H:Hp}{s:Shared}
theorem Inv.turnedL {t':Nat}{h':Heap}{ch:List Addr}(I:Inv X pins σ H s) (k:∀ b o,b∉ch→s.heap.get? b=some o→h'.get? b=some o) (hf:∀ b∈ch,FpOk X pins H b):Inv X pins σ H { s with heap:=h',toks:=t' }:=by
 have nit:∀ b u,H b=some u→b∉ch:=fun b u e z=>by rw [(hf b z).1] at e; cases e
 refine I.step (g':=s.gens) (d':=s.drawn) (ch:=ch) (fun b hb=>⟨(hf b hb).2.2.2.1,(hf b hb).2.1,(hf b hb).2.2.2.2.1,(hf b hb).2.2.2.2.2⟩) (fun b o _ _ hc e _=>k b o hc e) (fun b o _ _ hc e _=>⟨o.slots,k b o hc e⟩) (fun _ _ _ _ n=>n)
  (fun b o hc e=>⟨o,k b o hc e⟩) (fun _ _ e=>e) (fun _ _ _ e=>e) (fun b ps e=>⟨#[],by rw [e]; simp⟩) (fun m hm=>?_) (fun b u e=>?_) I.bare
 · obtain ⟨o,es,ep,ho,r⟩:=hm
   exact ⟨o,es,ep,k _ o (fun z=>(hf _ z).2.1 rfl) ho,r⟩
 · refine (I.hok b u e).stay (fun c v hc q=>k c v ?_ q) (fun _ q=>q) fun _ _ q=>q
   rcases hc with z | z
   · rw [z]; exact nit b u e
   · exact nit c _ z
end
def Ite (K:PySem.W.Frag) (a:Addr):It :=
 ⟨fun i H=>∃ xs x,SqL K H a xs∧xs[i]?=some x,fun i H v H'=>∃ p y,v=.ref p∧H p=none∧Same H H'∧H' p=some (.tup [.int (i:Nat),y])∧∀ xs,SqL K H a xs→xs[i]?=some y,fun i H=>∃ xs,SqL K H a xs∧xs.length≤i⟩
theorem ba1 {P:Program}{w:World}{K:PySem.W.Frag}{elts:List Expr}{x1:Nat}{pos:Pos}(a e it:Addr) (hne:e≠it) :
 Turn P w K (.Tuple elts x1 pos) (Ite K a) [e,it] e (fun i h=>(∃ old,IsEnum h e it (i:Nat) old)∧h.IsListIter it a i) where
 mem:=by simp
 obj:=fun i h st b hb=>by
  obtain ⟨⟨old,he⟩,o,e2,c,d⟩:=st
  rcases (by simpa using hb:b=e∨b=it) with rfl | rfl
  · exact ⟨_,he,fun v z=>by cases z⟩
  · exact ⟨o,e2,fun v z=>by rw [d] at z; cases z⟩
 keep:=fun i h h' st k=>⟨let ⟨old,he⟩:=st.1; ⟨old,k e (by simp) _ he⟩,st.2.at fun o x=>k it (by simp) o x⟩
 item:=by
  intro X hP hw hK hc i pins s σ H E I hf st hg
  subst hP hw hK
  obtain ⟨xs,x,hq,hx⟩:=hg
  obtain ⟨its,rv,p,hz⟩:=I.list hq
  obtain ⟨u,hu,ru⟩:=rv.get hx
  obtain ⟨⟨old,he⟩,hit⟩:=st
  have helt:e<s.heap.objs.size:=Heap.lt_size he
  have hilt:it<s.heap.objs.size:=by obtain ⟨_,q,_⟩:=hit; exact Heap.lt_size q
  refine wpAny_pyNext_enum_item he hit p.isList (x:=u) (by simpa using hu) hne fun h' ho hit' hT hsz hk=>?_
  have fr:H s.heap.objs.size=none:=I.hok.fresh (Nat.le_refl _)
  have I1:Inv X pins σ H { s with heap:=h',toks:=s.toks+1 }:=I.turnedL (ch:=[e,it]) (fun b o hb q=>hk b o (fun z=>hb (by simp [z])) (fun z=>hb (by simp [z])) q) hf
  have I2:Inv X pins σ (upd H s.heap.objs.size (.tup [.int (i:Nat),x])) { s with heap:=h',toks:=s.toks+1 }:=I1.adopt (o:=.tup [.int (i:Nat),x]) fr I.sz (Nat.ne_of_gt I.lt) (fun y c ec z=>by
   obtain ⟨v,q⟩:=I.cell y c ec
   exact absurd q.lt (by rw [z]; exact Nat.lt_irrefl _)) (fun q hq z=>absurd (Heap.lt_size (I.pin q hq).1) (by rw [z]; exact Nat.lt_irrefl _))
   ⟨le_line (by simp),[.int (i:Nat) s.toks,u],.cons ⟨_,rfl⟩ (.cons ru .nil),⟨_,hT,rfl,_,rfl⟩⟩
  have ne:∀ b∈[e,it],b≠s.heap.objs.size:=fun b hb=>by
   rcases (by simpa using hb:b=e∨b=it) with rfl | rfl
   · exact Nat.ne_of_lt helt
   · exact Nat.ne_of_lt hilt
  have hf2:∀ b∈[e,it],FpOk X pins (upd H s.heap.objs.size (.tup [.int (i:Nat),x])) b:=fun b hb=>⟨by rw [a08 (ne b hb)]; exact (hf b hb).1,(hf b hb).2⟩
  refine ⟨_,rfl,wpAny_letOwnedTupleGo_enum ho fun h2 he2 hs2=>⟨.ref s.heap.objs.size,_,I2.turnedL (t':=s.toks+1) (ch:=[e]) (fun b o hb q=>(hs2.2 b (fun z=>hb (by simp [z]))).trans q) (fun b hb=>hf2 b (by simp at hb; simp [hb])),rfl,⟨s.heap.objs.size,x,rfl,fr,Same.new fr,a34,fun ys hy=>by rw [I.list_inj hy hq]; exact hx⟩,⟨⟨_,by simpa using he2⟩,hit'.at fun o q=>(hs2.2 it (Ne.symm hne)).trans q⟩,fun b hb=>(hf2 b hb).1⟩⟩
 done:=by
  intro X hP hw hK hc i pins s σ H E I hf st hg
  subst hP hw hK
  obtain ⟨xs,hq,hx⟩:=hg
  obtain ⟨its,rv,p,hz⟩:=I.list hq
  obtain ⟨⟨old,he⟩,hit⟩:=st
  have hl:=rv.length
  exact wpAny_pyNext_enum_end (I.ok.hd hc) he hit p.isList (by simp; omega) fun h' eb=>⟨rfl,I.turnedL (t':=s.toks) (ch:=[it]) (fun b o hb q=>eb b o (fun z=>hb (by simp [z])) q) (fun b hb=>hf b (by simp at hb; simp [hb]))⟩
 self:=fun A i s Q E st h=>let ⟨old,he⟩:=st.1; wpAny_pyIter_enum he h
section
variable {X:Cx}{elts:List Expr}{x1:Nat}{tpos:Pos}
def iEnum (K:PySem.W.Frag) (ta:TA):TI:=fun σ H R=>ta σ H fun vs H1=>∃ a,vs=[.ref a]∧(∃ xs,SqL K H1 a xs)∧R (Ite K a) H1
theorem ba2 (K:PySem.W.Frag) {a:Expr}{ta:TA}{p pos:Pos}(hg:Gl X "enumerate") (hm:X.mg "enumerate"=none) (ha:PA X [a] ta) (hs:starEach [a] X.env=[(false,eval a X.env)]:=by rfl) (hK:X.K=K:=by rfl):PI X (.Tuple elts x1 tpos) (.Call (.Name "enumerate" p) [a] [] pos) (iEnum K ta):=by
 subst hK
 intro pins s σ H R I h
 refine Call_ (ag4 I hg hm boot_enumerate (PyProof.Rows.callWith_type1 (thn (ha pos pins s σ H _ I h) fun us s1 ⟨vs,H1,I1,r1,q1⟩=>?_) hs rfl))
 obtain ⟨l,e,⟨xs,hq⟩,q⟩:=q1
 subst e
 obtain ⟨u,rfl,ru⟩:=b86 r1
 cases ru
 obtain ⟨its,rv,pl,hz⟩:=I1.list hq
 refine call_enumerate_list pl.isList fun h' he hit hsz hk=>?_
 refine wpAny_pyIter_enum he ?_
 refine ⟨s1.heap.objs.size+1,[s1.heap.objs.size+1,s1.heap.objs.size],_,_,H1,rfl,I1.kept (t':=s1.toks) hk,ba1 l _ _ (Nat.succ_ne_self _),⟨⟨_,he⟩,hit⟩,fun b hb=>?_,q⟩
 have hb':s1.heap.objs.size≤b:=by
  rcases (by simpa using hb:b=s1.heap.objs.size+1∨b=s1.heap.objs.size) with rfl | rfl <;> omega
 exact I1.fpOk hb' (I1.hok.fresh hb')
theorem c58 {K:PySem.W.Frag}{σ:St} {H:Hp}{R:It→Hp→Prop}{ts:TA}(h:ts σ H fun vs H1=>∃ a,vs=[.ref a]∧(∃ xs,SqL K H1 a xs)∧R (Ite K a) H1):iEnum K ts σ H R:=h
theorem c59 {a:Addr}{p:Addr→Prop}(h:p a):∃ b,[V.ref a]=[V.ref b]∧p b:=⟨a,rfl,h⟩
end
section
variable {X:Cx}
def c60:List V→Hp→VK→Prop:=fun xs H Q=>∃ a b:Int,xs=[.int a,.int b]∧Q (.int (min a b)) H
theorem b54 (hh:X.calm=true:=by rfl):CallR X (.builtin "min") c60:=by
 intro pins s σ H xs us Q I r h
 obtain ⟨a,b,rfl,q⟩:=h
 obtain ⟨u,v,rfl,⟨t1,rfl⟩,⟨t2,rfl⟩⟩:=c01 r
 refine min_two_ints (I.ok.hd hh) fun h' tk hk=>?_
 have I1:Inv X pins σ H { s with heap:=h',toks:=tk }:=I.kept hk
 by_cases c:b<a
 · rw [if_pos c]
   exact ⟨.int b,H,I1,⟨_,rfl⟩,by rw [show min a b=b by omega] at q; exact q⟩
 · rw [if_neg c]
   exact ⟨.int a,H,I1,⟨_,rfl⟩,by rw [show min a b=a by omega] at q; exact q⟩
theorem c61 {H:Hp}{Q:VK}{a b:Int}(h:Q (.int (min a b)) H):c60 [.int a,.int b] H Q:=⟨a,b,rfl,h⟩
theorem c62 {to ti:TE}{t:TSet}{v:V}{σ:St} {H:Hp}{Q:St→Hp→Prop}(h:to σ H fun o H1=>ti σ H1 fun i H2=>t o i v H2 fun H3=>Q σ H3):gSub to ti t v σ H Q:=h
theorem as9 {H:Hp}{Q:Hp→Prop}{p:Addr}{xs:List V}{k:Int}{j:Nat}{v:V}(h1:H p=some (.lst xs)) (h2:ixN xs.length k=some j) (h:Q (upd H p (.lst (xs.set j v)))):rSetL (.ref p) (.int k) v H Q:=⟨p,xs,k,j,rfl,rfl,h1,h2,h⟩
theorem rT {R:Bool→Hp→Prop}{H:Hp}{c:Prop} [Decidable c] (h:R (decide c) H) (hc:c):R true H:=by rw [decide_eq_true hc] at h; exact h
theorem bt5 {c:TT}{tb:TS}{nn bb cc:St→Hp→Prop}{rr:VK}{σ:St} {H:Hp}(W:Nat→St→Hp→Prop) (m:Nat) (h0:W m σ H)
 (hs:∀ m σ H,W m σ H→c σ H fun b H1=>if b=true then ∃ N:St→Hp→Prop,(∀ σ' H',N σ' H'→∃ m',m'<m∧W m' σ' H')∧tb ⟨N,rr,nn,N⟩ σ H1 else nn σ H1):tWhile c tb ⟨nn,rr,bb,cc⟩ σ H:=⟨W,⟨m,h0⟩,hs⟩
end
end L2
namespace L2
open PySem
section
variable {H:Hp}{x:Tr}{xs:List Tr}{v:V}{vs ws:List V}
theorem ats_nil0:Tr.Ats H [] vs []↔vs=[]:=by simp [Tr.Ats]
theorem ats_cons0:Tr.Ats H (x::xs) vs []↔∃ v ws,vs=v::ws∧x.At H v []∧Tr.Ats H xs ws []:=by
 simp only [Tr.Ats]
 constructor
 · rintro ⟨v,ws,f,g,h1,h2,h3,h4⟩
   obtain ⟨rfl,rfl⟩:=List.append_eq_nil_iff.mp h2.symm
   exact ⟨v,ws,h1,h3,h4⟩
 · rintro ⟨v,ws,h1,h3,h4⟩
   exact ⟨v,ws,[],[],h1,rfl,h3,h4⟩
theorem at_tup0:(Tr.tup xs).At H v []↔∃ a vs,v=.ref a∧H a=some (.tup vs)∧Tr.Ats H xs vs []:=by simp only [Tr.At]
theorem at_int0 {i:Int}:(Tr.int i).At H v []↔v=.int i:=by simp [Tr.At]
theorem at_str0 {i:Str}:(Tr.str i).At H v []↔v=.str i:=by simp [Tr.At]
theorem ats_app0:∀ {xs ys:List Tr}{vs:List V},Tr.Ats H (xs++ys) vs []↔∃ us ws,vs=us++ws∧Tr.Ats H xs us []∧Tr.Ats H ys ws []
 | [],ys,vs=>by
   constructor
   · intro h; exact ⟨[],vs,rfl,ats_nil0.mpr rfl,h⟩
   · rintro ⟨us,ws,rfl,h1,h2⟩
     rw [ats_nil0.mp h1]
     exact h2
 | x::xs,ys,vs=>by
   constructor
   · intro h
     obtain ⟨v,ws,rfl,h1,h2⟩:=ats_cons0.mp h
     obtain ⟨us,zs,rfl,h3,h4⟩:=ats_app0.mp h2
     exact ⟨v::us,zs,rfl,ats_cons0.mpr ⟨v,us,rfl,h1,h3⟩,h4⟩
   · rintro ⟨us,ws,rfl,h1,h2⟩
     obtain ⟨v,us',rfl,h3,h4⟩:=ats_cons0.mp h1
     exact ats_cons0.mpr ⟨v,us'++ws,rfl,h3,ats_app0.mpr ⟨us',ws,rfl,h4,h2⟩⟩
theorem Tr.At.same {H H':Hp}(h:x.At H v []) (s:Same H H'):x.At H' v []:=h.mono (s.keep _)
theorem Tr.Ats.same {H H':Hp}(h:Tr.Ats H xs vs []) (s:Same H H'):Tr.Ats H' xs vs []:=h.mono (s.keep _)
end
section
variable {H:Hp}{v:V}{a:Addr}
theorem ap3 {x y:Tr}{u v:V}(e:H a=some (.tup [u,v])) (h:x.At H u []) (h2:y.At H v []):(Tr.tup [x,y]).At H (.ref a) []:=at_tup0.mpr ⟨a,_,rfl,e,ats_cons0.mpr ⟨_,_,rfl,h,ats_cons0.mpr ⟨_,_,rfl,h2,ats_nil0.mpr rfl⟩⟩⟩
theorem az6 {i:Int}:(Tr.int i).At H (.int i) []:=at_int0.mpr rfl
theorem str_at0 {i:Str}:(Tr.str i).At H (.str i) []:=at_str0.mpr rfl
end
def natsV (l:List Nat):List V:=l.map fun k=>V.int (k:Nat)
theorem at0 (l:List Nat):natsV l=(l.map fun (k:Nat)=>(k:Int)).map V.int:=by simp [natsV]
theorem a69 (l:List Nat):(natsV l).length=l.length:=by simp [natsV]
theorem bj3 {l:List Nat}{k:Nat}(h:k<l.length):atI (natsV l) (k:Nat)=some (.int (l.getD k 0:Nat)):=a07 (by simp [natsV,h])
theorem af5 (l:List Nat) (k:Nat):natsV l++[V.int (k:Nat)]=natsV (l++[k]):=by simp [natsV]
end L2
namespace L2
open PySem PySem.Spec PyProof.Rows
section
variable {σ:St} {H:Hp}{Q:VK}{QT:Bool→Hp→Prop}{td ty tv te:TE}{nn bb cc:St→Hp→Prop}{rr:VK}
theorem i_tB (h:te σ H fun x H1=>∃ c,x=.bl c∧QT c H1):tB te σ H QT:=h
end
end L2
namespace L2
end L2
namespace L2
open PySem PySem.Spec PyProof.Rows
section
variable {X:Cx}{σ:St} {H:Hp}{Q:VK}{QT:Bool→Hp→Prop}{td ty tv te:TE}{nn bb cc:St→Hp→Prop}{rr:VK}
end
def Itz (K:PySem.W.Frag) (a b:Addr):It :=
 ⟨fun i H=>∃ xs ys x y,SqL K H a xs∧SqL K H b ys∧xs[i]?=some x∧ys[i]?=some y,fun i H v H'=>∃ p x y,v=.ref p∧H p=none∧Same H H'∧H' p=some (.tup [x,y])∧(∀ xs,SqL K H a xs→xs[i]?=some x)∧∀ ys,SqL K H b ys→ys[i]?=some y,fun i H=>∃ xs ys,SqL K H a xs∧SqL K H b ys∧(xs.length≤i∨ys.length≤i)⟩
theorem bj4 {P:Program}{w:World}{K:PySem.W.Frag}{elts:List Expr}{x1:Nat}{pos:Pos}(a b z TI TO i1 i2:Addr) (D:ZipApart z TI TO i1 i2 a b) :
 Turn P w K (.Tuple elts x1 pos) (Itz K a b) [z,TI,TO,i1,i2] z (fun i h=>IsZip h z TI TO .none∧IsPair h TI (.ref i1) (.ref i2)∧(∃ a b,IsPair h TO a b)∧h.IsListIter i1 a i∧h.IsListIter i2 b i) where
 mem:=by simp
 obj:=fun i h st c hc=>by
  obtain ⟨hz,hTI,⟨a,b,hTO⟩,⟨o1,h1,_,d1⟩,o2,h2,_,d2⟩:=st
  rcases (by simpa using hc:c=z∨c=TI∨c=TO∨c=i1∨c=i2) with rfl | rfl | rfl | rfl | rfl
  · exact ⟨_,hz,fun v q=>by cases q⟩
  · exact ⟨_,hTI,fun v q=>by cases q⟩
  · exact ⟨_,hTO,fun v q=>by cases q⟩
  · exact ⟨_,h1,fun v q=>by rw [d1] at q; cases q⟩
  · exact ⟨_,h2,fun v q=>by rw [d2] at q; cases q⟩
 keep:=fun i h h' st k=>by
  obtain ⟨hz,hTI,⟨a,b,hTO⟩,h1,h2⟩:=st
  exact ⟨k z (by simp) _ hz,k TI (by simp) _ hTI,⟨a,b,k TO (by simp) _ hTO⟩,h1.at fun o x=>k i1 (by simp) o x,h2.at fun o x=>k i2 (by simp) o x⟩
 item:=by
  intro X hP hw hK hc i pins s σ H E I hf st hg
  subst hP hw hK
  obtain ⟨xs,ys,x,y,hqa,hqb,hx,hy⟩:=hg
  obtain ⟨it1,rv1,p1,hz1⟩:=I.list hqa
  obtain ⟨it2,rv2,p2,hz2⟩:=I.list hqb
  obtain ⟨u1,hu1,ru1⟩:=rv1.get hx
  obtain ⟨u2,hu2,ru2⟩:=rv2.get hy
  obtain ⟨hz,hTI,⟨a',b',hTO⟩,h1,h2⟩:=st
  have fr:H s.heap.objs.size=none:=I.hok.fresh (Nat.le_refl _)
  have lt:∀ c∈[z,TI,TO,i1,i2],c<s.heap.objs.size:=fun c hc=>by
   obtain ⟨o1,e1,_⟩:=h1
   obtain ⟨o2,e2,_⟩:=h2
   rcases (by simpa using hc:c=z∨c=TI∨c=TO∨c=i1∨c=i2) with rfl | rfl | rfl | rfl | rfl
   · exact Heap.lt_size hz
   · exact Heap.lt_size hTI
   · exact Heap.lt_size hTO
   · exact Heap.lt_size e1
   · exact Heap.lt_size e2
  refine wpAny_pyNext_zip_item D hz hTI hTO h1 h2 p1.isList p2.isList (x:=u1) (y:=u2) (by simpa using hu1) (by simpa using hu2) fun h' a1 a2 a3 a4 a5 a6 hk=>?_
  have I1:Inv X pins σ H { s with heap:=h' }:=I.turnedL (t':=s.toks) (ch:=[z,TI,TO,i1,i2]) (fun c o hc q=>hk c o (fun e=>hc (by simp [e])) (fun e=>hc (by simp [e])) (fun e=>hc (by simp [e])) (fun e=>hc (by simp [e])) q) hf
  have I2:Inv X pins σ (upd H s.heap.objs.size (.tup [x,y])) { s with heap:=h' }:=I1.adopt (o:=.tup [x,y]) fr I.sz (Nat.ne_of_gt I.lt) (fun n c ec e=>by
   obtain ⟨v,q⟩:=I.cell n c ec
   exact absurd q.lt (by rw [e]; exact Nat.lt_irrefl _)) (fun q hq e=>absurd (Heap.lt_size (I.pin q hq).1) (by rw [e]; exact Nat.lt_irrefl _))
   ⟨le_line (by simp),[u1,u2],.cons ru1 (.cons ru2 .nil),⟨_,a5,rfl,_,rfl⟩⟩
  have hf2:∀ c∈[z,TI,TO,i1,i2],FpOk X pins (upd H s.heap.objs.size (.tup [x,y])) c:=fun c hc=>⟨by rw [a08 (Nat.ne_of_lt (lt c hc))]; exact (hf c hc).1,(hf c hc).2⟩
  refine ⟨_,rfl,wpAny_letOwnedTupleGo_zip a1 fun h2' hz' hs'=>⟨.ref s.heap.objs.size,_,I2.turnedL (t':=s.toks) (ch:=[z]) (fun c o hc q=>(hs'.2 c (fun e=>hc (by simp [e]))).trans q) (fun c hc=>hf2 c (by simp at hc; simp [hc])),rfl,⟨s.heap.objs.size,x,y,rfl,fr,Same.new fr,a34,fun q hq=>by rw [I.list_inj hq hqa]; exact hx,fun q hq=>by rw [I.list_inj hq hqb]; exact hy⟩,⟨hz',hs'.extBut _ _ D.TIz (hk _ _ D.TIz D.TITO D.TIi1 D.TIi2 hTI),⟨_,_,hs'.extBut _ _ D.TOz a2⟩,a3.extBut hs'.extBut D.i1z,a4.extBut hs'.extBut D.i2z⟩,fun c hc=>(hf2 c hc).1⟩⟩
 done:=by
  intro X hP hw hK hc i pins s σ H E I hf st hg
  subst hP hw hK
  obtain ⟨xs,ys,hqa,hqb,hx⟩:=hg
  obtain ⟨it1,rv1,p1,hz1⟩:=I.list hqa
  obtain ⟨it2,rv2,p2,hz2⟩:=I.list hqb
  obtain ⟨hz,hTI,⟨a',b',hTO⟩,h1,h2⟩:=st
  have l1:=rv1.length
  have l2:=rv2.length
  exact wpAny_pyNext_zip_end (I.ok.hd hc) D hz hTI hTO h1 h2 p1.isList p2.isList (hx.elim (fun e=>.inl (by simp; omega)) fun e=>.inr (by simp; omega)) fun h' hk=>⟨rfl,I.turnedL (t':=s.toks) (ch:=[z,TI,TO,i1,i2]) (fun c o hc q=>hk c o (fun e=>hc (by simp [e])) (fun e=>hc (by simp [e])) (fun e=>hc (by simp [e])) (fun e=>hc (by simp [e])) q) hf⟩
 self:=fun A i s Q E st h=>wpAny_pyIter_zip st.1 h
section
variable {X:Cx}{elts:List Expr}{x1:Nat}{tpos:Pos}
def iZip (K:PySem.W.Frag) (ta:TA):TI:=fun σ H R=>ta σ H fun vs H1=>∃ a b,vs=[.ref a,.ref b]∧(∃ xs,SqL K H1 a xs)∧(∃ ys,SqL K H1 b ys)∧R (Itz K a b) H1
theorem at1:bootBuiltins "zip"=some (.type "zip"):=by decide +kernel
theorem bq1 (K:PySem.W.Frag) {a b:Expr}{ta:TA}{p pos:Pos}(hg:Gl X "zip") (hm:X.mg "zip"=none) (ha:PA X [a,b] ta) (hs:starEach [a,b] X.env=[(false,eval a X.env),(false,eval b X.env)]:=by rfl) (hs2:starEach [b] X.env=[(false,eval b X.env)]:=by rfl) (hK:X.K=K:=by rfl) :
 PI X (.Tuple elts x1 tpos) (.Call (.Name "zip" p) [a,b] [] pos) (iZip K ta):=by
 subst hK
 intro pins s σ H R I h
 refine Call_ (ag4 I hg hm at1 (PyProof.Rows.callWith_type1 (thn (ha pos pins s σ H _ I h) fun us s1 ⟨vs,H1,I1,r1,q1⟩=>?_) (by rw [hs,hs2]) (by rw [hs2]; rfl)))
 obtain ⟨l1,l2,e,⟨xs,hq1⟩,⟨ys,hq2⟩,q⟩:=q1
 subst e
 obtain ⟨u1,u2,rfl,r2,r3⟩:=c01 r1
 cases r2
 cases r3
 obtain ⟨it1,rv1,p1,hz1⟩:=I1.list hq1
 obtain ⟨it2,rv2,p2,hz2⟩:=I1.list hq2
 have a1:l1<s1.heap.objs.size:=by obtain ⟨_,e,_⟩:=p1.isList; exact Heap.lt_size e
 have a2:l2<s1.heap.objs.size:=by obtain ⟨_,e,_⟩:=p2.isList; exact Heap.lt_size e
 refine call_zip_2 p1.isList p2.isList fun h' b1 b2 b3 b4 b5 b6 hk=>?_
 refine wpAny_pyIter_zip b1 ?_
 have ge:∀ c∈[s1.heap.objs.size+4,s1.heap.objs.size+2,s1.heap.objs.size+3,s1.heap.objs.size,s1.heap.objs.size+1],s1.heap.objs.size≤c:=fun c hc=>by
  simp only [List.mem_cons,List.not_mem_nil,or_false] at hc
  rcases hc with rfl | rfl | rfl | rfl | rfl
  · exact Nat.le_add_right _ _
  · exact Nat.le_add_right _ _
  · exact Nat.le_add_right _ _
  · exact Nat.le_refl _
  · exact Nat.le_add_right _ _
 have fp:∀ c∈[s1.heap.objs.size+4,s1.heap.objs.size+2,s1.heap.objs.size+3,s1.heap.objs.size,s1.heap.objs.size+1],FpOk X pins H1 c:=fun c hc=>I1.fpOk (ge c hc) (I1.hok.fresh (ge c hc))
 generalize s1.heap.objs.size=m at a1 a2 b1 b2 b3 b4 b5 b6 fp ⊢
 have D:ZipApart (m+4) (m+2) (m+3) m (m+1) l1 l2:=by
  have h1:l1<m:=a1
  have h2:l2<m:=a2
  constructor <;> first | exact Nat.ne_of_lt (Nat.lt_of_lt_of_le h1 (Nat.le_add_right _ _)) | exact Nat.ne_of_lt (Nat.lt_of_lt_of_le h2 (Nat.le_add_right _ _)) | exact Nat.ne_of_lt h1 | exact Nat.ne_of_lt h2 | (intro e; simp at e) | (intro e; exact absurd e (by omega))
 refine ⟨m+4,[m+4,m+2,m+3,m,m+1],_,_,H1,rfl,I1.kept (t':=s1.toks) hk,bj4 l1 l2 _ _ _ _ _ D,⟨b1,b2,⟨_,_,b3⟩,b4,b5⟩,fp,q⟩
end
def pl2 (k:Bool):Option Int→Option Int→Option Int
 | some x,some y=>some (if k then x+y else x - y)
 | _,_=>none
theorem bt6 {K:PySem.W.Frag}{a b:Addr}{xs ys:List V}{g:TG}{tb:TS}{D:Ends}{σ:St} {H:Hp}(hz:xs.length=ys.length) (Pv:Nat→St→Hp→Prop) (h0:Pv 0 σ H) (hl:∀ i σ H,i≤xs.length→Pv i σ H→SqL K H a xs∧SqL K H b ys)
 (hs:∀ i x y σ H q H2,xs[i]?=some x→ys[i]?=some y→Pv i σ H→Same H H2→H2 q=some (.tup [x,y])→g (.ref q) σ H2 fun σ1 H1=>tb { D with nx:=Pv (i+1),ct:=Pv (i+1),bk:=D.nx } σ1 H1)
 (hd:∀ σ H,Pv xs.length σ H→D.nx σ H):ForEnd (Itz K a b) g tb D σ H:=by
 refine ⟨fun i m σ H=>m=xs.length - i∧i≤xs.length∧Pv i σ H,⟨xs.length,by simp,Nat.zero_le _,h0⟩,?_⟩
 rintro i m σ' H' ⟨rfl,hi,p⟩
 obtain ⟨hq1,hq2⟩:=hl i σ' H' hi p
 by_cases hlt:i<xs.length
 · have hlt2:i<ys.length:=by omega
   refine .inr ⟨⟨xs,ys,xs[i],ys[i],hq1,hq2,by simp [hlt],by simp [hlt2]⟩,Pv (i+1),fun σ2 H2 p'=>⟨xs.length - (i+1),by omega,rfl,hlt,p'⟩,fun v H2 y=>?_⟩
   obtain ⟨q,x,y,rfl,hn,sm,hT,hx,hy⟩:=y
   exact hs i x y σ' H' q H2 (hx xs hq1) (hy ys hq2) p sm hT
 · have e:i=xs.length:=by omega
   subst e
   exact .inl ⟨⟨xs,ys,hq1,hq2,.inl (Nat.le_refl _)⟩,hd σ' H' p⟩
theorem cc0 {K:PySem.W.Frag}{σ:St} {H:Hp}{R:It→Hp→Prop}{ts:TA}(h:ts σ H fun vs H1=>∃ a b,vs=[.ref a,.ref b]∧(∃ xs,SqL K H1 a xs)∧(∃ ys,SqL K H1 b ys)∧R (Itz K a b) H1):iZip K ts σ H R:=h
end L2
namespace L2
open PySem
end L2
namespace L2
open PySem PySem.Spec PyProof.Rows
noncomputable instance trDec:DecidableEq Tr:=fun _ _=>Classical.propDecidable _
def IntIn (z:Int) (u:Value):Prop:=(∃ t,u=.int z t)∨∃ b:Bool,u=.bool b∧z=(if b=true then 1 else 0)
mutual
def Tr.In (h:Heap):Tr→Value→Prop
 | .non,u=>u=.none
 | .int z,u=>IntIn z u
 | .str x,u=>∃ t,u=.str x t
 | .tup ts,u=>∃ a us,u=.ref a∧h.IsTuple a us∧Tr.Ins h ts us.toList
 | .lst _,_=>False
def Tr.Ins (h:Heap):List Tr→List Value→Prop
 | [],us=>us=[]
 | t::ts,us=>∃ u r,us=u::r∧Tr.In h t u∧Tr.Ins h ts r
end
theorem Tr.Ins.len {h:Heap}:∀ {ts:List Tr}{us:List Value},Tr.Ins h ts us→us.length=ts.length
 | [],us,e=>by simp only [Tr.Ins] at e; rw [e]; rfl
 | t::ts,us,e=>by
   simp only [Tr.Ins] at e
   obtain ⟨u,r,rfl,_,e⟩:=e
   simp [e.len]
theorem aw2 {h:Heap}{a:Addr}{us vs:Array Value}(x:h.IsTuple a us) (y:h.IsTuple a vs):us=vs:=by
 obtain ⟨o,e,_,n,d⟩:=x
 obtain ⟨o',e',_,n',d'⟩:=y
 rw [e] at e'; cases e'
 rw [d] at d'
 injection d' with d1 _
mutual
theorem Tr.In.inj {h:Heap}:∀ {t r:Tr}{u:Value},Tr.In h t u→Tr.In h r u→t=r
 | .non,r,u,e,f=>by
   simp only [Tr.In] at e
   subst e
   cases r <;> simp [Tr.In,IntIn] at f ⊢
 | .int z,r,u,e,f=>by
   simp only [Tr.In] at e
   rcases e with ⟨t,rfl⟩ | ⟨b,rfl,rfl⟩
   · cases r <;> simp [Tr.In,IntIn] at f ⊢
     exact f
   · cases r <;> simp [Tr.In,IntIn] at f ⊢
     exact f.symm
 | .str x,r,u,e,f=>by
   simp only [Tr.In] at e
   obtain ⟨t,rfl⟩:=e
   cases r <;> simp [Tr.In,IntIn] at f ⊢
   exact f
 | .lst _,r,u,e,f=>e.elim
 | .tup ts,.tup rs,u,e,f=>by
   simp only [Tr.In] at e f
   obtain ⟨a,us,rfl,e2,e3⟩:=e
   obtain ⟨b,vs,hb,f2,f3⟩:=f
   cases hb
   cases aw2 e2 f2
   rw [Tr.Ins.inj e3 f3]
 | .tup ts,.non,u,e,f=>by
   simp only [Tr.In] at e f
   obtain ⟨a,us,rfl,e2,e3⟩:=e
   cases f
 | .tup ts,.int _,u,e,f=>by
   simp only [Tr.In] at e f
   obtain ⟨a,us,rfl,e2,e3⟩:=e
   rcases f with ⟨_,f⟩ | ⟨_,f,_⟩ <;> cases f
 | .tup ts,.str _,u,e,f=>by
   simp only [Tr.In] at e f
   obtain ⟨a,us,rfl,e2,e3⟩:=e
   obtain ⟨_,f⟩:=f
   cases f
 | .tup ts,.lst _,u,e,f=>f.elim
theorem Tr.Ins.inj {h:Heap}:∀ {ts rs:List Tr}{us:List Value},Tr.Ins h ts us→Tr.Ins h rs us→ts=rs
 | [],rs,us,e,f=>by
   simp only [Tr.Ins] at e
   subst e
   cases rs with
   | nil=>rfl
   | cons r rs=>simp [Tr.Ins] at f
 | t::ts,rs,us,e,f=>by
   simp only [Tr.Ins] at e
   obtain ⟨u,r,rfl,e1,e2⟩:=e
   cases rs with
   | nil=>simp [Tr.Ins] at f
   | cons q qs =>
     simp only [Tr.Ins] at f
     obtain ⟨u',r',hh,f1,f2⟩:=f
     cases hh
     rw [e1.inj f1,Tr.Ins.inj e2 f2]
end
theorem at2 {H:Hp}{ts:List Tr}{v:V}{h:(Tr.lst ts).At H v []}:False:=by
 simp only [Tr.At] at h
 obtain ⟨a,vs,_,rfl,e1,c1,e⟩:=h
 simp at e
section
variable {X:Cx}{pins:List (Addr×Obj)}{σ:St} {H:Hp}{s:Shared}
mutual
theorem Tr.At.isIn (I:Inv X pins σ H s):∀ {t:Tr}{v:V}{u:Value},t.At H v []→RelV v u→Tr.In s.heap t u
 | .non,v,u,h,r=>by
   obtain ⟨rfl,-⟩:=(by simpa only [Tr.At] using h)
   cases r
   exact rfl
 | .int z,v,u,h,r=>by
   obtain ⟨rfl,-⟩:=(by simpa only [Tr.At] using h)
   obtain ⟨t,rfl⟩:=r
   exact .inl ⟨t,rfl⟩
 | .str z,v,u,h,r=>by
   obtain ⟨rfl,-⟩:=(by simpa only [Tr.At] using h)
   obtain ⟨t,rfl⟩:=r
   exact ⟨t,rfl⟩
 | .lst _,v,u,h,r=>(at2 (h:=h)).elim
 | .tup ts,v,u,h,r=>by
   simp only [Tr.At] at h
   obtain ⟨a,vs,rfl,e1,c1⟩:=h
   cases r
   obtain ⟨is1,q1,p1,_⟩:=I.tuple (SqT.of e1)
   simp only [Tr.In]
   exact ⟨a,is1.toArray,rfl,p1,by simpa using Tr.Ats.isIns I c1 q1⟩
theorem Tr.Ats.isIns (I:Inv X pins σ H s):∀ {ts:List Tr}{vs:List V}{us:List Value},Tr.Ats H ts vs []→Vals vs us→Tr.Ins s.heap ts us
 | [],vs,us,c,q=>by
   simp only [Tr.Ats] at c
   obtain ⟨rfl,-⟩:=c
   cases q
   exact rfl
 | t::ts,vs,us,c,q=>by
   simp only [Tr.Ats] at c
   obtain ⟨v,vs,f,g,rfl,e,a1,b1⟩:=c
   have hf:f=[]∧g=[]:=by simpa using e.symm
   obtain ⟨rfl,rfl⟩:=hf
   cases q with
   | cons r1 q1 =>
   simp only [Tr.Ins]
   exact ⟨_,_,rfl,a1.isIn I r1,b1.isIns I q1⟩
end
end
theorem ba3 {n:Nat}{e:Nat→Bool}:(List.range n).all e=true↔∀ j,j<n→e j=true:=by simp [List.all_eq_true]
theorem ba4 {ts rs:List Tr}:((List.range (min ts.length rs.length)).all (fun j=>decide (ts.getD j .non=rs.getD j .non)) && ts.length == rs.length)=decide (ts=rs):=by
 rw [Bool.eq_iff_iff,Bool.and_eq_true,ba3,decide_eq_true_iff,beq_iff_eq]
 constructor
 · rintro ⟨h1,h2⟩
   refine List.ext_getElem h2 fun j h3 h4=>?_
   have:=of_decide_eq_true (h1 j (by omega))
   simpa [h3,h4] using this
 · rintro rfl
   exact ⟨fun j _=>decide_eq_true rfl,rfl⟩
section
variable {s:Shared}
mutual
theorem Tr.In.eqAt:∀ {t r:Tr}{A:Around}{u z:Value},Tr.In s.heap t u→Tr.In s.heap r z→A.units+t.h+r.h<cLine→SeqAt.EqAt A s u z (decide (t=r))
 | .non,r,A,u,z,h1,h2,hu=>by
   simp only [Tr.In] at h1
   subst h1
   cases r with
   | non =>
     simp only [Tr.In] at h2
     subst h2
     rw [decide_eq_true rfl]
     exact SeqAt.EqAt.same _
   | int i =>
     rw [decide_eq_false (by simp)]
     rcases h2 with ⟨t2,rfl⟩ | ⟨b2,rfl,rfl⟩
     · exact SeqAt.EqAt.none_int _ _
     · exact SeqAt.EqAt.none_bool _
   | str i =>
     obtain ⟨t2,rfl⟩:=h2
     rw [decide_eq_false (by simp)]
     exact SeqAt.EqAt.none_str _ _
   | tup rs =>
     simp only [Tr.In] at h2
     obtain ⟨a,us,rfl,p,_⟩:=h2
     rw [decide_eq_false (by simp)]
     exact SeqAt.EqAt.none_tuple p (by omega)
   | lst rs=>exact h2.elim
 | .int i,r,A,u,z,h1,h2,hu=>by
   cases r with
   | non =>
     simp only [Tr.In] at h2
     subst h2
     rw [decide_eq_false (by simp)]
     rcases h1 with ⟨t1,rfl⟩ | ⟨b1,rfl,rfl⟩
     · exact SeqAt.EqAt.int_none _ _
     · exact SeqAt.EqAt.bool_none _
   | int j =>
     rw [show decide (Tr.int i=Tr.int j)=(i == j) from Bool.eq_iff_iff.mpr (by simp)]
     rcases h1 with ⟨t1,rfl⟩ | ⟨b1,rfl,rfl⟩
     · rcases h2 with ⟨t2,rfl⟩ | ⟨b2,rfl,rfl⟩
       · exact SeqAt.EqAt.int_int _ _ _ _
       · exact SeqAt.EqAt.int_bool _ _ _
     · rcases h2 with ⟨t2,rfl⟩ | ⟨b2,rfl,rfl⟩
       · exact SeqAt.EqAt.bool_int _ _ _
       · have:=SeqAt.EqAt.bool_bool (A:=A) (s:=s) b1 b2
         cases b1 <;> cases b2 <;> exact this
   | str j =>
     obtain ⟨t2,rfl⟩:=h2
     rw [decide_eq_false (by simp)]
     rcases h1 with ⟨t1,rfl⟩ | ⟨b1,rfl,rfl⟩
     · exact SeqAt.EqAt.int_str _ _ _ _
     · exact SeqAt.EqAt.bool_str _ _ _
   | tup rs =>
     simp only [Tr.In] at h2
     obtain ⟨a,us,rfl,p,_⟩:=h2
     rw [decide_eq_false (by simp)]
     rcases h1 with ⟨t1,rfl⟩ | ⟨b1,rfl,rfl⟩
     · exact SeqAt.EqAt.int_tuple _ _ p (by omega)
     · exact SeqAt.EqAt.bool_tuple _ p (by omega)
   | lst rs=>exact h2.elim
 | .str i,r,A,u,z,h1,h2,hu=>by
   obtain ⟨t1,rfl⟩:=h1
   cases r with
   | non =>
     simp only [Tr.In] at h2
     subst h2
     rw [decide_eq_false (by simp)]
     exact SeqAt.EqAt.str_none _ _
   | int j =>
     rw [decide_eq_false (by simp)]
     rcases h2 with ⟨t2,rfl⟩ | ⟨b2,rfl,rfl⟩
     · exact SeqAt.EqAt.str_int _ _ _ _
     · exact SeqAt.EqAt.str_bool _ _ _
   | str j =>
     obtain ⟨t2,rfl⟩:=h2
     have:=SeqAt.EqAt.str_str (A:=A) (s:=s) i t1 j t2
     rw [show (i == j)=decide (Tr.str i=Tr.str j) from Bool.eq_iff_iff.mpr (by simp)] at this
     exact this
   | tup rs =>
     simp only [Tr.In] at h2
     obtain ⟨a,us,rfl,p,_⟩:=h2
     rw [decide_eq_false (by simp)]
     exact SeqAt.EqAt.str_tuple _ _ p (by omega)
   | lst rs=>exact h2.elim
 | .lst _,r,A,u,z,h1,h2,hu=>h1.elim
 | .tup ts,r,A,u,z,h1,h2,hu=>by
   have h1':=h1
   simp only [Tr.In] at h1
   obtain ⟨a,us,rfl,p1,c1⟩:=h1
   cases r with
   | non =>
     simp only [Tr.In] at h2
     subst h2
     rw [decide_eq_false (by simp)]
     exact SeqAt.EqAt.tuple_none p1 (by omega)
   | int j =>
     rw [decide_eq_false (by simp)]
     rcases h2 with ⟨t2,rfl⟩ | ⟨b2,rfl,rfl⟩
     · exact SeqAt.EqAt.tuple_int _ _ p1 (by omega)
     · exact SeqAt.EqAt.tuple_bool _ p1 (by omega)
   | str j =>
     obtain ⟨t2,rfl⟩:=h2
     rw [decide_eq_false (by simp)]
     exact SeqAt.EqAt.tuple_str _ _ p1 (by omega)
   | lst rs=>exact h2.elim
   | tup rs =>
     have h2':=h2
     simp only [Tr.In] at h2
     obtain ⟨b,vs,rfl,p2,c2⟩:=h2
     by_cases hab:a=b
     · subst hab
       rw [decide_eq_true (h1'.inj h2')]
       exact SeqAt.EqAt.same _
     refine SeqAt.EqAt.of_refs hab ?_
     simp only [Tr.h] at hu
     have l1:=c1.len
     have l2:=c2.len
     simp only [Array.length_toList] at l1 l2
     have:=SeqAt.RcAt.tuples (A:=A) (s:=s) (e:=fun j=>decide (ts.getD j .non=rs.getD j .non)) p1 p2 (by omega) (fun j h1 h2=>by
      have:=Tr.Ins.eqAts (A:=A.in1) c1 c2 (by rw [a68]; omega) j (by simpa using h1) (by simpa using h2)
      simpa using this)
     rw [l1,l2,ba4] at this
     rw [show decide (Tr.tup ts=Tr.tup rs)=decide (ts=rs) from Bool.eq_iff_iff.mpr (by simp)]
     exact this
theorem Tr.Ins.eqAts:∀ {ts rs:List Tr}{A:Around}{us zs:List Value},Tr.Ins s.heap ts us→Tr.Ins s.heap rs zs→A.units+Tr.hs ts+Tr.hs rs<cLine →
 ∀ (j:Nat) (h1:j<us.length) (h2:j<zs.length),SeqAt.EqAt A s us[j] zs[j] (decide (ts.getD j .non=rs.getD j .non))
 | [],rs,A,us,zs,c1,c2,hu,j,h1,h2=>by
   simp only [Tr.Ins] at c1
   subst c1
   exact absurd h1 (by simp)
 | t::ts,[],A,us,zs,c1,c2,hu,j,h1,h2=>by
   simp only [Tr.Ins] at c2
   subst c2
   exact absurd h2 (by simp)
 | t::ts,r::rs,A,us,zs,c1,c2,hu,j,h1,h2=>by
   simp only [Tr.Ins] at c1 c2
   obtain ⟨u,us,rfl,a1,b1⟩:=c1
   obtain ⟨z,zs,rfl,a2,b2⟩:=c2
   simp only [Tr.hs] at hu
   cases j with
   | zero =>
     have:=a1.eqAt a2 (A:=A) (by omega)
     simpa using this
   | succ j =>
     have:=b1.eqAts b2 (A:=A) (by omega) j (by simpa using h1) (by simpa using h2)
     simpa using this
end
end
mutual
def Tr.hash (P:Params):Tr→Int
 | .non=>PySem.W.hashW P .none
 | .int z=>PySem.W.hashW P (.int z)
 | .str x=>PySem.W.hashW P (.str x)
 | .tup ts=>reduceHash (Builtin.Tuple.tupleHashOf (Tr.hashes P ts))
 | .lst _=>0
def Tr.hashes (P:Params):List Tr→List Int
 | []=>[]
 | t::ts=>Tr.hash P t::Tr.hashes P ts
end
section
variable {prog:Program}{w:World}{E:Value→Shared→Prop}
mutual
theorem Tr.In.pyHash:∀ {t:Tr}{A:Around}{s:Shared}{u:Value}{Q:Int→Shared→Prop},Tr.In s.heap t u→A.units+t.h<cLine→(∀ n,Q (t.hash w.params) { s with toks:=n })→wpAny (model prog w) A (pyHash u) Q E s
 | .non,A,s,u,Q,e,hu,h=>by
   simp only [Tr.In] at e
   subst e
   exact PySem.W.pyHash_laid .none _ A s Q rfl .none (by simp only [PySem.W.WData.depth]; omega) h
 | .int z,A,s,u,Q,e,hu,h=>by
   rcases e with ⟨t,rfl⟩ | ⟨b,rfl,rfl⟩
   · exact PySem.W.pyHash_laid (.int z) _ A s Q rfl (.int z t) (by simp only [PySem.W.WData.depth]; omega) h
   · refine PySem.W.pyHash_laid (.bool b) _ A s Q rfl (.bool b) (by simp only [PySem.W.WData.depth]; omega) fun tk=>?_
     have:=h tk
     cases b <;> exact this
 | .str z,A,s,u,Q,e,hu,h=>by
   obtain ⟨t,rfl⟩:=e
   exact PySem.W.pyHash_laid (.str z) _ A s Q rfl (.str z t) (by simp only [PySem.W.WData.depth]; omega) h
 | .lst _,A,s,u,Q,e,hu,h=>e.elim
 | .tup ts,A,s,u,Q,e,hu,h=>by
   simp only [Tr.In] at e
   obtain ⟨a,us,rfl,⟨o,p1,p2,n,p3⟩,c⟩:=e
   simp only [Tr.h] at hu
   refine PySem.W.pyHash_slot (T:="tuple") ⟨o,p1,p2⟩ F.slot_tuple_hash F.entry_tuple_hash (F.args_tuple_hash_1 _) (beq_builtin_none _) (.inr (by omega)) ?_
   show wpAny _ A.in1 (Builtin.Tuple.tupleItemsOf (.ref a) >>= _) _ _ s
   refine wpAny_bind (wpAny_tupleItemsOf p1 p3 (wpAny_bind ?_))
   rw [← Array.forIn_toList]
   refine Tr.Ins.pyHashes (b:=#[]) c (by rw [a68]; omega) fun tk b hb=>?_
   have hb':b.toList=Tr.hashes w.params ts:=by simpa using hb
   show wpAny _ A.in1 (retInt (Builtin.Tuple.tupleHashOf b.toList)) _ _ _
   rw [hb']
   exact wpAny_bind (wpAny_mkInt (wpAny_pure ⟨_,_,rfl,h (_)⟩))
theorem Tr.Ins.pyHashes:∀ {ts:List Tr}{A:Around}{s:Shared}{us:List Value}{b:Array Int}{Q:Array Int→Shared→Prop},Tr.Ins s.heap ts us→A.units+Tr.hs ts<cLine →
 (∀ n b',b'.toList=b.toList++Tr.hashes w.params ts→Q b' { s with toks:=n }) →
 wpAny (model prog w) A (forIn us b fun x r=>do let h←pyHash x; pure PUnit.unit; pure (ForInStep.yield (r.push h))) Q E s
 | [],A,s,us,b,Q,e,hu,h=>by
   simp only [Tr.Ins] at e
   subst e
   exact wpAny_pure (h s.toks b (by simp [Tr.hashes]))
 | t::ts,A,s,us,b,Q,e,hu,h=>by
   simp only [Tr.Ins] at e
   obtain ⟨u,us,rfl,a1,b1⟩:=e
   simp only [Tr.hs] at hu
   rw [List.forIn_cons]
   refine wpAny_bind (wpAny_bind (a1.pyHash (by omega) fun tk=>wpAny_bind (wpAny_pure (wpAny_pure ?_))))
   exact b1.pyHashes (s:={ s with toks:=tk }) (by omega) fun n b' hb=>h n b' (by simp [hb,Tr.hashes])
end
end
section
variable {prog:Program}{w:World}{E:Value→Shared→Prop}
mutual
theorem Tr.In.quiet:∀ {t:Tr}{A:Around}{s:Shared}{u:Value}{Q:Bool→Shared→Prop}{n:Nat},Tr.In s.heap t u→t.h≤n→Q true s→wpAny (model prog w) A (eqIsQuiet n u) Q E s
 | .non,A,s,u,Q,n,e,hn,h=>by
   simp only [Tr.In] at e
   subst e
   rw [eqIsQuiet_byValue n (v:=.none) rfl]
   exact wpAny_pure h
 | .int z,A,s,u,Q,n,e,hn,h=>by
   rcases e with ⟨t,rfl⟩ | ⟨b,rfl,rfl⟩
   · rw [eqIsQuiet_byValue n (v:=.int z t) rfl]
     exact wpAny_pure h
   · rw [eqIsQuiet_byValue n (v:=.bool b) rfl]
     exact wpAny_pure h
 | .str z,A,s,u,Q,n,e,hn,h=>by
   obtain ⟨t,rfl⟩:=e
   rw [eqIsQuiet_byValue n (v:=.str z t) rfl]
   exact wpAny_pure h
 | .lst _,A,s,u,Q,n,e,hn,h=>e.elim
 | .tup ts,A,s,u,Q,n,e,hn,h=>by
   simp only [Tr.In] at e
   obtain ⟨a,us,rfl,⟨o,p1,p2,m,p3⟩,c⟩:=e
   simp only [Tr.h] at hn
   obtain ⟨n,rfl⟩:∃ k,n=k+1:=⟨n - 1,by omega⟩
   have hT:s.TypeIs (.ref a) "tuple":=⟨o,p1,p2⟩
   unfold eqIsQuiet
   refine wpAny_bind (wpAny_specialOf hT (F.slot_tuple_eq.lookup) ?_)
   show wpAny _ A (isInstance (.ref a) (.type "tuple") >>= _) _ _ s
   refine wpAny_bind (wpAny_isInstance hT (isSubtype_tuple_tuple) ?_)
   simp only [Bool.false_eq_true,Bool.not_true,if_false]
   refine wpAny_bind (wpAny_seqItems p1 p3 (wpAny_bind ?_))
   show wpAny _ _ (forIn us _ _) _ _ s
   rw [← Array.forIn_toList]
   refine wpAny_forIn_list _ (fun rest r s'=>r.1=none∧s'=s∧∃ ts',Tr.Ins s.heap ts' rest∧∀ t∈ts',∃ k,∃ hk:k<ts.length,t=ts[k]) _ ?_ ?_ _ _ ⟨rfl,rfl,ts,c,fun t ht=>by
    obtain ⟨k,hk,e⟩:=List.mem_iff_getElem.mp ht
    exact ⟨k,hk,e.symm⟩⟩
   · rintro v rest r s' ⟨hr,rfl,ts',c',hm⟩
     cases ts' with
     | nil=>simp [Tr.Ins] at c'
     | cons t ts' =>
       simp only [Tr.Ins] at c'
       obtain ⟨u',r',hh,a1,b1⟩:=c'
       cases hh
       obtain ⟨k,hk,rfl⟩:=hm t List.mem_cons_self
       refine wpAny_bind (Tr.Ins.quietAt (n:=n) c k hk a1 (by omega) ?_)
       simp only [Bool.false_eq_true,Bool.not_true,if_false]
       exact wpAny_pure ⟨rfl,rfl,ts',b1,fun t' ht'=>hm t' (List.mem_cons_of_mem _ ht')⟩
   · rintro ⟨r1,r2⟩ s' ⟨hr,rfl,_⟩
     simp only at hr
     subst hr
     exact wpAny_pure h
theorem Tr.Ins.quietAt:∀ {ts:List Tr}{A:Around}{s:Shared}{us:List Value}{u:Value}{Q:Bool→Shared→Prop}{n:Nat},Tr.Ins s.heap ts us→∀ (k:Nat) (hk:k<ts.length),Tr.In s.heap ts[k] u→Tr.hs ts≤n→Q true s →
 wpAny (model prog w) A (eqIsQuiet n u) Q E s
 | [],A,s,us,u,Q,n,e,k,hk,a1,hn,h=>absurd hk (Nat.not_lt_zero _)
 | t::ts,A,s,us,u,Q,n,e,k,hk,a1,hn,h=>by
   simp only [Tr.Ins] at e
   obtain ⟨u',us,rfl,a2,b2⟩:=e
   simp only [Tr.hs] at hn
   cases k with
   | zero=>exact Tr.In.quiet (t:=t) a1 (by omega) h
   | succ k=>exact Tr.Ins.quietAt b2 k (by simpa using hk) a1 (by omega) h
end
end
structure Ents (P:Params) (h:Heap) (es:Array DictEntry) (ts:List Tr):Prop where
 len:es.size=ts.length
 at_:∀ (j:Nat) (e:DictEntry),es[j]?=some e→∃ t:Tr,ts[j]?=some t∧e.hash=t.hash P∧Tr.In h t e.key∧t.h≤8
 nd:ts.Nodup
theorem Ents.of {P:Params}{h:Heap}{es:Array DictEntry}{ts:List Tr}(x:Ents P h es ts) {j:Nat}{t:Tr}(e:ts[j]?=some t):∃ en,es[j]?=some en∧en.hash=t.hash P∧Tr.In h t en.key∧t.h≤8:=by
 have hj:j<es.size:=by rw [x.len]; exact (List.getElem?_eq_some_iff.mp e).1
 obtain ⟨t',e',h2⟩:=x.at_ j es[j] (Array.getElem?_eq_getElem hj)
 rw [e] at e'
 cases e'
 exact ⟨_,Array.getElem?_eq_getElem hj,h2⟩
theorem Ents.one {P:Params}{h:Heap}{es:Array DictEntry}{ts:List Tr}(x:Ents P h es ts) {i j:Nat}{t:Tr}(e:ts[i]?=some t) (f:ts[j]?=some t):i=j:=by
 obtain ⟨h1,e⟩:=List.getElem?_eq_some_iff.mp e
 obtain ⟨h2,f⟩:=List.getElem?_eq_some_iff.mp f
 have pw:=List.pairwise_iff_getElem.mp x.nd
 rcases Nat.lt_trichotomy i j with h | h | h
 · exact absurd (e.trans f.symm) (pw i j h1 h2 h)
 · exact h
 · exact absurd (f.trans e.symm) (pw j i h2 h1 h)
section
variable {prog:Program}{w:World}{E:Value→Shared→Prop}{A:Around}{s:Shared}{d:Addr}{o:Obj}{es:Array DictEntry}{ep:Nat}{ts:List Tr}{t:Tr}{u:Value}
theorem mem_places {f:Nat→Option Int}{n i:Nat}{h:Int}:i∈placesWithHash n f h↔i<n∧f i=some h:=by simp [placesWithHash,List.mem_filter]
theorem ba5 {f:Nat→Option Int}{n:Nat}{h:Int}:(placesWithHash n f h).Nodup:=List.Pairwise.filter _ List.nodup_range
theorem ap4 {Q:Option Nat→Shared→Prop}(ho:s.heap.get? d=some o) (hd:o.data=.dict es ep) (x:Ents w.params s.heap es ts) (hk:Tr.In s.heap t u) (h8:t.h≤8) (hu:A.units+16<cLine)
 (hnone:(∀ j:Nat,ts[j]?≠some t)→Q none s) (hsome:∀ j:Nat,ts[j]?=some t→Q (some j) s):wpAny (model prog w) A (dictFind d u (t.hash w.params)) Q E s:=by
 have hin:∀ j:Nat,ts[j]?=some t→j∈placesWithHash es.size (fun i=>es[i]?.map (·.hash)) (t.hash w.params):=fun j hj=>by
  obtain ⟨en,e1,e2,_⟩:=x.of hj
  exact mem_places.mpr ⟨(Array.getElem?_eq_some_iff.mp e1).1,by rw [e1]; exact congrArg some e2⟩
 have hex:∀ i∈placesWithHash es.size (fun i=>es[i]?.map (·.hash)) (t.hash w.params),∃ en t',es[i]?=some en∧ts[i]?=some t'∧en.hash=t.hash w.params∧Tr.In s.heap t' en.key∧t'.h≤8:=fun i hi=>by
  obtain ⟨hi,h2⟩:=mem_places.mp hi
  have e1:=Array.getElem?_eq_getElem hi
  obtain ⟨t',e2,e3,e4,e5⟩:=x.at_ i _ e1
  rw [e1] at h2
  exact ⟨_,t',e1,e2,Option.some.inj h2,e4,e5⟩
 have hnd:(placesWithHash es.size (fun i=>es[i]?.map (·.hash)) (t.hash w.params)).Nodup:=ba5
 generalize hP:placesWithHash es.size (fun i=>es[i]?.map (·.hash)) (t.hash w.params)=ps at hin hex hnd
 have eqa:∀ {t':Tr}{z:Value},Tr.In s.heap t' z→t'.h≤8→SeqAt.EqAt A s z u (decide (t'=t)):=fun a b=>a.eqAt hk (by omega)
 have plain:wpAny (model prog w) A (dictWalkPlain d u (t.hash w.params) es ps) Q E s:=by
  unfold dictWalkPlain
  refine wpAny_bind ?_
  refine wpAny_forIn_list _ (fun rest b s'=>s'=s∧b=(none,())∧(∀ i∈rest,i∈ps)∧∀ j:Nat,ts[j]?=some t→j∈rest) _ ?_ ?_ _ _ ⟨rfl,rfl,fun _ z=>z,hin⟩
  · rintro i rest b s' ⟨rfl,rfl,hr,hj⟩
    obtain ⟨en,t',e1,e2,e3,e4,e5⟩:=hex i (hr i List.mem_cons_self)
    rw [e1]
    dsimp only
    rw [if_pos (by rw [e3]; exact beq_self_eq_true _)]
    refine wpAny_bind (wpAny_dictEpoch ho hd (wpAny_bind (eqa e4 e5 _ _ _ _ (wpAny_bind (wpAny_dictEpoch ho hd ?_)))))
    show wpAny _ A (if (ep != ep)=true then _ else _) _ E _
    rw [if_neg (by simp)]
    by_cases hkk:t'=t
    · subst hkk
      rw [decide_eq_true rfl]
      exact wpAny_bind (wpAny_rule (wpAny_pure (wpAny_pure (hsome i e2))))
    · rw [decide_eq_false hkk]
      refine wpAny_bind (wpAny_rule (wpAny_pure ⟨rfl,rfl,fun i hi=>hr i (List.mem_cons_of_mem _ hi),fun j h2=>?_⟩))
      rcases List.mem_cons.mp (hj j h2) with rfl | h3
      · rw [e2] at h2
        exact absurd (Option.some.inj h2) hkk
      · exact h3
  · rintro b s' ⟨rfl,rfl,_,hj⟩
    exact wpAny_pure (hnone fun j h2=>absurd (hj j h2) (by simp))
 have hany:∀ a,u=.ref a→¬ (es.any fun e=>e.key == u && e.hash != t.hash w.params)=true:=by
  rintro a rfl
  rw [← Array.any_toList,List.any_eq_true]
  rintro ⟨e,hin',hc⟩
  obtain ⟨j,hj,rfl⟩:=Array.mem_iff_getElem.mp (Array.mem_toList_iff.mp hin')
  obtain ⟨t',_,f2,f3,_⟩:=x.at_ j _ (Array.getElem?_eq_getElem hj)
  simp only [Bool.and_eq_true,beq_iff_eq,bne_iff_ne,ne_eq] at hc
  rw [hc.1] at f3
  exact hc.2 (by rw [f2,f3.inj hk])
 have hst:∀ v∈ps.filterMap (fun i=>es[i]?.map (·.key)),∃ t',Tr.In s.heap t' v∧t'.h≤8:=by
  intro v hv
  obtain ⟨i,hi,hv⟩:=List.mem_filterMap.mp hv
  obtain ⟨en,t',e1,_,_,e4,e5⟩:=hex i hi
  rw [e1] at hv
  cases hv
  exact ⟨t',e4,e5⟩
 have tell:∀ {Q:Bool→Shared→Prop},Q false s→wpAny (model prog w) A (tableMayTell u (ps.filterMap fun i=>es[i]?.map (·.key))) Q E s:=by
  intro Q q
  unfold tableMayTell
  split
  · exact wpAny_pure q
  · refine wpAny_bind (hk.quiet h8 ?_)
    simp only [Bool.false_eq_true,Bool.not_true,if_false]
    refine wpAny_bind (wpAny_forIn_list _ (fun rest r s'=>s'=s∧r=(none,())∧∀ v∈rest,∃ t',Tr.In s.heap t' v∧t'.h≤8) _ ?_ ?_ _ _ ⟨rfl,rfl,hst⟩)
    · rintro v rest r s' ⟨rfl,rfl,hr⟩
      obtain ⟨t',b1,b2⟩:=hr v List.mem_cons_self
      refine wpAny_bind (b1.quiet b2 ?_)
      simp only [Bool.false_eq_true,Bool.not_true,if_false]
      exact wpAny_pure ⟨rfl,rfl,fun z hz=>hr z (List.mem_cons_of_mem _ hz)⟩
    · rintro r s' ⟨rfl,rfl,_⟩
      exact wpAny_pure q
 unfold dictFind
 try (with_reducible refine wpAny_holding ?_)
 refine wpAny_bind (wpAny_dictEntries ho (hd) ?_)
 extract_lets places st hit0 jp3 jp2 jp1
 have hpl:places=ps:=hP
 have hS:ps.filterMap (fun i=>es[i]?.map (·.key))=st:=by rw [← hpl]
 rw [hS] at tell
 clear hst
 have h3:wpAny (model prog w) A (jp3 false) Q E s:=by
  dsimp only [jp3]
  rw [if_neg (by simp),hpl]
  refine wpAny_bind (wpAny_forIn_list _ (fun rest b s'=>s'=s∧rest.Nodup∧∃ hit:Option Nat,b=(none,hit)∧(∀ i∈rest,i∈ps) ∧
   ((hit=none∧∀ j:Nat,ts[j]?=some t→j∈rest)∨∃ j:Nat,hit=some j∧ts[j]?=some t∧j∉rest)) _ ?_ ?_ _ _ ⟨rfl,hnd,none,rfl,fun _ z=>z,.inl ⟨rfl,hin⟩⟩)
  · rintro i rest b s' ⟨rfl,hnd',hit,rfl,hr,hH⟩
    have hni:i∉rest:=(List.nodup_cons.mp hnd').1
    have hnr:rest.Nodup:=(List.nodup_cons.mp hnd').2
    have hr':∀ j∈rest,j∈ps:=fun j hj=>hr j (List.mem_cons_of_mem _ hj)
    obtain ⟨en,t',e1,e2,e3,e4,e5⟩:=hex i (hr i List.mem_cons_self)
    rw [e1]
    dsimp only
    rw [if_pos (by rw [e3]; exact beq_self_eq_true _)]
    refine wpAny_bind (wpAny_dictEpoch ho hd (wpAny_bind (eqa e4 e5 _ _ _ _ (wpAny_bind (wpAny_dictEpoch ho hd ?_)))))
    show wpAny _ A (if (ep != ep)=true then _ else _) _ E _
    rw [if_neg (by simp)]
    by_cases hkk:t'=t
    · subst hkk
      rw [decide_eq_true rfl]
      rcases hH with ⟨rfl,hj⟩ | ⟨j,rfl,hj,hjr⟩
      · rw [if_pos rfl]
        simp only [Bool.false_eq_true,Option.isSome_none,if_false]
        refine wpAny_bind ((wpAny_rule) ?_)
        split
        · exact wpAny_pure (wpAny_pure (hsome i e2))
        · exact wpAny_pure ⟨rfl,hnr,some i,rfl,hr',.inr ⟨i,rfl,e2,hni⟩⟩
      · exact absurd (x.one e2 hj ▸ List.mem_cons_self) hjr
    · rw [decide_eq_false hkk]
      rw [if_neg (by simp)]
      refine wpAny_bind ((wpAny_rule) ?_)
      rw [if_neg (by simp)]
      refine wpAny_pure ⟨rfl,hnr,hit,rfl,hr',?_⟩
      rcases hH with ⟨rfl,hj⟩ | ⟨j,rfl,hj,hjr⟩
      · refine .inl ⟨rfl,fun j h2=>?_⟩
        rcases List.mem_cons.mp (hj j h2) with rfl | h3
        · rw [e2] at h2
          exact absurd (Option.some.inj h2) hkk
        · exact h3
      · exact .inr ⟨j,rfl,hj,fun z=>hjr (List.mem_cons_of_mem _ z)⟩
  · rintro b s' ⟨rfl,_,hit,rfl,_,hH⟩
    rcases hH with ⟨rfl,hj⟩ | ⟨j,rfl,hj,_⟩
    · exact wpAny_pure (hnone fun j h2=>absurd (hj j h2) (by simp))
    · exact wpAny_pure (hsome j hj)
 clear_value jp3
 have h2:wpAny (model prog w) A (jp2 ()) Q E s:=by
  dsimp only [jp2]
  by_cases hone:(st == [u])=true
  · rw [if_pos hone]
    exact wpAny_bind (wpAny_pure h3)
  · rw [if_neg hone]
    exact wpAny_bind (tell h3)
 clear_value jp2
 have h1:wpAny (model prog w) A (jp1 ()) Q E s:=by
  dsimp only [jp1]
  by_cases hall:(u::st).all carriedByValue=true
  · rw [if_pos hall,hpl]
    exact plain
  rw [if_neg hall]
  split
  · rename_i a
    rw [if_neg (hany a rfl)]
    exact h2
  · exact h2
 clear_value jp1
 split
 · rename_i y tk
   by_cases hx:(es.all fun e=>isExactStrKey e.key)=true
   · rw [if_pos hx]
     have ht:t=.str y:=hk.inj (r:=.str y) ⟨tk,rfl⟩
     subst ht
     have hstr:∀ (j:Nat) (hj:j<es.size),es[j].key.isStr y=decide (ts[j]?=some (.str y)):=fun j hj=>by
      obtain ⟨t',f1,f2,f3,_⟩:=x.at_ j _ (Array.getElem?_eq_getElem hj)
      have hx':=Array.all_eq_true.mp hx j hj
      rw [f1]
      cases hq:es[j].key with
      | str z tz =>
        rw [hq] at f3
        obtain rfl:t'=.str z:=f3.inj (r:=.str z) ⟨tz,rfl⟩
        show (z == y)=_
        exact Bool.eq_iff_iff.mpr (by simp)
      | _=>rw [hq] at hx'; cases hx'
     unfold foundByValue
     cases hf:es.findIdx? (fun e=>e.key.isStr y) with
     | none =>
       refine wpAny_pure (hnone fun j hj=>?_)
       obtain ⟨en,g1,_⟩:=x.of hj
       obtain ⟨hl,_⟩:=Array.getElem?_eq_some_iff.mp g1
       have:=Array.findIdx?_eq_none_iff.mp hf es[j] (Array.getElem_mem hl)
       rw [hstr j hl,decide_eq_true hj] at this
       cases this
     | some i =>
       obtain ⟨hlt,hi,_⟩:=Array.findIdx?_eq_some_iff_getElem.mp hf
       rw [hstr i hlt] at hi
       have hi:=of_decide_eq_true hi
       obtain ⟨t',f1,f2,f3,f4⟩:=x.at_ i _ (Array.getElem?_eq_getElem hlt)
       rw [hi] at f1
       cases f1
       simp only [Array.getElem?_eq_getElem hlt]
       refine wpAny_bind (wpAny_dictEpoch ho hd (wpAny_bind (eqa f3 f4 _ _ _ _ (wpAny_bind (wpAny_dictEpoch ho hd ?_)))))
       show wpAny _ A (if (ep != ep)=true then _ else _) _ E _
       rw [if_neg (by simp),decide_eq_true rfl]
       exact wpAny_bind (wpAny_rule (wpAny_pure (hsome i hi)))
   · rw [if_neg hx]
     exact h1
 · exact h1
end
structure DtR (P:Params) (m:List (Tr×V×V)) (es:Array DictEntry):Prop where
 len:es.size=m.length
 at_:∀ (j:Nat) (x:Tr×V×V),m[j]?=some x→∃ e,es[j]?=some e∧e.hash=x.1.hash P∧RelV x.2.1 e.key∧RelV x.2.2 e.val
def DtP (P:Params) (a:Addr) (m:List (Tr×V×V)):Heap→Prop:=fun h=>m.length≤sizeLine∧(a == sysModules)=false∧∃ o es ep,h.get? a=some o∧o.ExactDict∧o.data=.dict es ep∧DtR P m es
abbrev DtO (P:Params) (a:Addr) (m:List (Tr×V×V)):HO:=.ext (DtP P a m)
theorem DtP.one {P:Params}{a:Addr}{m:List (Tr×V×V)}(h1 h2:Heap) (x:DtP P a m h1) (k:∀ o,h1.get? a=some o→h2.get? a=some o):DtP P a m h2:=by
 obtain ⟨z,y,o,es,ep,e,r⟩:=x
 exact ⟨z,y,o,es,ep,k _ e,r⟩
theorem az7 {Pr:Program}{w:World}{H:Hp}{h:Heap}{P:Params}{a:Addr}{m:List (Tr×V×V)}(x:DtP P a m h):ObjOk Pr w H h a (DtO P a m):=by
 refine ⟨x,?_,DtP.one⟩
 obtain ⟨_,_,o,_,_,e,_⟩:=x
 exact ⟨o,e⟩
def DtE (P:Params) (H:Hp) (a:Addr) (m:List (Tr×V×V)):Prop:=∃ φ,H a=some (.ext φ)∧∀ h,φ h→DtP P a m h
theorem DtE.of {P:Params}{H:Hp}{a:Addr}{m:List (Tr×V×V)}(h:H a=some (DtO P a m)):DtE P H a m:=⟨_,h,fun _ x=>x⟩
theorem DtE.mut {P:Params}{H:Hp}{a:Addr}{m:List (Tr×V×V)}(h:DtE P H a m):Mut (H a):=by
 obtain ⟨φ,e,_⟩:=h
 rw [e]
 exact True.intro
def DtAt (P:Params) (H:Hp) (a:Addr) (kvs:List (Tr×V)):Prop:=∃ m:List (Tr×V×V),m.map (fun x=>(x.1,x.2.2))=kvs∧DtE P H a m∧(∀ x∈m,x.1.At H x.2.1 []∧x.1.h≤8)∧(m.map (·.1)).Nodup
noncomputable def putM (m:List (Tr×V×V)) (t:Tr) (y v:V):List (Tr×V×V):=if t∈m.map (·.1) then m.map (fun x=>if x.1=t then (x.1,x.2.1,v) else x) else m++[(t,y,v)]
theorem bj5 (m:List (Tr×V×V)) (t:Tr) (y v:V):(putM m t y v).map (fun x=>(x.1,x.2.2))=putK (m.map fun x=>(x.1,x.2.2)) t v:=by
 have hany:((m.map fun x=>(x.1,x.2.2)).any fun kv=>decide (kv.1=t))=decide (t∈m.map (·.1)):=by
  rw [Bool.eq_iff_iff,List.any_eq_true,decide_eq_true_iff,List.mem_map]
  constructor
  · rintro ⟨p,hp,e⟩
    obtain ⟨x,hx,rfl⟩:=List.mem_map.mp hp
    exact ⟨x,hx,of_decide_eq_true e⟩
  · rintro ⟨x,hx,e⟩
    exact ⟨_,List.mem_map_of_mem hx,decide_eq_true e⟩
 unfold putM putK
 rw [hany]
 by_cases h:t∈m.map (·.1)
 · rw [if_pos h,if_pos (decide_eq_true h),List.map_map,List.map_map]
   refine List.map_congr_left fun x _=>?_
   simp only [Function.comp]
   split <;> rfl
 · rw [if_neg h,if_neg (by rw [decide_eq_false h]; exact Bool.false_ne_true),List.map_append]
   rfl
theorem bt7 {m:List (Tr×V×V)}(t:Tr) (y v:V) (h:(m.map (·.1)).Nodup):((putM m t y v).map (·.1)).Nodup:=by
 unfold putM
 by_cases ht:t∈m.map (·.1)
 · rw [if_pos ht,List.map_map]
   rw [show m.map ((·.1)∘fun x=>if x.1=t then (x.1,x.2.1,v) else x)=m.map (·.1) from List.map_congr_left fun x _=>by simp only [Function.comp]; split <;> rfl]
   exact h
 · rw [if_neg ht,List.map_append]
   exact b97 h ht
theorem bj6 {m:List (Tr×V×V)}{t:Tr}{y v:V}{p:Tr→V→Prop}(h:∀ x∈m,p x.1 x.2.1) (hy:p t y):∀ x∈putM m t y v,p x.1 x.2.1:=by
 intro x hx
 unfold putM at hx
 by_cases ht:t∈m.map (·.1)
 · rw [if_pos ht] at hx
   obtain ⟨z,hz,rfl⟩:=List.mem_map.mp hx
   split <;> exact h z hz
 · rw [if_neg ht] at hx
   rcases List.mem_append.mp hx with hx | hx
   · exact h x hx
   · rw [List.mem_singleton.mp hx]; exact hy
theorem bj7 (m:List (Tr×V×V)) (t:Tr) (y v:V):(putM m t y v).length≤m.length+1:=by
 unfold putM
 split <;> simp
theorem a55 {P:Params}{H H':Hp}{a:Addr}{kvs:List (Tr×V)}(x:DtAt P H a kvs) (s:Same H H'):DtAt P H' a kvs:=by
 obtain ⟨m,e1,⟨φ,e2,hφ⟩,e3,e4⟩:=x
 exact ⟨m,e1,⟨φ,s _ _ e2,hφ⟩,fun x hx=>⟨(e3 x hx).1.mono (s.keep _),(e3 x hx).2⟩,e4⟩
def TK (H:Hp) (t:Tr) (y:V):Prop:=t.At H y []∧t.h≤8
theorem aj5 {m:List (Tr×V×V)}(hn:(m.map (·.1)).Nodup) {j:Nat}{x:Tr×V×V}(e:m[j]?=some x):valV (m.map fun x=>(x.1,x.2.2)) x.1=some x.2.2:=by
 induction m generalizing j with
 | nil=>simp at e
 | cons z m ih =>
   rw [List.map_cons,List.nodup_cons] at hn
   cases j with
   | zero =>
     obtain rfl:z=x:=by simpa using e
     exact ab1 rfl
   | succ j =>
     have e':m[j]?=some x:=by simpa using e
     rw [List.map_cons,ab2 (fun q=>hn.1 (by
      show z.1∈_
      rw [show z.1=x.1 from q]
      exact List.mem_map_of_mem (List.mem_of_getElem? e')))]
     exact ih hn.2 e'
theorem ah1 {m:List (Tr×V×V)}{t:Tr}(h:∀ j:Nat,(m.map (·.1))[j]?≠some t):valV (m.map fun x=>(x.1,x.2.2)) t=none∧t∉m.map (·.1):=by
 have hn:t∉m.map (·.1):=fun z=>by
  obtain ⟨j,hj,e⟩:=List.mem_iff_getElem.mp z
  exact h j (by rw [List.getElem?_eq_getElem hj,e])
 refine ⟨?_,hn⟩
 unfold valV
 rw [List.find?_eq_none.mpr]
 · rfl
 · intro p hp
   obtain ⟨x,hx,rfl⟩:=List.mem_map.mp hp
   simp only [decide_eq_true_iff]
   exact fun z=>hn (z ▸ List.mem_map_of_mem hx)
section
variable {X:Cx}{pins:List (Addr×Obj)}{σ:St} {H:Hp}{s:Shared}{a:Addr}{t:Tr}{y v:V}{u r:Value}{A:Around}{E:Value→Shared→Prop}{kvs:List (Tr×V)}{m:List (Tr×V×V)}
theorem ad9 (I:Inv X pins σ H s) (e2:DtE X.w.params H a m) (e3:∀ x∈m,x.1.At H x.2.1 []∧x.1.h≤8) (e4:(m.map (·.1)).Nodup) :
 ∃ o es ep,s.heap.get? a=some o∧o.ExactDict∧o.data=.dict es ep∧DtR X.w.params m es∧Ents X.w.params s.heap es (m.map (·.1))∧m.length≤sizeLine∧(a == sysModules)=false:=by
 obtain ⟨φ,e2,hφ⟩:=e2
 obtain ⟨z1,z2,o,es,ep,q1,q2,q3,q4⟩:=hφ _ (I.hok a _ e2).1
 refine ⟨o,es,ep,q1,q2,q3,q4,⟨by rw [q4.len,List.length_map],fun j e he=>?_,e4⟩,z1,z2⟩
 have hj:j<m.length:=by rw [← q4.len]; exact (Array.getElem?_eq_some_iff.mp he).1
 obtain ⟨e',f1,f2,f3,f4⟩:=q4.at_ j m[j] (List.getElem?_eq_getElem hj)
 rw [he] at f1
 cases f1
 have:=e3 m[j] (List.getElem_mem hj)
 exact ⟨m[j].1,by rw [List.getElem?_map,List.getElem?_eq_getElem hj]; rfl,f2,this.1.isIn I f3,this.2⟩
theorem bq2 {Q:Option Value→Shared→Prop}(hu:A.units+16<cLine) (I:Inv X pins σ H s) (g:DtAt X.w.params H a kvs) (hk:TK H t y) (ry:RelV y u) (h:∀ o s',Inv X pins σ H s'→RelO (valV kvs t) o→Q o s') :
 wpAny (model X.prog X.w) A (dictGet a u) Q E s:=by
 obtain ⟨m,rfl,e2,e3,e4⟩:=g
 obtain ⟨o,es,ep,q1,q2,q3,q4,q5,_⟩:=ad9 I e2 e3 e4
 have hin:=hk.1.isIn I ry
 unfold dictGet
 try (with_reducible refine wpAny_holding ?_)
 refine wpAny_bind (hin.pyHash (by have:=hk.2; omega) fun n=>wpAny_bind (ap4 (s:={ s with toks:=n }) q1 q3 q5 hin hk.2 hu (fun hn=>?_) fun j hj=>?_))
 · refine wpAny_pure (h _ _ (I.tok _) ?_)
   rw [(ah1 hn).1]
   exact True.intro
 · rw [List.getElem?_map] at hj
   obtain ⟨x,hx,rfl⟩:=Option.map_eq_some_iff.mp hj
   obtain ⟨en,f1,f2,f3,f4⟩:=q4.at_ j x hx
   refine wpAny_bind (wpAny_dictEntries (s:={ s with toks:=n }) q1 q3 ?_)
   rw [f1]
   refine wpAny_pure (h _ _ (I.tok _) ?_)
   rw [aj5 e4 hx]
   exact f4
theorem az8 {P:Params}{es:Array DictEntry}{e:DictEntry}(x:DtR P m es) (h1:e.hash=t.hash P) (h2:RelV y e.key) (h3:RelV v e.val):DtR P (m++[(t,y,v)]) (es.push e):=by
 refine ⟨by simp [x.len],fun j z hz=>?_⟩
 by_cases hj:j<m.length
 · rw [List.getElem?_append_left hj] at hz
   obtain ⟨e',f1,f2⟩:=x.at_ j z hz
   exact ⟨e',by rw [Array.getElem?_push,if_neg (by rw [x.len]; omega)]; exact f1,f2⟩
 · rw [List.getElem?_append_right (by omega)] at hz
   have hj2:j - m.length=0:=by
    refine Nat.eq_zero_of_not_pos fun z=>?_
    rw [List.getElem?_eq_none (by simp; omega)] at hz
    cases hz
   rw [hj2] at hz
   cases hz
   exact ⟨e,by rw [Array.getElem?_push,if_pos (by rw [x.len]; omega)],h1,h2,h3⟩
theorem bt8 {P:Params}{es:Array DictEntry}{j:Nat}{x:Tr×V×V}(R:DtR P m es) (hn:(m.map (·.1)).Nodup) (hx:m[j]?=some x) (h3:RelV v r) :
 DtR P (m.map fun z=>if z.1=x.1 then (z.1,z.2.1,v) else z) (es.modify j fun e=>{ e with val:=r }):=by
 refine ⟨by simp [R.len],fun i z hz=>?_⟩
 rw [List.getElem?_map] at hz
 obtain ⟨z0,hz0,rfl⟩:=Option.map_eq_some_iff.mp hz
 obtain ⟨e',f1,f2,f3,f4⟩:=R.at_ i z0 hz0
 have hi:i<es.size:=(Array.getElem?_eq_some_iff.mp f1).1
 rw [Array.getElem?_modify,f1]
 by_cases hij:j=i
 · subst hij
   rw [hz0] at hx
   cases hx
   rw [if_pos rfl,if_pos rfl]
   exact ⟨_,rfl,f2,f3,h3⟩
 · rw [if_neg hij,if_neg]
   · exact ⟨_,rfl,f2,f3,f4⟩
   · intro e
     have pw:=List.pairwise_iff_getElem.mp hn
     obtain ⟨l1,g1⟩:=List.getElem?_eq_some_iff.mp hx
     obtain ⟨l2,g2⟩:=List.getElem?_eq_some_iff.mp hz0
     rcases Nat.lt_trichotomy j i with h | h | h
     · exact pw j i (by simpa using l1) (by simpa using l2) h (by simp [g1,g2,e])
     · exact hij h
     · exact pw i j (by simpa using l2) (by simpa using l1) h (by simp [g1,g2,e])
theorem c63 {Q:Unit→Shared→Prop}(hu:A.units+16<cLine) (I:Inv X pins σ H s) (e2:DtE X.w.params H a m) (e3:∀ x∈m,x.1.At H x.2.1 []∧x.1.h≤8) (e4:(m.map (·.1)).Nodup) (hz:m.length<sizeLine)
 (hk:TK H t y) (ry:RelV y u) (rv:RelV v r) (h:∀ s',Inv X pins σ (upd H a (DtO X.w.params a (putM m t y v))) s'→Q () s') :
 wpAny (model X.prog X.w) A (dictSet a u r) Q E s:=by
 obtain ⟨o,es,ep,q1,q2,q3,q4,q5,z1,z2⟩:=ad9 I e2 e3 e4
 have hin:=hk.1.isIn I ry
 have hl:(putM m t y v).length≤sizeLine:=by have:=bj7 m t y v; omega
 unfold dictSet
 try (with_reducible refine wpAny_holding ?_)
 refine wpAny_bind (hin.pyHash (by have:=hk.2; omega) fun n=>?_)
 unfold dictSetHashed
 try (with_reducible refine wpAny_holding ?_)
 refine wpAny_bind (ap4 (s:={ s with toks:=n }) q1 q3 q5 hin hk.2 hu (fun hn=>?_) fun j hj=>?_)
 · refine wpAny_bind (wpAny_rule (wpAny_updateDictKeys (s:={ s with toks:=n }) q1 q3 (h _ (aw0 (I.tok n) e2.mut (Heap.SameBut.update ..) ?_ (az7 ⟨hl,z2,_,_,ep+1,Heap.get?_update_self _ q1 (Obj.isFreed_of_dict (Obj.data_mapDictKeys q3 _)),q2.mapDictKeys _,Obj.data_mapDictKeys q3 _,?_⟩))) (by rw [q4.len]; omega)))
   · exact ⟨_,Heap.get?_update_self _ q1 (Obj.isFreed_of_dict (Obj.data_mapDictKeys q3 _))⟩
   · unfold putM
     rw [if_neg (ah1 hn).2]
     exact az8 q4 rfl ry rv
 · rw [List.getElem?_map] at hj
   obtain ⟨x,hx,rfl⟩:=Option.map_eq_some_iff.mp hj
   refine wpAny_bind (wpAny_rule (wpAny_bind (wpAny_updateDict (s:={ s with toks:=n }) q1 q3 (wpAny_point (h _ (aw0 (I.tok n) e2.mut (Heap.SameBut.update ..) ?_ (az7 ⟨hl,z2,_,_,ep,Heap.get?_update_self _ q1 (Obj.isFreed_of_dict (Obj.data_mapDict q3 _)),q2.mapDict _,Obj.data_mapDict q3 _,?_⟩)))))))
   · exact ⟨_,Heap.get?_update_self _ q1 (Obj.isFreed_of_dict (Obj.data_mapDict q3 _))⟩
   · unfold putM
     rw [if_pos (List.mem_map_of_mem (List.mem_of_getElem? hx))]
     exact bt8 q4 e4 hx rv
end
def RawD (h:Heap) (d:Addr) (es:Array DictEntry) (ep:Nat):Prop:=∃ o,h.get? d=some o∧o.ExactDict∧o.data=.dict es ep
theorem RawD.ty {s:Shared}{d:Addr}{es:Array DictEntry}{ep:Nat}(x:RawD s.heap d es ep):s.TypeIs (.ref d) "dict":=let ⟨o,e,c,_⟩:=x; ⟨o,e,c.1⟩
theorem RawD.keep {h h':Heap}{d:Addr}{es:Array DictEntry}{ep:Nat}(x:RawD h d es ep) (k:∀ o,h.get? d=some o→h'.get? d=some o):RawD h' d es ep:=let ⟨o,e,r⟩:=x; ⟨o,k o e,r⟩
theorem RawD.lt {h:Heap}{d:Addr}{es:Array DictEntry}{ep:Nat}(x:RawD h d es ep):d<h.objs.size:=let ⟨_,e,_⟩:=x; Heap.lt_size e
section
variable {prog:Program}{w:World}{A:Around}{E:Value→Shared→Prop}{s:Shared}{d it:Addr}{es:Array DictEntry}{ep i:Nat}
theorem az9 {Q:Value→Shared→Prop}(lo:(d == sysModules)=false) (x:RawD s.heap d es ep)
 (q:Q (.ref s.heap.objs.size) { s with heap:=s.heap.push { cls:=.type "dict_keyiterator",data:=.fields #[.ref d,.int 0 0,.int es.size 0,.int ep 0] } }):wpAny (model prog w) A (pyIter (.ref d)) Q E s:=by
 have T:=x.ty
 obtain ⟨o,e1,e2,e3⟩:=x
 refine wpAny_pyIter_slot T F.slot_dict_iter (wpAny_call_entry F.slot_dict_iter T F.entry_dict_iter ?_ (F.args_dict_iter_1 _))
 unfold Builtin.«dict.__iter__»
 refine wpAny_bind ?_
 unfold Builtin.Dict.dictSlotNone
 refine wpAny_bind (wpAny_notOrdered_dict T ?_)
 refine (show wpAny _ _ (pure (Value.ref d)) _ _ s from wpAny_pure ?_)
 show wpAny _ A.in1 (Builtin.Dict.showsAll d >>= _) _ _ s
 unfold Builtin.Dict.showsAll
 rw [if_neg (by rw [lo]; simp)]
 refine wpAny_bind ((wpAny_pure) (wpAny_bind (wpAny_dictEntries e1 e3 (wpAny_bind (wpAny_dictEpoch e1 e3 (wpAny_bind (wpAny_newObj_type (wpAny_pure ⟨_,rfl,"dict_keyiterator",_,⟨_,Heap.get?_push_size _ rfl,rfl⟩,F.slot_dict_keyiterator_next.lookup,?_⟩))))))))
 simpa [rawInt] using q
theorem b00 {Q:Option Value→Shared→Prop}{e:DictEntry}(hit:s.heap.IsKeyIter it d i es.size ep) (x:RawD s.heap d es ep) (he:es[i]?=some e)
 (q:∀ h',h'.IsKeyIter it d (i+1) es.size ep→Heap.SameBut it s.heap h'→Q (some e.key) { s with heap:=h' }):wpAny (model prog w) A (pyNext (.ref it)) Q E s:=by
 have T:=hit.typeIs
 obtain ⟨o,ho,hc,hd⟩:=id hit
 obtain ⟨od,g1,g2,g3⟩:=x
 have hlt:i<es.size:=(Array.getElem?_eq_some_iff.mp he).1
 unfold pyNext
 refine wpAny_bind (wpAny_attempt (wpAny_callSpecial?_slot (name:=Str.ofString "__next__") T F.slot_dict_keyiterator_next (wpAny_call_entry F.slot_dict_keyiterator_next T F.entry_dict_keyiterator_next ?_ (F.args_dict_keyiterator_next_1 _))))
 refine wpAny_bind ((wpAny_pure) (wpAny_bind (wpAny_bind ?_)))
 first | refine wpAny_bind (wpAny_typeNameOfWhole_keyiter T (wpAny_pure ?_)) | refine wpAny_bind (wpAny_typeNameOf_keyiter T (wpAny_pure ?_))
 refine wpAny_bind (wpAny_fieldsOf ho (hd) ?_)
 simp only [show Builtin.Dict_items.ownsTuple "dict_keyiterator"=false by decide,Bool.false_eq_true,if_false]
 show wpAny _ A.in1 (if (Value.ref d == Value.none)=true then _ else _) _ _ s
 rw [if_neg (fun z:(Value.ref d == Value.none)=true=>Bool.false_ne_true z)]
 refine wpAny_bind ((wpAny_pure) (wpAny_bind (wpAny_dictEntries g1 g3 ?_)))
 rw [if_neg (by simp)]
 refine wpAny_bind ((wpAny_pure) (wpAny_bind (wpAny_dictEpoch g1 g3 ?_)))
 rw [if_neg (by simp)]
 refine wpAny_pure ?_
 simp only [show ¬ ((i:Int)<0) by omega,if_false,Int.toNat_natCast,he]
 refine wpAny_bind ?_
 first | refine wpAny_bind (wpAny_typeNameOfWhole_keyiter T (wpAny_pure ?_)) | refine wpAny_bind (wpAny_typeNameOf_keyiter T (wpAny_pure ?_))
 refine wpAny_bind (wpAny_isOneOf_keyiter T ?_)
 show wpAny _ A.in1 (setField (.ref it) 1 (rawInt ((i:Int)+1)) >>= _) _ _ s
 refine wpAny_bind (wpAny_setField ho (hd) (by simp) ?_)
 have hit2:(s.heap.update it (Obj.mapFields (·.setIfInBounds 1 (rawInt ((i:Int)+1))))).IsKeyIter it d (i+1) es.size ep :=
  ⟨_,Heap.get?_update_self _ ho (Obj.isFreed_of_fields (Obj.data_mapFields hd _)),(Obj.cls_mapFields ..).trans hc,by rw [Obj.data_mapFields hd]; simp [rawInt]⟩
 refine wpAny_bind (wpAny_holding (wpAny_bind (wpAny_isOneOf_keyiter (s:={ s with heap:=s.heap.update it (Obj.mapFields (·.setIfInBounds 1 (rawInt ((i:Int)+1)))) }) hit2.typeIs ?_)))
 show wpAny _ A.in1 (pure e.key) _ _ _
 exact wpAny_pure (wpAny_pure ⟨_,rfl,wpAny_pure (q _ hit2 (Heap.SameBut.update ..))⟩)
theorem ba6 {Q:Option Value→Shared→Prop}(hh:A.handled=none) (hit:s.heap.IsKeyIter it d i es.size ep) (x:RawD s.heap d es ep) (he:es.size≤i)
 (q:∀ h',Heap.ExtBut it s.heap h'→Q none { s with heap:=h' }):wpAny (model prog w) A (pyNext (.ref it)) Q E s:=by
 have T:=hit.typeIs
 obtain ⟨o,ho,hc,hd⟩:=id hit
 obtain ⟨od,g1,g2,g3⟩:=x
 unfold pyNext
 refine wpAny_bind (wpAny_attempt (wpAny_callSpecial?_slot (name:=Str.ofString "__next__") T F.slot_dict_keyiterator_next (wpAny_call_entry F.slot_dict_keyiterator_next T F.entry_dict_keyiterator_next ?_ (F.args_dict_keyiterator_next_1 _))))
 refine wpAny_bind ((wpAny_pure) (wpAny_bind (wpAny_bind ?_)))
 first | refine wpAny_bind (wpAny_typeNameOfWhole_keyiter T (wpAny_pure ?_)) | refine wpAny_bind (wpAny_typeNameOf_keyiter T (wpAny_pure ?_))
 refine wpAny_bind (wpAny_fieldsOf ho (hd) ?_)
 simp only [show Builtin.Dict_items.ownsTuple "dict_keyiterator"=false by decide,Bool.false_eq_true,if_false]
 show wpAny _ A.in1 (if (Value.ref d == Value.none)=true then _ else _) _ _ s
 rw [if_neg (fun z:(Value.ref d == Value.none)=true=>Bool.false_ne_true z)]
 refine wpAny_bind ((wpAny_pure) (wpAny_bind (wpAny_dictEntries g1 g3 ?_)))
 rw [if_neg (by simp)]
 refine wpAny_bind ((wpAny_pure) (wpAny_bind (wpAny_dictEpoch g1 g3 ?_)))
 rw [if_neg (by simp)]
 refine wpAny_pure ?_
 simp only [show ¬ ((i:Int)<0) by omega,if_false,Int.toNat_natCast,Array.getElem?_eq_none he]
 refine wpAny_bind ?_
 first | refine wpAny_bind (wpAny_typeNameOfWhole_keyiter T (wpAny_pure ?_)) | refine wpAny_bind (wpAny_typeNameOf_keyiter T (wpAny_pure ?_))
 show wpAny _ A.in1 (setField (.ref it) 0 .none >>= _) _ _ s
 refine wpAny_bind (wpAny_setField ho (hd) (by simp) ?_)
 show wpAny _ A.in1 (newExc (.type "StopIteration") [] >>= _) _ _ _
 refine wpAny_bind ?_
 simp only [newExc,newTuple]
 refine wpAny_bind (wpAny_newObj_type ?_ (by size_fits))
 refine wpAny_bind (m:=firstArgMember _ _) (wpAny_of_eq (a:=Value.none) (by first | rfl | (simp only [firstArgMember]; rfl)) (wpAny_newObj_type ?_ (by size_fits)))
 simp only [raiseNew]
 refine wpAny_bind (wpAny_handled ?_)
 rw [show A.in1.handled=none from hh]
 refine wpAny_bind ((wpAny_pure) ((wpAny_throw) ?_))
 refine wpAny_bind (wpAny_isInstance (b:=true) (T:="StopIteration") ⟨_,Heap.get?_push_size _ rfl,rfl⟩ isSubtype_stop ?_)
 exact wpAny_pure (q _ (((Heap.SameBut.update ..).extBut.push _).push _))
theorem ba7 (hh:A.handled=none) (hne:d≠it):Walks prog w A it [it,d] [it] es.size (fun i v=>∃ e,es[i]?=some e∧v=e.key) (fun i h=>h.IsKeyIter it d i es.size ep∧RawD h d es ep) where
 sub:=fun b hb=>by simp at hb; simp [hb]
 frame:=fun _ _ _ st hk=>⟨st.1.at fun o e=>hk it (by simp) o e,st.2.keep fun o e=>hk d (by simp) o e⟩
 item:=fun i s Q E hi st hQ=>b00 st.1 st.2 (Array.getElem?_eq_getElem hi) fun h' hit' hs=>hQ _ h' s.toks ⟨_,Array.getElem?_eq_getElem hi,rfl⟩ ⟨hit',st.2.keep fun o e=>hs.extBut d o hne e⟩ fun b o hb e=>hs.extBut b o (fun h=>hb (by simp [h])) e
 done:=fun s Q E st hQ=>ba6 hh st.1 st.2 (Nat.le_refl _) fun h' he'=>hQ h' s.toks fun b o hb e=>he' b o (fun h=>hb (by simp [h])) e
 self:=fun _ _ _ _ st hQ=>wpAny_pyIter_keyiter st.1 hQ
theorem bt9 (lo:(d == sysModules)=false):PySem.W.KdlSrc prog w "dict" d d es.size (fun i v=>∃ e,es[i]?=some e∧v=e.key) (fun h=>RawD h d es ep) where
 type:=fun _ hm=>hm.ty
 there:=fun _ hm=>⟨hm.lt,hm.lt⟩
 keep:=fun _ _ hm hk=>hm.keep fun o e=>hk d (.inl rfl) o e
 notList:=by decide
 notTuple:=by decide
 hint:=fun _ _ _ _ hm hq=>PySem.W.kdl_hint_dict hm.ty hq
 iter:=fun _ _ hh hm=>⟨_,_,(fun _ _ hq=>az9 lo hm hq),ba7 hh (Nat.ne_of_lt hm.lt),⟨⟨_,Heap.get?_push_size _ rfl,rfl,rfl⟩,hm.keep fun o e=>Heap.get?_push_of_some _ e⟩⟩
end
theorem aw3:∀ {xs:List V}{us:List Value},xs.length=us.length→(∀ (j:Nat) x u,xs[j]?=some x→us[j]?=some u→RelV x u)→Vals xs us
 | [],[],_,_=>.nil
 | x::xs,u::us,hl,h=>.cons (h 0 x u rfl rfl) (aw3 (by simpa using hl) fun j y z hy hz=>h (j+1) y z (by simpa using hy) (by simpa using hz))
 | [],_::_,hl,_=>by simp at hl
 | _::_,[],hl,_=>by simp at hl
section
variable {X:Cx}{pins:List (Addr×Obj)}{σ:St} {H:Hp}{s:Shared}{a:Addr}{t:Tr}{y v z:V}{u r:Value}{A:Around}{E:Value→Shared→Prop}{kvs:List (Tr×V)}{m:List (Tr×V×V)}
theorem ad1 (I:Inv X pins σ H s) (g:DtAt X.w.params H a kvs):∃ es ep,RawD s.heap a es ep∧(a == sysModules)=false∧es.size=kvs.length∧kvs.length≤sizeLine:=by
 obtain ⟨m,rfl,e2,e3,e4⟩:=g
 obtain ⟨o,es,ep,q1,q2,q3,q4,q5,z1,z2⟩:=ad9 I e2 e3 e4
 exact ⟨es,ep,⟨o,q1,q2,q3⟩,z2,by rw [q4.len,List.length_map],by rw [List.length_map]; exact z1⟩
theorem b55 {Q:Value→Shared→Prop}(hu:A.units+20<cLine) (I:Inv X pins σ H s) (g:DtAt X.w.params H a kvs) (hk:TK H t y) (ry:RelV y u) (hv:valV kvs t=some v) (h:∀ w' s',Inv X pins σ H s'→RelV v w'→Q w' s') :
 wpAny (model X.prog X.w) A (getItem (.ref a) u) Q E s:=by
 obtain ⟨_,_,x,_,_,_⟩:=ad1 I g
 have T:=x.ty
 unfold getItem
 try (with_reducible refine wpAny_holding ?_)
 refine wpAny_bind (wpAny_sequenceKey T (by decide) (wpAny_bind (wpAny_callSpecial?_slot (name:=Str.ofString "__getitem__") T slot_dict_getitem (wpAny_call_entry slot_dict_getitem T entry_dict_getitem ?_ (args_dict_getitem _ _)))))
 show wpAny _ A.in1 (dictGet a u >>= _) _ _ s
 refine wpAny_bind (bq2 (by rw [a68]; omega) I g hk ry fun o s' I' ro=>?_)
 rw [hv] at ro
 obtain ⟨w',rfl,rw'⟩:=ro.some_of
 exact wpAny_pure ⟨w',rfl,wpAny_pure (h w' s' I' rw')⟩
theorem b56 {Q:Unit→Shared→Prop}(hu:A.units+20<cLine) (I:Inv X pins σ H s) (e2:DtE X.w.params H a m) (e3:∀ x∈m,x.1.At H x.2.1 []∧x.1.h≤8) (e4:(m.map (·.1)).Nodup) (hz:m.length<sizeLine)
 (hk:TK H t y) (ry:RelV y u) (rv:RelV v r) (h:∀ s',Inv X pins σ (upd H a (DtO X.w.params a (putM m t y v))) s'→Q () s'):wpAny (model X.prog X.w) A (setItem (.ref a) u r) Q E s:=by
 obtain ⟨_,_,x,lo,_,_⟩:=ad1 I ⟨m,rfl,e2,e3,e4⟩
 have T:=x.ty
 unfold setItem
 try (with_reducible refine wpAny_holding ?_)
 refine wpAny_bind (wpAny_sequenceKey T (by decide) (wpAny_bind (wpAny_callSpecial?_slot (name:=Str.ofString "__setitem__") T slot_dict_setitem (wpAny_call_entry slot_dict_setitem T entry_dict_setitem ?_ (args_dict_setitem _ _ _)))))
 show wpAny _ A.in1 (Builtin.Dict.notOrdered "__setitem__" ⟨[.ref a,u,r],[]⟩ >>= _) _ _ s
 refine wpAny_bind (wpAny_notOrdered_dict T ?_)
 show wpAny _ A.in1 (dictSet a u r >>= _) _ _ s
 exact wpAny_bind (c63 (by rw [a68]; omega) I e2 e3 e4 hz hk ry rv fun s' I'=>wpAny_pure ⟨.none,rfl,wpAny_pure (h s' I')⟩)
theorem bu0 {Q:Value→Shared→Prop}(hu:A.units+20<cLine) (I:Inv X pins σ H s) (g:DtAt X.w.params H a kvs) (hk:TK H t y) (ry:RelV y u) (rz:RelV z r) (h:∀ w' s',Inv X pins σ H s'→RelV ((valV kvs t).getD z) w'→Q w' s') :
 wpAny (model X.prog X.w) A (call (.builtin "dict.get") [.ref a,u,r]) Q E s:=by
 obtain ⟨_,_,x,lo,_,_⟩:=ad1 I g
 refine wpAny_call_entry PySem.F.slot_dict_get x.ty PySem.F.entry_dict_get ?_ (PySem.F.args_dict_get_3 _ _ _)
 show wpAny _ A.in1 (dictGet a u >>= _) _ _ s
 refine wpAny_bind (bq2 (by rw [a68]; omega) I g hk ry fun o s' I' ro=>?_)
 have h:=h (o.getD r) s' I' (ro.getD rz)
 cases o with
 | some w'=>exact wpAny_pure ⟨w',rfl,h⟩
 | none=>exact (show wpAny _ _ (Builtin.Dict.missed a u >>= _) _ _ _ from wpAny_bind (wpAny_missed_other lo (wpAny_pure ⟨r,rfl,h⟩)))
theorem ba8 {Q:Value→Shared→Prop}(hu:A.units+20<cLine) (I:Inv X pins σ H s) (e2:DtE X.w.params H a m) (e3:∀ x∈m,x.1.At H x.2.1 []∧x.1.h≤8) (e4:(m.map (·.1)).Nodup) (hz:m.length<sizeLine)
 (hk:TK H t y) (ry:RelV y u) (rz:RelV z r) (h1:∀ v w' s',valV (m.map fun x=>(x.1,x.2.2)) t=some v→Inv X pins σ H s'→RelV v w'→Q w' s')
 (h2:∀ s',valV (m.map fun x=>(x.1,x.2.2)) t=none→Inv X pins σ (upd H a (DtO X.w.params a (m++[(t,y,z)]))) s'→Q r s') :
 wpAny (model X.prog X.w) A (call (.builtin "dict.setdefault") [.ref a,u,r]) Q E s:=by
 obtain ⟨_,_,x,lo,_,_⟩:=ad1 I ⟨m,rfl,e2,e3,e4⟩
 obtain ⟨o,es,ep,q1,q2,q3,q4,q5,z1,z2⟩:=ad9 I e2 e3 e4
 have hin:=hk.1.isIn I ry
 refine wpAny_call_entry PySem.F.slot_dict_setdefault x.ty PySem.F.entry_dict_setdefault ?_ (PySem.F.args_dict_setdefault_3 _ _ _)
 unfold Builtin.«dict.setdefault»
 refine wpAny_bind ?_
 unfold Builtin.Dict.keyAndDefault
 refine wpAny_bind (wpAny_notOrdered_dict x.ty ?_)
 refine (show wpAny _ _ (pure (a,u,some r)) _ _ s from wpAny_pure ?_)
 show wpAny _ A.in1 (if (a == sysModules)=true then _ else (dictSetDefault a u r >>= _)) _ _ s
 rw [if_neg (by rw [lo]; simp)]
 refine wpAny_bind ?_
 unfold dictSetDefault
 try (with_reducible refine wpAny_holding ?_)
 refine wpAny_bind (hin.pyHash (by have:=hk.2; rw [a68]; omega) fun n=>?_)
 refine wpAny_bind (ap4 (s:={ s with toks:=n }) q1 q3 q5 hin hk.2 (by rw [a68]; omega) (fun hn=>?_) fun j hj=>?_)
 · refine wpAny_bind (wpAny_rule (wpAny_bind (wpAny_updateDictKeys (s:={ s with toks:=n }) q1 q3 (wpAny_pure (wpAny_pure ⟨r,rfl,h2 _ (ah1 hn).1 (aw0 (I.tok n) e2.mut (Heap.SameBut.update ..) ?_ (az7 ⟨by simp; omega,z2,_,_,ep+1,Heap.get?_update_self _ q1 (Obj.isFreed_of_dict (Obj.data_mapDictKeys q3 _)),q2.mapDictKeys _,Obj.data_mapDictKeys q3 _,?_⟩))⟩)) (by rw [q4.len]; omega))))
   · exact ⟨_,Heap.get?_update_self _ q1 (Obj.isFreed_of_dict (Obj.data_mapDictKeys q3 _))⟩
   · exact az8 q4 rfl ry rz
 · rw [List.getElem?_map] at hj
   obtain ⟨p,hp,rfl⟩:=Option.map_eq_some_iff.mp hj
   obtain ⟨en,f1,f2,f3,f4⟩:=q4.at_ j p hp
   refine wpAny_bind (wpAny_dictEntries (s:={ s with toks:=n }) q1 q3 ?_)
   rw [f1]
   exact wpAny_bind (wpAny_rule (wpAny_pure (wpAny_pure ⟨_,rfl,h1 _ _ _ (aj5 e4 hp) (I.tok _) f4⟩)))
theorem bu1 {Q:Value→Shared→Prop}(hh:A.handled=none) (I:Inv X pins σ H s) (e2:DtE X.w.params H a m) (e3:∀ x∈m,x.1.At H x.2.1 []∧x.1.h≤8) (e4:(m.map (·.1)).Nodup)
 (h:∀ p s',H p=none→Inv X pins σ (upd H p (.lst (m.map (·.2.1)))) s'→Q (.ref p) s'):wpAny (model X.prog X.w) A (call (.type "list") [.ref a]) Q E s:=by
 obtain ⟨o,es,ep,q1,q2,q3,q4,q5,z1,z2⟩:=ad9 I e2 e3 e4
 refine PySem.W.kdl_call (bt9 (es:=es) (ep:=ep) z2) hh ⟨o,q1,q2,q3⟩ (by rw [q4.len]; exact z1) fun h' tk acc c hk hS hacc=>h _ _ I.fresh ?_
 refine I.laid (a:=s.heap.objs.size) (t':=tk) hk (Nat.le_refl _) ?_
 refine ⟨by rw [List.length_map]; exact z1,acc.toList,c,?_,by simpa using hS⟩
 have hl:acc.size=m.length:=hacc.1.trans q4.len
 refine aw3 (by simp [hl]) fun j x1 x2 hx1 hx2=>?_
 rw [List.getElem?_map] at hx1
 obtain ⟨p,hp,rfl⟩:=Option.map_eq_some_iff.mp hx1
 obtain ⟨e,he,rfl⟩:=hacc.2 j x2 (by rw [← Array.getElem?_toList]; exact hx2)
 obtain ⟨en,f1,f2,f3,f4⟩:=q4.at_ j p hp
 rw [he] at f1
 cases f1
 exact f3
end
theorem ah2 {H:Hp}{a:Addr}{φ:Heap→Prop} {o:HO}(h:H a=some (.ext φ)):Tups H (upd H a o):=fun b ys e=>by rw [a08 (ac8 e h (fun z=>nomatch z))]; exact e
theorem a92 {H H':Hp}{t:Tr}{v:V}(h:t.At H v []) (k:Tups H H'):t.At H' v []:=h.mono ⟨k,fun _ m=>absurd m (by simp)⟩
theorem ac5 {H H':Hp}{ts:List Tr}{vs:List V}(h:Tr.Ats H ts vs []) (k:Tups H H'):Tr.Ats H' ts vs []:=h.mono ⟨k,fun _ m=>absurd m (by simp)⟩
theorem DtAt.ext {P:Params}{H:Hp}{a:Addr}{kvs:List (Tr×V)}(g:DtAt P H a kvs):∃ φ,H a=some (.ext φ):=let ⟨_,_,⟨φ,e,_⟩,_⟩:=g; ⟨φ,e⟩
theorem DtAt.mono {P:Params}{H H':Hp}{a:Addr}{kvs:List (Tr×V)}(g:DtAt P H a kvs) (k:Tups H H') (e:H' a=H a):DtAt P H' a kvs:=by
 obtain ⟨m,e1,⟨φ,e2,hφ⟩,e3,e4⟩:=g
 exact ⟨m,e1,⟨φ,e.trans e2,hφ⟩,fun x hx=>⟨a92 (e3 x hx).1 k,(e3 x hx).2⟩,e4⟩
theorem ba9 {P:Params}{H:Hp}{a:Addr}{m:List (Tr×V×V)}{t:Tr}{y v:V}(e2:DtE P H a m) (e3:∀ x∈m,x.1.At H x.2.1 []∧x.1.h≤8) (e4:(m.map (·.1)).Nodup) (hk:TK H t y) :
 DtAt P (upd H a (DtO P a (putM m t y v))) a (putK (m.map fun x=>(x.1,x.2.2)) t v):=by
 obtain ⟨φ,e2,hφ⟩:=e2
 refine ⟨_,bj5 m t y v,.of a34,?_,bt7 t y v e4⟩
 exact bj6 (p:=fun t y=>t.At (upd H a (DtO P a (putM m _ _ _))) y []∧t.h≤8) (fun x hx=>⟨a92 (e3 x hx).1 (ah2 e2),(e3 x hx).2⟩) ⟨a92 hk.1 (ah2 e2),hk.2⟩
theorem bj8 {m:List (Tr×V×V)}{t:Tr}{y v:V}(h:valV (m.map fun x=>(x.1,x.2.2)) t=none):putM m t y v=m++[(t,y,v)]:=by
 unfold putM
 rw [if_neg]
 intro z
 obtain ⟨x,hx,rfl⟩:=List.mem_map.mp z
 have:=bi4 h
 exact this (by
  rw [List.map_map]
  exact List.mem_map_of_mem (f:=fun x=>x.1) hx)
def tTNew (P:Params):TE:=fun _ H Q=>∀ p o,H p=none→DtAt P (upd H p o) p []→Q (.ref p) (upd H p o)
def tTGet (P:Params) (td ty:TE):TE:=fun σ H Q=>td σ H fun x H1=>ty σ H1 fun y H2=>∃ a kvs t v,x=.ref a∧DtAt P H2 a kvs∧TK H2 t y∧valV kvs t=some v∧Q v H2
def sTPut (P:Params) (td ty tv:TE):TS:=fun D σ H=>tv σ H fun v H1=>td σ H1 fun x H2=>ty σ H2 fun y H3=>∃ a kvs t,x=.ref a∧DtAt P H3 a kvs∧TK H3 t y∧kvs.length<sizeLine∧∀ o,DtAt P (upd H3 a o) a (putK kvs t v)→D.nx σ (upd H3 a o)
def bq3 (P:Params) (td ty tx:TE):TE:=fun σ H Q=>td σ H fun x H1=>∃ a kvs,x=.ref a∧DtAt P H1 a kvs∧ty σ H1 fun y H2=>tx σ H2 fun z H3=>∃ kvs' t,DtAt P H3 a kvs'∧TK H3 t y∧Q ((valV kvs' t).getD z) H3
def tTSetD (P:Params) (td ty tx:TE):TE:=fun σ H Q=>td σ H fun x H1=>∃ a kvs,x=.ref a∧DtAt P H1 a kvs∧ty σ H1 fun y H2=>tx σ H2 fun z H3=>∃ kvs' t,DtAt P H3 a kvs'∧TK H3 t y∧kvs'.length<sizeLine ∧
 (∀ v,valV kvs' t=some v→Q v H3)∧(valV kvs' t=none→∀ o,DtAt P (upd H3 a o) a (kvs'++[(t,z)])→Q z (upd H3 a o))
def rListT (P:Params):List V→Hp→VK→Prop:=fun xs H Q=>∃ a kvs,xs=[.ref a]∧DtAt P H a kvs∧∀ p ks H',H p=none→Same H H'→H' p=some (.lst ks)→Tr.Ats H' (kvs.map (·.1)) ks []→Q (.ref p) H'
section
variable {X:Cx}{o i e f value:Expr}{pos pos' apos cpos:Pos}{td ty tv tx:TE}{P:Params}
theorem bu2 (h:Heap) (P:Params) (hb:sysModules<h.objs.size):DtP P h.objs.size [] (h.push { cls:=.type "dict",data:=.dict #[] }) :=
 ⟨Nat.zero_le _,beq_eq_false_iff_ne.mpr (Ne.symm (Nat.ne_of_lt hb)),_,#[],0,Heap.get?_push_size _ rfl,⟨rfl,rfl,rfl⟩,rfl,rfl,fun j x hx=>by simp at hx⟩
theorem aw4 (P:Params):PE X (.Dict [] [] pos) (tTNew P):=fun pins s σ H Q I h =>
 wpAny_Dict_empty ⟨.ref s.heap.objs.size,_,I.laid (a:=s.heap.objs.size) (o:=DtO P s.heap.objs.size []) (t':=s.toks) (fun _ _ q=>Heap.get?_push_of_some _ q) (Nat.le_refl _) (az7 (bu2 s.heap P I.big)),rfl,
  h _ _ (I.hok.fresh (Nat.le_refl _)) ⟨[],rfl,.of a34,fun x hx=>absurd hx (by simp),List.nodup_nil⟩⟩
theorem ak8 (hP:X.w.params=P) (hu:X.A.units+64<cLine) (ho:PE X o td) (hi:PE X i ty) (hs:NoSl i):PE X (.Subscript o i pos) (tTGet P td ty):=by
 subst hP
 intro pins s σ H Q I h
 refine b96 PySem.F.slot_dict_getitem.lookup hs (thn (ho pins s σ H _ I h) fun u s1 ⟨x,H1,I1,rx,q1⟩=>thn (hi pins s1 σ H1 _ I1 q1) fun iv s2 ⟨y,H2,I2,ry,a,kvs,t,v,ex,g,hk,hv,q2⟩=>?_)
 subst ex
 obtain rfl:u=Value.ref a:=rx
 obtain ⟨_,_,x,_⟩:=ad1 I2 g
 exact ⟨x.ty,b55 (by omega) I2 g hk ry hv fun w' s3 I3 rw'=>⟨v,H2,I3,rw',q2⟩⟩
theorem aw5 (hP:X.w.params=P) (hu:X.A.units+64<cLine) (ho:PE X o td) (hi:PE X i ty) (hv:PE X value tv) (hs:swapsWith value (some (.Subscript o i pos')) pos.line X.env=pure false) :
 PS X (.Assign [.Subscript o i pos'] value pos) (sTPut P td ty tv):=by
 subst hP
 intro pins s σ H D I h
 refine wpAny_Assign_Subscript (thn (hv pins s σ H _ I h) fun r s1 ⟨v,H1,I1,rv,q1⟩=>thn (ho pins s1 σ H1 _ I1 q1) fun u s2 ⟨x,H2,I2,rx,q2⟩=>thn (hi pins s2 σ H2 _ I2 q2) fun iv s3 ⟨y,H3,I3,ry,a,kvs,t,ex,g,hk,hz,q3⟩=>?_) hs
 subst ex
 obtain rfl:u=Value.ref a:=rx
 obtain ⟨m,rfl,e2,e3,e4⟩:=g
 rw [List.length_map] at hz
 exact b56 (by omega) I3 e2 e3 e4 hz hk ry rv fun s4 I4=>⟨σ,_,I4,q3 _ (ba9 e2 e3 e4 hk)⟩
theorem bj9 (hP:X.w.params=P) (hu:X.A.units+64<cLine) (ho:PE X o td) (he:PE X e ty) (hf:PE X f tx) (m:M2 X o "get" apos e f cpos):PE X (.Call (.Attribute o "get" apos) [e,f] [] cpos) (bq3 P td ty tx):=by
 subst hP
 intro pins s σ H Q I h
 refine wpAny_Call_method m.base m.few m.line PySem.F.plainAttrs_dict PySem.F.slot_dict_get PySem.F.type_dict_get (thn (ho pins s σ H _ I h) fun u s1 ⟨x,H1,I1,rx,a,kvs,ex,g1,q1⟩=>?_)
 subst ex
 obtain rfl:u=Value.ref a:=rx
 obtain ⟨es,ep,x,_⟩:=ad1 I1 g1
 refine ⟨x.ty,(fun b q=>by cases q; obtain ⟨ob,h1,h2,_⟩:=x; exact ⟨ob,h1,h2.2.1⟩),?_⟩
 rw [m.trees]
 refine Calls.callWith_builtin rfl (Calls.evalArgs_plain (Calls.spliced_cons (thn (he pins s1 σ H1 _ I1 q1) fun iv s2 ⟨y,H2,I2,ry,q2⟩=>Calls.spliced_cons (thn (hf pins s2 σ H2 _ I2 q2) fun fv s3 ⟨z,H3,I3,rz,kvs',t,g,hk,q3⟩=>Calls.spliced_nil ?_))))
 exact bu0 (by omega) I3 g hk ry rz fun w' s4 I4 rw'=>⟨_,H3,I4,rw',q3⟩
theorem bk0 (hP:X.w.params=P) (hu:X.A.units+64<cLine) (ho:PE X o td) (he:PE X e ty) (hf:PE X f tx) (m:M2 X o "setdefault" apos e f cpos):PE X (.Call (.Attribute o "setdefault" apos) [e,f] [] cpos) (tTSetD P td ty tx):=by
 subst hP
 intro pins s σ H Q I h
 refine wpAny_Call_method m.base m.few m.line PySem.F.plainAttrs_dict PySem.F.slot_dict_setdefault PySem.F.type_dict_setdefault (thn (ho pins s σ H _ I h) fun u s1 ⟨x,H1,I1,rx,a,kvs,ex,g1,q1⟩=>?_)
 subst ex
 obtain rfl:u=Value.ref a:=rx
 obtain ⟨es,ep,x,_⟩:=ad1 I1 g1
 refine ⟨x.ty,(fun b q=>by cases q; obtain ⟨ob,h1,h2,_⟩:=x; exact ⟨ob,h1,h2.2.1⟩),?_⟩
 rw [m.trees]
 refine Calls.callWith_builtin rfl (Calls.evalArgs_plain (Calls.spliced_cons (thn (he pins s1 σ H1 _ I1 q1) fun iv s2 ⟨y,H2,I2,ry,q2⟩=>Calls.spliced_cons (thn (hf pins s2 σ H2 _ I2 q2) fun fv s3 ⟨z,H3,I3,rz,kvs',t,g,hk,hz,n1,n2⟩=>Calls.spliced_nil ?_))))
 obtain ⟨mm,rfl,e2,e3,e4⟩:=g
 rw [List.length_map] at hz
 refine ba8 (by omega) I3 e2 e3 e4 hz hk ry rz (fun v w' s' hv I' rv=>⟨v,H3,I',rv,n1 v hv⟩) fun s' hv I'=>⟨z,_,I',rz,n2 hv _ ?_⟩
 have:=ba9 (v:=z) e2 e3 e4 hk
 rw [bj8 hv,bi3 z hv] at this
 exact this
theorem bk1 (hP:X.w.params=P) (hc:X.calm=true):CallR X (.type "list") (rListT P):=by
 subst hP
 intro pins s σ H xs us Q I r h
 obtain ⟨a,kvs,rfl,⟨m,rfl,e2,e3,e4⟩,q⟩:=h
 cases r with
 | cons r1 r2 =>
 cases r2
 cases r1
 refine bu1 (I.ok.hd hc) I e2 e3 e4 fun p s' hp I'=>⟨.ref p,_,I',rfl,q p _ _ hp (Same.new hp) a34 ?_⟩
 have sm:Same H (upd H p (.lst (m.map (·.2.1)))):=Same.new hp
 clear I'
 generalize upd H p (.lst (m.map (·.2.1)))=H' at sm
 clear q e2 e4
 rw [List.map_map]
 induction m with
 | nil=>simp [Tr.Ats]
 | cons x m ih =>
   simp only [List.map_cons,Tr.Ats]
   exact ⟨_,_,[],[],rfl,rfl,a92 (e3 x List.mem_cons_self).1 sm.tups,ih (fun z hz=>e3 z (List.mem_cons_of_mem _ hz))⟩
end
def rSum (K:PySem.W.Frag):List V→Hp→VK→Prop:=fun xs H Q=>∃ (a:Addr) (ns:List Int),xs=[.ref a]∧SqL K H a (ns.map V.int)∧Q (.int ns.sum) H
section
variable {X:Cx}
theorem Tr.In.rcAt {s:Shared}{t r:Tr}{A:Around}{u z:Value}(h1:Tr.In s.heap t u) (h2:Tr.In s.heap r z) (hu:A.units+t.h+r.h+2<cLine):SeqAt.RcAt A s u z (decide (t=r)):=by
 cases t with
 | lst _=>exact h1.elim
 | non =>
   simp only [Tr.In] at h1
   subst h1
   cases r with
   | lst _=>exact h2.elim
   | non=>simp only [Tr.In] at h2; subst h2; rw [decide_eq_true rfl]; exact SeqAt.RcAt.none_none
   | int j =>
     rw [decide_eq_false (by simp)]
     rcases h2 with ⟨t2,rfl⟩ | ⟨b2,rfl,rfl⟩
     · exact SeqAt.RcAt.none_int _ _
     · exact SeqAt.RcAt.none_bool _
   | str j=>obtain ⟨t2,rfl⟩:=h2; rw [decide_eq_false (by simp)]; exact SeqAt.RcAt.none_str _ _
   | tup rs=>simp only [Tr.In] at h2; obtain ⟨b,vs,rfl,p,_⟩:=h2; rw [decide_eq_false (by simp)]; exact SeqAt.RcAt.none_tuple p (by omega)
 | int i =>
   cases r with
   | lst _=>exact h2.elim
   | non =>
     simp only [Tr.In] at h2
     subst h2
     rw [decide_eq_false (by simp)]
     rcases h1 with ⟨t1,rfl⟩ | ⟨b1,rfl,rfl⟩
     · exact SeqAt.RcAt.int_none _ _
     · exact SeqAt.RcAt.bool_none _
   | int j =>
     rw [show decide (Tr.int i=Tr.int j)=(i == j) from Bool.eq_iff_iff.mpr (by simp)]
     rcases h1 with ⟨t1,rfl⟩ | ⟨b1,rfl,rfl⟩
     · rcases h2 with ⟨t2,rfl⟩ | ⟨b2,rfl,rfl⟩
       · exact SeqAt.RcAt.int_int _ _ _ _
       · exact SeqAt.RcAt.int_bool _ _ _
     · rcases h2 with ⟨t2,rfl⟩ | ⟨b2,rfl,rfl⟩
       · exact SeqAt.RcAt.bool_int _ _ _
       · have:=SeqAt.RcAt.bool_bool (A:=A) (s:=s) b1 b2
         cases b1 <;> cases b2 <;> exact this
   | str j =>
     obtain ⟨t2,rfl⟩:=h2
     rw [decide_eq_false (by simp)]
     rcases h1 with ⟨t1,rfl⟩ | ⟨b1,rfl,rfl⟩
     · exact SeqAt.RcAt.int_str _ _ _ _
     · exact SeqAt.RcAt.bool_str _ _ _
   | tup rs =>
     simp only [Tr.In] at h2
     obtain ⟨b,vs,rfl,p,_⟩:=h2
     rw [decide_eq_false (by simp)]
     rcases h1 with ⟨t1,rfl⟩ | ⟨b1,rfl,rfl⟩
     · exact SeqAt.RcAt.int_tuple _ _ p (by omega)
     · exact SeqAt.RcAt.bool_tuple _ p (by omega)
 | str i =>
   obtain ⟨t1,rfl⟩:=h1
   cases r with
   | lst _=>exact h2.elim
   | non=>simp only [Tr.In] at h2; subst h2; rw [decide_eq_false (by simp)]; exact SeqAt.RcAt.str_none _ _
   | int j =>
     rw [decide_eq_false (by simp)]
     rcases h2 with ⟨t2,rfl⟩ | ⟨b2,rfl,rfl⟩
     · exact SeqAt.RcAt.str_int _ _ _ _
     · exact SeqAt.RcAt.str_bool _ _ _
   | str j =>
     obtain ⟨t2,rfl⟩:=h2
     have:=SeqAt.RcAt.str_str (A:=A) (s:=s) i t1 j t2
     rw [show (i == j)=decide (Tr.str i=Tr.str j) from Bool.eq_iff_iff.mpr (by simp)] at this
     exact this
   | tup rs=>simp only [Tr.In] at h2; obtain ⟨b,vs,rfl,p,_⟩:=h2; rw [decide_eq_false (by simp)]; exact SeqAt.RcAt.str_tuple _ _ p (by omega)
 | tup ts =>
   simp only [Tr.In] at h1
   obtain ⟨a,us,rfl,p1,c1⟩:=h1
   cases r with
   | lst _=>exact h2.elim
   | non=>simp only [Tr.In] at h2; subst h2; rw [decide_eq_false (by simp)]; exact SeqAt.RcAt.tuple_none p1 (by omega)
   | int j =>
     rw [decide_eq_false (by simp)]
     rcases h2 with ⟨t2,rfl⟩ | ⟨b2,rfl,rfl⟩
     · exact SeqAt.RcAt.tuple_int _ _ p1 (by omega)
     · exact SeqAt.RcAt.tuple_bool _ p1 (by omega)
   | str j=>obtain ⟨t2,rfl⟩:=h2; rw [decide_eq_false (by simp)]; exact SeqAt.RcAt.tuple_str _ _ p1 (by omega)
   | tup rs =>
     simp only [Tr.In] at h2
     obtain ⟨b,vs,rfl,p2,c2⟩:=h2
     simp only [Tr.h] at hu
     have l1:=c1.len
     have l2:=c2.len
     simp only [Array.length_toList] at l1 l2
     have:=SeqAt.RcAt.tuples (A:=A) (s:=s) (e:=fun j=>decide (ts.getD j .non=rs.getD j .non)) p1 p2 (by omega) (fun j h1 h2=>by
      have:=Tr.Ins.eqAts (A:=A.in1) c1 c2 (by rw [a68]; omega) j (by simpa using h1) (by simpa using h2)
      simpa using this)
     rw [l1,l2,ba4] at this
     rw [show decide (Tr.tup ts=Tr.tup rs)=decide (ts=rs) from Bool.eq_iff_iff.mpr (by simp)]
     exact this
theorem c64 (hc:X.calm=true):CallR X (.builtin "sum") (rSum X.K):=by
 intro pins s σ H xs us Q I r h
 obtain ⟨a,ns,rfl,hS,q⟩:=h
 cases r with
 | cons r1 r2 =>
 cases r2
 cases r1
 obtain ⟨its,v1,p1,_⟩:=I.list hS
 have hi:=b51 v1
 obtain ⟨ys,e⟩:=hi.allInts.items
 have hn:=nums_intItems (xs:=ys)
 rw [← e,show its.toArray.toList=its from rfl,hi.numsOf] at hn
 refine sum_intListG (xs:=ys) (I.ok.hd hc) (e ▸ p1.isList) fun h' tk t' hk=>⟨.int ns.sum,H,I.kept hk,⟨t',?_⟩,q⟩
 rw [preSum_eq,List.take_of_length_le (by simp),hn]
end
section
variable {P:Params}{σ:St} {H:Hp}{Q:VK}{td ty tx tv:TE}{nn bb cc:St→Hp→Prop}{rr:VK}
theorem c65 (h:∀ p o,H p=none→DtAt P (upd H p o) p []→Q (.ref p) (upd H p o)):tTNew P σ H Q:=h
theorem c66 (h:td σ H fun x H1=>ty σ H1 fun y H2=>∃ a kvs t v,x=.ref a∧DtAt P H2 a kvs∧TK H2 t y∧valV kvs t=some v∧Q v H2):tTGet P td ty σ H Q:=h
theorem c67 (h:tv σ H fun v H1=>td σ H1 fun x H2=>ty σ H2 fun y H3=>∃ a kvs t,x=.ref a∧DtAt P H3 a kvs∧TK H3 t y∧kvs.length<sizeLine∧∀ o,DtAt P (upd H3 a o) a (putK kvs t v)→nn σ (upd H3 a o)):sTPut P td ty tv ⟨nn,rr,bb,cc⟩ σ H:=h
theorem bu3 (h:td σ H fun x H1=>∃ a kvs,x=.ref a∧DtAt P H1 a kvs∧ty σ H1 fun y H2=>tx σ H2 fun z H3=>∃ kvs' t,DtAt P H3 a kvs'∧TK H3 t y∧Q ((valV kvs' t).getD z) H3):bq3 P td ty tx σ H Q:=h
theorem bu4 (h:td σ H fun x H1=>∃ a kvs,x=.ref a∧DtAt P H1 a kvs∧ty σ H1 fun y H2=>tx σ H2 fun z H3=>∃ kvs' t,DtAt P H3 a kvs'∧TK H3 t y∧kvs'.length<sizeLine ∧
 (∀ v,valV kvs' t=some v→Q v H3)∧(valV kvs' t=none→∀ o,DtAt P (upd H3 a o) a (kvs'++[(t,z)])→Q z (upd H3 a o))):tTSetD P td ty tx σ H Q:=h
end
def rEqNil (K:PySem.W.Frag):R2:=fun x y H Q=>∃ a b xs,x=.ref a∧y=.ref b∧SqL K H a xs∧SqL K H b []∧Q (.bl xs.isEmpty) H
section
variable {X:Cx}
theorem bb0 (K:PySem.W.Frag) (hu:X.A.units+64<cLine) (hK:X.K=K:=by rfl):OpR X (compareOp .Eq) (rEqNil K):=by
 subst hK
 intro pins s σ H x y v u Q I rx ry h
 obtain ⟨a,b,xs,rfl,rfl,h1,h2,q⟩:=h
 cases rx
 cases ry
 obtain ⟨is1,q1,p1,_⟩:=I.list h1
 obtain ⟨is2,q2,p2,_⟩:=I.list h2
 cases q2
 cases q1 with
 | nil =>
   have:=SeqAt.RcAt.lists (A:=X.A) (s:=s) (e:=fun _=>true) p1.isList p2.isList rfl (by omega) (fun j h1 _=>absurd h1 (by simp))
   exact this X.prog X.w X.xe (EP X pins σ Q) ⟨.bl true,H,I,rfl,q⟩
 | cons r1 r2 =>
   have:=SeqAt.RcAt.lists_lengths (A:=X.A) (s:=s) p1.isList p2.isList (by simp) (by omega)
   exact this X.prog X.w X.xe (EP X pins σ Q) ⟨.bl false,H,I,rfl,q⟩
theorem bu5 (K:PySem.W.Frag) (h:X.calm=true:=by rfl) (hK:X.K=K:=by rfl):CallR X (.builtin "sum") (rSum K):=hK ▸ c64 h
end
section
variable {K:PySem.W.Frag}{H:Hp}{Q:VK}
theorem bu6 {a b:Addr}{xs:List V}(h1:SqL K H a xs) (h2:SqL K H b []) (h:Q (.bl xs.isEmpty) H):rEqNil K (.ref a) (.ref b) H Q:=⟨a,b,xs,rfl,rfl,h1,h2,h⟩
theorem cc1 {a:Addr}{ns:List Int}(h1:SqL K H a (ns.map V.int)) (h:Q (.int ns.sum) H):rSum K [.ref a] H Q:=⟨a,ns,rfl,h1,h⟩
end
section
variable {X:Cx}{o e value:Expr}{f:Str}{pos pos':Pos}{ta tv:TE}
theorem a79 (K:PySem.W.Frag) (he:PE X e ta) (hb:attributeBase e f X.env (eval e X.env)=eval e X.env) (hK:X.K=K:=by rfl):PE X (.Attribute e f pos) (tFld K ta f):=hK ▸ c02 he hb
theorem ad0 (K:PySem.W.Frag) (ha:PE X o ta) (hv:PE X value tv) (hs:swapsWith value (some (.Attribute o f pos')) pos.line X.env=pure false) (hK:X.K=K:=by rfl):PS X (.Assign [.Attribute o f pos'] value pos) (sFld K ta tv f):=hK ▸ c03 ha hv hs
end
section
variable {K:PySem.W.Frag}{σ:St} {H:Hp}{Q:VK}{ta tv:TE}{t:TA}{f m:Str}{C:Addr}{sp:Sp}{dvs:List V}{E:XK}{nn bb cc:St→Hp→Prop}{rr:VK}
theorem cc2 (h:ta σ H fun x H1=>∃ a C dx fs v,x=.ref a∧H1 a=some (.ins C dx fs)∧Cls K C∧NoAttr K C f∧fs.lookup f=some v∧Q v H1):tFld K ta f σ H Q:=h
theorem c68 (h:tv σ H fun y H1=>ta σ H1 fun x H2=>∃ a C dx fs,x=.ref a∧H2 a=some (.ins C dx fs)∧Cls K C∧NoAttr K C f∧fs.length<1000∧nn σ (upd H2 a (.ins C dx (putF f y fs)))):sFld K ta tv f ⟨nn,rr,bb,cc⟩ σ H:=h
theorem c69 (h:ta σ H fun x H1=>∃ a dx fs,x=.ref a∧H1 a=some (.ins C dx fs)∧fs.lookup m=none∧t σ H1 fun vs H2=>sp (x::(vs++dvs)) H2 Q E):tMeth C m sp dvs E ta t σ H Q:=h
theorem c70 (h:t σ H fun vs H1=>∀ x dx,H1 x=none→H1 dx=none→dx≠x→sp (.ref x::(vs++dvs)) (upd (upd H1 dx (.own x)) x (.ins C dx [])) (fun v H2=>v=.non∧Q (.ref x) H2) E):tMake C sp dvs E t σ H Q:=h
end
theorem aa7 {H:Hp}{a C dx:Addr}{fs:List (Str×V)}{o:HO}(h:H a=some (.ins C dx fs)):Tups H (upd H a o):=fun b ys e=>by rw [a08 (ac8 e h (fun z=>nomatch z))]; exact e
inductive Tw where
 | sc (v:V)
 | tup (xs:List Tw)
 | lst (xs:List Tw)
def Scal:V→Prop
 | .non | .int _ | .str _ | .bl _=>True
 | _=>False
mutual
def Tw.At (H:Hp):Tw→V→List Addr→Prop
 | .sc x,v,fs=>v=x∧Scal x∧fs=[]
 | .tup xs,v,fs=>∃ a vs,v=.ref a∧H a=some (.tup vs)∧Tw.Ats H xs vs fs
 | .lst xs,v,fs=>∃ a vs gs,v=.ref a∧H a=some (.lst vs)∧Tw.Ats H xs vs gs∧fs=a::gs
def Tw.Ats (H:Hp):List Tw→List V→List Addr→Prop
 | [],vs,fs=>vs=[]∧fs=[]
 | x::xs,vs,fs=>∃ v ws f g,vs=v::ws∧fs=f++g∧Tw.At H x v f∧Tw.Ats H xs ws g
end
mutual
theorem Tw.At.mono {H H':Hp}:∀ {x:Tw}{v:V}{fs:List Addr},x.At H v fs→Keep fs H H'→x.At H' v fs
 | .sc _,_,_,h,_=>by simpa only [Tw.At] using h
 | .tup xs,v,fs,h,k=>by
   simp only [Tw.At] at h ⊢
   obtain ⟨a,vs,e,g,r⟩:=h
   exact ⟨a,vs,e,k.1 _ _ g,Tw.Ats.mono r k⟩
 | .lst xs,v,fs,h,k=>by
   simp only [Tw.At] at h ⊢
   obtain ⟨a,vs,gs,e,g,r,rfl⟩:=h
   exact ⟨a,vs,gs,e,k.2 _ (by simp) _ g,Tw.Ats.mono r (k.sub fun b m=>by simp [m]),rfl⟩
theorem Tw.Ats.mono {H H':Hp}:∀ {xs:List Tw}{vs:List V}{fs:List Addr},Tw.Ats H xs vs fs→Keep fs H H'→Tw.Ats H' xs vs fs
 | [],_,_,h,_=>by simpa only [Tw.Ats] using h
 | x::xs,vs,fs,h,k=>by
   simp only [Tw.Ats] at h ⊢
   obtain ⟨v,ws,f,g,e,rfl,a,b⟩:=h
   exact ⟨v,ws,f,g,e,rfl,Tw.At.mono a (k.sub fun c m=>by simp [m]),Tw.Ats.mono b (k.sub fun c m=>by simp [m])⟩
end
theorem Tw.Ats.same {H H':Hp}{xs:List Tw}{vs:List V}{fs:List Addr}(h:Tw.Ats H xs vs fs) (s:Same H H'):Tw.Ats H' xs vs fs:=h.mono (s.keep _)
theorem Tw.Ats.len {H:Hp}:∀ {xs:List Tw}{vs:List V}{fs:List Addr},Tw.Ats H xs vs fs→vs.length=xs.length
 | [],vs,fs,h=>by simp only [Tw.Ats] at h; rw [h.1]; rfl
 | x::xs,vs,fs,h=>by
   simp only [Tw.Ats] at h
   obtain ⟨v,ws,f,g,rfl,rfl,_,b⟩:=h
   simp [b.len]
theorem Tw.Ats.snoc {H:Hp}:∀ {xs:List Tw}{vs:List V}{fs gs:List Addr}{x:Tw}{v:V},Tw.Ats H xs vs fs→x.At H v gs→Tw.Ats H (xs++[x]) (vs++[v]) (fs++gs)
 | [],vs,fs,gs,x,v,h,a=>by
   simp only [Tw.Ats] at h
   obtain ⟨rfl,rfl⟩:=h
   simp only [List.nil_append,Tw.Ats]
   exact ⟨v,[],gs,[],rfl,by simp,a,rfl,rfl⟩
 | y::ys,vs,fs,gs,x,v,h,a=>by
   simp only [Tw.Ats,List.cons_append] at h ⊢
   obtain ⟨w,ws,f,g,rfl,rfl,b,c⟩:=h
   exact ⟨w,ws++[v],f,g++gs,rfl,by simp,b,c.snoc a⟩
theorem Tw.Ats.get {H:Hp}:∀ {xs:List Tw}{vs:List V}{fs:List Addr},Tw.Ats H xs vs fs→∀ (i:Nat) (v:V),vs[i]?=some v→∃ x f,xs[i]?=some x∧x.At H v f∧∀ a∈f,a∈fs
 | [],vs,fs,h,i,v,e=>by simp only [Tw.Ats] at h; rw [h.1] at e; simp at e
 | x::xs,vs,fs,h,i,v,e=>by
   simp only [Tw.Ats] at h
   obtain ⟨w,ws,f,g,rfl,rfl,a,b⟩:=h
   cases i with
   | zero =>
     obtain rfl:w=v:=by simpa using e
     exact ⟨x,f,rfl,a,fun c m=>by simp [m]⟩
   | succ i =>
     obtain ⟨y,f',h1,h2,h3⟩:=b.get i v (by simpa using e)
     exact ⟨y,f',by simpa using h1,h2,fun c m=>by simp [h3 c m]⟩
mutual
def Tw.h:Tw→Nat
 | .sc _=>0
 | .tup xs=>Tw.hs xs+1
 | .lst xs=>Tw.hs xs+1
def Tw.hs:List Tw→Nat
 | []=>0
 | x::xs=>max x.h (Tw.hs xs)
end
theorem bu7 {A:Around}{s:Shared}{x:V}{u z:Value}(h:Scal x) (r1:RelV x u) (r2:RelV x z):SeqAt.EqAt A s u z true:=by
 cases x with
 | non=>cases r1; cases r2; exact SeqAt.EqAt.same _
 | int i =>
   obtain ⟨t1,rfl⟩:=r1
   obtain ⟨t2,rfl⟩:=r2
   have:=SeqAt.EqAt.int_int (A:=A) (s:=s) i t1 i t2
   simpa using this
 | str i =>
   obtain ⟨t1,rfl⟩:=r1
   obtain ⟨t2,rfl⟩:=r2
   have:=SeqAt.EqAt.str_str (A:=A) (s:=s) i t1 i t2
   simpa using this
 | bl b =>
   cases (show u=Value.bool b from r1)
   cases (show z=Value.bool b from r2)
   exact SeqAt.EqAt.same _
 | _=>exact h.elim
section
variable {X:Cx}{pins:List (Addr×Obj)}{σ:St} {H:Hp}{s:Shared}
mutual
theorem Tw.eqAt (I:Inv X pins σ H s):∀ {t:Tw}{A:Around}{v w:V}{fs gs:List Addr}{u z:Value},t.At H v fs→t.At H w gs→RelV v u→RelV w z→A.units+t.h<cLine→SeqAt.EqAt A s u z true
 | .sc x,A,v,w,fs,gs,u,z,h1,h2,r1,r2,hu=>by
   simp only [Tw.At] at h1 h2
   obtain ⟨rfl,sc,-⟩:=h1
   obtain ⟨rfl,-,-⟩:=h2
   exact bu7 sc r1 r2
 | .tup xs,A,v,w,fs,gs,u,z,h1,h2,r1,r2,hu=>by
   simp only [Tw.At] at h1 h2
   obtain ⟨a,vs,rfl,e1,c1⟩:=h1
   obtain ⟨b,ws,rfl,e2,c2⟩:=h2
   cases r1
   cases r2
   by_cases hab:a=b
   · subst hab
     exact SeqAt.EqAt.same _
   refine SeqAt.EqAt.of_refs hab ?_
   obtain ⟨is1,q1,p1,_⟩:=I.tuple (SqT.of e1)
   obtain ⟨is2,q2,p2,_⟩:=I.tuple (SqT.of e2)
   simp only [Tw.h] at hu
   have hl:is1.length=is2.length:=by rw [← q1.length,←q2.length,c1.len,c2.len]
   have:=SeqAt.RcAt.tuples (A:=A) (s:=s) (e:=fun _=>true) p1 p2 (by omega) (fun j h1 h2=>by
    have:=Tw.eqAts I (A:=A.in1) c1 c2 q1 q2 (by rw [a68]; omega) j (by simpa using h1) (by simpa using h2)
    simpa using this)
   simpa [hl,bq0] using this
 | .lst xs,A,v,w,fs,gs,u,z,h1,h2,r1,r2,hu=>by
   simp only [Tw.At] at h1 h2
   obtain ⟨a,vs,_,rfl,e1,c1,_⟩:=h1
   obtain ⟨b,ws,_,rfl,e2,c2,_⟩:=h2
   cases r1
   cases r2
   by_cases hab:a=b
   · subst hab
     exact SeqAt.EqAt.same _
   refine SeqAt.EqAt.of_refs hab ?_
   obtain ⟨is1,q1,p1,_⟩:=I.list (SqL.of e1)
   obtain ⟨is2,q2,p2,_⟩:=I.list (SqL.of e2)
   simp only [Tw.h] at hu
   have hl:is1.length=is2.length:=by rw [← q1.length,←q2.length,c1.len,c2.len]
   have:=SeqAt.RcAt.lists (A:=A) (s:=s) (e:=fun _=>true) p1.isList p2.isList (by simpa using hl) (by omega) (fun j h1 h2=>by
    have:=Tw.eqAts I (A:=A.in1) c1 c2 q1 q2 (by rw [a68]; omega) j (by simpa using h1) (by simpa using h2)
    simpa using this)
   simpa [bq0] using this
theorem Tw.eqAts (I:Inv X pins σ H s):∀ {ts:List Tw}{A:Around}{vs ws:List V}{fs gs:List Addr}{us zs:List Value},Tw.Ats H ts vs fs→Tw.Ats H ts ws gs→Vals vs us→Vals ws zs→A.units+Tw.hs ts<cLine →
 ∀ (j:Nat) (h1:j<us.length) (h2:j<zs.length),SeqAt.EqAt A s us[j] zs[j] true
 | [],A,vs,ws,fs,gs,us,zs,c1,c2,q1,q2,hu,j,h1,h2=>by
   simp only [Tw.Ats] at c1
   obtain ⟨rfl,-⟩:=c1
   cases q1
   exact absurd h1 (by simp)
 | t::ts,A,vs,ws,fs,gs,us,zs,c1,c2,q1,q2,hu,j,h1,h2=>by
   simp only [Tw.Ats] at c1 c2
   obtain ⟨v,vs,f,g,rfl,rfl,a1,b1⟩:=c1
   obtain ⟨w,ws,f',g',rfl,rfl,a2,b2⟩:=c2
   cases q1 with
   | cons r1 q1 =>
   cases q2 with
   | cons r2 q2 =>
   simp only [Tw.hs] at hu
   cases j with
   | zero=>exact Tw.eqAt I a1 a2 r1 r2 (by omega)
   | succ j=>exact Tw.eqAts I b1 b2 q1 q2 (by omega) j (by simpa using h1) (by simpa using h2)
end
def rNeW:R2:=fun x y H Q=>∃ t fs gs,(Tw.tup t).At H x fs∧(Tw.tup t).At H y gs∧Tw.hs t≤50∧Q (.bl false) H
theorem cc3 (I:Inv X pins σ H s) {A:Around}{t:List Tw}{x y:V}{v u:Value}{fs gs:List Addr}(rx:RelV x v) (ry:RelV y u) (h1:(Tw.tup t).At H x fs) (h2:(Tw.tup t).At H y gs) (hu:A.units+Tw.hs t+4<cLine):SeqAt.RcAt A s v u true∧SeqAt.RcNeAt A s v u false:=by
 simp only [Tw.At] at h1 h2
 obtain ⟨a,vs,rfl,e1,c1⟩:=h1
 obtain ⟨b,ws,rfl,e2,c2⟩:=h2
 cases rx
 cases ry
 obtain ⟨is1,q1,p1,_⟩:=I.tuple (SqT.of e1)
 obtain ⟨is2,q2,p2,_⟩:=I.tuple (SqT.of e2)
 have hl:is1.length=is2.length:=by rw [← q1.length,←q2.length,c1.len,c2.len]
 have hh:∀ (j:Nat) (h1:j<is1.toArray.size) (h2:j<is2.toArray.size),SeqAt.EqAt A.in1 s is1.toArray[j] is2.toArray[j] ((fun _=>true) j):=fun j h1 h2=>by
  have:=Tw.eqAts I (A:=A.in1) c1 c2 q1 q2 (by rw [a68]; omega) j (by simpa using h1) (by simpa using h2)
  simpa using this
 have k1:=SeqAt.RcAt.tuples (A:=A) (s:=s) (e:=fun _=>true) p1 p2 (by omega) hh
 have k2:=SeqAt.RcNeAt.tuples (A:=A) (s:=s) (e:=fun _=>true) p1 p2 (by omega) hh
 rw [show ((List.range (min is1.toArray.size is2.toArray.size)).all (fun _=>true) && is1.toArray.size == is2.toArray.size)=true by simp [hl]] at k1 k2
 exact ⟨k1,k2⟩
theorem ap5 (hu:X.A.units+64<cLine):OpR X (compareOp .NotEq) rNeW:=by
 intro pins s σ H x y v u Q I rx ry h
 obtain ⟨t,fs,gs,h1,h2,hh,q⟩:=h
 exact (cc3 I rx ry h1 h2 (A:=X.A) (by omega)).2 X.prog X.w X.xe (EP X pins σ Q) ⟨.bl false,H,I,rfl,q⟩
theorem bk2 {H:Hp}{Q:VK}{x y:V}{t:List Tw}{fs gs:List Addr}(h1:(Tw.tup t).At H x fs) (h2:(Tw.tup t).At H y gs) (hh:Tw.hs t≤50) (h:Q (.bl false) H):rNeW x y H Q:=⟨t,fs,gs,h1,h2,hh,h⟩
end
def bb1:List V→Hp→VK→Prop:=fun xs H Q=>∃ n:Nat,xs=[.int (n:Nat)]∧n≤1000000∧New H (.rng 0 (n:Nat)) Q
def rListR:List V→Hp→VK→Prop:=fun xs H Q=>∃ (a:Addr) (n:Nat),xs=[.ref a]∧H a=some (.rng 0 (n:Nat))∧n≤1000000∧New H (.lst (natsV (List.range n))) Q
section
variable {X:Cx}
theorem bb2:CallR X (.type "range") bb1:=by
 intro pins s σ H xs us Q I r h
 obtain ⟨n,rfl,hn,q⟩:=h
 cases r with
 | cons r1 r2 =>
 cases r2
 obtain ⟨t,rfl⟩:=r1
 refine call_range_1 ⟨.ref s.heap.objs.size,upd H s.heap.objs.size (.rng 0 (n:Nat)),I.laid (fun b o e=>Heap.get?_push_of_some _ e) (Nat.le_refl _) ⟨_,_,_,Heap.get?_push_size _ rfl⟩,rfl,New.to q _ I.fresh⟩
theorem bk3 (hc:X.calm=true):CallR X (.type "list") rListR:=by
 intro pins s σ H xs us Q I r h
 obtain ⟨a,n,rfl,e,hn,q⟩:=h
 cases r with
 | cons r1 r2 =>
 cases r2
 cases r1
 obtain ⟨t,u,v,hg⟩:=I.hok a _ e
 refine call_list_range (n:=n) (I.ok.hd hc) hg (small_one (by omega) (by omega) (by omega) (by omega)) (by rw [rangeSize_one]; split <;> omega) (by omega) fun h' tk acc c hk hS hacc=>⟨.ref s.heap.objs.size,_,I.laid (a:=s.heap.objs.size) (t':=tk) hk (Nat.le_refl _) ?_,rfl,New.to q _ I.fresh⟩
 refine ⟨le_line (by simp [natsV]; omega),acc.toList,c,?_,by simpa using hS⟩
 refine aw3 (by simp [natsV,hacc.1]) fun j x1 x2 hx1 hx2=>?_
 have hj:j<n:=by
  have:=(List.getElem?_eq_some_iff.mp hx1).1
  simpa [natsV] using this
 obtain ⟨t2,rfl⟩:=hacc.2 j x2 (by rw [← Array.getElem?_toList]; exact hx2)
 have:x1=.int (j:Nat):=by simpa [natsV,hj] using hx1.symm
 subst this
 exact ⟨t2,by simp⟩
end
theorem b01 {K:PySem.W.Frag}{a:Addr}{xs:List V}{g:TG}{tb:TS}{D:Ends}{σ:St} {H:Hp}(Pv:Nat→St→Hp→Prop) (h0:Pv 0 σ H) (hl:∀ i σ H,i≤xs.length→Pv i σ H→SqL K H a xs)
 (hs:∀ i x σ H q H2,xs[i]?=some x→Pv i σ H→Same H H2→H2 q=some (.tup [.int (i:Nat),x])→g (.ref q) σ H2 fun σ1 H1=>tb { D with nx:=Pv (i+1),ct:=Pv (i+1),bk:=D.nx } σ1 H1)
 (hd:∀ σ H,Pv xs.length σ H→D.nx σ H):ForEnd (Ite K a) g tb D σ H:=by
 refine ⟨fun i m σ H=>m=xs.length - i∧i≤xs.length∧Pv i σ H,⟨xs.length,by simp,Nat.zero_le _,h0⟩,?_⟩
 rintro i m σ' H' ⟨rfl,hi,p⟩
 have hq:=hl i σ' H' hi p
 by_cases hlt:i<xs.length
 · refine .inr ⟨⟨xs,xs[i],hq,by simp [hlt]⟩,Pv (i+1),fun σ2 H2 p'=>⟨xs.length - (i+1),by omega,rfl,hlt,p'⟩,fun v H2 y=>?_⟩
   obtain ⟨q,x,rfl,hn,sm,hT,hx⟩:=y
   exact hs i x σ' H' q H2 (hx xs hq) p sm hT
 · have e:i=xs.length:=by omega
   subst e
   exact .inl ⟨⟨xs,hq,Nat.le_refl _⟩,hd σ' H' p⟩
section
variable {K:PySem.W.Frag}{H:Hp}{Q:VK}
theorem bk4 {n:Nat}(hn:n≤1000000) (h:New H (.rng 0 (n:Nat)) Q):bb1 [.int (n:Nat)] H Q:=⟨n,rfl,hn,h⟩
theorem bu8 {a:Addr}{n:Nat}(e:H a=some (.rng 0 (n:Nat))) (hn:n≤1000000) (h:New H (.lst (natsV (List.range n))) Q):rListR [.ref a] H Q:=⟨a,n,rfl,e,hn,h⟩
end
def Itr3 (lo:Int) (n:Nat):It:=⟨fun i _=>i<n,fun i H x H'=>H'=H∧x=.int (lo+i*3),fun i _=>n≤i⟩
theorem aw6 {P:Program}{w:World}{K:PySem.W.Frag}{tg:Expr}(it:Addr) (lo:Int) (n:Nat):Turn P w K tg (Itr3 lo n) [it] it (fun i h=>IsRangeIter h it (lo+(i:Nat)*3) ((n:Int) - (i:Nat)) 3) where
 mem:=by simp
 obj:=fun i h st b hb=>by
  have e:b=it:=by simpa using hb
  subst e
  exact ⟨_,st,fun v z=>by
   have z':Data.fields _=Data.cell v:=z
   cases z'⟩
 keep:=fun i h h' st k=>k it (by simp) _ st
 item:=by
  intro X hP hw hK hc i pins s σ H E I hf st hg
  subst hP hw hK
  obtain ⟨f0,f1,f2,f3,f4,f5⟩:=hf it (by simp)
  have W:=Walks.range (prog:=X.prog) (w:=X.w) (I.ok.hd hc) it lo 3 n
  refine W.item i s _ _ hg st fun v h' tk hv st' kk=>?_
  obtain ⟨t,rfl⟩:=hv
  have I1:Inv X pins σ H { s with heap:=h',toks:=tk }:=I.turned (fun b o hb e=>kk b o (by simpa using hb) e) f0 f1 f3 f4 f5
  exact ⟨_,rfl,b40 (s:={ s with heap:=h',toks:=tk }) (n:="range_iterator") st' rfl rfl (by decide) ⟨.int (lo+i*3),H,I1,⟨t,rfl⟩,⟨rfl,rfl⟩,st',fun b hb=>(hf b hb).1⟩⟩
 done:=by
  intro X hP hw hK hc i pins s σ H E I hf st hg
  subst hP hw hK
  obtain ⟨f0,f1,f2,f3,f4,f5⟩:=hf it (by simp)
  exact wpAny_pyNext_range_end (I.ok.hd hc) st (by have:n≤i:=hg; omega) fun h' eb=>⟨rfl,I.turned (t':=s.toks) (fun b o hb e=>eb b o hb e) f0 f1 f3 f4 f5⟩
 self:=fun _ _ _ _ _ st h=>wpAny_pyIter_rangeiter st h
theorem aw7 {a b:Int}(h1:-(2 ^ 40)≤a) (h2:a<2 ^ 40) (h3:-(2 ^ 40)≤b) (h4:b<2 ^ 40):Builtin.Range.small a b 3=true:=by
 have hs:0≤Builtin.Range.rangeSize a b 3∧Builtin.Range.rangeSize a b 3<2 ^ 42:=by
  unfold Builtin.Range.rangeSize
  rw [if_pos (by decide)]
  split <;> omega
 unfold Builtin.Range.small
 rw [if_pos (by decide)]
 generalize Builtin.Range.rangeSize a b 3=z at hs
 simp only [Builtin.Range.rangeFitsLong,Bool.and_eq_true,Bool.or_eq_true,decide_eq_true_eq,beq_iff_eq]
 omega
def ap6 (lo hi:Int):Nat:=((hi - lo+2) / 3).toNat
section
variable {X:Cx}{tg:Expr}
theorem bb3 {pins:List (Addr×Obj)}{σ:St} {H:Hp}{s:Shared}{R:It→Hp→Prop}{E:Value→Shared→Prop}{lo hi:Int}{t u v:Tok}(I:Inv X pins σ H s) (h1:-(2 ^ 40)≤lo) (h2:lo<2 ^ 40) (h3:-(2 ^ 40)≤hi) (h4:hi<2 ^ 40)
 (q:R (Itr3 lo (ap6 lo hi)) H):wpAny (model X.prog X.w) X.A (pyIter (.ref s.heap.objs.size)) (PIE X pins σ tg R) E { s with heap:=s.heap.push { cls:=.type "range",data:=.fields #[.int lo t,.int hi u,.int 3 v] } }:=by
 refine wpAny_pyIter_range (IsRange.new ..) (aw7 h1 h2 h3 h4) ?_
 have I1:Inv X pins σ H { s with heap:=s.heap.push { cls:=.type "range",data:=.fields #[.int lo t,.int hi u,.int 3 v] } }:=I.kept (t':=s.toks) fun b o e=>Heap.get?_push_of_some _ e
 refine ⟨(s.heap.push { cls:=.type "range",data:=.fields #[.int lo t,.int hi u,.int 3 v] }).objs.size,[(s.heap.push { cls:=.type "range",data:=.fields #[.int lo t,.int hi u,.int 3 v] }).objs.size],_,_,H,rfl,
  I1.kept (t':=s.toks) fun b o e=>Heap.get?_push_of_some _ e,aw6 _ lo (ap6 lo hi),?_,fun b hb=>?_,q⟩
 · have e1:lo+((0:Nat):Int)*3=lo:=by simp
   have e2:((ap6 lo hi:Nat):Int) - ((0:Nat):Int)=Builtin.Range.rangeSize lo hi 3:=by
    unfold Builtin.Range.rangeSize ap6
    rw [if_pos (by decide)]
    split <;> omega
   show IsRangeIter _ _ (lo+((0:Nat):Int)*3) (((ap6 lo hi:Nat):Int) - ((0:Nat):Int)) 3
   rw [e1,e2]
   exact Heap.get?_push_size _ rfl
 · have e:b=(s.heap.push { cls:=.type "range",data:=.fields #[.int lo t,.int hi u,.int 3 v] }).objs.size:=by simpa using hb
   subst e
   exact I1.fpOk (Nat.le_refl _) (I1.hok.fresh (Nat.le_refl _))
def c71 (ta:TA):TI:=fun σ H R=>ta σ H fun vs H1=>∃ i j:Int,vs=[.int i,.int j,.int 3]∧(-(2 ^ 40)≤i∧i<2 ^ 40∧-(2 ^ 40)≤j∧j<2 ^ 40)∧R (Itr3 i (ap6 i j)) H1
theorem bb4 {a b c:Expr}{ta:TA}{p pos:Pos}(hg:Gl X "range") (hm:X.mg "range"=none) (ha:PA X [a,b,c] ta) (hs:starEach [a,b,c] X.env=[(false,eval a X.env),(false,eval b X.env),(false,eval c X.env)]:=by rfl) (hs2:starEach [b,c] X.env=[(false,eval b X.env),(false,eval c X.env)]:=by rfl) :
 PI X tg (.Call (.Name "range" p) [a,b,c] [] pos) (c71 ta):=by
 intro pins s σ H R I h
 refine Call_ (ag4 I hg hm boot_range (PyProof.Rows.callWith_type1 (thn (ha pos pins s σ H _ I h) fun us s1 ⟨vs,H1,I1,r1,q1⟩=>?_) (by rw [hs,hs2]) (by rw [hs2]; rfl)))
 obtain ⟨i,j,e,⟨q1,q2,q3,q4⟩,q⟩:=q1
 subst e
 cases r1 with
 | cons r rr =>
   cases rr with
   | cons r' rr =>
     cases rr with
     | cons r'' rr =>
       cases rr
       obtain ⟨t,rfl⟩:=r
       obtain ⟨t',rfl⟩:=r'
       obtain ⟨t'',rfl⟩:=r''
       exact call_range_3 (by decide) (bb3 I1 q1 q2 q3 q4 q)
end
section
variable {σ:St} {H:Hp}{R:It→Hp→Prop}{ts:TA}
theorem c72 (h:ts σ H fun vs H1=>∃ i j:Int,vs=[.int i,.int j,.int 3]∧(-(2 ^ 40)≤i∧i<2 ^ 40∧-(2 ^ 40)≤j∧j<2 ^ 40)∧R (Itr3 i (ap6 i j)) H1):c71 ts σ H R:=h
end
theorem bb5 {lo:Int}{n:Nat}{te:TE}{tt:TT}{caps:List Nat}{σ:St} {H:Hp}{Q:VK}(hz:n≤sizeLine) (Pv:Nat→List V→Hp→Prop) (h0:Pv 0 [] H) (hl:∀ i acc H,Pv i acc H→acc.length≤i)
 (hs:∀ i acc H,i<n→Pv i acc H→tt (some (.int (lo+i*3))::capV caps σ) H fun b H4=>if b=true then te (some (.int (lo+i*3))::capV caps σ) H4 fun y H5=>Pv (i+1) (acc++[y]) H5 else Pv (i+1) acc H4)
 (hd:∀ acc H,Pv n acc H→New H (.lst acc) Q):CompEnd (Itr3 lo n) (gName 0) tt te 1 caps σ H Q:=by
 refine as8 n hz Pv h0 hl (fun i acc H hi p=>hi) (fun acc H p=>Nat.le_refl _) ?_ hd
 rintro i x acc H1 H2 hi p ⟨rfl,rfl⟩
 exact hs i acc _ hi p
theorem c73 {i:Nat}{t:TE}{f:Int→Int→Int}{σ:St} {H:Hp}{nn bb cc:St→Hp→Prop}{rr:VK}{a:Int}(e:σ[i]?=some (some (.int a))) (h:t σ H fun x H1=>∃ b:Int,x=.int b∧nn (σ.set i (some (.int (f a b)))) H1):tAug i t (ipI f) ⟨nn,rr,bb,cc⟩ σ H:=⟨_,e,by
 have h':t σ H fun y H1=>ipI f (.int a) y H1 fun z H2=>nn (σ.set i (some z)) H2:=by
  have:(fun x H1=>∃ b:Int,x=.int b∧nn (σ.set i (some (.int (f a b)))) H1)=fun y H1=>ipI f (.int a) y H1 fun z H2=>nn (σ.set i (some z)) H2:=by
   funext y H1
   apply propext
   constructor
   · rintro ⟨b,rfl,h⟩; exact ⟨a,b,rfl,rfl,h⟩
   · rintro ⟨a',b,e1,rfl,h⟩; cases e1; exact ⟨b,rfl,h⟩
  rw [← this]
  exact h
 exact h'⟩
section
variable {X:Cx}
def rIntS:List V→Hp→VK→Prop:=fun xs H Q=>∃ (x:Str) (n:Int),xs=[.str x]∧intText? x=some n∧x.length≤640∧Q (.int n) H
theorem bb6:CallR X (.type "int") rIntS:=by
 intro pins s σ H xs us Q I r h
 obtain ⟨x,n,rfl,h1,h2,q⟩:=h
 cases r with
 | cons r1 r2 =>
 cases r2
 obtain ⟨t,rfl⟩:=r1
 have:=PySem.W.KTb.int_tab (prog:=X.prog) (w:=X.w) (A:=X.A) (E:=X.xe) (s:=s) (L:=[x]) (zs:=[n]) (n:=1) (k:=0) (t:=t) (Q:=fun v s'=>∃ x7 H',Inv X pins σ H' s'∧RelV x7 v∧Q x7 H') (by decide) (fun j hj=>by
  obtain rfl:j=0:=by omega
  exact ⟨h1,h2⟩) fun t' k'=>⟨.int n,H,I.tok _,⟨t',rfl⟩,q⟩
 exact this
end
section
variable {K:PySem.W.Frag}{H:Hp}{Q:VK}
end
theorem b57 (n:Nat):sliceBounds none none (some (-1)) n=((n:Int) - 1,-1,-1):=by
 unfold sliceBounds
 simp
theorem bb7 (n:Nat):sliceRange ((n:Int) - 1) (-1) (-1)=(List.range n).reverse:=by
 unfold sliceRange
 have hc:(if ((-1:Int) > 0) then (if ((n:Int) - 1 < -1) then ((-1:Int) - (n - 1)+-1 - 1) / -1 else 0) else (if ((n:Int) - 1 > -1) then ((n:Int) - 1 - -1 - -1 - 1) / - -1 else 0)).toNat=n:=by
  rw [if_neg (by decide)]
  split
  · rw [show (- -1:Int)=1 from rfl,Int.ediv_one]
    omega
  · omega
 simp only [hc]
 refine List.ext_getElem? fun k=>?_
 by_cases hk:k<n
 · rw [List.getElem?_map,List.getElem?_range hk,List.getElem?_reverse (by simpa using hk),List.length_range,List.getElem?_range (by omega)]
   simp
   omega
 · rw [List.getElem?_eq_none (by simp; omega),List.getElem?_eq_none (by simp; omega)]
theorem bk5 (items:List Value):slicePick items.toArray none none (some (-1))=items.reverse.toArray:=by
 unfold slicePick
 rw [b57]
 simp only [List.size_toArray]
 rw [bb7]
 congr 1
 rw [List.filterMap_reverse]
 congr 1
 refine List.ext_getElem? fun k=>?_
 have:(List.range items.length).filterMap (fun x=>items.toArray[x]?)=items:=by
  have h:∀ n,n≤items.length→(List.range n).filterMap (fun x=>items.toArray[x]?)=items.take n:=fun n=>by
   induction n with
   | zero=>intro _; simp
   | succ n ih =>
     intro hn
     rw [List.range_succ,List.filterMap_append,ih (by omega),List.take_add_one]
     simp [show n<items.length by omega]
  rw [h _ (Nat.le_refl _),List.take_length]
 rw [this]
def tRev (K:PySem.W.Frag) (te ts:TE):TE:=fun σ H Q=>te σ H fun x H1=>ts σ H1 fun y H2=>y=.int (-1)∧∃ a xs,x=.ref a∧SqL K H2 a xs∧New H2 (.lst xs.reverse) Q
section
variable {X:Cx}{e st:Expr}{te ts:TE}{p2 pos:Pos}
theorem c74 (K:PySem.W.Frag) (he:PE X e te) (hs:PE X st ts) (ht:∀ (o r:Value),letTemporaryGo e o r=pure ():=by intro _ _; rfl) (hK:X.K=K:=by rfl):PE X (.Subscript e (.Slice none none (some st) p2) pos) (tRev K te ts):=by
 subst hK
 intro pins s σ H Q I h
 refine wpAny_Subscript_Slice_step PySem.F.slot_list_getitem.lookup (thn (he pins s σ H _ I h) fun v s1 ⟨x,H1,I1,r1,q1⟩=>?_) ht
 refine wpAny_Slice ?_
 rw [evalPart_none]
 refine wpAny_pure ?_
 refine wpAny_pure ?_
 rw [evalPart_some]
 refine thn (hs pins s1 σ H1 _ I1 q1) fun w2 s2 ⟨y,H2,I2,r2,q2⟩=>?_
 obtain ⟨rfl,a,xs,rfl,hS,q⟩:=q2
 cases r1
 obtain ⟨t,rfl⟩:=r2
 have I3:Inv X pins σ H2 { s2 with heap:=s2.heap.push { cls:=.type "slice",data:=.fields #[.none,.none,.int (-1) t] } }:=I2.kept (t':=s2.toks) fun b ob q=>Heap.get?_push_of_some _ q
 obtain ⟨its,v1,p1,hz⟩:=I3.list hS
 refine ⟨p1.isList.typeIs,wpAny_getItem_list_slice (lo:=none) (hi:=none) (st:=some (-1)) p1.isList (Heap.IsSliceOf.new ..) .none .none (.int _ _) (by decide) ?_ (by rw [List.size_toArray,←v1.length]; exact hz)⟩
 refine ⟨.ref _,_,I3.laid (t':=s2.toks) (o:=.lst xs.reverse) (fun b ob q=>Heap.get?_push_of_some _ q) (Nat.le_refl _) ?_,rfl,New.to q _ (I3.hok.fresh (Nat.le_refl _))⟩
 rw [bk5]
 exact ⟨by rw [List.length_reverse]; exact hz,its.reverse,0,v1.reverse,Heap.get?_push_size _ rfl⟩
theorem cc4 {K:PySem.W.Frag}{σ:St} {H:Hp}{Q:VK}(h:te σ H fun x H1=>ts σ H1 fun y H2=>y=.int (-1)∧∃ a xs,x=.ref a∧SqL K H2 a xs∧New H2 (.lst xs.reverse) Q):tRev K te ts σ H Q:=h
end
@[reducible] def IsTri (h:Heap) (T:Addr) (a b c:Value):Prop:=h.get? T=some { cls:=.type "tuple",data:=.seq #[a,b,c] }
theorem aa8 {prog:Program}{w:World}{A:Around}{E:Value→Shared→Prop}{s:Shared}{T:Addr}{a b c x:Value}{k:Nat}{Q:Unit→Shared→Prop}(h:IsTri s.heap T a b c)
 (q:∀ h':Heap,h'.get? T=some { cls:=.type "tuple",data:=.seq (#[a,b,c].setIfInBounds k x) }→Heap.SameBut T s.heap h'→Q () { s with heap:=h' }):wpAny (model prog w) A (updateSeq T fun v=>v.setIfInBounds k x) Q E s:=by
 refine wpAny_updateSeq h rfl (q _ ?_ (Heap.SameBut.update _ _ _)) (by simp [sizeLine_eq]) (by simp [sizeLine_eq])
 rw [Heap.get?_update_self _ h rfl]
 simp [Obj.mapSeq]
structure ItS (prog:Program) (w:World) (it l:Addr) (xs:Array Value) (st:Nat→Heap→Prop):Prop where
 keep:∀ {k:Nat}{h h':Heap},st k h→(∀ c o,c=it∨c=l→h.get? c=some o→h'.get? c=some o)→st k h'
 item:∀ {A:Around}{E:Value→Shared→Prop}{s:Shared}{k:Nat}{x:Value}{Q:Value→Shared→Prop},st k s.heap→xs[k]?=some x→(∀ h':Heap,st (k+1) h'→Heap.SameBut it s.heap h'→Q x { s with heap:=h' })→wpAny (model prog w) A (Builtin.SmallTypes.nextOf (.ref it)) Q E s
 done:∀ {A:Around}{E:Value→Shared→Prop}{s:Shared}{k:Nat}{Q:Value→Shared→Prop},A.handled=none→st k s.heap→xs[k]?=none→(∀ (h':Heap) (e:Addr),Heap.ExtBut it s.heap h'→(∃ o,h'.get? e=some o∧o.cls=.type "StopIteration")→E (.ref e) { s with heap:=h' })→wpAny (model prog w) A (Builtin.SmallTypes.nextOf (.ref it)) Q E s
theorem aj6 {prog:Program}{w:World}{it l:Addr}{xs:Array Value}(hn:l≠it):ItS prog w it l xs (fun k h=>h.IsListIter it l k∧h.IsList l xs) where
 keep:=fun ⟨h1,h2⟩ k=>⟨h1.at fun o e=>k it o (.inl rfl) e,by obtain ⟨o,e,r⟩:=h2; exact ⟨o,k l o (.inr rfl) e,r⟩⟩
 item:=fun ⟨h1,h2⟩ e q=>wpAny_nextOf_list_item h1 h2 e fun h' a b=>q h' ⟨a,h2.extBut b.extBut hn⟩ b
 done:=fun hA ⟨h1,h2⟩ e q=>wpAny_nextOf_list_end hA h1 h2 e q
structure Apt (z TI TO i1 i2 i3 l1 l2 l3:Addr):Prop where
 nd:[z,TI,TO,i1,i2,i3].Nodup
 ls:∀ l∈[l1,l2,l3],l∉[z,TO,i1,i2,i3]
theorem a04 {a b:Addr}{h h':Heap}{o:Obj}(s:Heap.SameBut a h h') (hn:b≠a) (e:h.get? b=some o):h'.get? b=some o:=(s.2 b hn).trans e
section
variable {prog:Program}{w:World}{z TI TO i1 i2 i3 l1 l2 l3:Addr}{xs ys us:Array Value}{st1 st2 st3:Nat→Heap→Prop}
theorem bb8 {A:Around}{E:Value→Shared→Prop}{s:Shared}{k:Nat}{x y u a b c:Value}{Q:Value→Shared→Prop}
 (D:Apt z TI TO i1 i2 i3 l1 l2 l3) (J1:ItS prog w i1 l1 xs st1) (J2:ItS prog w i2 l2 ys st2) (J3:ItS prog w i3 l3 us st3) (hz:IsZip s.heap z TI TO .none) (hTI:IsTri s.heap TI (.ref i1) (.ref i2) (.ref i3)) (hTO:IsTri s.heap TO a b c)
 (h1:st1 k s.heap) (h2:st2 k s.heap) (h3:st3 k s.heap) (e1:xs[k]?=some x) (e2:ys[k]?=some y) (e3:us[k]?=some u)
 (q:∀ h':Heap,IsZip h' z TI TO (rawInt s.heap.objs.size)→IsTri h' TO x y u→st1 (k+1) h'→st2 (k+1) h'→st3 (k+1) h'→IsTri h' s.heap.objs.size x y u→h'.objs.size=s.heap.objs.size+1→(∀ (c:Addr) (o:Obj),c∉[z,TO,i1,i2,i3]→s.heap.get? c=some o→h'.get? c=some o)→Q (.ref s.heap.objs.size) { s with heap:=h' }) :
 wpAny (model prog w) A (Builtin.«zip.__next__» { pos:=[.ref z] }) (fun fin s'=>∃ v,fin=Fin.done (Flow.ret v)∧Q v s') E s:=by
 obtain ⟨D,D2⟩:=D
 unfold Builtin.«zip.__next__»
 refine wpAny_bind (wpAny_pure ?_)
 refine wpAny_bind (wpAny_field (x:=.bool false) hz rfl rfl ?_)
 refine wpAny_bind (wpAny_field (x:=.ref TI) hz rfl rfl ?_)
 refine wpAny_bind (wpAny_seqItems hTI rfl ?_)
 dsimp only
 rw [if_neg (show ¬ (#[Value.ref i1,Value.ref i2,Value.ref i3].isEmpty=true) by simp)]
 refine wpAny_bind (wpAny_bind (wpAny_field (x:=.none) hz rfl rfl (wpAny_pure ?_)))
 rw [if_pos rfl]
 refine wpAny_bind (wpAny_rule ?_)
 refine wpAny_bind (wpAny_field (x:=.ref TO) hz rfl rfl ?_)
 dsimp only
 refine wpAny_bind (wpAny_setField_rec hz (by simp) fun g1 z1 b1=>?_)
 refine wpAny_bind ?_
 have D':z≠TI∧z≠TO∧z≠i1∧z≠i2∧z≠i3∧TI≠TO∧TI≠i1∧TI≠i2∧TI≠i3∧TO≠i1∧TO≠i2∧TO≠i3∧i1≠i2∧i1≠i3∧i2≠i3:=by
  simp only [List.nodup_cons,List.mem_cons,List.not_mem_nil,or_false,not_or,List.nodup_nil,and_true] at D
  obtain ⟨⟨a1,a2,a3,a4,a5⟩,⟨a6,a7,a8,a9⟩,⟨a10,a11,a12⟩,⟨a13,a14⟩,a15,_⟩:=D
  exact ⟨a1,a2,a3,a4,a5,a6,a7,a8,a9,a10,a11,a12,a13,a14,a15⟩
 obtain ⟨n1,n2,n3,n4,n5,n6,n7,n8,n9,n10,n11,n12,n13,n14,n15⟩:=D'
 obtain ⟨m1,m2,m3,m4,m5⟩:l1≠z∧l1≠TO∧l1≠i1∧l1≠i2∧l1≠i3:=by simpa using D2 l1 (by simp)
 obtain ⟨m6,m7,m8,m9,m10⟩:l2≠z∧l2≠TO∧l2≠i1∧l2≠i2∧l2≠i3:=by simpa using D2 l2 (by simp)
 obtain ⟨m11,m12,m13,m14,m15⟩:l3≠z∧l3≠TO∧l3≠i1∧l3≠i2∧l3≠i3:=by simpa using D2 l3 (by simp)
 have mv:∀ {it l p:Addr}{X:Array Value}{st:Nat→Heap→Prop}{j:Nat}{h h':Heap},ItS prog w it l X st→st j h→Heap.SameBut p h h'→it≠p→l≠p→st j h':=fun J hs b x1 x2=>J.keep hs fun c o hc e=>by
  rcases hc with rfl | rfl
  · exact a04 b x1 e
  · exact a04 b x2 e
 show wpAny (model prog w) A (forIn [(Value.ref i1,0),(Value.ref i2,1),(Value.ref i3,2)] (none,()) _) _ E _
 rw [List.forIn_cons]
 refine wpAny_bind (wpAny_bind (wpAny_onRaise ?_))
 refine wpAny_bind (m:=Builtin.SmallTypes.nextOf (.ref i1)) (f:=fun v=>pure (some v)) ?_
 refine J1.item (mv J1 h1 b1 n3.symm m1) e1 fun g2 z2 b2=>wpAny_pure ?_
 dsimp only
 refine wpAny_bind (wpAny_seqItems (items:=#[a,b,c]) (a04 b2 n10 (a04 b1 n2.symm hTO)) rfl ?_)
 dsimp only
 refine wpAny_bind (aa8 (a04 b2 n10 (a04 b1 n2.symm hTO)) fun g3 t3 b3=>?_)
 refine wpAny_bind (wpAny_letGo (wpAny_pure ?_))
 dsimp only
 rw [List.forIn_cons]
 refine wpAny_bind (wpAny_bind (wpAny_onRaise ?_))
 refine wpAny_bind (m:=Builtin.SmallTypes.nextOf (.ref i2)) (f:=fun v=>pure (some v)) ?_
 refine J2.item (mv J2 (mv J2 (mv J2 h2 b1 n4.symm m6) b2 n13.symm m8) b3 n11.symm m7) e2 fun g4 z4 b4=>wpAny_pure ?_
 dsimp only
 have t4:IsTri g4 TO x b c:=a04 b4 n11 (by rw [t3]; rfl)
 refine wpAny_bind (wpAny_seqItems (items:=#[x,b,c]) t4 rfl ?_)
 dsimp only
 refine wpAny_bind (aa8 t4 fun g5 t5 b5=>?_)
 refine wpAny_bind (wpAny_letGo (wpAny_pure ?_))
 dsimp only
 rw [List.forIn_cons]
 refine wpAny_bind (wpAny_bind (wpAny_onRaise ?_))
 refine wpAny_bind (m:=Builtin.SmallTypes.nextOf (.ref i3)) (f:=fun v=>pure (some v)) ?_
 refine J3.item (mv J3 (mv J3 (mv J3 (mv J3 (mv J3 h3 b1 n5.symm m11) b2 n14.symm m13) b3 n12.symm m12) b4 n15.symm m14) b5 n12.symm m12) e3 fun g6 z6 b6=>wpAny_pure ?_
 dsimp only
 have t6:IsTri g6 TO x y c:=a04 b6 n12 (by rw [t5]; rfl)
 refine wpAny_bind (wpAny_seqItems (items:=#[x,y,c]) t6 rfl ?_)
 dsimp only
 refine wpAny_bind (aa8 t6 fun g7 t7 b7=>?_)
 refine wpAny_bind (wpAny_letGo (wpAny_pure ?_))
 dsimp only
 rw [List.forIn_nil]
 refine wpAny_pure ?_
 dsimp only
 have t7':IsTri g7 TO x y u:=by rw [IsTri,t7]; rfl
 refine wpAny_bind (wpAny_seqItems (items:=#[x,y,u]) t7' rfl ?_)
 dsimp only
 refine wpAny_bind (wpAny_newTuple ?_ (by simp [sizeLine_eq]))
 have sz:g7.objs.size=s.heap.objs.size:=by rw [b7.1,b6.1,b5.1,b4.1,b3.1,b2.1,b1.1]
 have zz:g7.get? z=some { cls:=.type "zip",data:=.fields #[.ellipsis,.bool false,.bool false,.ref TI,.ref TO] }:=a04 b7 n2 (a04 b6 n5 (a04 b5 n2 (a04 b4 n4 (a04 b3 n2 (a04 b2 n3 z1)))))
 refine wpAny_bind (wpAny_bind ?_)
 refine wpAny_setField_rec (Heap.get?_push_of_some _ zz) (by simp) fun g8 z8 b8=>?_
 refine wpAny_setField_rec z8 (by simp) fun g9 z9 b9=>?_
 refine wpAny_pure ⟨_,rfl,?_⟩
 have lt:∀ {c:Addr}{o:Obj},g7.get? c=some o→c≠g7.objs.size:=fun e=>Nat.ne_of_lt (Heap.lt_size e)
 have mvp:∀ {it l:Addr}{X:Array Value}{st:Nat→Heap→Prop}{j:Nat},ItS prog w it l X st→st j g7→it≠z→l≠z→st j g9:=fun J hs x1 x2=>J.keep hs fun c o hc e=>by
  rcases hc with rfl | rfl
  · exact a04 b9 x1 (a04 b8 x1 (Heap.get?_push_of_some _ e))
  · exact a04 b9 x2 (a04 b8 x2 (Heap.get?_push_of_some _ e))
 have zne:g7.objs.size≠z:=(lt zz).symm
 rw [sz]
 refine q g9 ?_ ?_ (mvp J1 ?_ n3.symm m1) (mvp J2 ?_ n4.symm m6) (mvp J3 ?_ n5.symm m11) ?_ ?_ ?_
 · rw [IsZip,z9]
   simp [sz]
 · exact a04 b9 n2.symm (a04 b8 n2.symm (Heap.get?_push_of_some _ t7'))
 · exact mv J1 (mv J1 (mv J1 (mv J1 (mv J1 z2 b3 n10.symm m2) b4 n13 m4) b5 n10.symm m2) b6 n14 m5) b7 n10.symm m2
 · exact mv J2 (mv J2 (mv J2 z4 b5 n11.symm m7) b6 n15 m10) b7 n11.symm m7
 · exact mv J3 z6 b7 n12.symm m12
 · have:=a04 b9 zne (a04 b8 zne (Heap.get?_push_size g7 rfl))
   rw [← sz]
   exact this
 · rw [b9.1,b8.1,Heap.size_push,sz]
 · intro c o hc e
   simp only [List.mem_cons,List.not_mem_nil,or_false,not_or] at hc
   obtain ⟨c1,c2,c3,c4,c5⟩:=hc
   exact a04 b9 c1 (a04 b8 c1 (Heap.get?_push_of_some _ (a04 b7 c2 (a04 b6 c5 (a04 b5 c2 (a04 b4 c4 (a04 b3 c2 (a04 b2 c3 (a04 b1 c1 e)))))))))
theorem bk6 {A:Around}{E:Value→Shared→Prop}{s:Shared}{k:Nat}{a b c:Value}{Q:PySem.Fin→Shared→Prop}(hA:A.handled=none)
 (D:Apt z TI TO i1 i2 i3 l1 l2 l3) (J1:ItS prog w i1 l1 xs st1) (J2:ItS prog w i2 l2 ys st2) (J3:ItS prog w i3 l3 us st3) (hz:IsZip s.heap z TI TO .none) (hTI:IsTri s.heap TI (.ref i1) (.ref i2) (.ref i3)) (hTO:IsTri s.heap TO a b c)
 (h1:st1 k s.heap) (h2:st2 k s.heap) (h3:st3 k s.heap) (e:xs[k]?=none∨ys[k]?=none∨us[k]?=none)
 (q:∀ (h':Heap) (ex:Addr),(∀ (c:Addr) (o:Obj),c∉[z,TO,i1,i2,i3]→s.heap.get? c=some o→h'.get? c=some o)→(∃ o,h'.get? ex=some o∧o.cls=.type "StopIteration")→E (.ref ex) { s with heap:=h' }) :
 wpAny (model prog w) A (Builtin.«zip.__next__» { pos:=[.ref z] }) Q E s:=by
 obtain ⟨D,D2⟩:=D
 unfold Builtin.«zip.__next__»
 refine wpAny_bind (wpAny_pure ?_)
 refine wpAny_bind (wpAny_field (x:=.bool false) hz rfl rfl ?_)
 refine wpAny_bind (wpAny_field (x:=.ref TI) hz rfl rfl ?_)
 refine wpAny_bind (wpAny_seqItems hTI rfl ?_)
 dsimp only
 rw [if_neg (show ¬ (#[Value.ref i1,Value.ref i2,Value.ref i3].isEmpty=true) by simp)]
 refine wpAny_bind (wpAny_bind (wpAny_field (x:=.none) hz rfl rfl (wpAny_pure ?_)))
 rw [if_pos rfl]
 refine wpAny_bind (wpAny_rule ?_)
 refine wpAny_bind (wpAny_field (x:=.ref TO) hz rfl rfl ?_)
 dsimp only
 refine wpAny_bind (wpAny_setField_rec hz (by simp) fun g1 z1 b1=>?_)
 refine wpAny_bind ?_
 have D':z≠TI∧z≠TO∧z≠i1∧z≠i2∧z≠i3∧TI≠TO∧TI≠i1∧TI≠i2∧TI≠i3∧TO≠i1∧TO≠i2∧TO≠i3∧i1≠i2∧i1≠i3∧i2≠i3:=by
  simp only [List.nodup_cons,List.mem_cons,List.not_mem_nil,or_false,not_or,List.nodup_nil,and_true] at D
  obtain ⟨⟨a1,a2,a3,a4,a5⟩,⟨a6,a7,a8,a9⟩,⟨a10,a11,a12⟩,⟨a13,a14⟩,a15,_⟩:=D
  exact ⟨a1,a2,a3,a4,a5,a6,a7,a8,a9,a10,a11,a12,a13,a14,a15⟩
 obtain ⟨n1,n2,n3,n4,n5,n6,n7,n8,n9,n10,n11,n12,n13,n14,n15⟩:=D'
 obtain ⟨m1,m2,m3,m4,m5⟩:l1≠z∧l1≠TO∧l1≠i1∧l1≠i2∧l1≠i3:=by simpa using D2 l1 (by simp)
 obtain ⟨m6,m7,m8,m9,m10⟩:l2≠z∧l2≠TO∧l2≠i1∧l2≠i2∧l2≠i3:=by simpa using D2 l2 (by simp)
 obtain ⟨m11,m12,m13,m14,m15⟩:l3≠z∧l3≠TO∧l3≠i1∧l3≠i2∧l3≠i3:=by simpa using D2 l3 (by simp)
 have mv:∀ {it l p:Addr}{X:Array Value}{st:Nat→Heap→Prop}{j:Nat}{h h':Heap},ItS prog w it l X st→st j h→Heap.SameBut p h h'→it≠p→l≠p→st j h':=fun J hs b x1 x2=>J.keep hs fun c o hc e=>by
  rcases hc with rfl | rfl
  · exact a04 b x1 e
  · exact a04 b x2 e
 have fin:∀ {it l p:Addr}{X:Array Value}{st:Nat→Heap→Prop}{g:Heap}{Q':Option Value→Shared→Prop},it∈[i1,i2,i3]→ItS prog w it l X st→st k g→X[k]?=none→(∀ (c:Addr) (o:Obj),c∉[z,TO,i1,i2,i3]→s.heap.get? c=some o→g.get? c=some o)→g.get? z=some { cls:=.type "zip",data:=.fields #[.ellipsis,.bool false,.bool false,.ref TI,.ref TO] }→z≠it →
  wpAny (model prog w) A (Builtin.SmallTypes.nextOf (.ref it) >>= fun v=>pure (some v)) Q' (fun e s'=>wpAny (model prog w) A (setField (.ref z) 0 .none) (fun _ s''=>E e s'') E s') { s with heap:=g }:=fun {it l p X st g Q'} hit J hs hx hk hzz hne=>by
  refine wpAny_bind (J.done hA hs hx fun g' ex b' hex=>?_)
  refine wpAny_setField_rec (b' _ _ hne hzz) (by simp) fun g'' z'' b''=>q g'' ex (fun c o hc e=>?_) ?_
  · have hc':=hc
    simp only [List.mem_cons,List.not_mem_nil,or_false,not_or] at hc
    refine a04 b'' hc.1 (b' c o (fun hq=>?_) (hk c o hc' e))
    subst hq
    simp only [List.mem_cons,List.not_mem_nil,or_false] at hit
    rcases hit with h | h | h
    · exact hc.2.2.1 h
    · exact hc.2.2.2.1 h
    · exact hc.2.2.2.2 h
  · obtain ⟨o,e1,e2⟩:=hex
    by_cases hq:ex=z
    · subst hq
      rw [b' _ _ hne hzz] at e1
      cases e1
      simp at e2
    · exact ⟨o,a04 b'' hq e1,e2⟩
 show wpAny (model prog w) A (forIn [(Value.ref i1,0),(Value.ref i2,1),(Value.ref i3,2)] (none,()) _) _ E _
 rw [List.forIn_cons]
 refine wpAny_bind (wpAny_bind (wpAny_onRaise ?_))
 have k1:∀ (c:Addr) (o:Obj),c∉[z,TO,i1,i2,i3]→s.heap.get? c=some o→g1.get? c=some o:=fun c o hc e=>by
  simp only [List.mem_cons,List.not_mem_nil,or_false,not_or] at hc
  exact a04 b1 hc.1 e
 cases hx1:xs[k]? with
 | none=>exact fin (p:=z) (by simp) J1 (mv J1 h1 b1 n3.symm m1) hx1 k1 z1 n3
 | some x =>
   refine wpAny_bind (m:=Builtin.SmallTypes.nextOf (.ref i1)) (f:=fun v=>pure (some v)) ?_
   refine J1.item (mv J1 h1 b1 n3.symm m1) hx1 fun g2 z2 b2=>wpAny_pure ?_
   dsimp only
   refine wpAny_bind (wpAny_seqItems (items:=#[a,b,c]) (a04 b2 n10 (a04 b1 n2.symm hTO)) rfl ?_)
   dsimp only
   refine wpAny_bind (aa8 (a04 b2 n10 (a04 b1 n2.symm hTO)) fun g3 t3 b3=>?_)
   refine wpAny_bind (wpAny_letGo (wpAny_pure ?_))
   dsimp only
   rw [List.forIn_cons]
   refine wpAny_bind (wpAny_bind (wpAny_onRaise ?_))
   have k3:∀ (c:Addr) (o:Obj),c∉[z,TO,i1,i2,i3]→s.heap.get? c=some o→g3.get? c=some o:=fun c o hc e=>by
    have hc':=hc
    simp only [List.mem_cons,List.not_mem_nil,or_false,not_or] at hc
    exact a04 b3 hc.2.1 (a04 b2 hc.2.2.1 (k1 c o hc' e))
   have zz3:=a04 b3 n2 (a04 b2 n3 z1)
   cases hx2:ys[k]? with
   | none=>exact fin (p:=z) (by simp) J2 (mv J2 (mv J2 (mv J2 h2 b1 n4.symm m6) b2 n13.symm m8) b3 n11.symm m7) hx2 k3 zz3 n4
   | some y =>
     refine wpAny_bind (m:=Builtin.SmallTypes.nextOf (.ref i2)) (f:=fun v=>pure (some v)) ?_
     refine J2.item (mv J2 (mv J2 (mv J2 h2 b1 n4.symm m6) b2 n13.symm m8) b3 n11.symm m7) hx2 fun g4 z4 b4=>wpAny_pure ?_
     dsimp only
     have t4:IsTri g4 TO x b c:=a04 b4 n11 (by rw [t3]; rfl)
     refine wpAny_bind (wpAny_seqItems (items:=#[x,b,c]) t4 rfl ?_)
     dsimp only
     refine wpAny_bind (aa8 t4 fun g5 t5 b5=>?_)
     refine wpAny_bind (wpAny_letGo (wpAny_pure ?_))
     dsimp only
     rw [List.forIn_cons]
     refine wpAny_bind (wpAny_bind (wpAny_onRaise ?_))
     have k5:∀ (c:Addr) (o:Obj),c∉[z,TO,i1,i2,i3]→s.heap.get? c=some o→g5.get? c=some o:=fun c o hc e=>by
      have hc':=hc
      simp only [List.mem_cons,List.not_mem_nil,or_false,not_or] at hc
      exact a04 b5 hc.2.1 (a04 b4 hc.2.2.2.1 (k3 c o hc' e))
     have zz5:=a04 b5 n2 (a04 b4 n4 zz3)
     have hx3:us[k]?=none:=by
      rcases e with e | e | e
      · rw [hx1] at e; cases e
      · rw [hx2] at e; cases e
      · exact e
     exact fin (p:=z) (by simp) J3 (mv J3 (mv J3 (mv J3 (mv J3 (mv J3 h3 b1 n5.symm m11) b2 n14.symm m13) b3 n12.symm m12) b4 n15.symm m14) b5 n12.symm m12) hx3 k5 zz5 n5
theorem ai8 {A:Around}{E:Value→Shared→Prop}{s:Shared}{k:Nat}{x y u a b c:Value}{Q:Option Value→Shared→Prop}
 (D:Apt z TI TO i1 i2 i3 l1 l2 l3) (J1:ItS prog w i1 l1 xs st1) (J2:ItS prog w i2 l2 ys st2) (J3:ItS prog w i3 l3 us st3) (hz:IsZip s.heap z TI TO .none) (hTI:IsTri s.heap TI (.ref i1) (.ref i2) (.ref i3)) (hTO:IsTri s.heap TO a b c)
 (h1:st1 k s.heap) (h2:st2 k s.heap) (h3:st3 k s.heap) (e1:xs[k]?=some x) (e2:ys[k]?=some y) (e3:us[k]?=some u)
 (q:∀ h':Heap,IsZip h' z TI TO (rawInt s.heap.objs.size)→IsTri h' TO x y u→st1 (k+1) h'→st2 (k+1) h'→st3 (k+1) h'→IsTri h' s.heap.objs.size x y u→h'.objs.size=s.heap.objs.size+1→(∀ (c:Addr) (o:Obj),c∉[z,TO,i1,i2,i3]→s.heap.get? c=some o→h'.get? c=some o)→Q (some (.ref s.heap.objs.size)) { s with heap:=h' }) :
 wpAny (model prog w) A (pyNext (.ref z)) Q E s:=by
 unfold pyNext
 refine wpAny_bind (wpAny_attempt (wpAny_callSpecial?_slot (T:="zip") ⟨_,hz,rfl⟩ F.slot_zip_next (wpAny_call_entry F.slot_zip_next ⟨_,hz,rfl⟩ F.entry_zip_next ?_ (F.args_zip_next_1 _))))
 exact bb8 D J1 J2 J3 hz hTI hTO h1 h2 h3 e1 e2 e3 fun h' a1 a2 a3 a4 a5 a6 a7 a8=>wpAny_pure (q h' a1 a2 a3 a4 a5 a6 a7 a8)
theorem ak9 {A:Around}{E:Value→Shared→Prop}{s:Shared}{k:Nat}{a b c:Value}{Q:Option Value→Shared→Prop}(hA:A.handled=none)
 (D:Apt z TI TO i1 i2 i3 l1 l2 l3) (J1:ItS prog w i1 l1 xs st1) (J2:ItS prog w i2 l2 ys st2) (J3:ItS prog w i3 l3 us st3) (hz:IsZip s.heap z TI TO .none) (hTI:IsTri s.heap TI (.ref i1) (.ref i2) (.ref i3)) (hTO:IsTri s.heap TO a b c)
 (h1:st1 k s.heap) (h2:st2 k s.heap) (h3:st3 k s.heap) (e:xs[k]?=none∨ys[k]?=none∨us[k]?=none)
 (q:∀ h':Heap,(∀ (c:Addr) (o:Obj),c∉[z,TO,i1,i2,i3]→s.heap.get? c=some o→h'.get? c=some o)→Q none { s with heap:=h' }):wpAny (model prog w) A (pyNext (.ref z)) Q E s:=by
 unfold pyNext
 refine wpAny_bind (wpAny_attempt (wpAny_callSpecial?_slot (T:="zip") ⟨_,hz,rfl⟩ F.slot_zip_next (wpAny_call_entry F.slot_zip_next ⟨_,hz,rfl⟩ F.entry_zip_next ?_ (F.args_zip_next_1 _))))
 refine bk6 (by exact hA) D J1 J2 J3 hz hTI hTO h1 h2 h3 e fun h' ex hk ⟨o,x1,x2⟩=>?_
 refine wpAny_bind (wpAny_isInstance (T:="StopIteration") ⟨o,x1,x2⟩ isSubtype_stop ?_)
 rw [if_pos rfl]
 exact wpAny_pure (q h' hk)
end
structure SrcO (l:Addr) (o:Obj) (P:Heap→Prop):Prop where
 push:∀ {h:Heap}{o':Obj},P h→P (h.push o')
 iter:∀ {prog:Program}{w:World}{A:Around}{E:Value→Shared→Prop}{s:Shared}{Q:Value→Shared→Prop},P s.heap→Q (.ref s.heap.objs.size) { s with heap:=s.heap.push o }→wpAny (model prog w) A (pyIter (.ref l)) Q E s
@[reducible] def z3H (h:Heap) (o1 o2 o3:Obj):Heap:=(((((h.push o1).push o2).push o3).push { cls:=.type "tuple",data:=.seq #[.ref h.objs.size,.ref (h.objs.size+1),.ref (h.objs.size+2)] }).push { cls:=.type "tuple",data:=.seq #[.none,.none,.none] }).push { cls:=.type "zip",data:=.fields #[.none,.bool false,.bool false,.ref (h.objs.size+3),.ref (h.objs.size+4)] }
theorem b58 {l1 l2 l3:Addr}{o1 o2 o3:Obj}{P1 P2 P3:Heap→Prop}(S1:SrcO l1 o1 P1) (S2:SrcO l2 o2 P2) (S3:SrcO l3 o3 P3):Meets (Builtin.«zip.__new__» { pos:=[.type "zip",.ref l1,.ref l2,.ref l3] }) fun _ R s=>P1 s.heap∧P2 s.heap∧P3 s.heap∧R (.ok (.ret (.ref (s.heap.objs.size+5)))) { s with heap:=z3H s.heap o1 o2 o3 }:=by
 refine Meets.of_wp fun prog w A R s ⟨p1,p2,p3,r⟩=>?_
 unfold Builtin.«zip.__new__»
 refine wpAny_bind ?_
 unfold Builtin.SmallTypes.newClass
 dsimp only
 refine wpAny_bind (wpAny_pure ?_)
 rw [if_neg (by decide)]
 refine wpAny_bind ?_
 rw [sub_zip]
 refine wpAny_pure ?_
 rw [if_neg (by decide)]
 refine wpAny_pure ?_
 dsimp only
 rw [if_neg (by decide)]
 refine wpAny_bind ?_
 unfold Builtin.SmallTypes.iterAll
 refine wpAny_bind ?_
 rw [List.forIn_cons]
 refine wpAny_bind (wpAny_bind (wpAny_holding (S1.iter p1 (wpAny_pure ?_))))
 dsimp only
 rw [List.forIn_cons]
 refine wpAny_bind (wpAny_bind (wpAny_holding (S2.iter (S2.push p2) (wpAny_pure ?_))))
 dsimp only
 rw [List.forIn_cons]
 refine wpAny_bind (wpAny_bind (wpAny_holding (S3.iter (S3.push (S3.push p3)) (wpAny_pure ?_))))
 dsimp only
 rw [List.forIn_nil]
 refine wpAny_pure (wpAny_pure ?_)
 refine wpAny_bind (wpAny_newTuple ?_ (by simp [sizeLine_eq]))
 refine wpAny_bind (wpAny_newTuple ?_ (by simp [sizeLine_eq]))
 refine wpAny_bind ?_
 refine wpAny_bind (wpAny_alloc' ?_)
 refine wpAny_pure ?_
 refine wpAny_pure ⟨_,rfl,?_⟩
 simp only [Heap.size_push]
 exact r
theorem al8 (a b c:Value):checkTypeCall "zip" { pos:=[a,b,c] }=pure ():=by
 with_unfolding_all rfl
theorem ap7 (a b c:Value):checkBuiltinCall "zip.__new__" { pos:=[.type "zip",a,b,c] }=pure ():=by
 with_unfolding_all rfl
theorem aw8 (a b c d:Value):argsOk "object.__init__" { pos:=[a,b,c,d] }:=by
 with_unfolding_all rfl
theorem b02 (l:Addr) (xs:Array Value):SrcO l { cls:=.type "list_iterator",data:=.fields #[.ref l,.int 0 0] } (fun h=>h.IsList l xs) where
 push:=fun h=>h.push _
 iter:=fun p q=>wpAny_pyIter_list p q
section
variable {X:Cx}{elts:List Expr}{x1:Nat}{tpos:Pos}
end
section
variable {X:Cx}{k v:Expr}{pos:Pos}{tk tv:TE}{P:Params}
end
def Each {α β:Type}(R:α→β→Prop) (vs:List α) (xs:List β):Prop:=vs.length=xs.length∧∀ (j:Nat) (v:α) (x:β),vs[j]?=some v→xs[j]?=some x→R v x
section
variable {α β:Type}{R:α→β→Prop}{vs:List α}{xs:List β}
theorem Each.nil:Each R ([]:List α) ([]:List β):=⟨rfl,fun j v x h=>by simp at h⟩
theorem Each.mono {R':α→β→Prop}(h:Each R vs xs) (k:∀ v x,R v x→R' v x):Each R' vs xs:=⟨h.1,fun j v x h1 h2=>k v x (h.2 j v x h1 h2)⟩
theorem Each.append {ws:List α}{ys:List β}(h:Each R vs xs) (k:Each R ws ys):Each R (vs++ws) (xs++ys):=by
 refine ⟨by simp [h.1,k.1],fun j v x h1 h2=>?_⟩
 by_cases hj:j<vs.length
 · rw [List.getElem?_append_left hj] at h1
   rw [List.getElem?_append_left (by rw [← h.1]; exact hj)] at h2
   exact h.2 j v x h1 h2
 · rw [List.getElem?_append_right (by omega)] at h1
   rw [List.getElem?_append_right (by rw [← h.1]; omega),←h.1] at h2
   exact k.2 _ v x h1 h2
theorem Each.snoc {v:α}{x:β}(h:Each R vs xs) (k:R v x):Each R (vs++[v]) (xs++[x]):=h.append ⟨rfl,fun j w y h1 h2=>by
 cases j with
 | zero=>cases h1; cases h2; exact k
 | succ j=>simp at h1⟩
theorem Each.get {j:Nat}{x:β}(h:Each R vs xs) (k:xs[j]?=some x):∃ v,vs[j]?=some v∧R v x:=by
 have hj:j<vs.length:=by rw [h.1]; exact (List.getElem?_eq_some_iff.mp k).1
 exact ⟨vs[j],List.getElem?_eq_getElem hj,h.2 j _ x (List.getElem?_eq_getElem hj) k⟩
end
abbrev RRow:=List Str×Nat
abbrev RRoom:=Bool×List RRow
section
variable {f:Nat→Option Nat}{rep rk:Nat→Nat}
end
def hF (d:Addr):List (Str×V):=putF "heads" (.ref d) []
def But (d:Addr) (H H':Hp):Prop:=∀ b o,b≠d→H b=some o→H' b=some o
theorem But.refl {d:Addr}{H:Hp}:But d H H:=fun _ _ _ e=>e
theorem But.new {d:Addr}{H H1 H2:Hp}(s:Same H H1) (b:But d H1 H2) (h:H d=none):Same H H2:=fun c o e=>b c o (a03 e h) (s c o e)
abbrev Pr:=Nat×Nat
def pairT (p:Pr):Tr:=.tup [.int (p.1:Nat),.int (p.2:Nat)]
theorem pairT_inj {p q:Pr}:pairT p=pairT q↔p=q:=by
 constructor
 · intro h
   unfold pairT at h
   simp only [Tr.tup.injEq,List.cons.injEq,Tr.int.injEq,and_true] at h
   exact Prod.ext (by omega) (by omega)
 · intro h; rw [h]
def PairAt (H:Hp) (v:V) (p:Pr):Prop:=∃ a,v=.ref a∧H a=some (.tup [.int (p.1:Nat),.int (p.2:Nat)])
def WayAt (H:Hp) (us:List V) (v:V) (w:Option (Pr×Nat)):Prop:=(w=none∧v=.non)∨∃ p j q pv u,w=some (p,j)∧v=.ref q∧H q=some (.tup [pv,u])∧PairAt H pv p∧us[j]?=some u
def rCatU:R2:=fun x y H Q=>∃ a b xs ys,x=.ref a∧y=.ref b∧H a=some (.tup xs)∧H b=some (.tup ys)∧xs.length+ys.length≤sizeLine∧∀ c H',Same H H'→H' c=some (.tup (xs++ys))→Q (.ref c) H'
section
variable {X:Cx}
theorem bk7:OpR X (binaryOp .Add) rCatU:=by
 intro pins s σ H x y v u Q I rx ry h
 obtain ⟨a,b,xs,ys,rfl,rfl,ha,hb,hz,q⟩:=h
 cases rx
 cases ry
 obtain ⟨its,r1,p1,_⟩:=I.tuple (SqT.of ha)
 obtain ⟨its2,r2,p2,_⟩:=I.tuple (SqT.of hb)
 obtain ⟨⟨cls,dd,data,sl⟩,ho,hc,n,hd⟩:=id p1
 obtain ⟨⟨cls2,dd2,data2,sl2⟩,ho2,hc2,n2,hd2⟩:=id p2
 simp only at hc hd hc2 hd2
 subst hc hd hc2 hd2
 have e:its.toArray++its2.toArray=(its++its2).toArray:=by simp
 by_cases hv:its=[]
 · refine concat_meets ⟨_,ho,rfl⟩ ⟨_,ho2,rfl⟩ noFill_tuple_add seq_tuple_add PySem.F.slot_tuple_add PySem.F.entry_tuple_add (PySem.F.args_tuple_add_2 _ _)
    (tuple_addW0 a b its.toArray its2.toArray n n2 dd dd2 sl sl2 (by simp [hv])) ⟨ho,ho2,⟨.ref b,H,I,rfl,q b H (Same.refl _) ?_⟩⟩
   rw [r1.nil_iff.mp hv,List.nil_append]
   exact hb
 · by_cases hw:its2=[]
   · refine concat_meets ⟨_,ho,rfl⟩ ⟨_,ho2,rfl⟩ noFill_tuple_add seq_tuple_add PySem.F.slot_tuple_add PySem.F.entry_tuple_add (PySem.F.args_tuple_add_2 _ _)
      (tuple_addW1 a b its.toArray its2.toArray n n2 dd dd2 sl sl2 (by simpa using hv) (by simp [hw])) ⟨ho,ho2,⟨.ref a,H,I,rfl,q a H (Same.refl _) ?_⟩⟩
     rw [r2.nil_iff.mp hw,List.append_nil]
     exact ha
   · refine concat_meets ⟨_,ho,rfl⟩ ⟨_,ho2,rfl⟩ noFill_tuple_add seq_tuple_add PySem.F.slot_tuple_add PySem.F.entry_tuple_add (PySem.F.args_tuple_add_2 _ _)
      (tuple_addW2 a b its.toArray its2.toArray n n2 dd dd2 sl sl2 (by simpa using hv) (by simpa using hw) (by rw [List.size_toArray,List.size_toArray,←r1.length,←r2.length]; exact hz)) ⟨ho,ho2,?_⟩
     rw [e]
     have fr:=I.hok.fresh (Nat.le_refl s.heap.objs.size)
     refine ⟨.ref s.heap.objs.size,_,I.laid (t':=s.toks) (o:=.tup (xs++ys)) (fun b ob q=>Heap.get?_push_of_some _ q) (Nat.le_refl _) ?_,rfl,q _ _ (Same.new fr) a34⟩
     exact ⟨by rw [List.length_append]; exact hz,_,r1.append r2,IsTup.new _ _⟩
theorem ai1 {prog:Program}{w:World}{A:Around}{E:Value→Shared→Prop}{s:Shared}{t sl:Addr}{items:Array Value}{vl vu:Value}{lo hi:Option Int}{Q:Value→Shared→Prop}(ht:IsTup s.heap t items) (hs:s.heap.IsSliceOf sl vl vu .none) (pl:IsPart vl lo) (pu:IsPart vu hi)
 (hw:HT.sIx items.size 0 lo=0∧HT.sIx items.size items.size hi=items.size) (h:Q (.ref t) s):wpAny (model prog w) A (getItem (.ref t) (.ref sl)) Q E s:=by
 obtain ⟨os,hos,hcs,hds⟩:=id hs
 have hTs:s.TypeIs (.ref sl) "slice":=⟨os,hos,hcs⟩
 unfold getItem
 try with_reducible refine wpAny_holding ?_
 first | refine wpAny_bind (wpAny_pure ?_) | skip
 refine wpAny_bind (wpAny_sequenceKey ht.typeIs (by decide) ?_)
 refine wpAny_bind (wpAny_callSpecial?_slot (name:=Str.ofString "__getitem__") ht.typeIs PyProof.Rows.slot_tuple_getitem
  (wpAny_call_entry PyProof.Rows.slot_tuple_getitem ht.typeIs PyProof.Rows.entry_tuple_getitem ?_ (PyProof.Rows.args_tuple_getitem _ _)))
 show wpAny _ _ (Builtin.Tuple.tupleItemsOf (.ref t) >>= _) _ _ s
 refine wpAny_bind (PyProof.Rows.tupleItemsOf_ ht ?_)
 refine wpAny_bind (wpAny_typeOf hTs ?_)
 rw [if_pos (by decide)]
 refine wpAny_bind (HT.sliceApplied_gen hs pl pu ?_)
 have hyes:(((HT.sIx items.size 0 lo:Nat):Int) == 0 && (1:Int) == 1 && (HT.sIx items.size items.size hi - HT.sIx items.size 0 lo) == items.size)=true:=by
  rw [hw.1,hw.2]
  simp
 show wpAny _ _ (if (((HT.sIx items.size 0 lo:Nat):Int) == 0 && (1:Int) == 1 && (HT.sIx items.size items.size hi - HT.sIx items.size 0 lo) == items.size)=true then _ else _) _ _ s
 rw [if_pos hyes]
 refine wpAny_bind ?_
 unfold Builtin.Tuple.tupleIsExact
 refine wpAny_bind (wpAny_typeOf ht.typeIs (wpAny_pure ?_))
 rw [if_pos (by decide)]
 exact wpAny_bind (wpAny_rule (wpAny_pure ⟨_,rfl,wpAny_pure h⟩))
def rSlU:V→Option Int→Option Int→Hp→VK→Prop:=fun x lo hi H Q=>∃ a xs,x=.ref a∧H a=some (.tup xs)∧∀ c H',Same H H'→H' c=some (.tup (cutV xs lo hi))→Q (.ref c) H'
theorem bk8:SlR X rSlU:=by
 intro pins s σ H x v vl vu lo hi sl Q I rx hs pl pu h
 obtain ⟨a,xs,rfl,hx,q⟩:=h
 by_cases hw:HT.sIx xs.length 0 lo=0∧HT.sIx xs.length xs.length hi=xs.length
 · cases rx
   obtain ⟨its,r,ht,hz⟩:=I.tuple (SqT.of hx)
   have hlen:its.toArray.size=xs.length:=by rw [List.size_toArray]; exact r.length.symm
   refine ⟨"tuple",_,PyProof.Rows.slot_tuple_getitem.lookup,ht.typeIs,?_⟩
   refine ai1 ht hs pl pu (by rw [hlen]; exact hw) ⟨.ref a,H,I,rfl,q a H (Same.refl _) ?_⟩
   have e:cutV xs lo hi=xs:=by
    unfold cutV
    rw [hw.1,hw.2,List.drop_zero,Nat.sub_zero,List.take_length]
   rw [e]
   exact hx
 · exact c05 pins s σ H (.ref a) v vl vu lo hi sl Q I rx hs pl pu ⟨a,xs,rfl,SqT.of hx,hw,fun p hp=>q p _ (Same.new hp) a34⟩
end
section
variable {H:Hp}{Q:VK}
theorem c75 {a b:Addr}{xs ys:List V}(h1:H a=some (.tup xs)) (h2:H b=some (.tup ys)) (hz:xs.length+ys.length≤sizeLine) (h:∀ c H',Same H H'→H' c=some (.tup (xs++ys))→Q (.ref c) H'):rCatU (.ref a) (.ref b) H Q:=⟨a,b,xs,ys,rfl,rfl,h1,h2,hz,h⟩
theorem cc5 {a:Addr}{xs:List V}{lo hi:Option Int}(h1:H a=some (.tup xs)) (h:∀ c H',Same H H'→H' c=some (.tup (cutV xs lo hi))→Q (.ref c) H'):rSlU (.ref a) lo hi H Q:=⟨a,xs,rfl,h1,h⟩
end
def TupK (K:PySem.W.Frag) (a:Addr) (xs:List V):Prop:=∃ (o:Obj) (its:Array Value) (n:Nat),K.lookup a=some o∧o.cls=.type "tuple"∧o.data=.seq its n∧its.size≤sizeLine∧Vals xs its.toList
theorem TupK.sq {K:PySem.W.Frag}{a:Addr}{xs:List V}(h:TupK K a xs) (H:Hp):SqT K H a xs:=.inr h
mutual
def Tr.AtK (K:PySem.W.Frag) (H:Hp):Tr→V→Prop
 | .non,v=>v=.non
 | .int i,v=>v=.int i
 | .str s,v=>v=.str s
 | .tup xs,v=>∃ a vs,v=.ref a∧(H a=some (.tup vs)∨TupK K a vs)∧Tr.AtsK K H xs vs
 | .lst _,_=>False
def Tr.AtsK (K:PySem.W.Frag) (H:Hp):List Tr→List V→Prop
 | [],vs=>vs=[]
 | x::xs,vs=>∃ v ws,vs=v::ws∧Tr.AtK K H x v∧Tr.AtsK K H xs ws
end
mutual
theorem Tr.AtK.mono {K:PySem.W.Frag}{H H':Hp}:∀ {x:Tr}{v:V},x.AtK K H v→Tups H H'→x.AtK K H' v
 | .non,_,h,_=>by simpa only [Tr.AtK] using h
 | .int _,_,h,_=>by simpa only [Tr.AtK] using h
 | .str _,_,h,_=>by simpa only [Tr.AtK] using h
 | .tup xs,v,h,k=>by
   simp only [Tr.AtK] at h ⊢
   obtain ⟨a,vs,e,g,r⟩:=h
   exact ⟨a,vs,e,g.imp (fun z=>k _ _ z) id,Tr.AtsK.mono r k⟩
 | .lst xs,v,h,k=>by simp only [Tr.AtK] at h
theorem Tr.AtsK.mono {K:PySem.W.Frag}{H H':Hp}:∀ {xs:List Tr}{vs:List V},Tr.AtsK K H xs vs→Tups H H'→Tr.AtsK K H' xs vs
 | [],_,h,_=>by simpa only [Tr.AtsK] using h
 | x::xs,vs,h,k=>by
   simp only [Tr.AtsK] at h ⊢
   obtain ⟨v,ws,e,a,b⟩:=h
   exact ⟨v,ws,e,Tr.AtK.mono a k,Tr.AtsK.mono b k⟩
end
mutual
theorem Tr.At.toK (K:PySem.W.Frag) {H:Hp}:∀ {x:Tr}{v:V},x.At H v []→x.AtK K H v
 | .non,_,h=>by simp only [Tr.At] at h; simp only [Tr.AtK]; exact h.1
 | .int _,_,h=>by simp only [Tr.At] at h; simp only [Tr.AtK]; exact h.1
 | .str _,_,h=>by simp only [Tr.At] at h; simp only [Tr.AtK]; exact h.1
 | .tup xs,v,h=>by
   simp only [Tr.At] at h
   simp only [Tr.AtK]
   obtain ⟨a,vs,e,g,r⟩:=h
   exact ⟨a,vs,e,.inl g,Tr.Ats.toK K r⟩
 | .lst xs,v,h=>(at2 (h:=h)).elim
theorem Tr.Ats.toK (K:PySem.W.Frag) {H:Hp}:∀ {xs:List Tr}{vs:List V},Tr.Ats H xs vs []→Tr.AtsK K H xs vs
 | [],_,h=>by simp only [Tr.Ats] at h; simp only [Tr.AtsK]; exact h.1
 | x::xs,vs,h=>by
   simp only [Tr.Ats] at h
   simp only [Tr.AtsK]
   obtain ⟨v,ws,f,g,e,e2,a,b⟩:=h
   have hf:f=[]∧g=[]:=by simpa using e2.symm
   obtain ⟨rfl,rfl⟩:=hf
   exact ⟨v,ws,e,Tr.At.toK K a,Tr.Ats.toK K b⟩
end
section
variable {X:Cx}{pins:List (Addr×Obj)}{σ:St} {H:Hp}{s:Shared}
mutual
theorem Tr.AtK.isIn (I:Inv X pins σ H s):∀ {t:Tr}{v:V}{u:Value},t.AtK X.K H v→RelV v u→Tr.In s.heap t u
 | .non,v,u,h,r=>by
   simp only [Tr.AtK] at h
   subst h
   cases r
   exact rfl
 | .int z,v,u,h,r=>by
   simp only [Tr.AtK] at h
   subst h
   obtain ⟨t,rfl⟩:=r
   exact .inl ⟨t,rfl⟩
 | .str z,v,u,h,r=>by
   simp only [Tr.AtK] at h
   subst h
   obtain ⟨t,rfl⟩:=r
   exact ⟨t,rfl⟩
 | .lst _,v,u,h,r=>by simp only [Tr.AtK] at h
 | .tup ts,v,u,h,r=>by
   simp only [Tr.AtK] at h
   obtain ⟨a,vs,rfl,e1,c1⟩:=h
   cases r
   obtain ⟨is1,q1,p1,_⟩:=I.tuple (show SqT X.K H a vs from e1.elim SqT.of (fun z=>z.sq H))
   simp only [Tr.In]
   exact ⟨a,is1.toArray,rfl,p1,by simpa using Tr.AtsK.isIns I c1 q1⟩
theorem Tr.AtsK.isIns (I:Inv X pins σ H s):∀ {ts:List Tr}{vs:List V}{us:List Value},Tr.AtsK X.K H ts vs→Vals vs us→Tr.Ins s.heap ts us
 | [],vs,us,c,q=>by
   simp only [Tr.AtsK] at c
   subst c
   cases q
   exact rfl
 | t::ts,vs,us,c,q=>by
   simp only [Tr.AtsK] at c
   obtain ⟨v,vs,rfl,a1,b1⟩:=c
   cases q with
   | cons r1 r2 =>
     simp only [Tr.Ins]
     exact ⟨_,_,rfl,Tr.AtK.isIn I a1 r1,Tr.AtsK.isIns I b1 r2⟩
end
end
def TKK (K:PySem.W.Frag) (H:Hp) (t:Tr) (y:V):Prop:=t.AtK K H y∧t.h≤8
def tTGetK (K:PySem.W.Frag) (P:Params) (td ty:TE):TE:=fun σ H Q=>td σ H fun x H1=>ty σ H1 fun y H2=>∃ a kvs t v,x=.ref a∧DtAt P H2 a kvs∧TKK K H2 t y∧valV kvs t=some v∧Q v H2
def tTInK (K:PySem.W.Frag) (P:Params) (ty td:TE):TE:=fun σ H Q=>ty σ H fun y H1=>td σ H1 fun x H2=>∃ a kvs t,x=.ref a∧DtAt P H2 a kvs∧TKK K H2 t y∧Q (.bl (valV kvs t).isSome) H2
def tTGet2K (K:PySem.W.Frag) (P:Params) (td ty tx:TE):TE:=fun σ H Q=>td σ H fun x H1=>∃ a kvs,x=.ref a∧DtAt P H1 a kvs∧ty σ H1 fun y H2=>tx σ H2 fun z H3=>∃ kvs' t,DtAt P H3 a kvs'∧TKK K H3 t y∧Q ((valV kvs' t).getD z) H3
def rEqFK (K:PySem.W.Frag):R2:=fun x y H Q=>∃ (t r:Tr),t.AtK K H x∧r.AtK K H y∧t.h≤20∧r.h≤20∧Q (.bl (decide (t=r))) H
section
variable {X:Cx}{pins:List (Addr×Obj)}{σ:St} {H:Hp}{s:Shared}{a:Addr}{t:Tr}{y v z:V}{u r:Value}{A:Around}{E:Value→Shared→Prop}{kvs:List (Tr×V)}{m:List (Tr×V×V)}
theorem bb9 {Q:Option Value→Shared→Prop}(hu:A.units+16<cLine) (I:Inv X pins σ H s) (g:DtAt X.w.params H a kvs) (hk:TKK X.K H t y) (ry:RelV y u) (h:∀ o s',Inv X pins σ H s'→RelO (valV kvs t) o→Q o s') :
 wpAny (model X.prog X.w) A (dictGet a u) Q E s:=by
 obtain ⟨m,rfl,e2,e3,e4⟩:=g
 obtain ⟨o,es,ep,q1,q2,q3,q4,q5,_⟩:=ad9 I e2 e3 e4
 have hin:=hk.1.isIn I ry
 unfold dictGet
 try (with_reducible refine wpAny_holding ?_)
 refine wpAny_bind (hin.pyHash (by have:=hk.2; omega) fun n=>wpAny_bind (ap4 (s:={ s with toks:=n }) q1 q3 q5 hin hk.2 hu (fun hn=>?_) fun j hj=>?_))
 · refine wpAny_pure (h _ _ (I.tok _) ?_)
   rw [(ah1 hn).1]
   exact True.intro
 · rw [List.getElem?_map] at hj
   obtain ⟨x,hx,rfl⟩:=Option.map_eq_some_iff.mp hj
   obtain ⟨en,f1,f2,f3,f4⟩:=q4.at_ j x hx
   refine wpAny_bind (wpAny_dictEntries (s:={ s with toks:=n }) q1 q3 ?_)
   rw [f1]
   refine wpAny_pure (h _ _ (I.tok _) ?_)
   rw [aj5 e4 hx]
   exact f4
theorem b59 {Q:Value→Shared→Prop}(hu:A.units+20<cLine) (I:Inv X pins σ H s) (g:DtAt X.w.params H a kvs) (hk:TKK X.K H t y) (ry:RelV y u) (hv:valV kvs t=some v) (h:∀ w' s',Inv X pins σ H s'→RelV v w'→Q w' s') :
 wpAny (model X.prog X.w) A (getItem (.ref a) u) Q E s:=by
 obtain ⟨_,_,x,_,_,_⟩:=ad1 I g
 have T:=x.ty
 unfold getItem
 try (with_reducible refine wpAny_holding ?_)
 refine wpAny_bind (wpAny_sequenceKey T (by decide) (wpAny_bind (wpAny_callSpecial?_slot (name:=Str.ofString "__getitem__") T slot_dict_getitem (wpAny_call_entry slot_dict_getitem T entry_dict_getitem ?_ (args_dict_getitem _ _)))))
 show wpAny _ A.in1 (dictGet a u >>= _) _ _ s
 refine wpAny_bind (bb9 (by rw [a68]; omega) I g hk ry fun o s' I' ro=>?_)
 rw [hv] at ro
 obtain ⟨w',rfl,rw'⟩:=ro.some_of
 exact wpAny_pure ⟨w',rfl,wpAny_pure (h w' s' I' rw')⟩
theorem aw9 {Q:Bool→Shared→Prop}(hu:A.units+20<cLine) (I:Inv X pins σ H s) (g:DtAt X.w.params H a kvs) (hk:TKK X.K H t y) (ry:RelV y u) (h:∀ s',Inv X pins σ H s'→Q (valV kvs t).isSome s') :
 wpAny (model X.prog X.w) A (contains (.ref a) u) Q E s:=by
 obtain ⟨_,_,x,lo,_,_⟩:=ad1 I g
 have T:=x.ty
 unfold contains
 try (with_reducible refine wpAny_holding ?_)
 refine wpAny_bind (wpAny_specialOf T slot_dict_contains.lookup ?_)
 show wpAny _ A (if (some (Value.builtin "dict.__contains__") == some Value.none)=true then _ else _) _ E s
 rw [if_neg (by rw [beq_builtin_none]; simp)]
 refine wpAny_bind (wpAny_callSpecialUnlessNone?_slot (name:=Str.ofString "__contains__") T slot_dict_contains (wpAny_call_entry slot_dict_contains T entry_dict_contains ?_ (args_dict_contains _ _)))
 show wpAny _ A.in1 (dictGet a u >>= _) _ _ s
 refine wpAny_bind (bb9 (by rw [a68]; omega) I g hk ry fun o s' I' ro=>?_)
 have h:=h s' I'
 rw [ro.isSome_eq] at h
 cases o with
 | some w'=>exact (show wpAny _ _ (ret (.bool true)) _ _ _ from wpAny_pure ⟨_,rfl,wpAny_truthy_bool h⟩)
 | none=>exact (show wpAny _ _ (Builtin.Dict.pendingKey? a u >>= _) _ _ _ from wpAny_bind (wpAny_pendingKey_other lo (wpAny_pure ⟨_,rfl,wpAny_truthy_bool h⟩)))
theorem cc6 {Q:Value→Shared→Prop}(hu:A.units+20<cLine) (I:Inv X pins σ H s) (g:DtAt X.w.params H a kvs) (hk:TKK X.K H t y) (ry:RelV y u) (h:∀ s',Inv X pins σ H s'→Q (.bool (valV kvs t).isSome) s') :
 wpAny (model X.prog X.w) A (compareOp .In u (.ref a)) Q E s :=
 (show wpAny _ _ (do return .bool (← contains (.ref a) u)) Q E s from wpAny_bind (aw9 hu I g hk ry fun s' I'=>wpAny_pure (h s' I')))
theorem bu9 {Q:Value→Shared→Prop}(hu:A.units+20<cLine) (I:Inv X pins σ H s) (g:DtAt X.w.params H a kvs) (hk:TKK X.K H t y) (ry:RelV y u) (rz:RelV z r) (h:∀ w' s',Inv X pins σ H s'→RelV ((valV kvs t).getD z) w'→Q w' s') :
 wpAny (model X.prog X.w) A (call (.builtin "dict.get") [.ref a,u,r]) Q E s:=by
 obtain ⟨_,_,x,lo,_,_⟩:=ad1 I g
 refine wpAny_call_entry PySem.F.slot_dict_get x.ty PySem.F.entry_dict_get ?_ (PySem.F.args_dict_get_3 _ _ _)
 show wpAny _ A.in1 (dictGet a u >>= _) _ _ s
 refine wpAny_bind (bb9 (by rw [a68]; omega) I g hk ry fun o s' I' ro=>?_)
 have h:=h (o.getD r) s' I' (ro.getD rz)
 cases o with
 | some w'=>exact wpAny_pure ⟨w',rfl,h⟩
 | none=>exact (show wpAny _ _ (Builtin.Dict.missed a u >>= _) _ _ _ from wpAny_bind (wpAny_missed_other lo (wpAny_pure ⟨r,rfl,h⟩)))
end
section
variable {X:Cx}{o i e f value:Expr}{pos pos' apos cpos:Pos}{td ty tv tx:TE}{P:Params}
theorem bk9 (hP:X.w.params=P) (hu:X.A.units+64<cLine) (ho:PE X o td) (hi:PE X i ty) (hs:NoSl i):PE X (.Subscript o i pos) (tTGetK X.K P td ty):=by
 subst hP
 intro pins s σ H Q I h
 refine b96 PySem.F.slot_dict_getitem.lookup hs (thn (ho pins s σ H _ I h) fun u s1 ⟨x,H1,I1,rx,q1⟩=>thn (hi pins s1 σ H1 _ I1 q1) fun iv s2 ⟨y,H2,I2,ry,a,kvs,t,v,ex,g,hk,hv,q2⟩=>?_)
 subst ex
 obtain rfl:u=Value.ref a:=rx
 obtain ⟨_,_,x,_⟩:=ad1 I2 g
 exact ⟨x.ty,b59 (by omega) I2 g hk ry hv fun w' s3 I3 rw'=>⟨v,H2,I3,rw',q2⟩⟩
theorem bv0 (hP:X.w.params=P) (hu:X.A.units+64<cLine) (hi:PE X i ty) (ho:PE X o td):PC X .In i o (tTInK X.K P ty td):=by
 subst hP
 intro pins s σ H Q I h
 refine thn (hi pins s σ H _ I h) fun iv s1 ⟨y,H1,I1,ry,q1⟩=>thn (ho pins s1 σ H1 _ I1 q1) fun u s2 ⟨x,H2,I2,rx,a,kvs,t,ex,g,hk,q2⟩=>?_
 subst ex
 obtain rfl:u=Value.ref a:=rx
 exact cc6 (by omega) I2 g hk ry fun s3 I3=>⟨.bl _,H2,I3,rfl,q2⟩
theorem bc0 (hP:X.w.params=P) (hu:X.A.units+64<cLine) (ho:PE X o td) (he:PE X e ty) (hf:PE X f tx) (m:M2 X o "get" apos e f cpos):PE X (.Call (.Attribute o "get" apos) [e,f] [] cpos) (tTGet2K X.K P td ty tx):=by
 subst hP
 intro pins s σ H Q I h
 refine wpAny_Call_method m.base m.few m.line PySem.F.plainAttrs_dict PySem.F.slot_dict_get PySem.F.type_dict_get (thn (ho pins s σ H _ I h) fun u s1 ⟨x,H1,I1,rx,a,kvs,ex,g1,q1⟩=>?_)
 subst ex
 obtain rfl:u=Value.ref a:=rx
 obtain ⟨es,ep,x,_⟩:=ad1 I1 g1
 refine ⟨x.ty,(fun b q=>by cases q; obtain ⟨ob,h1,h2,_⟩:=x; exact ⟨ob,h1,h2.2.1⟩),?_⟩
 rw [m.trees]
 refine Calls.callWith_builtin rfl (Calls.evalArgs_plain (Calls.spliced_cons (thn (he pins s1 σ H1 _ I1 q1) fun iv s2 ⟨y,H2,I2,ry,q2⟩=>Calls.spliced_cons (thn (hf pins s2 σ H2 _ I2 q2) fun fv s3 ⟨z,H3,I3,rz,kvs',t,g,hk,q3⟩=>Calls.spliced_nil ?_))))
 exact bu9 (by omega) I3 g hk ry rz fun w' s4 I4 rw'=>⟨_,H3,I4,rw',q3⟩
theorem bl0 (K:PySem.W.Frag) (hu:X.A.units+64<cLine) (hK:X.K=K:=by rfl):OpR X (compareOp .Eq) (rEqFK K):=by
 subst hK
 intro pins s σ H x y v u Q I rx ry h
 obtain ⟨t,r,h1,h2,l1,l2,q⟩:=h
 exact (h1.isIn I rx).rcAt (h2.isIn I ry) (A:=X.A) (by omega) X.prog X.w X.xe (EP X pins σ Q) ⟨.bl _,H,I,rfl,q⟩
theorem bl1 (K:PySem.W.Frag) (hP:X.w.params=P) (hu:X.A.units+64<cLine) (ho:PE X o td) (hi:PE X i ty) (hs:NoSl i) (hK:X.K=K:=by rfl):PE X (.Subscript o i pos) (tTGetK K P td ty):=hK ▸ bk9 hP hu ho hi hs
theorem bv1 (K:PySem.W.Frag) (hP:X.w.params=P) (hu:X.A.units+64<cLine) (hi:PE X i ty) (ho:PE X o td) (hK:X.K=K:=by rfl):PC X .In i o (tTInK K P ty td):=hK ▸ bv0 hP hu hi ho
theorem bc1 (K:PySem.W.Frag) (hP:X.w.params=P) (hu:X.A.units+64<cLine) (ho:PE X o td) (he:PE X e ty) (hf:PE X f tx) (m:M2 X o "get" apos e f cpos) (hK:X.K=K:=by rfl):PE X (.Call (.Attribute o "get" apos) [e,f] [] cpos) (tTGet2K K P td ty tx):=hK ▸ bc0 hP hu ho he hf m
end
section
variable {K:PySem.W.Frag}{P:Params}{σ:St} {H:Hp}{Q:VK}{td ty tx tv:TE}
theorem bv2 (h:td σ H fun x H1=>ty σ H1 fun y H2=>∃ a kvs t v,x=.ref a∧DtAt P H2 a kvs∧TKK K H2 t y∧valV kvs t=some v∧Q v H2):tTGetK K P td ty σ H Q:=h
theorem c76 (h:ty σ H fun y H1=>td σ H1 fun x H2=>∃ a kvs t,x=.ref a∧DtAt P H2 a kvs∧TKK K H2 t y∧Q (.bl (valV kvs t).isSome) H2):tTInK K P ty td σ H Q:=h
theorem bl2 (h:td σ H fun x H1=>∃ a kvs,x=.ref a∧DtAt P H1 a kvs∧ty σ H1 fun y H2=>tx σ H2 fun z H3=>∃ kvs' t,DtAt P H3 a kvs'∧TKK K H3 t y∧Q ((valV kvs' t).getD z) H3):tTGet2K K P td ty tx σ H Q:=h
theorem c77 {x y:V}{t r:Tr}(h1:t.AtK K H x) (h2:r.AtK K H y) (l1:t.h≤20) (l2:r.h≤20) (h:Q (.bl (decide (t=r))) H):rEqFK K x y H Q:=⟨t,r,h1,h2,l1,l2,h⟩
end
def rPart:V→List V→Hp→VK→Prop:=fun x vs H Q=>∃ z y,x=.str z∧vs=[.str y]∧(y.length == 0)=false∧z.length≤sizeLine∧New H (.tup [.str (Txt.partition z y).1,.str (Txt.partition z y).2.1,.str (Txt.partition z y).2.2]) Q
theorem bv3 {X:Cx}:MtR X "str.partition" rPart:=by
 intro pins s σ H x vs v us Q I rx rv h
 obtain ⟨z,y,rfl,rfl,hy,hz,q⟩:=h
 obtain ⟨t,rfl⟩:=rx
 obtain ⟨u,rfl,ru⟩:=rv.one
 obtain ⟨t',rfl⟩:=ru
 refine call_meets F.slot_str_partition (typeIs_str _ _ _) F.entry_str_partition (F.args_str_partition_2 _ _) (meets_str_partition z y t t' hy hz) ?_
 have fr:=I.hok.fresh (Nat.le_refl s.heap.objs.size)
 have fin:∀ (ta tb tc:Tok) (k:Nat),EP X pins σ Q (.ref s.heap.objs.size) { s with toks:=k,heap:=s.heap.push { cls:=.type "tuple",data:=.seq [.str (Txt.partition z y).1 ta,.str (Txt.partition z y).2.1 tb,.str (Txt.partition z y).2.2 tc].toArray } }:=fun ta tb tc k =>
  ⟨.ref s.heap.objs.size,_,I.laid (t':=k) (o:=.tup [.str (Txt.partition z y).1,.str (Txt.partition z y).2.1,.str (Txt.partition z y).2.2]) (fun b ob q=>Heap.get?_push_of_some _ q) (Nat.le_refl _) ⟨le_line (by simp),[.str (Txt.partition z y).1 ta,.str (Txt.partition z y).2.1 tb,.str (Txt.partition z y).2.2 tc],.cons ⟨ta,rfl⟩ (.cons ⟨tb,rfl⟩ (.cons ⟨tc,rfl⟩ .nil)),IsTup.new _ _⟩,rfl,New.to q _ fr⟩
 unfold Txt.partition at fin
 revert fin
 cases Builtin.Str.occurrences z y 0 z.length 1 with
 | nil=>intro fin; exact fin _ _ _ _
 | cons i r=>intro fin; exact fin _ _ _ _
theorem bc2 {H:Hp}{Q:VK}{z y:Str}(hy:(y.length == 0)=false) (hz:z.length≤sizeLine) (h:New H (.tup [.str (Txt.partition z y).1,.str (Txt.partition z y).2.1,.str (Txt.partition z y).2.2]) Q):rPart (.str z) [.str y] H Q:=⟨z,y,rfl,rfl,hy,hz,h⟩
section
variable {prog:Program}{w:World}{A:Around}{E:Value→Shared→Prop}{s:Shared}
theorem ad2 {it l:Addr}{i:Nat}{items}{x:Value}{Q:Value→Shared→Prop}(hit:s.heap.IsTupleIter it l i)
 (hl:s.heap.IsTuple l items) (hx:items[i]?=some x)
 (hQ:∀ h',h'.IsTupleIter it l (i+1)→Heap.SameBut it s.heap h'→Q x { s with heap:=h' }) :
 wpAny (model prog w) A (Builtin.SmallTypes.nextOf (.ref it)) Q E s:=by
 obtain ⟨o,ho,hc,hd⟩:=id hit
 obtain ⟨ol,hol,_,nl,hdl⟩:=hl
 unfold Builtin.SmallTypes.nextOf
 refine wpAny_bind (wpAny_callSpecial?_slot (name:=Str.ofString "__next__") hit.typeIs F.slot_tuple_iterator_next
  (wpAny_call_entry F.slot_tuple_iterator_next hit.typeIs F.entry_tuple_iterator_next ?_ (F.args_tuple_iterator_next_1 _)))
 show wpAny _ _ (field (.ref it) 0 >>= _) _ _ s
 refine wpAny_bind (wpAny_field ho hd (x:=.ref l) rfl ?_)
 show wpAny _ _ (if (Value.ref l == Value.none)=true then _ else _) _ _ s
 rw [if_neg (show ¬ ((Value.ref l == Value.none)=true) from Bool.false_ne_true)]
 show wpAny _ _ (field (.ref it) 1 >>= _) _ _ s
 refine wpAny_bind (wpAny_field ho hd (x:=.int i 0) rfl ?_)
 show wpAny _ _ (seqItems? (.ref l) >>= _) _ _ s
 refine wpAny_bind (wpAny_seqItems hol hdl ?_)
 simp only [Int.toNat_natCast,hx]
 refine wpAny_bind (wpAny_setField ho hd (by simp) (wpAny_pure ⟨x,rfl,wpAny_pure (hQ _ ?_ (Heap.SameBut.update ..))⟩))
 exact ⟨_,Heap.get?_update_self _ ho (Obj.isFreed_of_fields (Obj.data_mapFields hd _)),(Obj.cls_mapFields ..).trans hc,by
  rw [Obj.data_mapFields hd]; simp [rawInt]⟩
theorem ae5 {it l:Addr}{i:Nat}{items}{Q:Value→Shared→Prop}(hh:A.handled=none)
 (hit:s.heap.IsTupleIter it l i) (hl:s.heap.IsTuple l items) (hx:items[i]?=none)
 (hE:∀ h' e,Heap.ExtBut it s.heap h'→(∃ o,h'.get? e=some o∧o.cls=.type "StopIteration")→E (.ref e) { s with heap:=h' }) :
 wpAny (model prog w) A (Builtin.SmallTypes.nextOf (.ref it)) Q E s:=by
 obtain ⟨o,ho,hc,hd⟩:=id hit
 obtain ⟨ol,hol,_,nl,hdl⟩:=hl
 unfold Builtin.SmallTypes.nextOf
 refine wpAny_bind (wpAny_callSpecial?_slot (name:=Str.ofString "__next__") hit.typeIs F.slot_tuple_iterator_next
  (wpAny_call_entry F.slot_tuple_iterator_next hit.typeIs F.entry_tuple_iterator_next ?_ (F.args_tuple_iterator_next_1 _)))
 show wpAny _ _ (field (.ref it) 0 >>= _) _ _ s
 refine wpAny_bind (wpAny_field ho hd (x:=.ref l) rfl ?_)
 show wpAny _ _ (if (Value.ref l == Value.none)=true then _ else _) _ _ s
 rw [if_neg (show ¬ ((Value.ref l == Value.none)=true) from Bool.false_ne_true)]
 show wpAny _ _ (field (.ref it) 1 >>= _) _ _ s
 refine wpAny_bind (wpAny_field ho hd (x:=.int i 0) rfl ?_)
 show wpAny _ _ (seqItems? (.ref l) >>= _) _ _ s
 refine wpAny_bind (wpAny_seqItems hol hdl ?_)
 simp only [Int.toNat_natCast,hx]
 refine wpAny_bind (wpAny_rule (wpAny_bind (wpAny_setField ho hd (by simp) ?_)))
 show wpAny _ _ (newExc (.type "StopIteration") [] >>= _) _ _ _
 refine wpAny_bind ?_
 simp only [newExc,newTuple]
 refine wpAny_bind (wpAny_newObj_type ?_ (by size_fits))
 refine wpAny_bind (m:=firstArgMember _ _) (wpAny_of_eq (a:=Value.none) (by first | rfl | (simp only [firstArgMember]; rfl)) ?_)
 refine wpAny_newObj_type ?_ (by size_fits)
 simp only [raiseNew]
 refine wpAny_bind (wpAny_handled ?_)
 first | rw [show A.in1.handled=none from hh] | rw [hh]
 refine wpAny_bind (wpAny_pure (wpAny_throw ?_))
 exact hE _ _ (((Heap.SameBut.update ..).extBut.push _).push _) ⟨_,Heap.get?_push_size _ rfl,rfl⟩
end
theorem ad3 {h h':Heap}{a t:Addr}{i:Nat}(x:h.IsTupleIter a t i) (k:∀ o,h.get? a=some o→h'.get? a=some o):h'.IsTupleIter a t i:=let ⟨o,ho,r⟩:=x; ⟨o,k o ho,r⟩
theorem at3 {prog:Program}{w:World}{it l:Addr}{xs:Array Value}(hn:l≠it):ItS prog w it l xs (fun k h=>h.IsTupleIter it l k∧h.IsTuple l xs) where
 keep:=fun ⟨h1,h2⟩ k=>⟨ad3 h1 fun o e=>k it o (.inl rfl) e,by obtain ⟨o,e,r⟩:=h2; exact ⟨o,k l o (.inr rfl) e,r⟩⟩
 item:=fun ⟨h1,h2⟩ e q=>ad2 h1 h2 e fun h' a b=>q h' ⟨a,h2.extBut b.extBut hn⟩ b
 done:=fun hA ⟨h1,h2⟩ e q=>ae5 hA h1 h2 e q
theorem bc3 (l:Addr) (xs:Array Value):SrcO l { cls:=.type "tuple_iterator",data:=.fields #[.ref l,.int 0 0] } (fun h=>h.IsTuple l xs) where
 push:=fun h=>h.push _
 iter:=fun p q=>wpAny_pyIter_tuple p q
theorem ax0 {prog:Program}{w:World}{A:Around}{E:Value→Shared→Prop}{s:Shared}{l1 l2 l3:Addr}{xs ys us:Array Value}{Q:Value→Shared→Prop}(p1:s.heap.IsList l1 xs) (p2:s.heap.IsTuple l2 ys) (p3:s.heap.IsList l3 us)
 (q:∀ h':Heap,IsZip h' (s.heap.objs.size+5) (s.heap.objs.size+3) (s.heap.objs.size+4) .none→IsTri h' (s.heap.objs.size+3) (.ref s.heap.objs.size) (.ref (s.heap.objs.size+1)) (.ref (s.heap.objs.size+2))→IsTri h' (s.heap.objs.size+4) .none .none .none →
  h'.IsListIter s.heap.objs.size l1 0→h'.IsTupleIter (s.heap.objs.size+1) l2 0→h'.IsListIter (s.heap.objs.size+2) l3 0→(∀ (c:Addr) (o:Obj),s.heap.get? c=some o→h'.get? c=some o)→Q (.ref (s.heap.objs.size+5)) { s with heap:=h' }) :
 wpAny (model prog w) A (call (.type "zip") [.ref l1,.ref l2,.ref l3]) Q E s:=by
 refine callType_new F.called_zip (by decide) (al8 _ _ _) (ap7 _ _ _) (fun obj=>aw8 _ _ _ _) F.entry_zip_new (b58 (b02 l1 xs) (bc3 l2 ys) (b02 l3 us)) ⟨p1,p2,p3,?_⟩
 have e5:(z3H s.heap { cls:=.type "list_iterator",data:=.fields #[.ref l1,.int 0 0] } { cls:=.type "tuple_iterator",data:=.fields #[.ref l2,.int 0 0] } { cls:=.type "list_iterator",data:=.fields #[.ref l3,.int 0 0] }).get? (s.heap.objs.size+5)=some { cls:=.type "zip",data:=.fields #[.none,.bool false,.bool false,.ref (s.heap.objs.size+3),.ref (s.heap.objs.size+4)] }:=by
  have:=Heap.get?_push_size (((((s.heap.push { cls:=.type "list_iterator",data:=.fields #[.ref l1,.int 0 0] }).push { cls:=.type "tuple_iterator",data:=.fields #[.ref l2,.int 0 0] }).push { cls:=.type "list_iterator",data:=.fields #[.ref l3,.int 0 0] }).push { cls:=.type "tuple",data:=.seq #[.ref s.heap.objs.size,.ref (s.heap.objs.size+1),.ref (s.heap.objs.size+2)] }).push { cls:=.type "tuple",data:=.seq #[.none,.none,.none] }) (o:={ cls:=.type "zip",data:=.fields #[.none,.bool false,.bool false,.ref (s.heap.objs.size+3),.ref (s.heap.objs.size+4)] }) rfl
  simp only [Heap.size_push] at this
  exact this
 refine ⟨⟨_,e5,rfl⟩,q _ e5 ?_ ?_ ?_ ?_ ?_ ?_⟩
 · have:=Heap.get?_push_size ((((s.heap.push { cls:=.type "list_iterator",data:=.fields #[.ref l1,.int 0 0] }).push { cls:=.type "tuple_iterator",data:=.fields #[.ref l2,.int 0 0] }).push { cls:=.type "list_iterator",data:=.fields #[.ref l3,.int 0 0] })) (o:={ cls:=.type "tuple",data:=.seq #[.ref s.heap.objs.size,.ref (s.heap.objs.size+1),.ref (s.heap.objs.size+2)] }) rfl
   simp only [Heap.size_push] at this
   exact Heap.get?_push_of_some _ (Heap.get?_push_of_some _ this)
 · have:=Heap.get?_push_size ((((s.heap.push { cls:=.type "list_iterator",data:=.fields #[.ref l1,.int 0 0] }).push { cls:=.type "tuple_iterator",data:=.fields #[.ref l2,.int 0 0] }).push { cls:=.type "list_iterator",data:=.fields #[.ref l3,.int 0 0] }).push { cls:=.type "tuple",data:=.seq #[.ref s.heap.objs.size,.ref (s.heap.objs.size+1),.ref (s.heap.objs.size+2)] }) (o:={ cls:=.type "tuple",data:=.seq #[.none,.none,.none] }) rfl
   simp only [Heap.size_push] at this
   exact Heap.get?_push_of_some _ this
 · refine ⟨_,Heap.get?_push_of_some _ (Heap.get?_push_of_some _ (Heap.get?_push_of_some _ (Heap.get?_push_of_some _ (Heap.get?_push_of_some _ (Heap.get?_push_size s.heap rfl))))),rfl,rfl⟩
 · have:=Heap.get?_push_size (s.heap.push { cls:=.type "list_iterator",data:=.fields #[.ref l1,.int 0 0] }) (o:={ cls:=.type "tuple_iterator",data:=.fields #[.ref l2,.int 0 0] }) rfl
   simp only [Heap.size_push] at this
   exact ⟨_,Heap.get?_push_of_some _ (Heap.get?_push_of_some _ (Heap.get?_push_of_some _ (Heap.get?_push_of_some _ this))),rfl,rfl⟩
 · have:=Heap.get?_push_size ((s.heap.push { cls:=.type "list_iterator",data:=.fields #[.ref l1,.int 0 0] }).push { cls:=.type "tuple_iterator",data:=.fields #[.ref l2,.int 0 0] }) (o:={ cls:=.type "list_iterator",data:=.fields #[.ref l3,.int 0 0] }) rfl
   simp only [Heap.size_push] at this
   exact ⟨_,Heap.get?_push_of_some _ (Heap.get?_push_of_some _ (Heap.get?_push_of_some _ this)),rfl,rfl⟩
 · intro c o e
   exact Heap.get?_push_of_some _ (Heap.get?_push_of_some _ (Heap.get?_push_of_some _ (Heap.get?_push_of_some _ (Heap.get?_push_of_some _ (Heap.get?_push_of_some _ e)))))
def Itz3t (K:PySem.W.Frag) (a b c:Addr):It :=
 ⟨fun i H=>∃ xs ys us x y u,SqL K H a xs∧SqT K H b ys∧SqL K H c us∧xs[i]?=some x∧ys[i]?=some y∧us[i]?=some u,
  fun i H v H'=>∃ p x y u,v=.ref p∧H p=none∧Same H H'∧H' p=some (.tup [x,y,u])∧(∀ xs,SqL K H a xs→xs[i]?=some x)∧(∀ ys,SqT K H b ys→ys[i]?=some y)∧∀ us,SqL K H c us→us[i]?=some u,
  fun i H=>∃ xs ys us,SqL K H a xs∧SqT K H b ys∧SqL K H c us∧(xs.length≤i∨ys.length≤i∨us.length≤i)⟩
theorem b60 {P:Program}{w:World}{K:PySem.W.Frag}{elts:List Expr}{x1:Nat}{pos:Pos}(a b c z TI TO i1 i2 i3:Addr) (D:Apt z TI TO i1 i2 i3 a b c) (E1:a≠i1) (E2:b≠i2) (E3:c≠i3) :
 Turn P w K (.Tuple elts x1 pos) (Itz3t K a b c) [z,TI,TO,i1,i2,i3] z (fun i h=>IsZip h z TI TO .none∧IsTri h TI (.ref i1) (.ref i2) (.ref i3)∧(∃ a b c,IsTri h TO a b c)∧h.IsListIter i1 a i∧h.IsTupleIter i2 b i∧h.IsListIter i3 c i) where
 mem:=by simp
 obj:=fun i h st d hd=>by
  obtain ⟨hz,hTI,⟨a,b,c,hTO⟩,⟨o1,h1,_,d1⟩,⟨o2,h2,_,d2⟩,o3,h3,_,d3⟩:=st
  rcases (by simpa using hd:d=z∨d=TI∨d=TO∨d=i1∨d=i2∨d=i3) with rfl | rfl | rfl | rfl | rfl | rfl
  · exact ⟨_,hz,fun v q=>by cases q⟩
  · exact ⟨_,hTI,fun v q=>by cases q⟩
  · exact ⟨_,hTO,fun v q=>by cases q⟩
  · exact ⟨_,h1,fun v q=>by rw [d1] at q; cases q⟩
  · exact ⟨_,h2,fun v q=>by rw [d2] at q; cases q⟩
  · exact ⟨_,h3,fun v q=>by rw [d3] at q; cases q⟩
 keep:=fun i h h' st k=>by
  obtain ⟨hz,hTI,⟨a,b,c,hTO⟩,h1,h2,h3⟩:=st
  exact ⟨k z (by simp) _ hz,k TI (by simp) _ hTI,⟨a,b,c,k TO (by simp) _ hTO⟩,h1.at fun o x=>k i1 (by simp) o x,ad3 h2 fun o x=>k i2 (by simp) o x,h3.at fun o x=>k i3 (by simp) o x⟩
 item:=by
  intro X hP hw hK hc i pins s σ H E I hf st hg
  subst hP hw hK
  obtain ⟨xs,ys,us,x,y,u,hqa,hqb,hqc,hx,hy,hu⟩:=hg
  obtain ⟨it1,rv1,p1,hz1⟩:=I.list hqa
  obtain ⟨it2,rv2,p2,hz2⟩:=I.tuple hqb
  obtain ⟨it3,rv3,p3,hz3⟩:=I.list hqc
  obtain ⟨u1,hu1,ru1⟩:=rv1.get hx
  obtain ⟨u2,hu2,ru2⟩:=rv2.get hy
  obtain ⟨u3,hu3,ru3⟩:=rv3.get hu
  obtain ⟨hz,hTI,⟨a',b',c',hTO⟩,h1,h2,h3⟩:=st
  have fr:H s.heap.objs.size=none:=I.hok.fresh (Nat.le_refl _)
  have lt:∀ d∈[z,TI,TO,i1,i2,i3],d<s.heap.objs.size:=fun d hd=>by
   obtain ⟨o1,e1,_⟩:=h1
   obtain ⟨o2,e2,_⟩:=h2
   obtain ⟨o3,e3,_⟩:=h3
   rcases (by simpa using hd:d=z∨d=TI∨d=TO∨d=i1∨d=i2∨d=i3) with rfl | rfl | rfl | rfl | rfl | rfl
   · exact Heap.lt_size hz
   · exact Heap.lt_size hTI
   · exact Heap.lt_size hTO
   · exact Heap.lt_size e1
   · exact Heap.lt_size e2
   · exact Heap.lt_size e3
  refine ai8 (k:=i) D (aj6 (xs:=it1.toArray) E1) (at3 (xs:=it2.toArray) E2) (aj6 (xs:=it3.toArray) E3) hz hTI hTO ⟨h1,p1.isList⟩ ⟨h2,p2⟩ ⟨h3,p3.isList⟩ (x:=u1) (y:=u2) (u:=u3) (by simpa using hu1) (by simpa using hu2) (by simpa using hu3) fun h' a1 a2 a3 a4 a5 a6 a7 hk=>?_
  have I1:Inv X pins σ H { s with heap:=h' }:=I.turnedL (t':=s.toks) (ch:=[z,TI,TO,i1,i2,i3]) (fun d o hd q=>hk d o (fun e=>hd (by simp at e ⊢; rcases e with e | e | e | e | e <;> simp [e])) q) hf
  have I2:Inv X pins σ (upd H s.heap.objs.size (.tup [x,y,u])) { s with heap:=h' }:=I1.adopt (o:=.tup [x,y,u]) fr I.sz (Nat.ne_of_gt I.lt) (fun n c ec e=>by
   obtain ⟨v,q⟩:=I.cell n c ec
   exact absurd q.lt (by rw [e]; exact Nat.lt_irrefl _)) (fun q hq e=>absurd (Heap.lt_size (I.pin q hq).1) (by rw [e]; exact Nat.lt_irrefl _))
   ⟨le_line (by simp),[u1,u2,u3],.cons ru1 (.cons ru2 (.cons ru3 .nil)),⟨_,a6,rfl,_,rfl⟩⟩
  have hf2:∀ d∈[z,TI,TO,i1,i2,i3],FpOk X pins (upd H s.heap.objs.size (.tup [x,y,u])) d:=fun d hd=>⟨by rw [a08 (Nat.ne_of_lt (lt d hd))]; exact (hf d hd).1,(hf d hd).2⟩
  obtain ⟨nd,_⟩:=D
  simp only [List.nodup_cons,List.mem_cons,List.not_mem_nil,or_false,not_or,List.nodup_nil,and_true] at nd
  obtain ⟨⟨n1,n2,n3,n4,n5⟩,⟨n6,n7,n8,n9⟩,⟨n10,n11,n12⟩,⟨n13,n14⟩,n15,_⟩:=nd
  refine ⟨_,rfl,wpAny_letOwnedTupleGo_zip a1 fun h2' hz' hs'=>⟨.ref s.heap.objs.size,_,I2.turnedL (t':=s.toks) (ch:=[z]) (fun d o hd q=>(hs'.2 d (fun e=>hd (by simp [e]))).trans q) (fun d hd=>hf2 d (by simp at hd; simp [hd])),rfl,⟨s.heap.objs.size,x,y,u,rfl,fr,Same.new fr,a34,fun q hq=>by rw [I.list_inj hq hqa]; exact hx,fun q hq=>by rw [I.tuple_inj hq hqb]; exact hy,fun q hq=>by rw [I.list_inj hq hqc]; exact hu⟩,⟨hz',a04 hs' (Ne.symm n1) (hk _ _ (by simp [Ne.symm n1,n6,n7,n8,n9]) hTI),⟨_,_,_,a04 hs' (Ne.symm n2) a2⟩,a3.1.extBut hs'.extBut (Ne.symm n3),a4.1.extBut hs'.extBut (Ne.symm n4),a5.1.extBut hs'.extBut (Ne.symm n5)⟩,fun d hd=>(hf2 d hd).1⟩⟩
 done:=by
  intro X hP hw hK hc i pins s σ H E I hf st hg
  subst hP hw hK
  obtain ⟨xs,ys,us,hqa,hqb,hqc,hx⟩:=hg
  obtain ⟨it1,rv1,p1,hz1⟩:=I.list hqa
  obtain ⟨it2,rv2,p2,hz2⟩:=I.tuple hqb
  obtain ⟨it3,rv3,p3,hz3⟩:=I.list hqc
  obtain ⟨hz,hTI,⟨a',b',c',hTO⟩,h1,h2,h3⟩:=st
  have l1:=rv1.length
  have l2:=rv2.length
  have l3:=rv3.length
  refine ak9 (k:=i) (I.ok.hd hc) D (aj6 (xs:=it1.toArray) E1) (at3 (xs:=it2.toArray) E2) (aj6 (xs:=it3.toArray) E3) hz hTI hTO ⟨h1,p1.isList⟩ ⟨h2,p2⟩ ⟨h3,p3.isList⟩ ?_ fun h' hk=>⟨rfl,I.turnedL (t':=s.toks) (ch:=[z,TI,TO,i1,i2,i3]) (fun d o hd q=>hk d o (fun e=>hd (by simp at e ⊢; rcases e with e | e | e | e | e <;> simp [e])) q) hf⟩
  rcases hx with e | e | e
  · exact .inl (by simp; omega)
  · exact .inr (.inl (by simp; omega))
  · exact .inr (.inr (by simp; omega))
 self:=fun A i s Q E st h=>wpAny_pyIter_zip st.1 h
section
variable {X:Cx}{elts:List Expr}{x1:Nat}{tpos:Pos}
def iZip3t (K:PySem.W.Frag) (ta:TA):TI:=fun σ H R=>ta σ H fun vs H1=>∃ a b c,vs=[.ref a,.ref b,.ref c]∧(∃ xs,SqL K H1 a xs)∧(∃ ys,SqT K H1 b ys)∧(∃ us,SqL K H1 c us)∧R (Itz3t K a b c) H1
theorem bl3 (K:PySem.W.Frag) {a b c:Expr}{ta:TA}{p pos:Pos}(hg:Gl X "zip") (hm:X.mg "zip"=none) (ha:PA X [a,b,c] ta) (hs:starEach [a,b,c] X.env=[(false,eval a X.env),(false,eval b X.env),(false,eval c X.env)]:=by rfl) (hs2:starEach [b,c] X.env=[(false,eval b X.env),(false,eval c X.env)]:=by rfl) (hK:X.K=K:=by rfl) :
 PI X (.Tuple elts x1 tpos) (.Call (.Name "zip" p) [a,b,c] [] pos) (iZip3t K ta):=by
 subst hK
 intro pins s σ H R I h
 refine Call_ (ag4 I hg hm at1 (PyProof.Rows.callWith_type1 (thn (ha pos pins s σ H _ I h) fun us s1 ⟨vs,H1,I1,r1,q1⟩=>?_) (by rw [hs,hs2]) (by rw [hs2]; rfl)))
 obtain ⟨l1,l2,l3,e,⟨xs,hq1⟩,⟨ys,hq2⟩,⟨zs,hq3⟩,q⟩:=q1
 subst e
 cases r1 with
 | cons r1 rr =>
 cases rr with
 | cons r2 rr =>
 cases rr with
 | cons r3 rr =>
 cases rr
 cases r1
 cases r2
 cases r3
 obtain ⟨it1,rv1,p1,hz1⟩:=I1.list hq1
 obtain ⟨it2,rv2,p2,hz2⟩:=I1.tuple hq2
 obtain ⟨it3,rv3,p3,hz3⟩:=I1.list hq3
 have a1:l1<s1.heap.objs.size:=by obtain ⟨_,e,_⟩:=p1.isList; exact Heap.lt_size e
 have a2:l2<s1.heap.objs.size:=by obtain ⟨_,e,_⟩:=p2; exact Heap.lt_size e
 have a3:l3<s1.heap.objs.size:=by obtain ⟨_,e,_⟩:=p3.isList; exact Heap.lt_size e
 refine ax0 p1.isList p2 p3.isList fun h' b1 b2 b3 b4 b5 b6 hk=>?_
 refine wpAny_pyIter_zip b1 ?_
 have fp:∀ d,s1.heap.objs.size≤d→FpOk X pins H1 d:=fun d hd=>I1.fpOk hd (I1.hok.fresh hd)
 generalize s1.heap.objs.size=m at a1 a2 a3 b1 b2 b3 b4 b5 b6 fp ⊢
 have hA1:l1<m:=a1
 have hA2:l2<m:=a2
 have hA3:l3<m:=a3
 have ne:∀ {l k:Addr},l<m→l≠m+k:=fun {l k} h=>Nat.ne_of_lt (Nat.lt_of_lt_of_le h (Nat.le_add_right _ _))
 have D:Apt (m+5) (m+3) (m+4) m (m+1) (m+2) l1 l2 l3:=by
  constructor
  · simp
  · intro l hl
    have hlm:l<m:=by
     simp only [List.mem_cons,List.not_mem_nil,or_false] at hl
     rcases hl with rfl | rfl | rfl
     · exact hA1
     · exact hA2
     · exact hA3
    simp only [List.mem_cons,List.not_mem_nil,or_false,not_or]
    exact ⟨ne hlm,ne hlm,Nat.ne_of_lt hlm,ne hlm,ne hlm⟩
 refine ⟨m+5,[m+5,m+3,m+4,m,m+1,m+2],_,_,H1,rfl,I1.kept (t':=s1.toks) hk,b60 l1 l2 l3 _ _ _ _ _ _ D (Nat.ne_of_lt hA1) (ne hA2) (ne hA3),⟨b1,b2,⟨_,_,_,b3⟩,b4,b5,b6⟩,fun d hd=>fp d ?_,q⟩
 simp only [List.mem_cons,List.not_mem_nil,or_false] at hd
 rcases hd with rfl | rfl | rfl | rfl | rfl | rfl
 · exact Nat.le_add_right _ _
 · exact Nat.le_add_right _ _
 · exact Nat.le_add_right _ _
 · exact Nat.le_refl _
 · exact Nat.le_add_right _ _
 · exact Nat.le_add_right _ _
end
theorem bv4 {K:PySem.W.Frag}{σ:St} {H:Hp}{R:It→Hp→Prop}{ts:TA}(h:ts σ H fun vs H1=>∃ a b c,vs=[.ref a,.ref b,.ref c]∧(∃ xs,SqL K H1 a xs)∧(∃ ys,SqT K H1 b ys)∧(∃ us,SqL K H1 c us)∧R (Itz3t K a b c) H1):iZip3t K ts σ H R:=h
theorem bc4 {K:PySem.W.Frag}{a b c:Addr}{xs ys us:List V}{g:TG}{tb:TS}{D:Ends}{σ:St} {H:Hp}(hz:xs.length=ys.length) (hz2:xs.length=us.length) (Pv:Nat→St→Hp→Prop) (h0:Pv 0 σ H) (hl:∀ i σ H,i≤xs.length→Pv i σ H→SqL K H a xs∧SqT K H b ys∧SqL K H c us)
 (hs:∀ i x y u σ H q H2,xs[i]?=some x→ys[i]?=some y→us[i]?=some u→Pv i σ H→Same H H2→H2 q=some (.tup [x,y,u])→g (.ref q) σ H2 fun σ1 H1=>tb { D with nx:=Pv (i+1),ct:=Pv (i+1),bk:=D.nx } σ1 H1)
 (hd:∀ σ H,Pv xs.length σ H→D.nx σ H):ForEnd (Itz3t K a b c) g tb D σ H:=by
 refine ⟨fun i m σ H=>m=xs.length - i∧i≤xs.length∧Pv i σ H,⟨xs.length,by simp,Nat.zero_le _,h0⟩,?_⟩
 rintro i m σ' H' ⟨rfl,hi,p⟩
 obtain ⟨q1,q2,q3⟩:=hl i σ' H' hi p
 by_cases hlt:i<xs.length
 · refine .inr ⟨⟨xs,ys,us,xs[i],ys[i]'(by omega),us[i]'(by omega),q1,q2,q3,by simp [hlt],List.getElem?_eq_getElem _,List.getElem?_eq_getElem _⟩,Pv (i+1),fun σ2 H2 p'=>⟨xs.length - (i+1),by omega,rfl,hlt,p'⟩,fun v H2 yy=>?_⟩
   obtain ⟨q,x,y,u,rfl,hn,sm,hT,hx,hy,hu⟩:=yy
   exact hs i x y u σ' H' q H2 (hx xs q1) (hy ys q2) (hu us q3) p sm hT
 · have e:i=xs.length:=by omega
   subst e
   exact .inl ⟨⟨xs,ys,us,q1,q2,q3,.inl (Nat.le_refl _)⟩,hd σ' H' p⟩
theorem c78 {K:PySem.W.Frag}{a b:Addr}{xs ys:List V}{te:TE}{tt:TT}{caps:List Nat}{σ:St} {H:Hp}{Q:VK}(hl2:xs.length=ys.length) (hz:xs.length≤sizeLine) (Pv:Nat→List V→Hp→Prop) (h0:Pv 0 [] H) (hl:∀ i acc H,Pv i acc H→acc.length≤i∧SqL K H a xs∧SqL K H b ys)
 (hs:∀ i x z acc H H2,xs[i]?=some x→ys[i]?=some z→Pv i acc H→Same H H2→tt (some x::some z::capV caps σ) H2 fun b H4=>if b=true then te (some x::some z::capV caps σ) H4 fun y H5=>Pv (i+1) (acc++[y]) H5 else Pv (i+1) acc H4)
 (hd:∀ acc H,Pv xs.length acc H→New H (.lst acc) Q):CompEnd (Itz K a b) (gTup K 2 (gCons (gName 0) (gCons (gName 1) gNil))) tt te 2 caps σ H Q:=by
 refine ⟨fun i m acc σ' H=>m=xs.length - i∧i≤xs.length∧(∃ u v,σ'=u::v::capV caps σ)∧Pv i acc H,⟨xs.length,by simp,Nat.zero_le _,⟨none,none,rfl⟩,h0⟩,?_⟩
 rintro i m acc σ' H' ⟨rfl,hi,⟨u0,v0,rfl⟩,p⟩
 obtain ⟨hl1,hq,hq2⟩:=hl i acc H' p
 by_cases hlt:i<xs.length
 · have hlt2:i<ys.length:=by omega
   refine .inr ⟨⟨xs,ys,xs[i],ys[i],hq,hq2,by simp [hlt],by simp [hlt2]⟩,by omega,fun ac σ2 H2=>(∃ u v,σ2=u::v::capV caps σ)∧Pv (i+1) ac H2,fun ac σ2 H2 ⟨e,p'⟩=>⟨xs.length - (i+1),by omega,rfl,hlt,e,p'⟩,fun x H2 y=>?_⟩
   obtain ⟨q,x,z,rfl,hn,sm,hT,hx,hy⟩:=y
   have hst:=hs i x z acc H' H2 (hx xs hq) (hy ys hq2) p sm
   have eN:∀ ac H5,((∃ u1 v1,some x::some z::capV caps σ=u1::v1::capV caps σ)∧Pv (i+1) ac H5)=Pv (i+1) ac H5:=fun ac H5=>propext ⟨And.right,fun p=>⟨⟨_,_,rfl⟩,p⟩⟩
   refine ⟨q,[x,z],rfl,SqT.of hT,rfl,x,[z],rfl,z,[],rfl,rfl,?_⟩
   show tt (some x::some z::capV caps σ) _ fun b H4=>if b=true then te (some x::some z::capV caps σ) H4 fun y H5=>((∃ u1 v1,some x::some z::capV caps σ=u1::v1::capV caps σ)∧Pv (i+1) (acc++[y]) H5) else ((∃ u1 v1,some x::some z::capV caps σ=u1::v1::capV caps σ)∧Pv (i+1) acc H4)
   simp only [eN]
   exact hst
 · have e:i=xs.length:=by omega
   subst e
   exact .inl ⟨⟨xs,ys,hq,hq2,.inl (Nat.le_refl _)⟩,New.to (hd acc H' p)⟩
theorem Each.len {α β:Type}{R:α→β→Prop}{vs:List α}{xs:List β}(h:Each R vs xs):vs.length=xs.length:=h.1
theorem Each.set {α β:Type}{R:α→β→Prop}{vs:List α}{xs:List β}{v:α}{x:β}(h:Each R vs xs) (j:Nat) (k:R v x):Each R (vs.set j v) (xs.set j x):=by
 refine ⟨by simp [h.1],fun i a b h1 h2=>?_⟩
 rw [List.getElem?_set] at h1 h2
 by_cases e:j=i
 · rw [if_pos e] at h1 h2
   split at h1
   · cases h1
     split at h2
     · cases h2; exact k
     · cases h2
   · cases h1
 · rw [if_neg e] at h1 h2
   exact h.2 i a b h1 h2
theorem twoH {b:Bool}{t1 t2:TE}{σ:St} {H4:Hp}{C:VK}(Ok:V→Hp→Prop) (h:∀ v H,Ok v H→C v H) (h1:b=true→(∀ v H,Ok v H→C v H)→t1 σ H4 C) (h2:b=false→(∀ v H,Ok v H→C v H)→t2 σ H4 C):if b=true then t1 σ H4 C else t2 σ H4 C:=by
 cases b with
 | true=>rw [if_pos rfl]; exact h1 rfl h
 | false=>rw [if_neg (by decide)]; exact h2 rfl h
theorem Tr.In.rcNeAt {s:Shared}{ts rs:List Tr}{A:Around}{u z:Value}(h1:Tr.In s.heap (.tup ts) u) (h2:Tr.In s.heap (.tup rs) z) (hu:A.units+(Tr.tup ts).h+(Tr.tup rs).h+2<cLine):SeqAt.RcNeAt A s u z (!decide (Tr.tup ts=Tr.tup rs)):=by
 simp only [Tr.In] at h1 h2
 obtain ⟨a,us,rfl,p1,c1⟩:=h1
 obtain ⟨b,vs,rfl,p2,c2⟩:=h2
 simp only [Tr.h] at hu
 have l1:=c1.len
 have l2:=c2.len
 simp only [Array.length_toList] at l1 l2
 have:=SeqAt.RcNeAt.tuples (A:=A) (s:=s) (e:=fun j=>decide (ts.getD j .non=rs.getD j .non)) p1 p2 (by omega) (fun j h1 h2=>by
  have:=Tr.Ins.eqAts (A:=A.in1) c1 c2 (by rw [a68]; omega) j (by simpa using h1) (by simpa using h2)
  simpa using this)
 rw [l1,l2,ba4] at this
 rw [show decide (Tr.tup ts=Tr.tup rs)=decide (ts=rs) from Bool.eq_iff_iff.mpr (by simp)]
 exact this
def rNeFK (K:PySem.W.Frag):R2:=fun x y H Q=>∃ (ts rs:List Tr),(Tr.tup ts).AtK K H x∧(Tr.tup rs).AtK K H y∧(Tr.tup ts).h≤20∧(Tr.tup rs).h≤20∧Q (.bl (!decide (Tr.tup ts=Tr.tup rs))) H
theorem bl4 {X:Cx}(K:PySem.W.Frag) (hu:X.A.units+64<cLine) (hK:X.K=K:=by rfl):OpR X (compareOp .NotEq) (rNeFK K):=by
 subst hK
 intro pins s σ H x y v u Q I rx ry h
 obtain ⟨t,r,h1,h2,l1,l2,q⟩:=h
 exact (h1.isIn I rx).rcNeAt (h2.isIn I ry) (A:=X.A) (by omega) X.prog X.w X.xe (EP X pins σ Q) ⟨.bl _,H,I,rfl,q⟩
theorem c79 {K:PySem.W.Frag}{H:Hp}{Q:VK}{x y:V}{ts rs:List Tr}(h1:(Tr.tup ts).AtK K H x) (h2:(Tr.tup rs).AtK K H y) (l1:(Tr.tup ts).h≤20) (l2:(Tr.tup rs).h≤20) (h:Q (.bl (!decide (Tr.tup ts=Tr.tup rs))) H):rNeFK K x y H Q:=⟨ts,rs,h1,h2,l1,l2,h⟩
theorem keepE {α:Type}{a:α}{P:α→Prop}(h:∀ x,a=x→P x):∀ x,a=x→P x:=h
def frzP (P:Params) (a:Addr) (m:List (Tr×V×V)) (o:Obj):Heap→Prop:=fun h=>DtP P a m h∧h.get? a=some o
structure FzAt (P:Params) (H:Hp) (a:Addr) (m:List (Tr×V×V)) (o:Obj):Prop where
 e:H a=some (.ext (frzP P a m o))
 k:∀ x∈m,x.1.At H x.2.1 []∧x.1.h≤8
 n:(m.map (·.1)).Nodup
theorem FzAt.dt {P:Params}{H:Hp}{a:Addr}{m:List (Tr×V×V)}{o:Obj}(h:FzAt P H a m o):DtAt P H a (m.map fun x=>(x.1,x.2.2)):=⟨m,rfl,⟨_,h.e,fun _ x=>x.1⟩,h.k,h.n⟩
theorem FzAt.mono {P:Params}{H H':Hp}{a:Addr}{m:List (Tr×V×V)}{o:Obj}(h:FzAt P H a m o) (k:Tups H H') (e:H' a=H a):FzAt P H' a m o:=⟨e.trans h.e,fun x hx=>⟨a92 (h.k x hx).1 k,(h.k x hx).2⟩,h.n⟩
theorem FzAt.same {P:Params}{H H':Hp}{a:Addr}{m:List (Tr×V×V)}{o:Obj}(h:FzAt P H a m o) (s:Same H H'):FzAt P H' a m o:=h.mono s.tups (by rw [h.e]; exact s _ _ h.e)
def Itd (P:Params) (a:Addr) (m:List (Tr×V×V)) (o:Obj):It :=
 ⟨fun i H=>H a=some (.ext (frzP P a m o))∧i<m.length,fun i H x H'=>H'=H∧∃ k,m[i]?=some k∧x=k.2.1,fun i H=>H a=some (.ext (frzP P a m o))∧m.length≤i⟩
theorem bv5 {Pr:Program}{w:World}{K:PySem.W.Frag}{tg:Expr}{P:Params}{a it:Addr}{m:List (Tr×V×V)}{o:Obj}{es:Array DictEntry}{ep:Nat}(hx:o.ExactDict) (hd:o.data=.dict es ep) (hr:DtR P m es) :
 Turn Pr w K tg (Itd P a m o) [it] it (fun i h=>h.IsKeyIter it a i es.size ep) where
 mem:=by simp
 obj:=fun i h st b hb=>by
  have e:b=it:=by simpa using hb
  subst e
  obtain ⟨o,e,c,d⟩:=st
  exact ⟨o,e,fun v z=>by rw [d] at z; cases z⟩
 keep:=fun i h h' st k=>st.at fun o e=>k it (by simp) o e
 item:=by
  intro X hP hw hK hc i pins s σ H E I hf st hg
  subst hP hw hK
  have hD:RawD s.heap a es ep:=⟨o,(I.hok a _ hg.1).1.2,hx,hd⟩
  have hk:m[i]?=some (m[i]'hg.2):=List.getElem?_eq_getElem hg.2
  obtain ⟨e,he,_,rk,_⟩:=hr.at_ i _ hk
  obtain ⟨f0,f1,f2,f3,f4,f5⟩:=hf it (by simp)
  refine b00 st hD he fun h' st' sb=>?_
  have I1:Inv X pins σ H { s with heap:=h' }:=I.turned (t':=s.toks) (fun b o hb e=>(sb.2 b hb).trans e) f0 f1 f3 f4 f5
  obtain ⟨oi,e',c,d⟩:=id st'
  exact ⟨_,rfl,b40 (s:={ s with heap:=h' }) e' c d (by decide) ⟨(m[i]'hg.2).2.1,H,I1,rk,⟨rfl,_,hk,rfl⟩,st',fun b hb=>(hf b hb).1⟩⟩
 done:=by
  intro X hP hw hK hc i pins s σ H E I hf st hg
  subst hP hw hK
  have hD:RawD s.heap a es ep:=⟨o,(I.hok a _ hg.1).1.2,hx,hd⟩
  obtain ⟨f0,f1,f2,f3,f4,f5⟩:=hf it (by simp)
  exact ba6 (I.ok.hd hc) st hD (by rw [hr.len]; exact hg.2) fun h' eb=>⟨rfl,I.turned (t':=s.toks) (fun b o hb e=>eb b o hb e) f0 f1 f3 f4 f5⟩
 self:=fun _ _ _ _ _ st h=>wpAny_pyIter_keyiter st h
def iTd (P:Params) (tl:TE):TI:=fun σ H R=>tl σ H fun x H1=>∃ a kvs,x=.ref a∧DtAt P H1 a kvs∧∀ m o H',m.map (fun x=>(x.1,x.2.2))=kvs→(∀ b ob,b≠a→H1 b=some ob→H' b=some ob)→FzAt P H' a m o→R (Itd P a m o) H'
theorem bv6 {X:Cx}{P:Params}{tg l:Expr}{tl:TE}(hP:X.w.params=P) (hl:PE X l tl):PI X tg l (iTd P tl):=by
 subst hP
 intro pins s σ H R I h
 refine thn (hl pins s σ H _ I h) fun v s1 ⟨x,H1,I1,r1,q1⟩=>?_
 obtain ⟨a,kvs,rfl,⟨m,rfl,e2,e3,e4⟩,q⟩:=q1
 cases r1
 obtain ⟨o,es,ep,g1,g2,g3,g4,g5,z1,z2⟩:=ad9 I1 e2 e3 e4
 have nw:ObjOk X.prog X.w (upd H1 a (.ext (frzP X.w.params a m o))) s1.heap a (.ext (frzP X.w.params a m o)):=⟨⟨⟨z1,z2,o,es,ep,g1,g2,g3,g4⟩,g1⟩,⟨o,g1⟩,fun h1 h2 x k=>⟨DtP.one h1 h2 x.1 k,k _ x.2⟩⟩
 have I2:Inv X pins σ (upd H1 a (.ext (frzP X.w.params a m o))) s1:=I1.write (h':=s1.heap) (t':=s1.toks) (x:=a) (e:=a) e2.mut (.inl rfl) (fun b u _ e=>e) ⟨o,g1⟩ nw
 have ne:∀ b ob,b≠a→H1 b=some ob→upd H1 a (.ext (frzP X.w.params a m o)) b=some ob:=fun b ob hb e=>by rw [a08 hb]; exact e
 obtain ⟨φ,e2',_⟩:=e2
 have hF:FzAt X.w.params (upd H1 a (.ext (frzP X.w.params a m o))) a m o:=⟨a34,fun x hx=>⟨a92 (e3 x hx).1 (ah2 e2'),(e3 x hx).2⟩,e4⟩
 refine az9 z2 ⟨o,g1,g2,g3⟩ ?_
 refine ⟨s1.heap.objs.size,[s1.heap.objs.size],_,_,_,rfl,I2.kept (t':=s1.toks) fun b o e=>Heap.get?_push_of_some _ e,bv5 (a:=a) g2 g3 g4,⟨_,Heap.get?_push_size _ rfl,rfl,rfl⟩,fun b hb=>?_,q m o _ rfl ne hF⟩
 have e:b=s1.heap.objs.size:=by simpa using hb
 subst e
 exact I2.fpOk (Nat.le_refl _) (I2.hok.fresh (Nat.le_refl _))
theorem i_td {P:Params}{tl:TE}{σ:St} {H:Hp}{R:It→Hp→Prop}(h:tl σ H fun x H1=>∃ a kvs,x=.ref a∧DtAt P H1 a kvs∧∀ m o H',m.map (fun x=>(x.1,x.2.2))=kvs→(∀ b ob,b≠a→H1 b=some ob→H' b=some ob)→FzAt P H' a m o→R (Itd P a m o) H'):iTd P tl σ H R:=h
theorem bq4 {P:Params}{a:Addr}{m:List (Tr×V×V)}{o:Obj}{g:TG}{tb:TS}{D:Ends}{σ:St} {H:Hp}(Pv:Nat→St→Hp→Prop) (h0:Pv 0 σ H) (hl:∀ i σ H,i≤m.length→Pv i σ H→H a=some (.ext (frzP P a m o)))
 (hs:∀ i x σ H,m[i]?=some x→Pv i σ H→g x.2.1 σ H fun σ1 H1=>tb { D with nx:=Pv (i+1),ct:=Pv (i+1),bk:=D.nx } σ1 H1) (hd:∀ σ H,Pv m.length σ H→D.nx σ H):ForEnd (Itd P a m o) g tb D σ H:=by
 refine ⟨fun i k σ H=>k=m.length - i∧i≤m.length∧Pv i σ H,⟨m.length,by simp,Nat.zero_le _,h0⟩,?_⟩
 rintro i k σ' H' ⟨rfl,hi,p⟩
 have hq:=hl i σ' H' hi p
 by_cases hlt:i<m.length
 · refine .inr ⟨⟨hq,hlt⟩,Pv (i+1),fun σ2 H2 p'=>⟨m.length - (i+1),by omega,rfl,hlt,p'⟩,fun v H2 y=>?_⟩
   obtain ⟨rfl,x,hx,rfl⟩:=y
   exact hs i x σ' _ hx p
 · have e:i=m.length:=by omega
   subst e
   exact .inl ⟨⟨hq,Nat.le_refl _⟩,hd σ' H' p⟩
theorem cc7 {P:Params}{a:Addr}{m:List (Tr×V×V)}{o:Obj}{te:TE}{tt:TT}{caps:List Nat}{σ:St} {H:Hp}{Q:VK}(hz:m.length≤sizeLine) (Pv:Nat→List V→Hp→Prop) (h0:Pv 0 [] H) (hl:∀ i acc H,Pv i acc H→acc.length≤i∧H a=some (.ext (frzP P a m o)))
 (hs:∀ i x acc H,m[i]?=some x→Pv i acc H→tt (some x.2.1::capV caps σ) H fun b H4=>if b=true then te (some x.2.1::capV caps σ) H4 fun y H5=>Pv (i+1) (acc++[y]) H5 else Pv (i+1) acc H4)
 (hd:∀ acc H,Pv m.length acc H→New H (.lst acc) Q):CompEnd (Itd P a m o) (gName 0) tt te 1 caps σ H Q:=by
 refine as8 m.length hz Pv h0 (fun i acc H p=>(hl i acc H p).1) (fun i acc H hi p=>⟨(hl i acc H p).2,hi⟩) (fun acc H p=>⟨(hl _ acc H p).2,Nat.le_refl _⟩) ?_ hd
 rintro i x acc H1 H2 hi p ⟨rfl,k,hk,rfl⟩
 exact hs i k acc _ hk p
section
variable {prog:Program}{w:World}{A:Around}{E:Value→Shared→Prop}{s:Shared}{d:Addr}{es:Array DictEntry}{ep:Nat}
theorem bv7 {Q:Value→Shared→Prop}(lo:(d == sysModules)=false) (x:RawD s.heap d es ep) (hz:(es.size:Int)<2 ^ 63) (h:Q (.int es.size (s.toks+1)) { s with toks:=s.toks+1+1 }):wpAny (model prog w) A (call (.builtin "len") [.ref d]) Q E s:=by
 have T:=x.ty
 obtain ⟨o,e1,e2,e3⟩:=x
 refine Calls.call_function_entry kind_len plain_len entry_len (args_len1 _) ?_
 unfold Builtin.«len»
 refine wpAny_bind (m:=oneArg "len" _) (wpAny_pure ?_)
 refine wpAny_bind (m:=callSpecial? (.ref d) (Str.ofString "__len__")) (wpAny_callSpecial?_slot (name:=Str.ofString "__len__") T F.slot_dict_len (wpAny_call_entry F.slot_dict_len T F.entry_dict_len ?_ (F.args_dict_len_1 _)))
 unfold Builtin.«dict.__len__»
 show wpAny _ _ (dictSize d >>= _) _ _ s
 unfold dictSize
 refine wpAny_bind (wpAny_bind (wpAny_dictEntries e1 e3 (wpAny_pure ?_)))
 show wpAny _ _ (Builtin.Dict.pendingCount d >>= _) _ _ s
 refine wpAny_bind (wpAny_pendingCount_other lo ?_)
 show wpAny _ _ (retInt _) _ _ s
 unfold retInt
 refine wpAny_bind (wpAny_mkInt (wpAny_pure ⟨_,rfl,?_⟩))
 rw [show ((es.size:Nat):Int)+((0:Nat):Int)=((es.size:Nat):Int) by simp]
 refine wpAny_bind (wpAny_holding (wpAny_pure ?_))
 refine wpAny_bind (wpAny_letGo ?_)
 show wpAny _ _ (if ((es.size:Nat):Int)<0 then _ else _) _ _ _
 rw [if_neg (by omega)]
 show wpAny _ _ (if ((es.size:Nat):Int) ≥ 2 ^ 63 then _ else _) _ _ _
 rw [if_neg (by omega)]
 exact wpAny_bind (wpAny_mkInt (wpAny_pure ⟨_,rfl,h⟩))
end
def rLenT (P:Params):List V→Hp→VK→Prop:=fun vs H Q=>∃ a kvs,vs=[V.ref a]∧DtAt P H a kvs∧Q (.int (kvs.length:Nat)) H
theorem ax1 {X:Cx}{P:Params}(hP:X.w.params=P):CallR X (.builtin "len") (rLenT P):=by
 subst hP
 intro pins s σ H xs us Q I r h
 obtain ⟨a,kvs,rfl,⟨m,rfl,e2,e3,e4⟩,q⟩:=h
 cases r with
 | cons r1 r2 =>
 cases r2
 cases r1
 obtain ⟨o,es,ep,g1,g2,g3,g4,g5,z1,z2⟩:=ad9 I e2 e3 e4
 have hsz:es.size=m.length:=g4.len
 refine bv7 z2 ⟨o,g1,g2,g3⟩ (by rw [hsz]; rw [sizeLine_eq] at z1; omega) ?_
 rw [hsz]
 exact ⟨.int (m.length:Nat),H,I.tok _,⟨_,rfl⟩,by rw [List.length_map] at q; exact q⟩
def rExtendT (K:PySem.W.Frag):V→List V→Hp→VK→Prop:=fun x vs H Q=>∃ l b xs zs,x=.ref l∧vs=[.ref b]∧H l=some (.lst xs)∧SqT K H b zs∧xs.length+zs.length≤sizeLine∧Q .non (upd H l (.lst (xs++zs)))
theorem ax2 {X:Cx}(K:PySem.W.Frag) (hK:X.K=K:=by rfl):MtM X "list.extend" (rExtendT K):=by
 subst hK
 intro pins s σ H x vs v us Q I rx rv h
 obtain ⟨l,b,xs,zs,rfl,rfl,hH,hB,hz,q⟩:=h
 cases rx
 obtain ⟨u,rfl,ru⟩:=rv.one
 cases ru
 obtain ⟨z,its,n,r,hl,e⟩:=I.lstM hH
 obtain ⟨its2,r2,⟨ob,eb,cb,n2,db⟩,z2⟩:=I.tuple hB
 have hl2:=r2.length
 have hsz:its.toArray.size+its2.toArray.size≤sizeLine:=by rw [List.size_toArray,List.size_toArray]; omega
 have hne:l≠b:=fun z=>by
  subst z
  rw [e] at eb
  injection eb with eb
  rw [← eb] at cb
  exact absurd (show Value.type "list"=Value.type "tuple" from cb) (by decide)
 have h1:Builtin.List.listSameRef (.ref l) (.ref b)=false:=by simp [Builtin.List.listSameRef,hne]
 refine wpAny_call_entry F.slot_list_extend ⟨_,e,rfl⟩ F.entry_list_extend ?_ (F.args_list_extend_2 _ _)
 unfold Builtin.«list.extend»
 show wpAny _ _ (Builtin.List.listExtendWith (.ref l) (.ref b) .none) _ _ s
 unfold Builtin.List.listExtendWith
 refine wpAny_bind (wpAny_typeOf (T:="tuple") ⟨ob,eb,cb⟩ ?_)
 simp only [h1,show (Value.type "tuple" == Value.type "list")=false by decide,show (Value.type "tuple" == Value.type "tuple")=true by decide,Bool.or_false,Bool.or_true,if_true]
 refine wpAny_bind (listItems_at eb db ?_)
 refine wpAny_bind (listItems_at e rfl ?_)
 have hlong:¬ (!its.toArray.isEmpty && Builtin.List.listTooLong (its.toArray.size+its2.toArray.size))=true:=by
  rw [notLongL hsz,Bool.and_false]
  exact Bool.false_ne_true
 rw [if_neg hlong]
 show wpAny _ _ (updateSeq l (·++its2.toArray) >>= _) _ _ s
 refine wpAny_bind (wpAny_updateSeq (hz:=by rw [List.size_toArray]; omega) (_hz':=by rw [Array.size_append]; omega) e rfl ?_)
 refine wpAny_pure ⟨_,rfl,.non,_,I.lset (its':=its++its2) (t':=s.toks) hH e (by simp) (r.append r2) (by rw [List.length_append]; omega),rfl,q⟩
section
variable {prog:Program}{w:World}{A:Around}{E:Value→Shared→Prop}{s:Shared}{d it:Addr}{es:Array DictEntry}{ep i:Nat}
theorem bc5 {Q:Option Value→Shared→Prop}{e:DictEntry}(hit:s.heap.IsValIter it d i es.size ep) (x:RawD s.heap d es ep) (he:es[i]?=some e)
 (q:∀ h',h'.IsValIter it d (i+1) es.size ep→Heap.SameBut it s.heap h'→Q (some e.val) { s with heap:=h' }):wpAny (model prog w) A (pyNext (.ref it)) Q E s:=by
 have T:=hit.typeIs
 obtain ⟨o,ho,hc,hd⟩:=id hit
 obtain ⟨od,g1,g2,g3⟩:=x
 have hlt:i<es.size:=(Array.getElem?_eq_some_iff.mp he).1
 unfold pyNext
 refine wpAny_bind (wpAny_attempt (wpAny_callSpecial?_slot (name:=Str.ofString "__next__") T F.slot_dict_valueiterator_next (wpAny_call_entry F.slot_dict_valueiterator_next T F.entry_dict_valueiterator_next ?_ (F.args_dict_valueiterator_next_1 _))))
 refine wpAny_bind ((wpAny_pure) (wpAny_bind (wpAny_bind ?_)))
 first | refine wpAny_bind (wpAny_typeNameOfWhole_valiter T (wpAny_pure ?_)) | refine wpAny_bind (wpAny_typeNameOf_valiter T (wpAny_pure ?_))
 refine wpAny_bind (wpAny_fieldsOf ho (hd) ?_)
 simp only [show Builtin.Dict_items.ownsTuple "dict_valueiterator"=false by decide,Bool.false_eq_true,if_false]
 show wpAny _ A.in1 (if (Value.ref d == Value.none)=true then _ else _) _ _ s
 rw [if_neg (fun z:(Value.ref d == Value.none)=true=>Bool.false_ne_true z)]
 refine wpAny_bind ((wpAny_pure) (wpAny_bind (wpAny_dictEntries g1 g3 ?_)))
 rw [if_neg (by simp)]
 refine wpAny_bind ((wpAny_pure) (wpAny_bind (wpAny_dictEpoch g1 g3 ?_)))
 rw [if_neg (by simp)]
 refine wpAny_pure ?_
 simp only [show ¬ ((i:Int)<0) by omega,if_false,Int.toNat_natCast,he]
 refine wpAny_bind ?_
 first | refine wpAny_bind (wpAny_typeNameOfWhole_valiter T (wpAny_pure ?_)) | refine wpAny_bind (wpAny_typeNameOf_valiter T (wpAny_pure ?_))
 refine wpAny_bind (wpAny_isOneOf_valiter T ?_)
 show wpAny _ A.in1 (setField (.ref it) 1 (rawInt ((i:Int)+1)) >>= _) _ _ s
 refine wpAny_bind (wpAny_setField ho (hd) (by simp) ?_)
 have hit2:(s.heap.update it (Obj.mapFields (·.setIfInBounds 1 (rawInt ((i:Int)+1))))).IsValIter it d (i+1) es.size ep :=
  ⟨_,Heap.get?_update_self _ ho (Obj.isFreed_of_fields (Obj.data_mapFields hd _)),(Obj.cls_mapFields ..).trans hc,by rw [Obj.data_mapFields hd]; simp [rawInt]⟩
 refine wpAny_bind (wpAny_holding (wpAny_bind (wpAny_isOneOf_valiter (s:={ s with heap:=s.heap.update it (Obj.mapFields (·.setIfInBounds 1 (rawInt ((i:Int)+1)))) }) hit2.typeIs ?_)))
 rw [if_neg (by decide)]
 refine wpAny_bind (wpAny_isOneOf_valiter (s:={ s with heap:=s.heap.update it (Obj.mapFields (·.setIfInBounds 1 (rawInt ((i:Int)+1)))) }) hit2.typeIs ?_)
 show wpAny _ A.in1 (pure e.val) _ _ _
 exact wpAny_pure (wpAny_pure ⟨_,rfl,wpAny_pure (q _ hit2 (Heap.SameBut.update ..))⟩)
theorem bl5 {Q:Option Value→Shared→Prop}(hh:A.handled=none) (hit:s.heap.IsValIter it d i es.size ep) (x:RawD s.heap d es ep) (he:es.size≤i)
 (q:∀ h',Heap.ExtBut it s.heap h'→Q none { s with heap:=h' }):wpAny (model prog w) A (pyNext (.ref it)) Q E s:=by
 have T:=hit.typeIs
 obtain ⟨o,ho,hc,hd⟩:=id hit
 obtain ⟨od,g1,g2,g3⟩:=x
 unfold pyNext
 refine wpAny_bind (wpAny_attempt (wpAny_callSpecial?_slot (name:=Str.ofString "__next__") T F.slot_dict_valueiterator_next (wpAny_call_entry F.slot_dict_valueiterator_next T F.entry_dict_valueiterator_next ?_ (F.args_dict_valueiterator_next_1 _))))
 refine wpAny_bind ((wpAny_pure) (wpAny_bind (wpAny_bind ?_)))
 first | refine wpAny_bind (wpAny_typeNameOfWhole_valiter T (wpAny_pure ?_)) | refine wpAny_bind (wpAny_typeNameOf_valiter T (wpAny_pure ?_))
 refine wpAny_bind (wpAny_fieldsOf ho (hd) ?_)
 simp only [show Builtin.Dict_items.ownsTuple "dict_valueiterator"=false by decide,Bool.false_eq_true,if_false]
 show wpAny _ A.in1 (if (Value.ref d == Value.none)=true then _ else _) _ _ s
 rw [if_neg (fun z:(Value.ref d == Value.none)=true=>Bool.false_ne_true z)]
 refine wpAny_bind ((wpAny_pure) (wpAny_bind (wpAny_dictEntries g1 g3 ?_)))
 rw [if_neg (by simp)]
 refine wpAny_bind ((wpAny_pure) (wpAny_bind (wpAny_dictEpoch g1 g3 ?_)))
 rw [if_neg (by simp)]
 refine wpAny_pure ?_
 simp only [show ¬ ((i:Int)<0) by omega,if_false,Int.toNat_natCast,Array.getElem?_eq_none he]
 refine wpAny_bind ?_
 first | refine wpAny_bind (wpAny_typeNameOfWhole_valiter T (wpAny_pure ?_)) | refine wpAny_bind (wpAny_typeNameOf_valiter T (wpAny_pure ?_))
 show wpAny _ A.in1 (setField (.ref it) 0 .none >>= _) _ _ s
 refine wpAny_bind (wpAny_setField ho (hd) (by simp) ?_)
 show wpAny _ A.in1 (newExc (.type "StopIteration") [] >>= _) _ _ _
 refine wpAny_bind ?_
 simp only [newExc,newTuple]
 refine wpAny_bind (wpAny_newObj_type ?_ (by size_fits))
 refine wpAny_bind (m:=firstArgMember _ _) (wpAny_of_eq (a:=Value.none) (by first | rfl | (simp only [firstArgMember]; rfl)) (wpAny_newObj_type ?_ (by size_fits)))
 simp only [raiseNew]
 refine wpAny_bind (wpAny_handled ?_)
 rw [show A.in1.handled=none from hh]
 refine wpAny_bind ((wpAny_pure) ((wpAny_throw) ?_))
 refine wpAny_bind (wpAny_isInstance (b:=true) (T:="StopIteration") ⟨_,Heap.get?_push_size _ rfl,rfl⟩ isSubtype_stop ?_)
 exact wpAny_pure (q _ (((Heap.SameBut.update ..).extBut.push _).push _))
theorem b61 (hh:A.handled=none) (hne:d≠it):Walks prog w A it [it,d] [it] es.size (fun i v=>∃ e,es[i]?=some e∧v=e.val) (fun i h=>h.IsValIter it d i es.size ep∧RawD h d es ep) where
 sub:=fun b hb=>by simp at hb; simp [hb]
 frame:=fun _ _ _ st hk=>⟨st.1.at fun o e=>hk it (by simp) o e,st.2.keep fun o e=>hk d (by simp) o e⟩
 item:=fun i s Q E hi st hQ=>bc5 st.1 st.2 (Array.getElem?_eq_getElem hi) fun h' hit' hs=>hQ _ h' s.toks ⟨_,Array.getElem?_eq_getElem hi,rfl⟩ ⟨hit',st.2.keep fun o e=>hs.extBut d o hne e⟩ fun b o hb e=>hs.extBut b o (fun h=>hb (by simp [h])) e
 done:=fun s Q E st hQ=>bl5 hh st.1 st.2 (Nat.le_refl _) fun h' he'=>hQ h' s.toks fun b o hb e=>he' b o (fun h=>hb (by simp [h])) e
 self:=fun _ _ _ _ st hQ=>wpAny_pyIter_valiter st.1 hQ
end
def ViewAt (H:Hp) (p d:Addr):Prop:=H p=some (.ext fun h=>h.IsValuesView p d)
def tTVals (P:Params) (td:TE):TE:=fun σ H Q=>td σ H fun x H1=>∃ a kvs,x=.ref a∧DtAt P H1 a kvs∧∀ p H',H1 p=none→Same H1 H'→ViewAt H' p a→Q (.ref p) H'
theorem bv8 {P:Params}{td:TE}{σ:St} {H:Hp}{Q:VK}(h:td σ H fun x H1=>∃ a kvs,x=.ref a∧DtAt P H1 a kvs∧∀ p H',H1 p=none→Same H1 H'→ViewAt H' p a→Q (.ref p) H'):tTVals P td σ H Q:=h
section
variable {X:Cx}{P:Params}{o:Expr}{td:TE}{apos cpos:Pos}
theorem bl6 (hP:X.w.params=P) (ho:PE X o td) (hbase:attributeBase o "values" X.env (eval o X.env)=eval o X.env:=by rfl) (hline:(apos.endLine == cpos.line)=true:=by rfl):PE X (.Call (.Attribute o "values" apos) [] [] cpos) (tTVals P td):=by
 subst hP
 intro pins s σ H Q I h
 refine wpAny_Call_method0_late hbase hline (thn (ho pins s σ H _ I h) fun v s1 ⟨x,H1,I1,r1,a,kvs,ex,g1,q1⟩=>?_)
 subst ex
 obtain rfl:v=Value.ref a:=r1
 obtain ⟨es,ep,x,lo,_⟩:=ad1 I1 g1
 refine ⟨"dict","dict.values",PySem.F.plainAttrs_dict,PySem.F.slot_dict_values,PySem.F.type_dict_values,x.ty,(fun b q=>by cases q; obtain ⟨ob,h1,h2,_⟩:=x; exact ⟨ob,h1,h2.2.1⟩),Calls.callWith_builtin rfl (PySem.evalArgs_none ?_)⟩
 refine wpAny_call_entry PySem.F.slot_dict_values x.ty PySem.F.entry_dict_values ?_ (PySem.F.args_dict_values_1 _)
 unfold Builtin.«dict.values»
 refine wpAny_bind ?_
 unfold Builtin.Dict.noArgs
 refine wpAny_bind (wpAny_notOrdered_dict x.ty ?_)
 show wpAny _ _ (pure a) _ _ s1
 refine wpAny_pure ?_
 show wpAny _ _ (Builtin.Dict.showsAll a >>= _) _ _ s1
 unfold Builtin.Dict.showsAll
 rw [if_neg (by rw [lo]; exact Bool.false_ne_true)]
 refine wpAny_bind (wpAny_pure (wpAny_bind (wpAny_newObj_type (wpAny_pure ⟨_,rfl,?_⟩))))
 have hp:=I1.hok.fresh (Nat.le_refl s1.heap.objs.size)
 have vw:(s1.heap.push { cls:=.type "dict_values",data:=.fields #[.ref a] }).IsValuesView s1.heap.objs.size a:=⟨_,Heap.get?_push_size _ rfl,rfl,rfl⟩
 have I2:=I1.laid (t':=s1.toks) (h':=s1.heap.push { cls:=.type "dict_values",data:=.fields #[.ref a] }) (a:=s1.heap.objs.size) (o:=.ext fun h=>h.IsValuesView s1.heap.objs.size a) (fun b u e=>Heap.get?_push_of_some _ e) (Nat.le_refl _) ⟨vw,let ⟨ob,e,_⟩:=vw; ⟨ob,e⟩,fun h1 h2 ⟨ob,e,r⟩ k=>⟨ob,k _ e,r⟩⟩
 exact ⟨.ref s1.heap.objs.size,_,I2,rfl,q1 _ _ hp (Same.new hp) a34⟩
end
section
variable {prog:Program}{w:World}{A:Around}{E:Value→Shared→Prop}{s:Shared}{d v:Addr}{es:Array DictEntry}{ep:Nat}
theorem bc6 {Q:Value→Shared→Prop}(hv:s.heap.IsValuesView v d) (x:RawD s.heap d es ep) (q:Q (.ref s.heap.objs.size) { s with heap:=s.heap.push { cls:=.type "dict_valueiterator",data:=.fields #[.ref d,.int 0 0,.int es.size 0,.int ep 0] } }):wpAny (model prog w) A (pyIter (.ref v)) Q E s:=by
 obtain ⟨ov,hov,hcv,hdv⟩:=id hv
 obtain ⟨o,ho,hc,hdat⟩:=id x
 refine wpAny_pyIter_slot hv.typeIs F.slot_dict_values_iter (wpAny_call_entry F.slot_dict_values_iter hv.typeIs F.entry_dict_values_iter ?_ (F.args_dict_values_iter_1 _))
 unfold Builtin.«dict_values.__iter__»
 refine wpAny_bind (wpAny_pure (wpAny_bind ?_))
 unfold Builtin.Dict_items.dictOf
 refine wpAny_bind (wpAny_field hov hdv (x:=.ref d) rfl (wpAny_pure (wpAny_bind ?_)))
 unfold Builtin.Dict_items.newIterator
 refine wpAny_bind (wpAny_dictEntries ho hdat (wpAny_bind (wpAny_dictEpoch ho hdat ?_)))
 simp only [show Builtin.Dict_items.ownsTuple "dict_valueiterator"=false by decide,Bool.false_eq_true,if_false]
 refine wpAny_newObj_type (wpAny_pure ⟨_,rfl,"dict_valueiterator",_,⟨_,Heap.get?_push_size _ rfl,rfl⟩,F.slot_dict_valueiterator_next.lookup,?_⟩)
 simpa [rawInt] using q
end
def rMaxV (P:Params):List V→Hp→VK→Prop:=fun vs H Q=>∃ (p d:Addr) (kvs:List (Tr×V)) (ns:List Int),vs=[V.ref p]∧ViewAt H p d∧DtAt P H d kvs∧kvs.map (·.2)=ns.map V.int∧0<ns.length∧∀ b,b∈ns→(∀ x∈ns,x≤b)→Q (.int b) H
section
variable {X:Cx}{P:Params}
theorem bv9 (hP:X.w.params=P) (hc:X.calm=true):CallR X (.builtin "max") (rMaxV P):=by
 subst hP
 intro pins s σ H xs us Q I r h
 obtain ⟨p,d,kvs,ns,rfl,hv,⟨m,rfl,e2,e3,e4⟩,hns,hpos,q⟩:=h
 cases r with
 | cons r1 r2 =>
 cases r2
 cases r1
 obtain ⟨o,es,ep,q1,q2,q3,q4,q5,z1,z2⟩:=ad9 I e2 e3 e4
 have vw:s.heap.IsValuesView p d:=(I.hok p _ hv).1
 have lt:d<s.heap.objs.size:=Heap.lt_size q1
 have ml:ns.length=m.length:=by
  have:=congrArg List.length hns
  simpa using this.symm
 have hval:∀ (i:Nat) (v:Value),(∃ e,es[i]?=some e∧v=e.val)→∃ t,v=.int (ns.getD i 0) t:=by
  rintro i v ⟨e,he,rfl⟩
  have hi:i<m.length:=by rw [← q4.len]; exact (Array.getElem?_eq_some_iff.mp he).1
  obtain ⟨en,f1,f2,f3,f4⟩:=q4.at_ i m[i] (List.getElem?_eq_getElem hi)
  rw [he] at f1
  cases f1
  have hm:(m.map fun x=>(x.1,x.2.2)).map (·.2)=m.map (·.2.2):=by rw [List.map_map]; rfl
  have h2:(ns.map V.int)[i]?=some m[i].2.2:=by rw [← hns,hm,List.getElem?_map,List.getElem?_eq_getElem hi]; rfl
  rw [List.getElem?_map,List.getElem?_eq_getElem (by omega)] at h2
  have h3:V.int (ns[i]'(by omega))=m[i].2.2:=by injection h2
  rw [← h3] at f4
  obtain ⟨t,ht⟩:=f4
  exact ⟨t,by rw [ht,List.getD_eq_getElem?_getD,List.getElem?_eq_getElem (by omega)]; rfl⟩
 refine call_max_walkS (bc6 vw ⟨o,q1,q2,q3⟩ ⟨_,_,_,_,_,_,_,_,rfl,(b61 (A:=X.A.in1) (es:=es) (ep:=ep) (I.ok.hd hc) (Nat.ne_of_lt lt)).toS,⟨⟨_,Heap.get?_push_size _ rfl,rfl,rfl⟩,o,Heap.get?_push_of_some _ q1,q2,q3⟩,fun b hb=>?_,by rw [q4.len,←ml]; exact hpos,CmpOf.ints_gt (fun i=>ns.getD i 0) hval,fun v s' hP hm=>?_⟩)
 · simp only [List.mem_cons,List.not_mem_nil,or_false] at hb
   rcases hb with rfl | rfl
   · rw [Heap.size_push]; exact Nat.lt_succ_self _
   · rw [Heap.size_push]; exact Nat.lt_succ_of_lt lt
 · obtain ⟨t,rfl⟩:=hval _ _ hP
   obtain ⟨b1,b2⟩:=argBest_gt (fun i=>ns.getD i 0) (es.size - 1)
   have bl:argBest (fun i j=>decide (ns.getD i 0 > ns.getD j 0)) (es.size - 1)<ns.length:=by rw [q4.len] at b1 ⊢; omega
   rw [Moved.eq_with hm]
   refine ⟨.int _,H,I.kept (t':=s'.toks) fun b ob e=>hm.heap b ob (fun z=>?_) (Heap.get?_push_of_some _ e),⟨t,rfl⟩,q _ ?_ fun x hx=>?_⟩
   · exact absurd (Heap.lt_size e) (by rw [List.mem_singleton.mp z]; exact Nat.lt_irrefl _)
   · rw [List.getD_eq_getElem?_getD,List.getElem?_eq_getElem bl]
     exact List.getElem_mem _
   · obtain ⟨j,hj,rfl⟩:=List.mem_iff_getElem.mp hx
     have:=b2 j (by rw [q4.len]; omega)
     rw [List.getD_eq_getElem?_getD (l:=ns) (i:=j),List.getElem?_eq_getElem hj] at this
     exact this
end
theorem at5 {prog:Program}{w:World}{A:Around}(hh:A.handled=none) (it l:Addr) (hne:l≠it) (items:Array Value) :
 Draws prog w A it [it,l] items.size (fun i v=>items[i]?=some v) (fun i h=>h.IsTupleIter it l i∧h.IsTuple l items) where
 live:=fun _ _ st=>let ⟨o,ho,_⟩:=st.1; ⟨o,ho⟩
 frame:=fun _ _ _ st hk=>⟨ad3 st.1 fun o e=>hk it (by simp) o e,let ⟨o,e,r⟩:=st.2; ⟨o,hk l (by simp) o e,r⟩⟩
 item:=fun i s Q E hi st hQ=>by
  refine ad2 st.1 st.2 (x:=items[i]) (by simp [hi]) fun h' hit' hs'=>?_
  exact hQ _ h' s.toks (by simp [hi]) ⟨hit',let ⟨o,e,r⟩:=st.2; ⟨o,hs'.extBut l o hne e,r⟩⟩ hs'
 done:=fun s Q E st hE=>ae5 hh st.1 st.2 (by simp) hE
open AutoSeq1 (wpAny_loadPart')
def tupIt (l:Addr):Obj:={ cls:=.type "tuple_iterator",data:=.fields #[.ref l,.int 0 0] }
def enObj (it:Addr):Obj:={ cls:=.type "enumerate",data:=.fields #[.none,.bool false,.ref it,rawInt 0,.none,.none] }
theorem bc7 (l:Addr) (items:Array Value) (n:Nat) (dct:Option Addr) (sl:Array (Option Value)) :
 Meets (Builtin.«enumerate.__new__» ⟨[.type "enumerate",.ref l],[]⟩) (fun _ R s=>s.heap.get? l=some { cls:=.type "tuple",dict:=dct,data:=.seq items n,slots:=sl } ∧
  R (.ok (.ret (.ref (s.heap.push (tupIt l)).objs.size))) { s with heap:=(s.heap.push (tupIt l)).push (enObj s.heap.objs.size) }) :=
 .of_wp fun prog w A R s h=>by
  obtain ⟨hp,g,d,tk,os⟩:=s
  obtain ⟨hl,h⟩:=h
  have hsub:=sub_enumerate
  have hL:Heap.IsTuple (Shared.heap ⟨hp,g,d,tk,os⟩) l items:=⟨_,hl,rfl,n,rfl⟩
  wp_walk using wpAny_loadPart' hl
  refine wpAny_stack_any fun st=>wpAny_pure ?_
  split
  · rename_i c _ _ _ _ _
    cases (c == Value.type "enumerate")
    · wp_walk using wpAny_loadPart' hl,wpAny_pyIter_tuple hL
      exact ⟨_,rfl,h⟩
    · wp_walk using wpAny_loadPart' hl,wpAny_pyIter_tuple hL
      exact ⟨_,rfl,h⟩
  · wp_walk using wpAny_loadPart' hl,wpAny_pyIter_tuple hL
    exact ⟨_,rfl,h⟩
theorem b62 {prog:Program}{w:World}{A:Around}{E:Value→Shared→Prop}{s:Shared}{l:Addr}{items:Array Value}{Q:Value→Shared→Prop}(hL:s.heap.IsTuple l items)
 (h:∀ h',IsEnum h' (s.heap.objs.size+1) s.heap.objs.size 0 .none→h'.IsTupleIter s.heap.objs.size l 0→(∀ b o,s.heap.get? b=some o→h'.get? b=some o)→Q (.ref (s.heap.objs.size+1)) { s with heap:=h' }) :
 wpAny (model prog w) A (call (.type "enumerate") [.ref l]) Q E s:=by
 obtain ⟨⟨c,dct,dt,sl⟩,hl,hc,n,hd⟩:=hL
 replace hc:c=.type "tuple":=hc
 replace hd:dt=.seq items n:=hd
 subst hc hd
 refine callType_new F.called_enumerate (by decide) (F.typeCall_enumerate_1 _) (F.newCall_enumerate_1 _) (fun obj=>F.args_object_init_2 obj _) F.entry_enumerate_new (bc7 l items n dct sl) ⟨hl,?_⟩
 have hz:(s.heap.push (tupIt l)).objs.size=s.heap.objs.size+1:=Heap.size_push ..
 show _∧_
 rw [hz]
 have he:IsEnum ((s.heap.push (tupIt l)).push (enObj s.heap.objs.size)) (s.heap.objs.size+1) s.heap.objs.size 0 .none:=by
  have:=Heap.get?_push_size (s.heap.push (tupIt l)) (o:=enObj s.heap.objs.size) rfl
  rw [hz] at this
  exact this
 exact ⟨⟨_,he,rfl⟩,h _ he ⟨_,Heap.get?_push_of_some _ (Heap.get?_push_size _ rfl),rfl,rfl⟩ fun b o x=>Heap.get?_push_of_some _ (Heap.get?_push_of_some _ x)⟩
def IteT (K:PySem.W.Frag) (a:Addr):It :=
 ⟨fun i H=>∃ xs x,SqT K H a xs∧xs[i]?=some x,fun i H v H'=>∃ p y,v=.ref p∧H p=none∧Same H H'∧H' p=some (.tup [.int (i:Nat),y])∧∀ xs,SqT K H a xs→xs[i]?=some y,fun i H=>∃ xs,SqT K H a xs∧xs.length=i⟩
theorem b63 {P:Program}{w:World}{K:PySem.W.Frag}{elts:List Expr}{x1:Nat}{pos:Pos}(a e it:Addr) (hne:e≠it) :
 Turn P w K (.Tuple elts x1 pos) (IteT K a) [e,it] e (fun i h=>(∃ old,IsEnum h e it (i:Nat) old)∧h.IsTupleIter it a i) where
 mem:=by simp
 obj:=fun i h st b hb=>by
  obtain ⟨⟨old,he⟩,o,e2,c,d⟩:=st
  rcases (by simpa using hb:b=e∨b=it) with rfl | rfl
  · exact ⟨_,he,fun v z=>by cases z⟩
  · exact ⟨o,e2,fun v z=>by rw [d] at z; cases z⟩
 keep:=fun i h h' st k=>⟨let ⟨old,he⟩:=st.1; ⟨old,k e (by simp) _ he⟩,ad3 st.2 fun o x=>k it (by simp) o x⟩
 item:=by
  intro X hP hw hK hc i pins s σ H E I hf st hg
  subst hP hw hK
  obtain ⟨xs,x,hq,hx⟩:=hg
  obtain ⟨its,rv,⟨ob,p1,p2,n,p3⟩,hz⟩:=I.tuple hq
  obtain ⟨u,hu,ru⟩:=rv.get hx
  obtain ⟨⟨old,he⟩,hit⟩:=st
  have helt:e<s.heap.objs.size:=Heap.lt_size he
  have hilt:it<s.heap.objs.size:=by obtain ⟨_,q,_⟩:=hit; exact Heap.lt_size q
  have nea:e≠a:=fun z=>by
   subst z
   have he':=he
   unfold IsEnum at he'
   rw [p1] at he'
   injection he' with he'
   rw [he'] at p2
   exact absurd (show Value.type "enumerate"=Value.type "tuple" from p2) (by decide)
  have nia:a≠it:=fun z=>by
   subst z
   obtain ⟨o2,g1,g2,_⟩:=hit
   rw [p1] at g1
   cases g1
   rw [p2] at g2
   exact absurd g2 (by decide)
  have hl:i<its.toArray.size:=by
   have:=(List.getElem?_eq_some_iff.mp hu).1
   simpa using this
  refine wpAny_pyNext_enum_itemD (at5 (A:=X.A.in1) (I.ok.hd hc) it a nia its.toArray) he ⟨hit,ob,p1,p2,n,p3⟩ hl hne (by simp only [List.mem_cons,List.not_mem_nil,or_false,not_or]; exact ⟨hne,nea⟩) fun y h' tk hy ho st' hT hsz hk=>?_
  have hyu:y=u:=by
   rw [List.getElem?_toArray,hu] at hy
   cases hy
   rfl
  subst hyu
  have fr:H s.heap.objs.size=none:=I.hok.fresh (Nat.le_refl _)
  have I1:Inv X pins σ H { s with heap:=h',toks:=tk+1 }:=I.turnedL (ch:=[e,it]) (fun b o hb q=>hk b o (fun z=>hb (by simp [z])) (fun z=>hb (by simp [z])) q) hf
  have I2:Inv X pins σ (upd H s.heap.objs.size (.tup [.int (i:Nat),x])) { s with heap:=h',toks:=tk+1 }:=I1.adopt (o:=.tup [.int (i:Nat),x]) fr I.sz (Nat.ne_of_gt I.lt) (fun y c ec z=>by
   obtain ⟨v,q⟩:=I.cell y c ec
   exact absurd q.lt (by rw [z]; exact Nat.lt_irrefl _)) (fun q hq z=>absurd (Heap.lt_size (I.pin q hq).1) (by rw [z]; exact Nat.lt_irrefl _))
   ⟨le_line (by simp),[.int (i:Nat) tk,y],.cons ⟨_,rfl⟩ (.cons ru .nil),⟨_,hT,rfl,_,rfl⟩⟩
  have ne:∀ b∈[e,it],b≠s.heap.objs.size:=fun b hb=>by
   rcases (by simpa using hb:b=e∨b=it) with rfl | rfl
   · exact Nat.ne_of_lt helt
   · exact Nat.ne_of_lt hilt
  have hf2:∀ b∈[e,it],FpOk X pins (upd H s.heap.objs.size (.tup [.int (i:Nat),x])) b:=fun b hb=>⟨by rw [a08 (ne b hb)]; exact (hf b hb).1,(hf b hb).2⟩
  refine ⟨_,rfl,wpAny_letOwnedTupleGo_enum ho fun h2 he2 hs2=>⟨.ref s.heap.objs.size,_,I2.turnedL (t':=tk+1) (ch:=[e]) (fun b o hb q=>(hs2.2 b (fun z=>hb (by simp [z]))).trans q) (fun b hb=>hf2 b (by simp at hb; simp [hb])),rfl,⟨s.heap.objs.size,x,rfl,fr,Same.new fr,a34,fun ys hy=>by rw [I.tuple_inj hy hq]; exact hx⟩,⟨⟨_,by simpa using he2⟩,ad3 st'.1 fun o q=>(hs2.2 it (Ne.symm hne)).trans q⟩,fun b hb=>(hf2 b hb).1⟩⟩
 done:=by
  intro X hP hw hK hc i pins s σ H E I hf st hg
  subst hP hw hK
  obtain ⟨xs,hq,hx⟩:=hg
  obtain ⟨its,rv,⟨ob,p1,p2,n,p3⟩,hz⟩:=I.tuple hq
  obtain ⟨⟨old,he⟩,hit⟩:=st
  have nia:a≠it:=fun z=>by
   subst z
   obtain ⟨o2,g1,g2,_⟩:=hit
   rw [p1] at g1
   cases g1
   rw [p2] at g2
   exact absurd g2 (by decide)
  have hl:its.toArray.size=i:=by
   have:=rv.length
   rw [List.size_toArray,←this]
   exact hx
  subst hl
  exact wpAny_pyNext_enum_endD (at5 (A:=X.A.in1) (I.ok.hd hc) it a nia its.toArray) he ⟨hit,ob,p1,p2,n,p3⟩ fun h' eb=>⟨rfl,I.turnedL (t':=s.toks) (ch:=[it]) (fun b o hb q=>eb b o (fun z=>hb (by simp [z])) q) (fun b hb=>hf b (by simp at hb; simp [hb]))⟩
 self:=fun A i s Q E st h=>let ⟨old,he⟩:=st.1; wpAny_pyIter_enum he h
section
variable {X:Cx}{elts:List Expr}{x1:Nat}{tpos:Pos}
def iEnumT (K:PySem.W.Frag) (ta:TA):TI:=fun σ H R=>ta σ H fun vs H1=>∃ a,vs=[.ref a]∧(∃ xs,SqT K H1 a xs)∧R (IteT K a) H1
theorem bl7 (K:PySem.W.Frag) {a:Expr}{ta:TA}{p pos:Pos}(hg:Gl X "enumerate") (hm:X.mg "enumerate"=none) (ha:PA X [a] ta) (hs:starEach [a] X.env=[(false,eval a X.env)]:=by rfl) (hK:X.K=K:=by rfl):PI X (.Tuple elts x1 tpos) (.Call (.Name "enumerate" p) [a] [] pos) (iEnumT K ta):=by
 subst hK
 intro pins s σ H R I h
 refine Call_ (ag4 I hg hm boot_enumerate (PyProof.Rows.callWith_type1 (thn (ha pos pins s σ H _ I h) fun us s1 ⟨vs,H1,I1,r1,q1⟩=>?_) hs rfl))
 obtain ⟨l,e,⟨xs,hq⟩,q⟩:=q1
 subst e
 obtain ⟨u,rfl,ru⟩:=b86 r1
 cases ru
 obtain ⟨its,rv,pl,hz⟩:=I1.tuple hq
 refine b62 pl fun h' he hit hk=>?_
 refine wpAny_pyIter_enum he ?_
 refine ⟨s1.heap.objs.size+1,[s1.heap.objs.size+1,s1.heap.objs.size],_,_,H1,rfl,I1.kept (t':=s1.toks) hk,b63 l _ _ (Nat.succ_ne_self _),⟨⟨_,he⟩,hit⟩,fun b hb=>?_,q⟩
 have hb':s1.heap.objs.size≤b:=by
  rcases (by simpa using hb:b=s1.heap.objs.size+1∨b=s1.heap.objs.size) with rfl | rfl <;> omega
 exact I1.fpOk hb' (I1.hok.fresh hb')
theorem bw0 {K:PySem.W.Frag}{σ:St} {H:Hp}{R:It→Hp→Prop}{ts:TA}(h:ts σ H fun vs H1=>∃ a,vs=[.ref a]∧(∃ xs,SqT K H1 a xs)∧R (IteT K a) H1):iEnumT K ts σ H R:=h
theorem bc8 {K:PySem.W.Frag}{a:Addr}{xs:List V}{g:TG}{tb:TS}{D:Ends}{σ:St} {H:Hp}(Pv:Nat→St→Hp→Prop) (h0:Pv 0 σ H) (hl:∀ i σ H,i≤xs.length→Pv i σ H→SqT K H a xs)
 (hs:∀ i x σ H q H2,xs[i]?=some x→Pv i σ H→Same H H2→H2 q=some (.tup [.int (i:Nat),x])→g (.ref q) σ H2 fun σ1 H1=>tb { D with nx:=Pv (i+1),ct:=Pv (i+1),bk:=D.nx } σ1 H1)
 (hd:∀ σ H,Pv xs.length σ H→D.nx σ H):ForEnd (IteT K a) g tb D σ H:=by
 refine ⟨fun i m σ H=>m=xs.length - i∧i≤xs.length∧Pv i σ H,⟨xs.length,by simp,Nat.zero_le _,h0⟩,?_⟩
 rintro i m σ' H' ⟨rfl,hi,p⟩
 have hq:=hl i σ' H' hi p
 by_cases hlt:i<xs.length
 · refine .inr ⟨⟨xs,xs[i],hq,by simp [hlt]⟩,Pv (i+1),fun σ2 H2 p'=>⟨xs.length - (i+1),by omega,rfl,hlt,p'⟩,fun v H2 y=>?_⟩
   obtain ⟨q,x,rfl,hn,sm,hT,hx⟩:=y
   exact hs i x σ' H' q H2 (hx xs hq) p sm hT
 · have e:i=xs.length:=by omega
   subst e
   exact .inl ⟨⟨xs,hq,rfl⟩,hd σ' H' p⟩
end
theorem ax3 (t:SetTable) (n:Nat):(t.orStandIn n).led=t.led∧(t.plain=false→(t.orStandIn n).plain=false):=by
 unfold SetTable.orStandIn
 split
 · exact ⟨rfl,id⟩
 · exact ⟨rfl,fun _=>rfl⟩
theorem bw1 (t:SetTable) (es:Array (Int×Value)) (h:Int) (x:Value):(layNew t es h x).2.1.led=t.led∧(t.plain=false→(layNew t es h x).2.1.plain=false):=by
 unfold layNew
 split
 · exact ax3 _ _
 · exact ⟨rfl,fun _=>rfl⟩
theorem bc9 (t:SetTable) (es:Array (Int×Value)) (n:Nat):(relayAll t es n).2.1.led=t.led∧(t.plain=false→(relayAll t es n).2.1.plain=false):=by
 unfold relayAll
 split
 · next t' order he =>
   dsimp only
   split
   · unfold SetTable.relaid SetTable.laid at he
     simp only [Option.bind_eq_bind,Option.pure_def,Option.bind_eq_some_iff,Option.some.injEq] at he
     obtain ⟨ow,_,he⟩:=he
     have:=congrArg Prod.fst he
     dsimp only at this
     rw [← this]
     exact ⟨rfl,id⟩
   · exact ⟨rfl,fun _=>rfl⟩
 · exact ⟨rfl,fun _=>rfl⟩
section
variable {prog:Program}{w:World}
structure SStr (prog:Program) (w:World) (h:Heap) (a:Addr) (es:Array (Int×Value)):Prop where
 ex:∃ o ep t,h.get? a=some o∧o.ExactSet∧o.data=.set es ep t∧t.fits es.size=true∧t.led=!w.params.followText "set-order"∧(0<es.size→t.plain=false)
 el:ElemsOf (strKind prog w) es.toList
 lt:es.size<scanBound
theorem SStr.store {h:Heap}{a:Addr}{o:Obj}{es es':Array (Int×Value)}{ep:Nat}{t t':SetTable}(ho:h.get? a=some o) (hx:o.ExactSet) (hd:o.data=.set es ep t) (hf:t'.fits es'.size=true) (hl:t'.led=!w.params.followText "set-order") (hp:0<es'.size→t'.plain=false) (el:ElemsOf (strKind prog w) es'.toList) (lt:es'.size<scanBound) :
 (h.update a (Obj.putSet es' t')).get? a=some { o with data:=.set es' (ep+1) t' }∧SStr prog w (h.update a (Obj.putSet es' t')) a es':=by
 have e:(h.update a (Obj.putSet es' t')).get? a=some { o with data:=.set es' (ep+1) t' }:=by
  rw [← putSet_of es' t' hd]
  exact Heap.get?_update_self (Obj.putSet es' t') ho (by rw [putSet_of es' t' hd]; rfl)
 exact ⟨e,⟨_,ep+1,t',e,hx,rfl,hf,hl,hp⟩,el,lt⟩
def Grew (w:World) (es es':Array (Int×Value)) (k:Str):Prop:=(es'=es∧∃ e∈es.toList,e.2.isStrOf k=true)∨((∀ e∈es.toList,e.2.isStrOf k=false)∧∃ u,es'.toList.Perm (es.toList++[(hashStr w k,.str k u)]))
variable {A:Around}{E:Value→Shared→Prop}{s:Shared}
theorem SStr.add {a:Addr}{es:Array (Int×Value)}{k:Str}{u:Tok}{Q:Bool→Shared→Prop}(hS:SStr prog w s.heap a es) (room:es.size+1<scanBound)
 (h:∀ b h' es',Heap.SameBut a s.heap h'→SStr prog w h' a es'→Grew w es es' k→Q b { s with heap:=h',toks:=s.toks+1 }):wpAny (model prog w) A (setAdd a (.str k u)) Q E s:=by
 obtain ⟨⟨o,ep,t,ho,hx,hd,hf,hl,hp⟩,hel,hlt⟩:=hS
 have hk:(strKind prog w).is k (.str k u)=true:=by simp [PySem.strKind,Value.isStrOf]
 have hsc:(Value.str k u).scannable=true:=rfl
 unfold setAdd setAddHashed setAddHashedIn
 refine wpAny_holding (wpAny_bind ((strKind prog w).pyHash hk ?_))
 refine wpAny_holding (wpAny_bind (wpAny_setState_of (s:={ s with toks:=s.toks+1 }) ho hd hf ?_))
 dsimp only
 rw [byScan_of hsc hlt hel]
 simp only [↓reduceIte]
 unfold setAddByScan
 refine wpAny_bind (wpAny_bind (wpAny_rule (wpAny_bind (wpAny_setScan_of (s:={ s with toks:=s.toks+1 }) hk ho hd hf hel ?_))))
 cases hr:List.findIdx? (fun e=>(strKind prog w).is k e.2) es.toList with
 | some j =>
   dsimp only
   obtain ⟨hj,hpj,_⟩:=List.findIdx?_eq_some_iff_getElem.mp hr
   exact wpAny_pure (wpAny_pure (h _ s.heap es (Heap.SameBut.refl a s.heap) ⟨⟨o,ep,t,ho,hx,hd,hf,hl,hp⟩,hel,hlt⟩ (.inl ⟨rfl,_,List.getElem_mem hj,hpj⟩)))
 | none =>
   dsimp only
   have hno:∀ e∈es.toList,e.2.isStrOf k=false:=fun e he=>by
    have:=List.findIdx?_eq_none_iff.mp hr e he
    exact this
   have hgw:∀ (b:Bool) {s₁:Shared}{Q':Unit→Shared→Prop},Q' () s₁→wpAny (model prog w) A (match b with | true=>rule "set.scan.the-table-gave-way" | false=>pure ()) Q' E s₁:=fun b s₁ Q' hq=>by
    cases b
    · exact wpAny_pure hq
    · exact wpAny_rule hq
   have p1:=layNew_perm t es ((strKind prog w).hash k) (.str k u)
   have q1:=layNew_fits t es ((strKind prog w).hash k) (.str k u)
   have r1:=bw1 t es ((strKind prog w).hash k) (.str k u)
   generalize layNew t es ((strKind prog w).hash k) (.str k u)=L at p1 q1 r1 ⊢
   obtain ⟨es1,t1,wd,gv⟩:=L
   dsimp only at p1 q1 r1 ⊢
   rw [Array.toList_push] at p1
   have el1:ElemsOf (strKind prog w) es1.toList:=(hel.push hk hsc).perm p1
   have sz1:es1.size=es.size+1:=by rw [← Array.length_toList,p1.length_eq]; simp
   refine wpAny_bind (hgw _ ?_)
   have fin:∀ t2:SetTable,t2.fits es1.size=true→t2.led=t.led→t2.plain=false→wpAny (model prog w) A (do
    storeSet a es1 t2
    if (!wd && t2.tooFull)=true then do
     (match (relayAll t2 es1 (SetTable.grown es1.size)).2.2 with | true=>rule "set.scan.the-table-gave-way" | false=>pure ())
     storeSet a (relayAll t2 es1 (SetTable.grown es1.size)).1 (relayAll t2 es1 (SetTable.grown es1.size)).2.1
     pure (some true)
     else pure (some true)) (fun r s₁=>wpAny (model prog w) A (match r with | some added=>pure added | none=>setAddHashedIn a (.str k u) ((strKind prog w).hash k) 99999) Q E s₁) E { s with toks:=s.toks+1 }:=by
    intro t2 f2 l2 pl2
    obtain ⟨o1,S1⟩:=SStr.store (prog:=prog) (w:=w) (es':=es1) (t':=t2) ho hx hd f2 (l2.trans hl) (fun _=>pl2) el1 (by omega)
    have b1:=Heap.SameBut.update s.heap a (Obj.putSet es1 t2)
    refine wpAny_bind (wpAny_storeSet_of (s:={ s with toks:=s.toks+1 }) ho hd ?_ (fits_of_scanBound (by omega)))
    split
    · have p2:=relayAll_perm t2 es1 (SetTable.grown es1.size)
      have q2:=relayAll_fits t2 es1 (SetTable.grown es1.size)
      have r2:=bc9 t2 es1 (SetTable.grown es1.size)
      generalize relayAll t2 es1 (SetTable.grown es1.size)=R at p2 q2 r2 ⊢
      obtain ⟨es2,t3,gv2⟩:=R
      dsimp only at p2 q2 r2 ⊢
      have sz2:es2.size=es1.size:=by rw [← Array.length_toList,p2.length_eq,Array.length_toList]
      refine wpAny_bind (hgw _ ?_)
      obtain ⟨_,S2⟩:=SStr.store (prog:=prog) (w:=w) (es':=es2) (t':=t3) o1 hx rfl q2 (r2.1.trans (l2.trans hl)) (fun _=>r2.2 pl2) (el1.perm p2) (by omega)
      refine wpAny_bind (wpAny_storeSet_of o1 rfl ?_ (fits_of_scanBound (by omega)))
      exact wpAny_pure (wpAny_pure (h _ _ es2 (b1.trans (Heap.SameBut.update _ a _)) S2 (.inr ⟨hno,u,p2.trans p1⟩)))
    · exact wpAny_pure (wpAny_pure (h _ _ es1 b1 S1 (.inr ⟨hno,u,p1⟩)))
   split
   · refine wpAny_bind ?_
     rw [hashByValue_scannable 8 hsc]
     refine wpAny_pure ?_
     exact fin { t1 with plain:=false } q1 r1.1 rfl
   · next hpl =>
     refine wpAny_bind (wpAny_pure ?_)
     simp only [↓reduceIte]
     exact fin t1 q1 r1.1 (by simpa using hpl)
end
noncomputable def metS (ks:List Str) (k:Str):List Str:=if k∈ks then ks else ks++[k]
noncomputable def firstS (val:Nat→Str) (i:Nat):List Str:=((List.range i).map val).foldl metS []
theorem ae0 (val:Nat→Str) (i:Nat):firstS val (i+1)=metS (firstS val i) (val i):=by
 unfold firstS
 rw [List.range_succ,List.map_append,List.foldl_append]
 rfl
theorem bl8 {ks:List Str}{k x:Str}:x∈metS ks k↔x∈ks∨x=k:=by
 unfold metS
 split
 · constructor
   · exact .inl
   · rintro (h | rfl)
     · exact h
     · assumption
 · simp
theorem am8 (val:Nat→Str) (x:Str):∀ i,x∈firstS val i↔∃ j,j<i∧val j=x
 | 0=>by simp [firstS]
 | i+1=>by
   rw [ae0,bl8,am8 val x i]
   constructor
   · rintro (⟨j,h,e⟩ | rfl)
     · exact ⟨j,by omega,e⟩
     · exact ⟨i,by omega,rfl⟩
   · rintro ⟨j,h,e⟩
     by_cases hj:j=i
     · subst hj; exact .inr e.symm
     · exact .inl ⟨j,by omega,e⟩
theorem bl9 (ks:List Str) (k:Str):(metS ks k).length≤ks.length+1:=by
 unfold metS
 split <;> simp
theorem am9 (val:Nat→Str):∀ i,(firstS val i).length≤i
 | 0=>by simp [firstS]
 | i+1=>by
   rw [ae0]
   have h1:=bl9 (firstS val i) (val i)
   have h2:=am9 val i
   omega
def entS (w:World) (x:Str×Tok):Int×Value:=(hashStr w x.1,.str x.1 x.2)
def KsOf (w:World) (es:Array (Int×Value)) (ks:List Str):Prop:=ks.Nodup∧∃ l:List (Str×Tok),l.map (·.1)=ks∧es.toList.Perm (l.map (entS w))
theorem KsOf.len {w:World}{es:Array (Int×Value)}{ks:List Str}(h:KsOf w es ks):es.size=ks.length:=by
 obtain ⟨_,l,rfl,p⟩:=h
 rw [← Array.length_toList,p.length_eq]
 simp
theorem KsOf.grew {w:World}{es es':Array (Int×Value)}{ks:List Str}{k:Str}(h:KsOf w es ks) (g:Grew w es es' k):KsOf w es' (metS ks k):=by
 obtain ⟨nd,l,rfl,p⟩:=h
 have hm:k∈l.map (·.1)↔∃ e∈es.toList,e.2.isStrOf k=true:=by
  constructor
  · intro hk
    obtain ⟨x,hx,rfl⟩:=List.mem_map.mp hk
    exact ⟨entS w x,p.mem_iff.mpr (List.mem_map_of_mem hx),by simp [entS,Value.isStrOf]⟩
  · rintro ⟨e,he,hi⟩
    obtain ⟨x,hx,rfl⟩:=List.mem_map.mp (p.mem_iff.mp he)
    have:x.1=k:=by
     have:=Value.isStrOf_shape hi
     obtain ⟨t,e⟩:=this
     simp only [entS,Value.str.injEq] at e
     exact e.1
    rw [← this]
    exact List.mem_map_of_mem hx
 rcases g with ⟨rfl,hx⟩ | ⟨hno,u,pp⟩
 · unfold metS
   rw [if_pos (hm.mpr hx)]
   exact ⟨nd,l,rfl,p⟩
 · have hk:k∉l.map (·.1):=fun z=>by
    obtain ⟨e,he,hi⟩:=hm.mp z
    rw [hno e he] at hi
    cases hi
   unfold metS
   rw [if_neg hk]
   refine ⟨?_,l++[(k,u)],by simp,?_⟩
   · refine List.nodup_append.mpr ⟨nd,by simp,fun a ha b hb z=>?_⟩
     rw [List.mem_singleton.mp hb] at z
     exact hk (z ▸ ha)
   · refine pp.trans ?_
     rw [List.map_append]
     exact List.Perm.append p (List.Perm.refl _)
section
variable {prog:Program}{w:World}{A:Around}{R:Result→Shared→Prop}{I:Addr}{fp wr:List Addr}{G:Array GenState→Array GenState→Prop}{n:Nat}{P:Nat→Value→Prop}{St:Nat→Shared→Prop}
theorem SStr.moved {h h':Heap}{a:Addr}{es:Array (Int×Value)}(x:SStr prog w h a es) (k:∀ o,h.get? a=some o→h'.get? a=some o):SStr prog w h' a es:=by
 obtain ⟨⟨o,ep,t,ho,r⟩,el,lt⟩:=x
 exact ⟨⟨o,ep,t,k _ ho,r⟩,el,lt⟩
theorem bm0 (W:WalksS prog w A.in1 I fp wr G n P St) (S:Addr) (hSf:S∉fp) (val:Nat→Str) (hval:∀ i v,P i v→∃ t,v=.str (val i) t) (hb:n+1<scanBound) :
 ∀ (k i:Nat) (s:Shared) (es:Array (Int×Value)),n - i=k→i≤n→St i s→SStr prog w s.heap S es→KsOf w es (firstS val i) →
  (∀ s' es',Moved (S::wr) G s s'→SStr prog w s'.heap S es'→KsOf w es' (firstS val n)→R (.ok (.ret .none)) s') →
  codeAny (model prog w) A (.builtin "set.update.loop" ⟨[.ref S,.ref I],[]⟩) R s:=by
 have hw:S∉wr:=fun z=>hSf (W.sub _ z)
 have hs:∀ b∈wr,b∈S::wr:=fun b z=>List.mem_cons_of_mem _ z
 intro k
 induction k with
 | zero =>
   intro i s es hk hi st hS hK q
   have e:i=n:=by omega
   subst e
   refine codeAny_builtin F.entry_set_update_loop ?_
   rw [Around.under_plainId F.plain_set_update_loop _]
   show wpAny _ A.in1 (pyNext (.ref I) >>= _) _ _ s
   refine wpAny_bind (W.done s _ _ st fun s' hm=>?_)
   show wpAny _ A.in1 (ret Value.none) _ _ s'
   exact wpAny_pure (q s' es (hm.mono hs) (hS.moved fun o e=>hm.heap S _ hw e) hK)
 | succ k ih =>
   intro i s es hk hi st hS hK q
   have lt:i<n:=by omega
   refine codeAny_builtin F.entry_set_update_loop ?_
   rw [Around.under_plainId F.plain_set_update_loop _]
   show wpAny _ A.in1 (pyNext (.ref I) >>= _) _ _ s
   refine wpAny_bind (W.item i s _ _ lt st fun v s' hP st' hm=>?_)
   obtain ⟨u,rfl⟩:=hval i v hP
   have hS':SStr prog w s'.heap S es:=hS.moved fun o e=>hm.heap S _ hw e
   show wpAny _ A.in1 (holding [Value.str (val i) u] (setAdd S (.str (val i) u)) >>= _) _ _ s'
   have l1:=am9 val i
   have l2:=hK.len
   refine wpAny_bind (wpAny_holding (SStr.add hS' (by omega) fun b h' es' sb hS2 g=>?_))
   refine wpAny_pure ⟨plainId_quiet F.plain_set_update_loop _,ih (i+1) _ es' (by omega) lt (W.frame _ s' _ _ st' (Nat.le_succ _) fun b hb o e=>?_) hS2 (by rw [ae0]; exact hK.grew g) fun s2 es2 m2 S2 K2=>?_⟩
   · rw [sb.2 b (fun z:b=S=>hSf (z ▸ hb))]
     exact e
   · refine q s2 es2 (Moved.trans W.gtrans ((hm.mono hs).then_heap (Nat.le_succ _) fun b o hb e=>?_) m2) S2 K2
     rw [sb.2 b (fun z:b=S=>hb (by rw [z]; exact List.mem_cons_self))]
     exact e
end
section
variable {prog:Program}{w:World}{A:Around}{E:Value→Shared→Prop}{s:Shared}
def setObj (w:World):Obj:={ cls:=.type "set",dict:=none,data:=.set #[] 0 (.fresh 0 0 (!w.params.followText "set-order")) }
theorem bm1 (v:Value) {Q1:Value→Shared→Prop}(h:Q1 (.ref s.heap.objs.size) { s with heap:=s.heap.push (setObj w) }) :
 codeAny (model prog w) A (.call (.builtin "set.__new__") ⟨[.type "set",v],[]⟩) (wants Q1 E) s:=by
 refine codeAny_of_tree ?_
 show wpAny _ A.in1 (do checkBuiltinCall "set.__new__" ⟨[.type "set",v],[]⟩; again (.builtin "set.__new__" ⟨[.type "set",v],[]⟩)) _ _ s
 refine wpAny_bind (wpAny_of_eq (F.newCall_set_1 v) (wpAny_pure ⟨plainId_quiet F.plain_set_new _,codeAny_builtin F.entry_set_new ?_⟩))
 rw [Around.under_plainId F.plain_set_new _]
 unfold Builtin.«set.__new__» Builtin.Frozenset.newClass
 have hsub:=sub_set_self
 obtain ⟨hp,g,d,tk,os⟩:=s
 dsimp only
 wp_walk
 refine wpAny_askSetting (wpAny_pure ?_)
 dsimp only
 simp only [newObj]
 exact wpAny_bind (wpAny_alloc (wpAny_pure (wpAny_pure h)))
theorem ap8 {l:Addr}{items:Array Value}{val:Nat→Str}{Q:Value→Shared→Prop}(hh:A.handled=none) (hl:s.heap.IsList l items) (hi:∀ (i:Nat) (v:Value),items[i]?=some v→∃ t,v=.str (val i) t) (hb:items.size+1<scanBound)
 (h:∀ (h':Heap) (tk:Nat) (es:Array (Int×Value)),SStr prog w h' s.heap.objs.size es→KsOf w es (firstS val items.size)→(∀ b o,b<s.heap.objs.size→s.heap.get? b=some o→h'.get? b=some o)→Q (.ref s.heap.objs.size) { s with heap:=h',toks:=tk }) :
 wpAny (model prog w) A (call (.type "set") [.ref l]) Q E s:=by
 obtain ⟨c,tl,hmro⟩:=F.called_set.mro
 have hmade:=F.called_set.made
 have hsub:=F.called_set.sub
 refine wpAny_call (codeAny_of_tree ?_)
 show wpAny _ _ (callAny (.type "set") _) _ _ _
 refine wpAny_pure ⟨Code.quiet_builtin _ (by decide +kernel),codeAny_builtin F.entry_type_call ?_⟩
 rw [Around.under_plain (weight_type_call_type "set" [.ref l] []) rfl]
 have h1:=F.called_set.notType
 have h2:=F.called_set.canCreate
 have hct:=F.typeCall_set_1 (.ref l)
 repeat (any_goals (first | assumption | wp_step))
 refine codeAny_mono (bm1 (.ref l) (E:=E) (Q1:=fun obj s1=>obj=.ref s.heap.objs.size∧s1={ s with heap:=s.heap.push (setObj w) }) ⟨rfl,rfl⟩) fun r s1 hr=>?_
 cases r with
 | error e=>exact hr
 | ok fl =>
   cases fl with
   | ret obj =>
     obtain ⟨rfl,rfl⟩:=hr
     have hS:(s.heap.push (setObj w)).get? s.heap.objs.size=some (setObj w):=Heap.get?_push_size _ rfl
     have hT:Shared.TypeIs { s with heap:=s.heap.push (setObj w) } (.ref s.heap.objs.size) "set":=⟨_,hS,rfl⟩
     have hli:=F.called_set.init.lookup
     have hbi:=F.called_set.init.bind (.ref s.heap.objs.size)
     repeat (any_goals (first | assumption | wp_step))
     refine codeAny_mono (codeAny_call_builtin (R:=wants (fun r s2=>r=.none∧∃ h' tk es,s2={ s with heap:=h',toks:=tk }∧SStr prog w h' s.heap.objs.size es∧KsOf w es (firstS val items.size) ∧
      (∀ b o,b<s.heap.objs.size→s.heap.get? b=some o→h'.get? b=some o)) E) F.called_set.init.plain F.entry_set_init (check_set_init_1 hT ?_)) fun r2 s2 hr2=>?_
     · obtain ⟨ol,hol,hcl,nl,hdl⟩:=hl
       obtain ⟨ocls,odict,odata,oslots⟩:=ol
       simp only at hcl hdl
       subst hcl; subst hdl
       have hol':(s.heap.push (setObj w)).get? l=some { cls:=.type "list",dict:=odict,data:=.seq items nl,slots:=oslots }:=Heap.get?_push_of_some _ hol
       have hsls:=F.sub_list_set
       have hslf:=F.sub_list_frozenset
       have hne:(Value.type "list" == Value.type "dict")=false:=by decide
       have hl1:(s.heap.push (setObj w)).IsList l items:=⟨_,hol',rfl,nl,rfl⟩
       unfold Builtin.«set.__init__» noKeywords Builtin.Frozenset.updateFrom
       generalize hPI:pyIter=PI
       wp_walk
       subst hPI
       refine wpAny_pyIter_list hl1 (wpAny_bind (wpAny_runValue ?_))
       have hlS:l<s.heap.objs.size:=Heap.lt_size hol
       have hh3:A.in1.in1.in1.handled=none:=by simp [hh]
       have hneI:l≠(s.heap.push (setObj w)).objs.size:=by
        rw [Heap.size_push]; exact Nat.ne_of_lt (Nat.lt_succ_of_lt hlS)
       have hSf:s.heap.objs.size∉[(s.heap.push (setObj w)).objs.size,l]:=by
        rw [Heap.size_push]
        simp only [List.mem_cons,List.not_mem_nil,or_false,not_or]
        exact ⟨Nat.ne_of_lt (Nat.lt_succ_self _),Nat.ne_of_gt hlS⟩
       have hget:((s.heap.push (setObj w)).push { cls:=.type "list_iterator",data:=.fields #[.ref l,.int 0 0] }).get? s.heap.objs.size=some (setObj w):=Heap.get?_push_of_some _ hS
       refine bm0 ((Walks.list hh3 _ l hneI items).toS) s.heap.objs.size hSf val hi hb (items.size - 0) 0 _ #[] (by omega) (Nat.zero_le _) ⟨⟨_,Heap.get?_push_size _ rfl,rfl,rfl⟩,(hl1.push _)⟩ ?hS0 ?hK0 ?hR
       case hS0=>exact ⟨⟨_,0,_,hget,⟨rfl,rfl,rfl⟩,rfl,rfl,rfl,fun z=>absurd z (by simp)⟩,fun e he=>by simp at he,by decide⟩
       case hK0=>exact ⟨by simp [firstS],[],by simp [firstS],by simp⟩
       case hR =>
        intro s' es' hm hS' hK'
        obtain ⟨h',g',d',tk',os'⟩:=s'
        have eg:g'=s.gens:=hm.gens
        have ed:d'=s.drawn:=hm.drawn
        have eo:os'=s.os:=hm.os
        subst eg; subst ed; subst eo
        show wpAny _ _ _ _ _ _
        refine wpAny_pure ?_
        show wpAny _ _ (ret Value.none) _ _ _
        refine wpAny_pure ⟨rfl,h',tk',es',rfl,hS',hK',fun b o hb e=>?_⟩
        have hb1:b≠s.heap.objs.size:=Nat.ne_of_lt hb
        have hb2:b≠(s.heap.push (setObj w)).objs.size:=by
         rw [Heap.size_push]; exact Nat.ne_of_lt (Nat.lt_succ_of_lt hb)
        exact hm.heap b o (by simp only [List.mem_cons,List.not_mem_nil,or_false,not_or]; exact ⟨hb1,hb2⟩) (Heap.get?_push_of_some _ (Heap.get?_push_of_some _ e))
     · cases r2 with
       | error e=>exact hr2
       | ok fl2 =>
         cases fl2 with
         | ret r =>
           obtain ⟨rfl,h',tk,es,rfl,hS',hK',hk'⟩:=hr2
           repeat (any_goals (first | assumption | wp_step))
           exact h _ _ _ hS' hK' hk'
         | _=>exact hr2.elim
   | _=>exact hr.elim
end
theorem ai2 {α:Type}:∀ (xs:List α) (i:Nat) (h:i<xs.length),(xs[i]::xs.eraseIdx i).Perm xs
 | x::xs,0,_=>List.Perm.refl _
 | x::xs,i+1,h=>by
   have h':i<xs.length:=by simpa using h
   exact (List.Perm.swap x xs[i] (xs.eraseIdx i)).trans (List.Perm.cons x (ai2 xs i h'))
section
variable {M:Model}{A:Around}{E:Value→Shared→Prop}{s:Shared}
theorem bm2 {n:Nat}{Q:Nat→Shared→Prop}(hn:n≠0) (h:∀ i d,i<n→Q i { s with drawn:=d }):wpAny M A (choose .order n) Q E s:=fun Γ p _=>by
 show Sem.wp M Γ (.choose .order n .pure) _ _ p s
 rw [Sem.wp_choose]
 exact ⟨hn,h _ _ (Nat.mod_lt _ (Nat.pos_of_ne_zero hn))⟩
theorem at6 {α:Type}:∀ (n:Nat) (xs:List α) (s:Shared) {Q:List α→Shared→Prop},xs.length=n→(∀ l d,l.Perm xs→Q l { s with drawn:=d })→wpAny M A (drawOrder n xs) Q E s
 | 0,xs,s,Q,hl,h=>by
   cases List.length_eq_zero_iff.mp hl
   exact wpAny_pure (h [] s.drawn (List.Perm.refl _))
 | n+1,xs,s,Q,hl,h=>by
   obtain ⟨x,xs',rfl⟩:=List.exists_cons_of_length_eq_add_one hl
   show wpAny M A (choose .order (x::xs').length >>= _) Q E s
   refine wpAny_bind (bm2 (by simp) fun i d hi=>?_)
   rw [List.getElem?_eq_getElem hi]
   dsimp only
   refine wpAny_bind (at6 n _ _ (by rw [List.length_eraseIdx]; simp only [hi,if_true]; omega) fun l d' p=>?_)
   refine wpAny_pure (h _ d' ?_)
   exact (List.Perm.cons _ p).trans (ai2 _ i hi)
end
theorem slot_set_iterator_next:Slot "set_iterator" "__next__" "set_iterator.__next__" :=
 .of (owner:="set_iterator") (n:="__next__") (by rw [typeLookup_type,builtinLookup_eq_fast]; kernel_rfl) (by decide +kernel) (by decide +kernel) (by decide +kernel) (by first | exact .inl (by decide +kernel) | exact .inr (by decide +kernel)) (by rw [isSubtype_type]; kernel_rfl)
theorem a64:entryFor table "set_iterator.__next__"=some Builtin.«set_iterator.__next__»:=entryFor_of_tree (by kernel_rfl)
theorem al9:entryFor table "set.__iter__"=some Builtin.«frozenset.__iter__»:=entryFor_alias (id':="frozenset.__iter__") (by kernel_rfl) rfl (by decide +kernel) (by kernel_rfl)
theorem a71 (a:Value):argsOk "set_iterator.__next__" ⟨[a],[]⟩:=by
 unfold argsOk
 kernel_rfl
section
variable {prog:Program}{w:World}{A:Around}{E:Value→Shared→Prop}{s:Shared}{S it:Addr}{o:Obj}{es:Array (Int×Value)}{ep:Nat}{t:SetTable}
def Drw (w:World) (es:Array (Int×Value)) (t:SetTable):Bool:=!w.params.followText "set-order" && (!t.plain && decide (es.size > 1))
theorem bd0 {Q:Bool→Shared→Prop}(ho:s.heap.get? S=some o) (hd:o.data=.set es ep t) (hf:t.fits es.size=true) (h:Q (Drw w es t) s):wpAny (model prog w) A (setDrawn S) Q E s:=by
 unfold setDrawn
 refine wpAny_bind (wpAny_setState_of ho hd hf ?_)
 dsimp only
 unfold setsByText
 exact wpAny_bind (wpAny_bind (wpAny_askSetting (wpAny_pure (wpAny_pure h))))
def itObj (first:Value) (S:Addr) (i n ep:Nat):Obj:={ cls:=.type "set_iterator",data:=.fields #[first,.int i 0,.ref S,.int n 0,.int ep 0] }
def plObj (pl:List Nat):Obj:={ cls:=.type "tuple",data:=.seq (pl.map fun (i:Nat)=>rawInt i).toArray }
theorem bm3 {Q:Value→Shared→Prop}(ho:s.heap.get? S=some o) (hx:o.ExactSet) (hd:o.data=.set es ep t) (hf:t.fits es.size=true) (lt:es.size<scanBound)
 (qN:Drw w es t=false→Q (.ref s.heap.objs.size) { s with heap:=s.heap.push (itObj (rawInt 0) S 0 es.size ep) })
 (qD:Drw w es t=true→∀ (pl:List Nat) d,pl.Perm (List.range es.size)→Q (.ref (s.heap.push (plObj pl)).objs.size) { s with heap:=(s.heap.push (plObj pl)).push (itObj (.ref s.heap.objs.size) S 0 es.size ep),drawn:=d }) :
 wpAny (model prog w) A (pyIter (.ref S)) Q E s:=by
 have T:s.TypeIs (.ref S) "set":=⟨o,ho,hx.1⟩
 refine wpAny_pyIter_slot T F.slot_set_iter (wpAny_call_entry F.slot_set_iter T al9 ?_ (F.args_set_iter_1 _))
 unfold Builtin.«frozenset.__iter__» Builtin.Frozenset.slot0 slotArgs
 simp only [List.isEmpty_nil,Bool.not_true,Bool.false_eq_true,↓reduceIte,bind_assoc,List.length_nil,bne_self_eq_false]
 unfold Builtin.Frozenset.addrOf Builtin.Frozenset.sizeOf
 refine wpAny_bind (wpAny_pure ?_)
 try dsimp only
 refine wpAny_bind (wpAny_pure ?_)
 refine wpAny_bind (wpAny_bind (wpAny_setEntries_of ho hd hf (wpAny_pure ?_)))
 refine wpAny_bind (bd0 ho hd hf ?_)
 cases hD:Drw w es t with
 | false =>
   simp only [Bool.false_eq_true,if_false]
   refine wpAny_bind (wpAny_pure (wpAny_bind (wpAny_setEpoch_of ho hd hf ?_)))
   unfold newFields
   refine wpAny_bind (wpAny_newObj_type (wpAny_pure ⟨_,rfl,"set_iterator",_,⟨_,Heap.get?_push_size _ rfl,rfl⟩,slot_set_iterator_next.lookup,?_⟩) (by size_fits))
   exact qN hD
 | true =>
   simp only [if_true]
   refine wpAny_bind (at6 _ _ _ List.length_range fun pl d pp=>?_)
   unfold newTuple
   have ln:pl.length=es.size:=by rw [pp.length_eq,List.length_range]
   refine wpAny_bind (wpAny_newObj_type ?_ (by show (pl.map _).toArray.size≤_; rw [List.size_toArray,List.length_map,ln]; exact fits_of_scanBound lt))
   refine wpAny_bind (wpAny_setEpoch_of (Heap.get?_push_of_some _ ho) hd hf ?_)
   unfold newFields
   refine wpAny_bind (wpAny_newObj_type (wpAny_pure ⟨_,rfl,"set_iterator",_,⟨_,Heap.get?_push_size _ rfl,rfl⟩,slot_set_iterator_next.lookup,?_⟩) (by size_fits))
   exact qD hD pl d pp
end
section
variable {prog:Program}{w:World}{A:Around}{E:Value→Shared→Prop}{s:Shared}{S it tp:Addr}{o:Obj}{es:Array (Int×Value)}{ep i:Nat}{t:SetTable}{first:Value}
theorem bd1 {h:Heap}(hi:h.get? it=some (itObj first S i es.size ep)):(h.update it (Obj.mapFields (·.setIfInBounds 1 (rawInt ((i:Int)+1))))).get? it=some (itObj first S (i+1) es.size ep):=by
 have:=Heap.get?_update_self (Obj.mapFields (·.setIfInBounds 1 (rawInt ((i:Int)+1)))) hi rfl
 rw [this]
 rfl
theorem bq5 {pl:List Nat}{Q:Option (Array Value)→Shared→Prop}(ht:s.heap.get? tp=some (plObj pl)) (q:Q (some (pl.map fun (i:Nat)=>rawInt i).toArray) s):wpAny (model prog w) A (seqItems? (.ref tp)) Q E s:=wpAny_seqItems (n:=0) ht rfl q
theorem b64 {Q:Option Value→Shared→Prop}{pl:List Nat}{p:Nat}{e:Int×Value}(hi:s.heap.get? it=some (itObj (.ref tp) S i es.size ep)) (ht:s.heap.get? tp=some (plObj pl)) (ho:s.heap.get? S=some o) (hd:o.data=.set es ep t) (hf:t.fits es.size=true) (hp:pl[i]?=some p) (he:es[p]?=some e)
 (q:∀ h',h'.get? it=some (itObj (.ref tp) S (i+1) es.size ep)→Heap.SameBut it s.heap h'→Q (some e.2) { s with heap:=h' }):wpAny (model prog w) A (pyNext (.ref it)) Q E s:=by
 have T:s.TypeIs (.ref it) "set_iterator":=⟨_,hi,rfl⟩
 unfold pyNext
 refine wpAny_bind (wpAny_attempt (wpAny_callSpecial?_slot (name:=Str.ofString "__next__") T slot_set_iterator_next (wpAny_call_entry slot_set_iterator_next T a64 ?_ (a71 _))))
 unfold Builtin.«set_iterator.__next__» slotArgs
 simp only [List.isEmpty_nil,Bool.not_true,Bool.false_eq_true,↓reduceIte,bind_assoc,List.length_nil,bne_self_eq_false]
 refine wpAny_bind (wpAny_pure ?_)
 refine wpAny_bind (wpAny_fieldsOf hi rfl ?_)
 show wpAny _ A.in1 (setEntries S >>= _) _ _ s
 refine wpAny_bind (wpAny_setEntries_of ho hd hf ?_)
 rw [if_neg (by simp)]
 show wpAny _ A.in1 (seqItems? (.ref tp) >>= _) _ _ s
 refine wpAny_bind (bq5 ht ?_)
 dsimp only
 rw [show ((pl.map fun (i:Nat)=>rawInt i).toArray)[((i:Nat):Int).toNat]?=some (rawInt p) by rw [Int.toNat_natCast,List.getElem?_toArray,List.getElem?_map,hp]; rfl]
 show wpAny _ A.in1 (setNextDrawn S ((p:Nat):Int).toNat ((ep:Nat):Int).toNat >>= _) _ _ s
 unfold setNextDrawn
 refine wpAny_bind (wpAny_bind (wpAny_setState_of ho hd hf ?_))
 dsimp only
 rw [if_neg (by simp),Int.toNat_natCast,he]
 refine wpAny_pure ?_
 show wpAny _ A.in1 (setField (.ref it) 1 (rawInt ((i:Int)+1)) >>= _) _ _ s
 refine wpAny_bind (wpAny_setField hi rfl (by simp) ?_)
 exact wpAny_pure ⟨_,rfl,wpAny_pure (q _ (bd1 hi) (Heap.SameBut.update ..))⟩
theorem b03 {R:PySem.Fin→Shared→Prop}{E':Value→Shared→Prop}(hh:A.handled=none) (q:∀ h' e,(∀ b o,s.heap.get? b=some o→h'.get? b=some o)→Shared.TypeIs { s with heap:=h' } (.ref e) "StopIteration"→E' (.ref e) { s with heap:=h' }) :
 wpAny (model prog w) A (newExc (.type "StopIteration") [] >>= fun e=>(raiseNew e:Sem PySem.Fin)) R E' s:=by
 refine wpAny_bind ?_
 simp only [newExc,newTuple]
 refine wpAny_bind (wpAny_newObj_type ?_ (by size_fits))
 refine wpAny_bind (m:=firstArgMember _ _) (wpAny_of_eq (a:=Value.none) (by first | rfl | (simp only [firstArgMember]; rfl)) (wpAny_newObj_type ?_ (by size_fits)))
 simp only [raiseNew]
 refine wpAny_bind (wpAny_handled ?_)
 rw [hh]
 refine wpAny_bind ((wpAny_pure) ((wpAny_throw) ?_))
 exact q _ _ (fun b o e=>Heap.get?_push_of_some _ (Heap.get?_push_of_some _ e)) ⟨_,Heap.get?_push_size _ rfl,rfl⟩
theorem bd2 {Q:Option Value→Shared→Prop}{pl:List Nat}(hh:A.handled=none) (hi:s.heap.get? it=some (itObj (.ref tp) S i es.size ep)) (ht:s.heap.get? tp=some (plObj pl)) (ho:s.heap.get? S=some o) (hd:o.data=.set es ep t) (hf:t.fits es.size=true) (hp:pl[i]?=none)
 (q:∀ h',Heap.ExtBut it s.heap h'→Q none { s with heap:=h' }):wpAny (model prog w) A (pyNext (.ref it)) Q E s:=by
 have T:s.TypeIs (.ref it) "set_iterator":=⟨_,hi,rfl⟩
 unfold pyNext
 refine wpAny_bind (wpAny_attempt (wpAny_callSpecial?_slot (name:=Str.ofString "__next__") T slot_set_iterator_next (wpAny_call_entry slot_set_iterator_next T a64 ?_ (a71 _))))
 unfold Builtin.«set_iterator.__next__» slotArgs
 simp only [List.isEmpty_nil,Bool.not_true,Bool.false_eq_true,↓reduceIte,bind_assoc,List.length_nil,bne_self_eq_false]
 refine wpAny_bind (wpAny_pure (wpAny_bind (wpAny_fieldsOf hi rfl ?_)))
 show wpAny _ A.in1 (setEntries S >>= _) _ _ s
 refine wpAny_bind (wpAny_setEntries_of ho hd hf ?_)
 rw [if_neg (by simp)]
 show wpAny _ A.in1 (seqItems? (.ref tp) >>= _) _ _ s
 refine wpAny_bind (bq5 ht ?_)
 dsimp only
 rw [show ((pl.map fun (i:Nat)=>rawInt i).toArray)[((i:Nat):Int).toNat]?=none by rw [Int.toNat_natCast,List.getElem?_toArray,List.getElem?_map,hp]; rfl]
 show wpAny _ A.in1 (setField (.ref it) 0 (rawInt 0) >>= fun _=>setField (.ref it) 2 .none >>= fun _=>newExc (.type "StopIteration") [] >>= fun e=>raiseNew e) _ _ s
 refine wpAny_bind (wpAny_setField hi rfl (by simp) ?_)
 refine wpAny_bind (wpAny_setField (Heap.get?_update_self _ hi rfl) rfl (by simp) ?_)
 refine b03 hh fun h' e hk hT=>?_
 refine wpAny_bind (wpAny_isInstance (b:=true) (T:="StopIteration") hT isSubtype_stop ?_)
 refine wpAny_pure (q _ fun b ob hb e=>hk _ _ ?_)
 exact ((Heap.SameBut.update ..).trans (Heap.SameBut.update ..)).extBut b ob hb e
end
theorem aa9:Slot "set_iterator" "__iter__" "set_iterator.__iter__" :=
 .of (owner:="set_iterator") (n:="__iter__") (by rw [typeLookup_type,builtinLookup_eq_fast]; kernel_rfl) (by decide +kernel) (by decide +kernel) (by decide +kernel) (by first | exact .inl (by decide +kernel) | exact .inr (by decide +kernel)) (by rw [isSubtype_type]; kernel_rfl)
theorem ae1:entryFor table "set_iterator.__iter__"=some Builtin.«dict_keyiterator.__iter__»:=entryFor_alias (id':="dict_keyiterator.__iter__") (by kernel_rfl) rfl (by decide +kernel) (by kernel_rfl)
theorem ae6 (a:Value):argsOk "set_iterator.__iter__" ⟨[a],[]⟩:=by
 unfold argsOk
 kernel_rfl
theorem bd3 {α:Type}(nx:Nat→Nat):∀ (f k:Nat) (left:List α) (out:Array α),left.length≤f→(pickOrder.go nx f k left out).toList.Perm (out.toList++left)
 | 0,k,left,out,h=>by
   cases List.length_eq_zero_iff.mp (Nat.le_zero.mp h)
   simp [pickOrder.go]
 | f+1,k,left,out,h=>by
   rw [pickOrder.go]
   by_cases h0:left=[]
   · subst h0
     simp
   · have hl:0<left.length:=List.length_pos_iff.mpr h0
     have hi:nx k % left.length<left.length:=Nat.mod_lt _ hl
     rw [List.getElem?_eq_getElem hi]
     dsimp only
     refine (bd3 nx f (k+1) _ _ (by rw [List.length_eraseIdx]; simp only [hi,if_true]; omega)).trans ?_
     rw [Array.toList_push,List.append_assoc]
     exact List.Perm.append (List.Perm.refl _) (ai2 _ _ hi)
theorem ah3 {α:Type}(nx:Nat→Nat) (xs:Array α):(pickOrder nx xs).toList.Perm xs.toList:=by
 have:=bd3 nx xs.size 0 xs.toList #[] (by simp)
 simpa [pickOrder] using this
section
variable {prog:Program}{w:World}{A:Around}{E:Value→Shared→Prop}{s:Shared}{S it tp:Addr}{o:Obj}{es:Array (Int×Value)}{ep i:Nat}{t:SetTable}{first:Value}
theorem ap9 {Q:Value→Shared→Prop}(hi:s.heap.get? it=some (itObj first S i es.size ep)) (h:Q (.ref it) s):wpAny (model prog w) A (pyIter (.ref it)) Q E s:=by
 have T:s.TypeIs (.ref it) "set_iterator":=⟨_,hi,rfl⟩
 refine wpAny_pyIter_slot T aa9 (wpAny_call_entry aa9 T ae1 ?_ (ae6 _))
 show wpAny _ _ (ret (.ref it)) _ _ s
 exact wpAny_pure ⟨_,rfl,"set_iterator",_,T,slot_set_iterator_next.lookup,h⟩
theorem ao0 {Q:Option Value→Shared→Prop}{slot nxt:Nat}{x:Value}(hi:s.heap.get? it=some (itObj (rawInt slot) S i es.size ep)) (ho:s.heap.get? S=some o) (hd:o.data=.set es ep t) (hf:t.fits es.size=true)
 (hn:∀ {E':Value→Shared→Prop}{Q':Option (Value×Nat)→Shared→Prop},Q' (some (x,nxt)) s→wpAny (model prog w) A.in1 (setNext S slot i ep) Q' E' s)
 (q:∀ h',h'.get? it=some (itObj (rawInt nxt) S (i+1) es.size ep)→Heap.SameBut it s.heap h'→Q (some x) { s with heap:=h' }):wpAny (model prog w) A (pyNext (.ref it)) Q E s:=by
 have T:s.TypeIs (.ref it) "set_iterator":=⟨_,hi,rfl⟩
 unfold pyNext
 refine wpAny_bind (wpAny_attempt (wpAny_callSpecial?_slot (name:=Str.ofString "__next__") T slot_set_iterator_next (wpAny_call_entry slot_set_iterator_next T a64 ?_ (a71 _))))
 unfold Builtin.«set_iterator.__next__» slotArgs
 simp only [List.isEmpty_nil,Bool.not_true,Bool.false_eq_true,↓reduceIte,bind_assoc,List.length_nil,bne_self_eq_false]
 refine wpAny_bind (wpAny_pure (wpAny_bind (wpAny_fieldsOf hi rfl ?_)))
 show wpAny _ A.in1 (setEntries S >>= _) _ _ s
 refine wpAny_bind (wpAny_setEntries_of ho hd hf ?_)
 rw [if_neg (by simp)]
 show wpAny _ A.in1 (setNext S ((slot:Nat):Int).toNat ((i:Nat):Int).toNat ((ep:Nat):Int).toNat >>= _) _ _ s
 rw [Int.toNat_natCast,Int.toNat_natCast,Int.toNat_natCast]
 refine wpAny_bind (hn ?_)
 show wpAny _ A.in1 (setField (.ref it) 0 (rawInt ((nxt:Nat):Int)) >>= fun _=>setField (.ref it) 1 (rawInt ((i:Int)+1)) >>= fun _=>ret x) _ _ s
 refine wpAny_bind (wpAny_setField hi rfl (by simp) ?_)
 have h1:(s.heap.update it (Obj.mapFields (·.setIfInBounds 0 (rawInt ((nxt:Nat):Int))))).get? it=some (itObj (rawInt nxt) S i es.size ep):=by
  rw [Heap.get?_update_self _ hi rfl]
  rfl
 refine wpAny_bind (wpAny_setField h1 rfl (by simp) ?_)
 exact wpAny_pure ⟨_,rfl,wpAny_pure (q _ (bd1 h1) ((Heap.SameBut.update ..).trans (Heap.SameBut.update ..)))⟩
theorem at7 {Q:Option Value→Shared→Prop}{slot:Nat}(hh:A.handled=none) (hi:s.heap.get? it=some (itObj (rawInt slot) S i es.size ep)) (ho:s.heap.get? S=some o) (hd:o.data=.set es ep t) (hf:t.fits es.size=true)
 (hn:∀ {E':Value→Shared→Prop}{Q':Option (Value×Nat)→Shared→Prop},Q' none s→wpAny (model prog w) A.in1 (setNext S slot i ep) Q' E' s)
 (q:∀ h',Heap.ExtBut it s.heap h'→Q none { s with heap:=h' }):wpAny (model prog w) A (pyNext (.ref it)) Q E s:=by
 have T:s.TypeIs (.ref it) "set_iterator":=⟨_,hi,rfl⟩
 unfold pyNext
 refine wpAny_bind (wpAny_attempt (wpAny_callSpecial?_slot (name:=Str.ofString "__next__") T slot_set_iterator_next (wpAny_call_entry slot_set_iterator_next T a64 ?_ (a71 _))))
 unfold Builtin.«set_iterator.__next__» slotArgs
 simp only [List.isEmpty_nil,Bool.not_true,Bool.false_eq_true,↓reduceIte,bind_assoc,List.length_nil,bne_self_eq_false]
 refine wpAny_bind (wpAny_pure (wpAny_bind (wpAny_fieldsOf hi rfl ?_)))
 show wpAny _ A.in1 (setEntries S >>= _) _ _ s
 refine wpAny_bind (wpAny_setEntries_of ho hd hf ?_)
 rw [if_neg (by simp)]
 show wpAny _ A.in1 (setNext S ((slot:Nat):Int).toNat ((i:Nat):Int).toNat ((ep:Nat):Int).toNat >>= _) _ _ s
 rw [Int.toNat_natCast,Int.toNat_natCast,Int.toNat_natCast]
 refine wpAny_bind (hn ?_)
 show wpAny _ A.in1 (setField (.ref it) 2 .none >>= fun _=>newExc (.type "StopIteration") [] >>= fun e=>raiseNew e) _ _ s
 refine wpAny_bind (wpAny_setField hi rfl (by simp) ?_)
 refine b03 hh fun h' e hk hT=>?_
 refine wpAny_bind (wpAny_isInstance (b:=true) (T:="StopIteration") hT isSubtype_stop ?_)
 refine wpAny_pure (q _ fun b ob hb e=>hk _ _ ?_)
 exact (Heap.SameBut.update ..).extBut b ob hb e
theorem at8 {slot:Nat}{Q:Option (Value×Nat)→Shared→Prop}(ho:s.heap.get? S=some o) (hd:o.data=.set es ep t) (hf:t.fits es.size=true) (hb:w.params.followText "set-order"=true)
 (q:Q (((pickOrder (w.params.setOrder S ep) es)[i]?).map fun e=>(e.2,slot)) s):wpAny (model prog w) A (setNext S slot i ep) Q E s:=by
 unfold setNext
 refine wpAny_bind (wpAny_setState_of ho hd hf ?_)
 dsimp only
 unfold setsByText
 refine wpAny_bind (wpAny_bind (wpAny_askSetting (wpAny_pure ?_)))
 rw [show (model prog w).w.params.followText "set-order"=true from hb]
 simp only [if_true,bne_self_eq_false,Bool.false_eq_true,if_false]
 unfold setWalk
 refine wpAny_bind (wpAny_bind (wpAny_setState_of ho hd hf ?_))
 dsimp only
 unfold setsByText
 refine wpAny_bind (wpAny_bind (wpAny_askSetting (wpAny_pure ?_)))
 rw [show (model prog w).w.params.followText "set-order"=true from hb]
 simp only [if_true]
 refine wpAny_bind (wpAny_askSetting (wpAny_pure ?_))
 exact wpAny_pure q
end
theorem arr1 (a:Array Nat) (h:a.size=1):∃ j,a=#[j]:=by
 obtain ⟨l⟩:=a
 obtain ⟨j,r,rfl⟩:=List.exists_cons_of_length_eq_add_one (n:=0) h
 have e:r=[]:=by simpa using h
 exact ⟨j,by rw [e]⟩
theorem bd4 (j:Nat):SetTable.below #[j] 0=0∧SetTable.below #[j] (j+1)=1:=by
 constructor
 · simp [SetTable.below,SetTable.below.go]
 · simp [SetTable.below,SetTable.below.go]
section
variable {prog:Program}{w:World}{A:Around}{E:Value→Shared→Prop}{s:Shared}{S it tp:Addr}{o:Obj}{es:Array (Int×Value)}{ep i:Nat}{t:SetTable}{first:Value}
theorem b04 {slot:Nat}{Q:Option (Value×Nat)→Shared→Prop}(ho:s.heap.get? S=some o) (hd:o.data=.set es ep t) (hf:t.fits es.size=true) (hb:w.params.followText "set-order"=false) (h1:es.size≤1) (hl:t.led=true)
 (q:Q (match es[SetTable.below t.place slot]?,t.place[SetTable.below t.place slot]? with | some (_,x),some j=>some (x,j+1) | _,_=>none) s):wpAny (model prog w) A (setNext S slot i ep) Q E s:=by
 unfold setNext
 refine wpAny_bind (wpAny_setState_of ho hd hf ?_)
 dsimp only
 unfold setsByText
 refine wpAny_bind (wpAny_bind (wpAny_askSetting (wpAny_pure ?_)))
 rw [show (model prog w).w.params.followText "set-order"=false from hb]
 simp only [Bool.false_eq_true,if_false]
 refine wpAny_ite_split (fun z=>?_) fun _=>?_
 · have z':(!t.plain && decide (es.size > 1))=true:=z
   rw [Bool.and_eq_true,decide_eq_true_eq] at z'
   omega
 show wpAny _ _ ((if (!t.led && !es.isEmpty)=true then unsupported "set:maker-not-led" else pure ()) >>= _) _ _ s
 rw [hl]
 simp only [Bool.not_true,Bool.false_and,Bool.false_eq_true,if_false]
 exact wpAny_bind (wpAny_pure (wpAny_pure q))
theorem walkD (hh:A.handled=none) {pl:List Nat}(hn1:S≠it) (hn2:tp≠it) (hd:o.data=.set es ep t) (hf:t.fits es.size=true) (pp:pl.Perm (List.range es.size)) :
 Walks prog w A it [it,S,tp] [it] es.size (fun i v=>∃ e,(pl.map fun p=>es.getD p (0,.none))[i]?=some e∧v=e.2) (fun i h=>h.get? it=some (itObj (.ref tp) S i es.size ep)∧h.get? tp=some (plObj pl)∧h.get? S=some o) where
 sub:=fun b hb=>by simp at hb; simp [hb]
 frame:=fun _ _ _ st hk=>⟨hk it (by simp) _ st.1,hk tp (by simp) _ st.2.1,hk S (by simp) _ st.2.2⟩
 item:=fun i s Q E hi st hQ=>by
  have hl:pl.length=es.size:=by rw [pp.length_eq,List.length_range]
  have hp:pl[i]?=some (pl[i]'(by omega)):=List.getElem?_eq_getElem (by omega)
  have hm:pl[i]'(by omega)<es.size:=List.mem_range.mp (pp.mem_iff.mp (List.getElem_mem _))
  refine b64 st.1 st.2.1 st.2.2 hd hf hp (Array.getElem?_eq_getElem hm) fun h' h1 hs=>hQ _ h' s.toks ⟨_,by rw [List.getElem?_map,hp]; rfl,by simp [Array.getD,hm]⟩ ⟨h1,hs.extBut _ _ hn2 st.2.1,hs.extBut _ _ hn1 st.2.2⟩ fun b o hb e=>hs.extBut b o (fun z=>hb (by simp [z])) e
 done:=fun s Q E st hQ=>by
  have hl:pl.length=es.size:=by rw [pp.length_eq,List.length_range]
  exact bd2 hh st.1 st.2.1 st.2.2 hd hf (List.getElem?_eq_none (by omega)) fun h' he=>hQ h' s.toks fun b o hb e=>he b o (fun z=>hb (by simp [z])) e
 self:=fun _ _ _ _ st hQ=>ap9 st.1 hQ
theorem walkT (hh:A.handled=none) (hn1:S≠it) (hd:o.data=.set es ep t) (hf:t.fits es.size=true) (hb:w.params.followText "set-order"=true) :
 Walks prog w A it [it,S,S] [it] es.size (fun i v=>∃ e,((pickOrder (w.params.setOrder S ep) es).toList)[i]?=some e∧v=e.2) (fun i h=>h.get? it=some (itObj (rawInt ((0:Nat):Int)) S i es.size ep)∧h.get? S=some o) where
 sub:=fun b hb=>by simp at hb; simp [hb]
 frame:=fun _ _ _ st hk=>⟨hk it (by simp) _ st.1,hk S (by simp) _ st.2⟩
 item:=fun i s Q E hi st hQ=>by
  have hl:(pickOrder (w.params.setOrder S ep) es).size=es.size:=by
   have:=(ah3 (w.params.setOrder S ep) es).length_eq
   simpa using this
  have hg:(pickOrder (w.params.setOrder S ep) es)[i]?=some ((pickOrder (w.params.setOrder S ep) es)[i]'(by omega)):=Array.getElem?_eq_getElem _
  refine ao0 (slot:=0) (nxt:=0) (x:=((pickOrder (w.params.setOrder S ep) es)[i]'(by omega)).2) st.1 st.2 hd hf (fun q'=>at8 st.2 hd hf hb (by rw [hg]; exact q')) fun h' h1 hs=>hQ _ h' s.toks ⟨_,by rw [Array.getElem?_toList]; exact hg,rfl⟩ ⟨h1,hs.extBut _ _ hn1 st.2⟩ fun b o hb e=>hs.extBut b o (fun z=>hb (by simp [z])) e
 done:=fun s Q E st hQ=>by
  have hl:(pickOrder (w.params.setOrder S ep) es).size=es.size:=by
   have:=(ah3 (w.params.setOrder S ep) es).length_eq
   simpa using this
  exact at7 hh st.1 st.2 hd hf (fun q'=>at8 st.2 hd hf hb (by rw [Array.getElem?_eq_none (by omega)]; exact q')) fun h' he=>hQ h' s.toks fun b o hb e=>he b o (fun z=>hb (by simp [z])) e
 self:=fun _ _ _ _ st hQ=>ap9 st.1 hQ
theorem walkL (hh:A.handled=none) (hn1:S≠it) (hd:o.data=.set es ep t) (hf:t.fits es.size=true) (hb:w.params.followText "set-order"=false) (h1:es.size≤1) (hl:t.led=true) :
 Walks prog w A it [it,S,S] [it] es.size (fun i v=>∃ e,es.toList[i]?=some e∧v=e.2) (fun i h=>h.get? it=some (itObj (rawInt ((if i=0 then 0 else t.place.getD 0 0+1:Nat):Int)) S i es.size ep)∧h.get? S=some o) where
 sub:=fun b hb=>by simp at hb; simp [hb]
 frame:=fun _ _ _ st hk=>⟨hk it (by simp) _ st.1,hk S (by simp) _ st.2⟩
 item:=fun i s Q E hi st hQ=>by
  have e0:i=0:=by omega
  subst e0
  have sz:t.place.size=1:=by
   simp only [SetTable.fits,Bool.and_eq_true,beq_iff_eq] at hf
   omega
  obtain ⟨j,hj⟩:=arr1 _ sz
  have he:es[0]?=some (es[0]'(by omega)):=Array.getElem?_eq_getElem _
  refine ao0 (slot:=0) (nxt:=j+1) (x:=(es[0]'(by omega)).2) st.1 st.2 hd hf (fun q'=>b04 st.2 hd hf hb h1 hl (by rw [hj,(bd4 j).1,he]; exact q')) fun h' h1' hs=>hQ _ h' s.toks ⟨_,by rw [Array.getElem?_toList]; exact he,rfl⟩ ⟨by rw [if_neg (by omega),hj]; exact h1',hs.extBut _ _ hn1 st.2⟩ fun b o hb e=>hs.extBut b o (fun z=>hb (by simp [z])) e
 done:=fun s Q E st hQ=>by
  refine at7 hh st.1 st.2 hd hf (fun q'=>b04 st.2 hd hf hb h1 hl ?_) fun h' he=>hQ h' s.toks fun b o hb e=>he b o (fun z=>hb (by simp [z])) e
  by_cases h0:es.size=0
  · rw [Array.getElem?_eq_none (xs:=es) (by omega)]
    exact q'
  · have sz:t.place.size=1:=by
     simp only [SetTable.fits,Bool.and_eq_true,beq_iff_eq] at hf
     omega
    obtain ⟨j,hj⟩:=arr1 _ sz
    rw [if_neg h0,hj]
    rw [show (#[j]:Array Nat).getD 0 0=j from rfl,(bd4 j).2,Array.getElem?_eq_none (xs:=es) (by omega)]
    exact q'
 self:=fun _ _ _ _ st hQ=>ap9 st.1 hQ
end
section
variable {prog:Program}{w:World}{A:Around}{E:Value→Shared→Prop}{s:Shared}{S:Addr}{es:Array (Int×Value)}
theorem bm4 {Q:Bool→Shared→Prop}(hT:s.TypeIs (.ref S) "set") (h:Q false s):wpAny (model prog w) A (Builtin.List.listLengthHint (.ref S)) Q E s:=by
 unfold Builtin.List.listLengthHint
 refine wpAny_bind (wpAny_specialOf hT F.slot_set_len.lookup ?_)
 generalize hid:("set.__len__":String)=id0
 wp_delta
 rw [show splitId id0=some ("set","__len__") from by subst hid; decide +kernel]
 subst hid
 refine wpAny_bind (wpAny_isInstance (T:="set") (b:=true) hT (by rw [isSubtype_type]; kernel_rfl) ?_)
 refine wpAny_ite_split (fun hab=>absurd hab (by decide)) (fun _=>?_)
 refine wpAny_ite_split (fun _=>?_) (fun hab=>absurd (by decide +kernel) hab)
 refine wpAny_bind (wpAny_typeOf hT ?_)
 exact wpAny_pure h
theorem aq0 {R:Result→Shared→Prop}{I L:Addr}{fp:List Addr}{n c0:Nat}{P:Nat→Value→Prop}{St:Nat→Heap→Prop}{res:Value}{cnd:Bool}(W:Walks prog w A.in1 I fp [I] n P St) (hn:n≤sizeLine) (hLf:L∉fp) (hI:I∈fp) (hT:s.TypeIs (.ref S) "set") (hS:S∈fp)
 (st:St 0 s.heap) (hL:s.heap.get? L=some { cls:=.type "list",data:=.seq #[] c0 })
 (hR:∀ h' tk acc c',(∀ b o,b≠L→b≠I→s.heap.get? b=some o→h'.get? b=some o)→h'.get? L=some { cls:=.type "list",dict:=none,data:=.seq acc c',slots:=#[] }→ItemsOf P acc n→R (.ok (.ret res)) { s with heap:=h',toks:=tk }) :
 wpAny (model prog w) A.in1 (do
  let room←holding [.ref I] (Builtin.List.listLengthHint (.ref S))
  if (room || cnd)=true then do
   rule "list.extend.makes-room"
   Builtin.List.listTouch (.ref L)
   again (.builtin "list.extend.loop" ⟨[.ref L,.ref I,res],[]⟩)
   else again (.builtin "list.extend.loop" ⟨[.ref L,.ref I,res],[]⟩))
  (fun fin s'=>match fin with | .done f=>R (.ok f) s' | .again c'=>c'.quiet=true∧codeAny (model prog w) A c' R s') (fun e s'=>R (.error e) s') s:=by
 have key:∀ (h:Heap) (c1:Nat),St 0 h→(∀ b o,b≠L→s.heap.get? b=some o→h.get? b=some o)→h.get? L=some { cls:=.type "list",data:=.seq #[] c1 }→codeAny (model prog w) A (.builtin "list.extend.loop" ⟨[.ref L,.ref I,res],[]⟩) R { s with heap:=h }:=by
  intro h c1 hst hk hL1
  refine codeAny_extend_loopS W.toS hn L hLf res n 0 _ #[] c1 rfl (Nat.zero_le _) hst hL1 (ItemsOf.nil _) fun s' acc' c' hm hL' hacc=>?_
  rw [Moved.eq_with hm]
  refine hR s'.heap s'.toks acc' c' (fun b o hb hbI e=>hm.heap b o (fun z=>?_) (hk b o hb e)) hL' hacc
  rcases List.mem_cons.mp z with z | z
  · exact hb z
  · exact hbI (List.mem_singleton.mp z)
 refine wpAny_bind (wpAny_holding (bm4 hT ?_))
 refine wpAny_ite_split (fun _=>?_) (fun _=>wpAny_pure ⟨plainId_quiet PySem.F.plain_extend_loop _,key _ c0 st (fun b o _ e=>e) hL⟩)
 refine wpAny_bind (wpAny_rule (wpAny_bind ?_))
 show wpAny _ _ (updateSeq L (·.push .none) >>= fun _=>updateSeq L (·.pop)) _ _ _
 refine wpAny_bind (wpAny_updateSeq hL rfl ?_)
 have hL2:=Heap.get?_update_self (Obj.mapSeq (·.push Value.none)) hL rfl
 refine wpAny_updateSeq (hz:=by seq_fits) hL2 rfl ?_
 have hL3:=Heap.get?_update_self (Obj.mapSeq (·.pop)) hL2 rfl
 have hk:∀ b o,b≠L→s.heap.get? b=some o→((s.heap.update L (Obj.mapSeq (·.push Value.none))).update L (Obj.mapSeq (·.pop))).get? b=some o:=fun b o hb e=>(Heap.get?_update_other _ _ (Ne.symm hb)).trans ((Heap.get?_update_other _ _ (Ne.symm hb)).trans e)
 exact wpAny_pure ⟨plainId_quiet PySem.F.plain_extend_loop _,key _ _ (W.frame 0 _ _ st fun b hb o e=>hk b o (fun z=>hLf (z ▸ hb)) e) hk hL3⟩
theorem al0 {ord:List (Int×Value)}{acc:Array Value}{n:Nat}(h:ItemsOf (fun i v=>∃ e,ord[i]?=some e∧v=e.2) acc n) (hl:ord.length=n):acc.toList=ord.map (·.2):=by
 apply List.ext_getElem?
 intro j
 rw [List.getElem?_map]
 by_cases hj:j<n
 · have hj':j<acc.size:=by rw [h.1]; exact hj
   obtain ⟨e,h1,h2⟩:=h.2 j acc[j] (Array.getElem?_eq_getElem hj')
   rw [h1,Array.getElem?_toList,Array.getElem?_eq_getElem hj',h2]
   rfl
 · have:=h.1
   rw [Array.getElem?_toList,Array.getElem?_eq_none (by omega),List.getElem?_eq_none (by omega)]
   rfl
theorem b65 (es:Array (Int×Value)) (d:Int×Value):(List.range es.size).map (fun p=>es.getD p d)=es.toList:=by
 apply List.ext_getElem
 · simp
 · intro j h1 h2
   have hj:j<es.size:=by simpa using h2
   simp [Array.getD,hj]
theorem b66 {R:Result→Shared→Prop}{L:Addr}{c0:Nat}{res:Value}(hh:A.handled=none) (hS:SStr prog w s.heap S es) (hne:L≠S) (hL:s.heap.get? L=some { cls:=.type "list",data:=.seq #[] c0 })
 (hR:∀ h' tk d acc c',(∀ b o,b≠L→s.heap.get? b=some o→h'.get? b=some o)→h'.get? L=some { cls:=.type "list",dict:=none,data:=.seq acc c',slots:=#[] }→acc.toList.Perm (es.toList.map (·.2))→R (.ok (.ret res)) { s with heap:=h',toks:=tk,drawn:=d }) :
 wpAny (model prog w) A.in1 (Builtin.List.listExtendWith (.ref L) (.ref S) res)
  (fun fin s'=>match fin with | .done f=>R (.ok f) s' | .again c'=>c'.quiet=true∧codeAny (model prog w) A c' R s') (fun e s'=>R (.error e) s') s:=by
 obtain ⟨⟨o,ep,t,ho,hx,hd,hf,hl,hp⟩,hel,hlt⟩:=hS
 have T:s.TypeIs (.ref S) "set":=⟨o,ho,hx.1⟩
 have hn:es.size≤sizeLine:=fits_of_scanBound hlt
 have lS:=Heap.lt_size ho
 have lL:=Heap.lt_size hL
 have hh1:A.in1.handled=none:=hh
 unfold Builtin.List.listExtendWith
 refine wpAny_bind (wpAny_typeOf (T:="set") T ?_)
 have h1:Builtin.List.listSameRef (.ref L) (.ref S)=false:=by simp [Builtin.List.listSameRef,hne]
 simp only [h1,show (Value.type "set" == Value.type "list")=false by decide,show (Value.type "set" == Value.type "tuple")=false by decide,Bool.or_false,Bool.false_eq_true,if_false]
 refine wpAny_bind (bm3 ho hx hd hf hlt (fun hD=>?_) (fun hD pl d pp=>?_))
 · have nf:L∉[s.heap.objs.size,S,S]:=by
    simp only [List.mem_cons,List.not_mem_nil,or_false,not_or]
    exact ⟨Nat.ne_of_lt lL,hne,hne⟩
   have T1:Shared.TypeIs { s with heap:=s.heap.push (itObj (rawInt 0) S 0 es.size ep) } (.ref S) "set":=⟨o,Heap.get?_push_of_some _ ho,hx.1⟩
   by_cases hb:w.params.followText "set-order"=true
   · refine aq0 (walkT hh1 (Nat.ne_of_lt lS) hd hf hb) hn nf (by simp) T1 (by simp) ⟨Heap.get?_push_size _ rfl,Heap.get?_push_of_some _ ho⟩ (Heap.get?_push_of_some _ hL) fun h' tk acc c' hk hL' hit=>?_
     have pl:=(ah3 (w.params.setOrder S ep) es).length_eq
     refine hR h' tk s.drawn acc c' (fun b o hb e=>hk b o hb (Nat.ne_of_lt (Heap.lt_size e)) (Heap.get?_push_of_some _ e)) hL' ?_
     rw [al0 hit (by simpa using pl)]
     exact (ah3 _ _).map _
   · have hb':w.params.followText "set-order"=false:=by simpa using hb
     have h1':es.size≤1:=by
      by_cases h0:es.size≤1
      · exact h0
      · have:=hp (by omega)
        unfold Drw at hD
        rw [hb',this] at hD
        simp at hD
        omega
     refine aq0 (walkL hh1 (Nat.ne_of_lt lS) hd hf hb' h1' (by rw [hl,hb']; rfl)) hn nf (by simp) T1 (by simp) ⟨Heap.get?_push_size _ rfl,Heap.get?_push_of_some _ ho⟩ (Heap.get?_push_of_some _ hL) fun h' tk acc c' hk hL' hit=>?_
     refine hR h' tk s.drawn acc c' (fun b o hb e=>hk b o hb (Nat.ne_of_lt (Heap.lt_size e)) (Heap.get?_push_of_some _ e)) hL' ?_
     rw [al0 hit (by simp)]
 · have gt:∀ b:Addr,b<s.heap.objs.size→b≠(s.heap.push (plObj pl)).objs.size:=fun b z=>by
    rw [Heap.size_push]
    exact Nat.ne_of_lt (Nat.lt_succ_of_lt z)
   have gt2:s.heap.objs.size≠(s.heap.push (plObj pl)).objs.size:=by
    rw [Heap.size_push]
    exact Nat.ne_of_lt (Nat.lt_succ_self _)
   have nf:L∉[(s.heap.push (plObj pl)).objs.size,S,s.heap.objs.size]:=by
    simp only [List.mem_cons,List.not_mem_nil,or_false,not_or]
    exact ⟨gt L lL,hne,Nat.ne_of_lt lL⟩
   have up:∀ b ob,s.heap.get? b=some ob→((s.heap.push (plObj pl)).push (itObj (.ref s.heap.objs.size) S 0 es.size ep)).get? b=some ob:=fun b ob e=>Heap.get?_push_of_some _ (Heap.get?_push_of_some _ e)
   refine aq0 (s:={ s with heap:=(s.heap.push (plObj pl)).push (itObj (.ref s.heap.objs.size) S 0 es.size ep),drawn:=d }) (walkD hh1 (gt S lS) gt2 hd hf pp) hn nf (by simp) ⟨o,up _ _ ho,hx.1⟩ (by simp) ⟨Heap.get?_push_size _ rfl,Heap.get?_push_of_some _ (Heap.get?_push_size _ rfl),up _ _ ho⟩ (up _ _ hL) fun h' tk acc c' hk hL' hit=>?_
   have ln:pl.length=es.size:=by rw [pp.length_eq,List.length_range]
   refine hR h' tk d acc c' (fun b o hb e=>hk b o hb (gt b (Heap.lt_size e)) (up _ _ e)) hL' ?_
   rw [al0 hit (by simpa using ln),←b65 es (0,.none)]
   exact (pp.map _).map _
end
section
variable {prog:Program}{w:World}{A:Around}{E:Value→Shared→Prop}{s:Shared}{S:Addr}{es:Array (Int×Value)}
theorem ax4 {R:List Value→Shared→Prop}(hh:A.handled=none) (hS:SStr prog w s.heap S es)
 (h:∀ (h':Heap) (tk:Nat) (d:Drawn) (acc:Array Value),(∀ b o,s.heap.get? b=some o→h'.get? b=some o)→s.heap.objs.size<h'.objs.size→acc.toList.Perm (es.toList.map (·.2))→R acc.toList { s with heap:=h',toks:=tk,drawn:=d }) :
 wpAny (model prog w) A (collect (.ref S)) R E s:=by
 obtain ⟨o,ep,t,ho,_⟩:=hS.ex
 have lS:=Heap.lt_size ho
 unfold collect
 refine wpAny_bind (wpAny_runValue (codeAny_builtin entry_proto_collect' ?_))
 rw [Around.under_plainId PySem.F.plain_proto_collect _]
 show wpAny _ A.in1 (newList [] >>= fun l=>again (.builtin "list.__iadd__" ⟨[l,.ref S],[]⟩)) _ _ s
 refine wpAny_bind (wpAny_newObj_type (wpAny_pure ⟨plainId_quiet PySem.F.plain_list_iadd _,codeAny_builtin entry_list_iadd' ?_⟩))
 rw [Around.under_plainId PySem.F.plain_list_iadd _]
 have hL:(s.heap.push { cls:=.type "list",data:=.seq ([]:List Value).toArray }).get? s.heap.objs.size=some { cls:=.type "list",data:=.seq #[] }:=Heap.get?_push_size _ rfl
 show wpAny _ A.in1 (Builtin.List.listExtendWith (.ref s.heap.objs.size) (.ref S) (.ref s.heap.objs.size)) _ _ _
 have key:=b66 (A:=A) (s:={ s with heap:=s.heap.push { cls:=.type "list",data:=.seq ([]:List Value).toArray } }) (L:=s.heap.objs.size) (c0:=0) (res:=.ref s.heap.objs.size) (es:=es) (S:=S) (w:=w) (prog:=prog)
  (R:=fun (q:Result) (s':Shared)=>∃ (h':Heap) (tk:Nat) (d:Drawn) (acc:Array Value) (c':Nat),q=.ok (.ret (.ref s.heap.objs.size))∧s'={ s with heap:=h',toks:=tk,drawn:=d }∧(∀ b o,s.heap.get? b=some o→h'.get? b=some o)∧h'.get? s.heap.objs.size=some { cls:=.type "list",dict:=none,data:=.seq acc c',slots:=#[] }∧acc.toList.Perm (es.toList.map (·.2)))
  hh (hS.moved fun o e=>Heap.get?_push_of_some _ e) (Nat.ne_of_gt lS) hL
  (fun h' tk d acc c' hk hL' hp=>⟨h',tk,d,acc,c',rfl,rfl,fun b o e=>hk b o (Nat.ne_of_lt (Heap.lt_size e)) (Heap.get?_push_of_some _ e),hL',hp⟩)
 refine wpAny_mono key (fun fin s' x=>?_) fun e s' x=>?_
 · cases fin with
   | done f =>
     obtain ⟨h',tk,d,acc,c',e,rfl,hk,hL',hp⟩:=x
     cases e
     show wpAny _ A (load s.heap.objs.size >>= _) _ _ _
     exact wpAny_bind (wpAny_load hL' (wpAny_pure (h h' tk d acc hk (Heap.lt_size hL') hp)))
   | again c1 =>
     refine ⟨x.1,codeAny_mono x.2 fun q s2 y=>?_⟩
     obtain ⟨h',tk,d,acc,c',rfl,rfl,hk,hL',hp⟩:=y
     show wpAny _ A (load s.heap.objs.size >>= _) _ _ _
     exact wpAny_bind (wpAny_load hL' (wpAny_pure (h h' tk d acc hk (Heap.lt_size hL') hp)))
 · obtain ⟨_,_,_,_,_,e',_⟩:=x
   cases e'
theorem ax5 {α β:Type}{f:α→β}{xs ys:List β}(h:xs.Perm ys):∀ l:List α,ys=l.map f→∃ l':List α,l'.Perm l∧xs=l'.map f:=by
 induction h with
 | nil =>
   intro l hl
   exact ⟨l,List.Perm.refl _,hl⟩
 | cons x _ ih =>
   intro l hl
   cases l with
   | nil=>simp at hl
   | cons y l =>
     rw [List.map_cons,List.cons.injEq] at hl
     obtain ⟨l',p,e⟩:=ih l hl.2
     exact ⟨y::l',p.cons y,by rw [List.map_cons,←hl.1,e]⟩
 | swap x y zs =>
   intro l hl
   match l,hl with
   | a::b::l,hl =>
     rw [List.map_cons,List.map_cons,List.cons.injEq,List.cons.injEq] at hl
     exact ⟨b::a::l,List.Perm.swap _ _ _,by rw [List.map_cons,List.map_cons,←hl.1,←hl.2.1,hl.2.2]⟩
 | trans _ _ ih1 ih2 =>
   intro l hl
   obtain ⟨l2,p2,e2⟩:=ih2 l hl
   obtain ⟨l1,p1,e1⟩:=ih1 l2 e2
   exact ⟨l1,p1.trans p2,e1⟩
theorem strs_of:∀ {l:List (Str×Tok)}{vs:List Value},vs=l.map (fun x=>(entS w x).2)→StrsAre vs (l.map (·.1))
 | [],_,rfl=>.nil
 | x::l,_,rfl=>.cons x.1 x.2 (strs_of rfl)
theorem b67 {ks:List Str}{Q:Value→Shared→Prop}(hh:A.handled=none) (hS:SStr prog w s.heap S es) (hK:KsOf w es ks) (h64:ks.length<64)
 (h:∀ (D:Addr) (h':Heap) (tk:Nat) (d:Drawn) (vs:List Value) (ss:List Str) (e:Nat),(∀ b o,s.heap.get? b=some o→h'.get? b=some o)→s.heap.objs.size≤D→h'.get? D=some (seqObj "list" vs.toArray e)→StrsAre vs ss→ss.Perm ks→sortedS ss=true→Q (.ref D) { s with heap:=h',toks:=tk,drawn:=d }) :
 wpAny (model prog w) A (call (.builtin "sorted") [.ref S]) Q E s:=by
 refine Calls.call_function_entry kind_sorted plain_sorted entry_sorted (args_sorted1 _) ?_
 unfold Builtin.«sorted»
 refine wpAny_bind (m:=checkCount "sorted" 1 1 _) (wpAny_pure ?_)
 refine wpAny_bind (ax4 hh hS fun h' tk d acc hk hsz hp=>?_)
 obtain ⟨nd,l,rfl,pp⟩:=hK
 have p2:acc.toList.Perm (l.map fun x=>(entS w x).2):=hp.trans (by have:=pp.map (·.2); rw [List.map_map] at this; exact this)
 have ln:acc.toList.length=l.length:=by rw [p2.length_eq,List.length_map]
 have hl64:acc.toList.length<64:=by rw [ln]; simpa using h64
 obtain ⟨l',p3,e3⟩:=ax5 p2 l rfl
 have hst:=strs_of (w:=w) e3
 refine wpAny_bind (wpAny_newList ?_ (by have:64≤sizeLine:=le_line (by decide); omega))
 have hD:(h'.push (seqObj "list" acc.toList.toArray 0)).get? h'.objs.size=some (seqObj "list" acc.toList.toArray 0):=Heap.get?_push_size _ rfl
 show wpAny _ _ _ _ _ { s with heap:=h'.push (seqObj "list" acc.toList.toArray 0),toks:=tk,drawn:=d }
 refine wpAny_bind (wpAny_holding (wpAny_call_entry PyProof.Rows.slot_list_sort ⟨_,hD,rfl⟩ PyProof.Rows.entry_list_sort (list_sort_treeK strKind_oneLt hD hst.keysOf (fun v1 v2 rest e=>keyKind_strs (by rw [← e]; exact hst)) hl64 fun st' a1 a2=>⟨_,rfl,?_⟩) (args_list_sort _)))
 obtain ⟨ss',b1,b2,b3⟩:=sorted_out_str hst a1 a2
 obtain ⟨e,he⟩:=sortedHeap_at (h:=h'.push (seqObj "list" acc.toList.toArray 0)) (a:=h'.objs.size) (vs:=acc.toList) (out:=(arrOf st').map (·.2)) (n:=0) hD
 have lt:∀ b o,s.heap.get? b=some o→b<h'.objs.size:=fun b o e=>Heap.lt_size (hk b o e)
 refine wpAny_pure ⟨_,rfl,h h'.objs.size _ tk d ((arrOf st').map (·.2)).toList ss' e (fun b o e=>?_) ?_ (by rw [Array.toArray_toList]; exact he) b1 (b2.trans (p3.map _)) b3⟩
 · have:=lt b o e
   rw [sortedHeap_old (Nat.ne_of_lt this) (by rw [size_push']; exact Nat.lt_succ_of_lt this)]
   exact Heap.get?_push_of_some _ (hk b o e)
 · exact Nat.le_of_lt hsz
end
theorem Inv.drw {X:Cx}{pins:List (Addr×Obj)}{σ:List (Option V)} {H:Hp}{s:Shared}(I:Inv X pins σ H s) (d:Drawn):Inv X pins σ H { s with drawn:=d }:=⟨I.ok,I.os,I.bare,I.base,I.loc,I.cell,I.free,I.freeC,I.pin,I.hok,I.len⟩
def setφ (P:Program) (w:World) (p:Addr) (ks:List Str):Heap→Prop:=fun h=>∃ es,SStr P w h p es∧KsOf w es ks
def SetAt (P:Program) (w:World) (H:Hp) (p:Addr) (ks:List Str):Prop:=H p=some (.ext (setφ P w p ks))
def rSetS (K:PySem.W.Frag) (P:Program) (w:World):List V→Hp→VK→Prop:=fun vs H Q=>∃ a ss,vs=[V.ref a]∧SqL K H a (strsV ss)∧ss.length+1<4096∧∀ p H' ks,H p=none→Same H H'→SetAt P w H' p ks→ks.Nodup→(∀ x,x∈ks↔x∈ss)→Q (.ref p) H'
def rSortS (P:Program) (w:World):List V→Hp→VK→Prop:=fun vs H Q=>∃ p ks,vs=[V.ref p]∧SetAt P w H p ks∧ks.length<64∧∀ q out H',H q=none→Same H H'→H' q=some (.lst (strsV out))→out.Perm ks→sortedS out=true→Q (.ref q) H'
theorem ao1:∀ {ss:List Str}{us:List Value},Vals (strsV ss) us→∀ (i:Nat) (v:Value),us[i]?=some v→∃ t,v=Value.str (ss.getD i ⟨#[]⟩) t
 | [],us,h,i,v,e=>by
   cases h
   simp at e
 | x::ss,us,h,i,v,e=>by
   cases h with
   | cons h1 h2 =>
     obtain ⟨t,rfl⟩:=h1
     cases i with
     | zero =>
       simp at e
       exact ⟨t,by rw [← e]; rfl⟩
     | succ i=>exact ao1 h2 i v (by simpa using e)
theorem at9:∀ {vs:List Value}{ss:List Str},StrsAre vs ss→Vals (strsV ss) vs
 | _,_,.nil=>.nil
 | _,_,.cons y t h=>.cons ⟨t,rfl⟩ (at9 h)
theorem bd5 (ss:List Str) (x:Str):x∈firstS (fun i=>ss.getD i ⟨#[]⟩) ss.length↔x∈ss:=by
 rw [am8]
 constructor
 · rintro ⟨j,hj,rfl⟩
   rw [List.getD_eq_getElem?_getD,List.getElem?_eq_getElem hj]
   exact List.getElem_mem hj
 · intro hx
   obtain ⟨j,hj,rfl⟩:=List.mem_iff_getElem.mp hx
   exact ⟨j,hj,by rw [List.getD_eq_getElem?_getD,List.getElem?_eq_getElem hj]; rfl⟩
theorem al1 (val:Nat→Str):∀ i,(firstS val i).Nodup
 | 0=>by simp [firstS]
 | i+1=>by
   rw [ae0]
   unfold metS
   split
   · exact al1 val i
   · next h =>
     refine List.nodup_append.mpr ⟨al1 val i,by simp,fun a ha b hb z=>?_⟩
     rw [List.mem_singleton.mp hb] at z
     exact h (z ▸ ha)
section
variable {X:Cx}{P:Program}{w:World}
theorem bw2 (K:PySem.W.Frag) (hP:X.prog=P) (hw:X.w=w) (hc:X.calm=true) (hK:X.K=K:=by rfl):CallR X (.type "set") (rSetS K P w):=by
 subst hP hw hK
 intro pins s σ H xs us Q I r h
 obtain ⟨a,ss,rfl,hS,hl,q⟩:=h
 cases r with
 | cons r1 r2 =>
 cases r2
 cases r1
 obtain ⟨its,v1,p1,z⟩:=I.list hS
 have hlen:its.length=ss.length:=by
  have:=v1.length
  simpa [strsV] using this.symm
 have hb:its.toArray.size+1<scanBound:=by
  rw [List.size_toArray,hlen]
  exact hl
 refine ap8 (I.ok.hd hc) p1.isList (val:=fun i=>ss.getD i ⟨#[]⟩) (fun i v e=>ao1 v1 i v (by rw [List.getElem?_toArray] at e; exact e)) hb fun h' tk es hs hk keep=>?_
 rw [List.size_toArray,hlen] at hk
 have kp:∀ b u,s.heap.get? b=some u→h'.get? b=some u:=fun b u e=>keep b u (Heap.lt_size e) e
 have hp:=I.hok.fresh (Nat.le_refl s.heap.objs.size)
 obtain ⟨o,ep,t,ho,_⟩:=hs.ex
 have I2:=I.laid (h':=h') (t':=tk) (a:=s.heap.objs.size) (o:=.ext (setφ X.prog X.w s.heap.objs.size (firstS (fun i=>ss.getD i ⟨#[]⟩) ss.length))) kp (Nat.le_refl _) ⟨⟨es,hs,hk⟩,⟨o,ho⟩,fun h1 h2 ⟨es',a1,a2⟩ z=>⟨es',a1.moved z,a2⟩⟩
 exact ⟨.ref s.heap.objs.size,_,I2,rfl,q _ _ _ hp (Same.new hp) a34 (al1 _ _) (bd5 ss)⟩
theorem bm5 (hP:X.prog=P) (hw:X.w=w) (hc:X.calm=true):CallR X (.builtin "sorted") (rSortS P w):=by
 subst hP hw
 intro pins s σ H xs us Q I r h
 obtain ⟨p,ks,rfl,hS,h64,q⟩:=h
 cases r with
 | cons r1 r2 =>
 cases r2
 cases r1
 obtain ⟨⟨es,hs,hk⟩,_⟩:=(show ObjOk X.prog X.w H s.heap p (.ext (setφ X.prog X.w p ks)) from I.hok p _ hS)
 refine b67 (I.ok.hd hc) hs hk h64 fun D h' tk d vs ss e kp hD hl hv pm so=>?_
 have hp:=I.hok.fresh hD
 have ln:ss.length=ks.length:=pm.length_eq
 have I2:=(I.drw d).laid (h':=h') (t':=tk) (a:=D) (o:=.lst (strsV ss)) kp hD ⟨by simp [strsV]; exact Nat.le_trans (by omega) (le_line (show 64≤1000000 by decide)),vs,e,at9 hv,hl⟩
 exact ⟨.ref D,_,I2,rfl,q D ss _ hp (Same.new hp) a34 pm so⟩
end
section
variable {X:Cx}
end
section
variable {rs:List RRoom}{many:Nat}{p:Pr}
variable {N k:Nat}{dv:Pr→Option Nat}
end
section
variable {prog:Program}{w:World}{A:Around}{E:Value→Shared→Prop}{s:Shared}
end
section
variable {X:Cx}{P:Params}
end
section
variable {prog:Program}{w:World}{A:Around}{R:Result→Shared→Prop}{J:Addr}{fp wr:List Addr}{n:Nat}{P:Nat→Value→Prop}{St:Nat→Heap→Prop}
end
section
variable {prog:Program}{w:World}{A:Around}{E:Value→Shared→Prop}{s:Shared}
end
section
variable {X:Cx}{e d:Expr}{t tk:TA}{p kp pos:Pos}
end
section
variable {X:Cx}
end
def bd6 (C1 C2:Addr) (m:Str) (sp1 sp2:Sp) (ta:TE) (t:TA):TE:=fun σ H Q=>ta σ H fun x H1=>∃ a C dx fs sp,x=.ref a∧H1 a=some (.ins C dx fs)∧fs.lookup m=none∧((C=C1∧sp=sp1)∨(C=C2∧sp=sp2))∧t σ H1 fun vs H2=>sp (x::(vs++[])) H2 Q E0
section
variable {X:Cx}{k k':Nat}{f f' C C':Addr}{fd fd':FuncData}{ps ps':List Str}{sp sp':Sp}{m:Str}{pos apos:Pos}{e o:Expr}{es:List Expr}{ta:TE}{t:TA}
theorem bm6 {pl:Sem Bool}(he:PE X o ta) (c:Cls X.K C) (hm:Meth X.K C m f) (F:FnOk X.prog X.w X.K X.mg X.base CX0 k f fd ps sp) (hr:Room k X.A) (hb:Binds X.K fd ps []) (c':Cls X.K C') (hm':Meth X.K C' m f') (F':FnOk X.prog X.w X.K X.mg X.base CX0 k' f' fd' ps' sp') (hr':Room k' X.A) (hb':Binds X.K fd' ps' []) (ha:PA X (e::es) t)
 (hst:starEach (e::es) X.env=(false,eval e X.env)::starEach es X.env:=by rfl) (hpl:(backTo pos (starEach es X.env)).any (·.1)=false:=by rfl)
 (ht:eval (.Call (.Attribute o m apos) (e::es) [] pos) X.env=(do
  let ov←eval o X.env
  standAt apos.atName
  let (f,first)←holding [ov] (getMethod ov m pl)
  callWith pos f first (backTo pos (starEach (e::es) X.env)) (backToKw pos (keywordEach [] X.env))):=by rfl) :
 PE X (.Call (.Attribute o m apos) (e::es) [] pos) (bd6 C C' m sp sp' ta t):=by
 intro pins s σ H Q I h
 refine PySem.W.methodCall_KW (pl:=pl) (thn (he pins s σ H _ I h) fun u s1 ⟨x,H1,I1,rx,a,D,dx,fs,sq,ex,ea,l,hD,q⟩=>?_) ht
 subst ex
 obtain rfl:u=Value.ref a:=rx
 rcases hD with ⟨rfl,rfl⟩ | ⟨rfl,rfl⟩
 · refine ac0 I1 ea c hm l ?_
   refine PySem.W.callWith_K (first:=[.ref a]) (h₀:=X.base) I.ok.mod.kin hm.kp (thn (ha pos pins s1 σ H1 _ I1 q) fun us s2 ⟨vs,H2,I2,r,q2⟩=>⟨I2.kIn,?_⟩) hst hpl
   exact ak4 (us:=.ref a::us) (vs:=.ref a::vs) (dvs:=[]) F hr hb .nil a52 I2 (.cons rfl r) q2
 · refine ac0 I1 ea c' hm' l ?_
   refine PySem.W.callWith_K (first:=[.ref a]) (h₀:=X.base) I.ok.mod.kin hm'.kp (thn (ha pos pins s1 σ H1 _ I1 q) fun us s2 ⟨vs,H2,I2,r,q2⟩=>⟨I2.kIn,?_⟩) hst hpl
   exact ak4 (us:=.ref a::us) (vs:=.ref a::vs) (dvs:=[]) F' hr' hb' .nil a52 I2 (.cons rfl r) q2
theorem bd7 {pl:Sem Bool}(he:PE X o ta) (c:Cls X.K C) (hm:Meth X.K C m f) (F:FnOk X.prog X.w X.K X.mg X.base CX0 k f fd ps sp) (hr:Room k X.A) (hb:Binds X.K fd ps []) (c':Cls X.K C') (hm':Meth X.K C' m f') (F':FnOk X.prog X.w X.K X.mg X.base CX0 k' f' fd' ps' sp') (hr':Room k' X.A) (hb':Binds X.K fd' ps' [])
 (ht:eval (.Call (.Attribute o m apos) [] [] pos) X.env=(do
  let ov←eval o X.env
  standAt apos.atName
  let (f,first)←holding [ov] (getMethod ov m pl)
  callWith pos f first (backTo pos (starEach [] X.env)) (backToKw pos (keywordEach [] X.env))):=by rfl) :
 PE X (.Call (.Attribute o m apos) [] [] pos) (bd6 C C' m sp sp' ta tNil):=by
 intro pins s σ H Q I h
 refine PySem.W.methodCall_KW (pl:=pl) (thn (he pins s σ H _ I h) fun u s1 ⟨x,H1,I1,rx,a,D,dx,fs,sq,ex,ea,l,hD,q⟩=>?_) ht
 subst ex
 obtain rfl:u=Value.ref a:=rx
 rcases hD with ⟨rfl,rfl⟩ | ⟨rfl,rfl⟩
 · refine ac0 I1 ea c hm l ?_
   exact PySem.W.callWith_K0 (first:=[.ref a]) I1.kIn hm.kp (ak4 (us:=[.ref a]) (vs:=[.ref a]) (dvs:=[]) F hr hb .nil a52 I1 (.cons rfl .nil) q)
 · refine ac0 I1 ea c' hm' l ?_
   exact PySem.W.callWith_K0 (first:=[.ref a]) I1.kIn hm'.kp (ak4 (us:=[.ref a]) (vs:=[.ref a]) (dvs:=[]) F' hr' hb' .nil a52 I1 (.cons rfl .nil) q)
end
section
variable {σ:St} {H:Hp}{Q:VK}{ta:TE}{t:TA}{m:Str}{C1 C2:Addr}{sp1 sp2:Sp}
theorem bw3 (h:ta σ H fun x H1=>∃ a C dx fs sp,x=.ref a∧H1 a=some (.ins C dx fs)∧fs.lookup m=none∧((C=C1∧sp=sp1)∨(C=C2∧sp=sp2))∧t σ H1 fun vs H2=>sp (x::(vs++[])) H2 Q E0):bd6 C1 C2 m sp1 sp2 ta t σ H Q:=h
end
def ItrC (lo c:Int) (n:Nat):It:=⟨fun i _=>i<n,fun i H x H'=>H'=H∧x=.int (lo+i*c),fun i _=>n≤i⟩
theorem ax6 {P:Program}{w:World}{K:PySem.W.Frag}{tg:Expr}(it:Addr) (lo c:Int) (n:Nat):Turn P w K tg (ItrC lo c n) [it] it (fun i h=>IsRangeIter h it (lo+(i:Nat)*c) ((n:Int) - (i:Nat)) c) where
 mem:=by simp
 obj:=fun i h st b hb=>by
  have e:b=it:=by simpa using hb
  subst e
  exact ⟨_,st,fun v z=>by
   have z':Data.fields _=Data.cell v:=z
   cases z'⟩
 keep:=fun i h h' st k=>k it (by simp) _ st
 item:=by
  intro X hP hw hK hc i pins s σ H E I hf st hg
  subst hP hw hK
  obtain ⟨f0,f1,f2,f3,f4,f5⟩:=hf it (by simp)
  have W:=Walks.range (prog:=X.prog) (w:=X.w) (I.ok.hd hc) it lo c n
  refine W.item i s _ _ hg st fun v h' tk hv st' kk=>?_
  obtain ⟨t,rfl⟩:=hv
  have I1:Inv X pins σ H { s with heap:=h',toks:=tk }:=I.turned (fun b o hb e=>kk b o (by simpa using hb) e) f0 f1 f3 f4 f5
  exact ⟨_,rfl,b40 (s:={ s with heap:=h',toks:=tk }) (n:="range_iterator") st' rfl rfl (by decide) ⟨.int (lo+i*c),H,I1,⟨t,rfl⟩,⟨rfl,rfl⟩,st',fun b hb=>(hf b hb).1⟩⟩
 done:=by
  intro X hP hw hK hc i pins s σ H E I hf st hg
  subst hP hw hK
  obtain ⟨f0,f1,f2,f3,f4,f5⟩:=hf it (by simp)
  exact wpAny_pyNext_range_end (I.ok.hd hc) st (by have:n≤i:=hg; omega) fun h' eb=>⟨rfl,I.turned (t':=s.toks) (fun b o hb e=>eb b o hb e) f0 f1 f3 f4 f5⟩
 self:=fun _ _ _ _ _ st h=>wpAny_pyIter_rangeiter st h
theorem bw4 {a b c:Int}(hc:c=1∨c=2) (h1:-(2 ^ 40)≤a) (h2:a<2 ^ 40) (h3:-(2 ^ 40)≤b) (h4:b<2 ^ 40):Builtin.Range.small a b c=true:=by
 have hs:0≤Builtin.Range.rangeSize a b c∧Builtin.Range.rangeSize a b c<2 ^ 42:=by
  unfold Builtin.Range.rangeSize
  rcases hc with rfl | rfl
  all_goals
   rw [if_pos (by decide)]
   split <;> omega
 unfold Builtin.Range.small
 generalize Builtin.Range.rangeSize a b c=z at hs
 rcases hc with rfl | rfl
 all_goals
  rw [if_pos (by decide)]
  simp only [Builtin.Range.rangeFitsLong,Bool.and_eq_true,Bool.or_eq_true,decide_eq_true_eq,beq_iff_eq]
  omega
def manyC (lo hi c:Int):Nat:=((hi - lo+c - 1) / c).toNat
section
variable {X:Cx}{tg:Expr}
theorem bd8 {pins:List (Addr×Obj)}{σ:St} {H:Hp}{s:Shared}{R:It→Hp→Prop}{E:Value→Shared→Prop}{lo hi c:Int}{t u v:Tok}(I:Inv X pins σ H s) (hc:c=1∨c=2) (h1:-(2 ^ 40)≤lo) (h2:lo<2 ^ 40) (h3:-(2 ^ 40)≤hi) (h4:hi<2 ^ 40)
 (q:R (ItrC lo c (manyC lo hi c)) H):wpAny (model X.prog X.w) X.A (pyIter (.ref s.heap.objs.size)) (PIE X pins σ tg R) E { s with heap:=s.heap.push { cls:=.type "range",data:=.fields #[.int lo t,.int hi u,.int c v] } }:=by
 refine wpAny_pyIter_range (IsRange.new ..) (bw4 hc h1 h2 h3 h4) ?_
 have I1:Inv X pins σ H { s with heap:=s.heap.push { cls:=.type "range",data:=.fields #[.int lo t,.int hi u,.int c v] } }:=I.kept (t':=s.toks) fun b o e=>Heap.get?_push_of_some _ e
 refine ⟨(s.heap.push { cls:=.type "range",data:=.fields #[.int lo t,.int hi u,.int c v] }).objs.size,[(s.heap.push { cls:=.type "range",data:=.fields #[.int lo t,.int hi u,.int c v] }).objs.size],_,_,H,rfl,
  I1.kept (t':=s.toks) fun b o e=>Heap.get?_push_of_some _ e,ax6 _ lo c (manyC lo hi c),?_,fun b hb=>?_,q⟩
 · have e1:lo+((0:Nat):Int)*c=lo:=by simp
   have e2:((manyC lo hi c:Nat):Int) - ((0:Nat):Int)=Builtin.Range.rangeSize lo hi c:=by
    unfold Builtin.Range.rangeSize manyC
    rcases hc with rfl | rfl
    all_goals
     rw [if_pos (by decide)]
     split <;> omega
   show IsRangeIter _ _ (lo+((0:Nat):Int)*c) (((manyC lo hi c:Nat):Int) - ((0:Nat):Int)) c
   rw [e1,e2]
   exact Heap.get?_push_size _ rfl
 · have e:b=(s.heap.push { cls:=.type "range",data:=.fields #[.int lo t,.int hi u,.int c v] }).objs.size:=by simpa using hb
   subst e
   exact I1.fpOk (Nat.le_refl _) (I1.hok.fresh (Nat.le_refl _))
def iRngC (ta:TA):TI:=fun σ H R=>ta σ H fun vs H1=>∃ i j c:Int,vs=[.int i,.int j,.int c]∧(c=1∨c=2)∧(-(2 ^ 40)≤i∧i<2 ^ 40∧-(2 ^ 40)≤j∧j<2 ^ 40)∧R (ItrC i c (manyC i j c)) H1
theorem bd9 {a b c:Expr}{ta:TA}{p pos:Pos}(hg:Gl X "range") (hm:X.mg "range"=none) (ha:PA X [a,b,c] ta) (hs:starEach [a,b,c] X.env=[(false,eval a X.env),(false,eval b X.env),(false,eval c X.env)]:=by rfl) (hs2:starEach [b,c] X.env=[(false,eval b X.env),(false,eval c X.env)]:=by rfl) :
 PI X tg (.Call (.Name "range" p) [a,b,c] [] pos) (iRngC ta):=by
 intro pins s σ H R I h
 refine Call_ (ag4 I hg hm boot_range (PyProof.Rows.callWith_type1 (thn (ha pos pins s σ H _ I h) fun us s1 ⟨vs,H1,I1,r1,q1⟩=>?_) (by rw [hs,hs2]) (by rw [hs2]; rfl)))
 obtain ⟨i,j,c,e,hc,⟨q1,q2,q3,q4⟩,q⟩:=q1
 subst e
 cases r1 with
 | cons r rr =>
   cases rr with
   | cons r' rr =>
     cases rr with
     | cons r'' rr =>
       cases rr
       obtain ⟨t,rfl⟩:=r
       obtain ⟨t',rfl⟩:=r'
       obtain ⟨t'',rfl⟩:=r''
       exact call_range_3 (by omega) (bd8 I1 hc q1 q2 q3 q4 q)
end
section
variable {σ:St} {H:Hp}{R:It→Hp→Prop}{ts:TA}
theorem c80 (h:ts σ H fun vs H1=>∃ i j c:Int,vs=[.int i,.int j,.int c]∧(c=1∨c=2)∧(-(2 ^ 40)≤i∧i<2 ^ 40∧-(2 ^ 40)≤j∧j<2 ^ 40)∧R (ItrC i c (manyC i j c)) H1):iRngC ts σ H R:=h
end
theorem b68 {lo c:Int}{n:Nat}{g:TG}{tb:TS}{D:Ends}{σ:St} {H:Hp}(Pv:Nat→St→Hp→Prop) (h0:Pv 0 σ H)
 (hs:∀ i σ H,i<n→Pv i σ H→g (.int (lo+i*c)) σ H fun σ2 H2=>tb { D with nx:=Pv (i+1),ct:=Pv (i+1),bk:=D.nx } σ2 H2) (hd:∀ σ H,Pv n σ H→D.nx σ H):ForEnd (ItrC lo c n) g tb D σ H:=by
 refine ⟨fun i m σ H=>m=n - i∧i≤n∧Pv i σ H,⟨n,by simp,Nat.zero_le _,h0⟩,?_⟩
 rintro i m σ H ⟨rfl,hi,p⟩
 by_cases hlt:i<n
 · refine .inr ⟨hlt,Pv (i+1),fun σ' H' p'=>⟨n - (i+1),by omega,rfl,hlt,p'⟩,fun x H' y=>?_⟩
   obtain ⟨e,y⟩:=y
   subst e y
   exact hs i σ _ hlt p
 · have e:i=n:=by omega
   subst e
   exact .inl ⟨Nat.le_refl _,hd σ H p⟩
end L2
local macro_rules | `(tactic| walk_at "side") => `(tactic| first | exact ⟨by decide, by decide, by decide⟩ | exact ⟨by decide, by decide⟩ | exact .inr (.inr ⟨by decide, by decide⟩) | exact .inr (.inl ⟨by decide, by decide⟩) | decide | omega | exact L2.le_line (by simp only [List.length_cons, List.length_nil]; omega))
local macro_rules | `(tactic| walk_at "o") => `(tactic| first | exact Or.inl rfl | exact Or.inr rfl)
local macro_rules | `(tactic| walk_at "step") => do
  let mut acc ← `(tactic| ((with_reducible refine L2.i_rgA ?k ?l ?_); (case k => walk_at "side"); (case l => walk_at "side")))
  for s in ("i_rI af4 ca2 ca3 i_c i_op i_un i_rU ca4 bs9 ca5 ca6 c44 i_bl ca7 i_if ca8 c45 c46 c47 ca9 i_cb c48 cb0 cb1 c50 cb3 i_or cb4 i_lc c51 bt0 c52 cb5 cb6 i_bm cb7 i_sl bj2 c53 cb8 bt2 bt3 c57 c56 bt4 cb9 c58 c59 c61 c62 i_tB cc0 c65 c66 c67 bu3 bu4 cc2 c68 c69 c70 c72 cc4 bv4 bv2 c76 bl2 i_td bv8 bw0 i_bget i_bsetd i_dk bw3 c80 c49".splitOn " ").reverse do
    let n := Lean.mkIdent (Lean.Name.str `L2 s)
    if s == "i_rI" || s == "af4" || s == "c49" then acc ← `(tactic| first | ((with_reducible refine $n ?k ?_); (case k => walk_at "side")) | $acc:tactic)
    else acc ← `(tactic| first | with_reducible refine $n ?_ | $acc:tactic)
  `(tactic| first | ((with_reducible refine L2.i_name ?_); dsimp only [List.set_cons_zero, List.set_cons_succ]) | ((with_reducible refine' L2.i_var ?k ?_); (case k => rfl)) | $acc:tactic)
local macro_rules | `(tactic| walk_at "run") => `(tactic| (repeat walk_at "step"))
local macro_rules | `(tactic| walk_at "go") => do
  let ids := (("L2.start List.map_cons List.map_nil List.length_cons List.length_nil List.replicate List.cons_append List.nil_append Nat.reduceSub Nat.reduceAdd L2.nox_K L2.wish_K L2.cxOf_K L2.cxC_K".splitOn " ").map fun s => Lean.mkIdent s.toName).toArray
  `(tactic| (simp only [$[$ids:term],*]; walk_at "run"))
namespace K86
open PySem L2
theorem ai9:FnScope ["self","machines"] ["self","machines"] (defScope a54):=⟨rfl,rfl,rfl,by decide +kernel,rfl,by decide +kernel,by decide +kernel⟩
theorem sc_Hall_begin:FnScope ["self","told","machine"] ["self"] (defScope a66):=⟨rfl,rfl,rfl,by decide +kernel,rfl,by decide +kernel,by decide +kernel⟩
theorem sc_Hall_step:FnScope ["self","standing","outer","told","rows","machine","line","event","row"] ["self","standing","outer"] (defScope a84):=⟨rfl,rfl,rfl,by decide +kernel,rfl,by decide +kernel,by decide +kernel⟩
theorem be0:FnScope ["told"] ["told"] (defScope ab8):=⟨rfl,rfl,rfl,by decide +kernel,rfl,by decide +kernel,by decide +kernel⟩
theorem aq1:FnScope ["row","event"] ["row","event"] (defScope a73):=⟨rfl,rfl,rfl,by decide +kernel,rfl,by decide +kernel,by decide +kernel⟩
theorem sc_settled_turn:FnScope ["told","rows","said","texts","text","handed","line"] ["told","rows"] (defScope a51):=⟨rfl,rfl,rfl,by decide +kernel,rfl,by decide +kernel,by decide +kernel⟩
theorem sc_counted:FnScope ["things","numbers","thing"] ["things"] (defScope aa5):=⟨rfl,rfl,rfl,by decide +kernel,rfl,by decide +kernel,by decide +kernel⟩
theorem sc_pack:FnScope ["table","rooms","sayings","rows","shapes","texts","places","cells","room","row","shape","saying"] ["table"] (defScope ae8):=⟨rfl,rfl,rfl,by decide +kernel,rfl,by decide +kernel,by decide +kernel⟩
theorem sc_sayings_of:FnScope ["table","found","room"] ["table"] (defScope a67):=⟨rfl,rfl,rfl,by decide +kernel,rfl,by decide +kernel,by decide +kernel⟩
theorem ax7:FnScope ["room","sayings"] ["room","sayings"] (defScope a88):=⟨rfl,rfl,rfl,by decide +kernel,rfl,by decide +kernel,by decide +kernel⟩
theorem sc_texts_in:FnScope ["sayings","found","saying"] ["sayings"] (defScope a93):=⟨rfl,rfl,rfl,by decide +kernel,rfl,by decide +kernel,by decide +kernel⟩
theorem bm7:FnScope ["cells"] ["cells"] (defScope ad5):=⟨rfl,rfl,rfl,by decide +kernel,rfl,by decide +kernel,by decide +kernel⟩
theorem sc_shape_cells:FnScope ["shape","common","cells","place","pair"] ["shape"] (defScope a63):=⟨rfl,rfl,rfl,by decide +kernel,rfl,by decide +kernel,by decide +kernel⟩
theorem sc_common_pair:FnScope ["shape","counts","pair","most"] ["shape"] (defScope a58):=⟨rfl,rfl,rfl,by decide +kernel,rfl,by decide +kernel,by decide +kernel⟩
theorem sc_block_places:FnScope ["cells","place","count","found"] ["cells","place","count"] (defScope a59):=⟨rfl,rfl,rfl,by decide +kernel,rfl,by decide +kernel,by decide +kernel⟩
theorem ax8:FnScope ["texts","cells","place"] ["texts","cells","place"] (defScope a89):=⟨rfl,rfl,rfl,by decide +kernel,rfl,by decide +kernel,by decide +kernel⟩
theorem ax9:FnScope ["cells","place"] ["cells","place"] (defScope a94):=⟨rfl,rfl,rfl,by decide +kernel,rfl,by decide +kernel,by decide +kernel⟩
theorem au0:FnScope ["shape"] ["shape"] (defScope a75):=⟨rfl,rfl,rfl,by decide +kernel,rfl,by decide +kernel,by decide +kernel⟩
theorem au1:FnScope ["room","numbers"] ["room","numbers"] (defScope a76):=⟨rfl,rfl,rfl,by decide +kernel,rfl,by decide +kernel,by decide +kernel⟩
theorem sc_places_by:FnScope ["events","places","place","event"] ["events"] (defScope a85):=⟨rfl,rfl,rfl,by decide +kernel,rfl,by decide +kernel,by decide +kernel⟩
theorem ay0:FnScope ["places","event"] ["places","event"] (defScope a95):=⟨rfl,rfl,rfl,by decide +kernel,rfl,by decide +kernel,by decide +kernel⟩
theorem sc_TableMachine___init__:FnScope ["self","table","same"] ["self","table"] (defScope a35):=⟨rfl,rfl,rfl,by decide +kernel,rfl,by decide +kernel,by decide +kernel⟩
theorem ae9:FnScope ["self"] ["self"] (defScope a41):=⟨rfl,rfl,rfl,by decide +kernel,rfl,by decide +kernel,by decide +kernel⟩
theorem sc_TableMachine_step:FnScope ["self","standing","event","row"] ["self","standing","event"] (defScope a43):=⟨rfl,rfl,rfl,by decide +kernel,rfl,by decide +kernel,by decide +kernel⟩
theorem ae2:FnScope ["self","pack"] ["self","pack"] (defScope a37):=⟨rfl,rfl,rfl,by decide +kernel,rfl,by decide +kernel,by decide +kernel⟩
theorem af8:FnScope ["self"] ["self"] (defScope a44):=⟨rfl,rfl,rfl,by decide +kernel,rfl,by decide +kernel,by decide +kernel⟩
theorem sc_PackMachine_step:FnScope ["self","standing","event","shape","event_place","place","saying","way"] ["self","standing","event"] (defScope a48):=⟨rfl,rfl,rfl,by decide +kernel,rfl,by decide +kernel,by decide +kernel⟩
theorem ae7:FnScope ["self","saying"] ["self","saying"] (defScope a39):=⟨rfl,rfl,rfl,by decide +kernel,rfl,by decide +kernel,by decide +kernel⟩
theorem sc_law_take:FnScope ["state","many","found"] ["state","many"] (defScope a96):=⟨rfl,rfl,rfl,by decide +kernel,rfl,by decide +kernel,by decide +kernel⟩
theorem ay1:FnScope ["script","k","mixed"] ["script","k","mixed"] (defScope a97):=⟨rfl,rfl,rfl,by decide +kernel,rfl,by decide +kernel,by decide +kernel⟩
theorem sc_law_said:FnScope ["state","some"] ["state"] (defScope a98):=⟨rfl,rfl,rfl,by decide +kernel,rfl,by decide +kernel,by decide +kernel⟩
theorem sc_law_table:FnScope ["cell","mixed","state","keys","words","events","many","saying","rooms","k"] ["cell","mixed"] (defScope a56):=⟨rfl,rfl,rfl,by decide +kernel,rfl,by decide +kernel,by decide +kernel⟩
theorem sc_law_outer:FnScope ["cell","mixed","many","state","outer","line","event"] ["cell","mixed","many"] (defScope a86):=⟨rfl,rfl,rfl,by decide +kernel,rfl,by decide +kernel,by decide +kernel⟩
theorem sc_law:FnScope ["script","mixed","first","many","step","tables","machines","one","k","other","said","standing","way","cell","outer","told"] ["script"] (defScope ak7):=⟨rfl,rfl,rfl,by decide +kernel,rfl,by decide +kernel,by decide +kernel⟩
set_option genInjectivity false in
structure Adr where
 a_Hall___init__:Addr
 fd_Hall___init__:FuncData
 a_Hall_begin:Addr
 fd_Hall_begin:FuncData
 a_Hall_step:Addr
 fd_Hall_step:FuncData
 a_copied:Addr
 fd_copied:FuncData
 a_put_behind:Addr
 fd_put_behind:FuncData
 a_settled_turn:Addr
 fd_settled_turn:FuncData
 a_counted:Addr
 fd_counted:FuncData
 a_pack:Addr
 fd_pack:FuncData
 a_sayings_of:Addr
 fd_sayings_of:FuncData
 a_pairs_of:Addr
 fd_pairs_of:FuncData
 a_texts_in:Addr
 fd_texts_in:FuncData
 a_block:Addr
 fd_block:FuncData
 a_shape_cells:Addr
 fd_shape_cells:FuncData
 a_common_pair:Addr
 fd_common_pair:FuncData
 a_block_places:Addr
 fd_block_places:FuncData
 a_texts_at:Addr
 fd_texts_at:FuncData
 a_cells_in:Addr
 fd_cells_in:FuncData
 a_others_in:Addr
 fd_others_in:FuncData
 a_room_with:Addr
 fd_room_with:FuncData
 a_places_by:Addr
 fd_places_by:FuncData
 a_place_of:Addr
 fd_place_of:FuncData
 a_TableMachine___init__:Addr
 fd_TableMachine___init__:FuncData
 a_TableMachine_begin:Addr
 fd_TableMachine_begin:FuncData
 a_TableMachine_step:Addr
 fd_TableMachine_step:FuncData
 a_PackMachine___init__:Addr
 fd_PackMachine___init__:FuncData
 a_PackMachine_begin:Addr
 fd_PackMachine_begin:FuncData
 a_PackMachine_step:Addr
 fd_PackMachine_step:FuncData
 a_PackMachine_said_by:Addr
 fd_PackMachine_said_by:FuncData
 a__law_take:Addr
 fd__law_take:FuncData
 a__law_cell:Addr
 fd__law_cell:FuncData
 a__law_said:Addr
 fd__law_said:FuncData
 a__law_table:Addr
 fd__law_table:FuncData
 a__law_outer:Addr
 fd__law_outer:FuncData
 a_law:Addr
 fd_law:FuncData
 c_Machine:Addr
 c_Hall:Addr
 c_TableMachine:Addr
 c_PackMachine:Addr
 u_QUIET:Value
 u_MOST_WAITING:Value
 u_HEAD:Value
 ad_QUIET:Addr
structure Txt (K:PySem.W.Frag) (mg:Str→Option Value) (t:Adr):Prop where
 F_Hall___init__:Fun K "__init__" "Hall.__init__" a54 t.a_Hall___init__ t.fd_Hall___init__
 b_Hall___init__:Binds K t.fd_Hall___init__ ["self","machines"] []
 F_Hall_begin:Fun K "begin" "Hall.begin" a66 t.a_Hall_begin t.fd_Hall_begin
 M_Hall_begin:Meth K t.c_Hall "begin" t.a_Hall_begin
 b_Hall_begin:Binds K t.fd_Hall_begin ["self"] []
 F_Hall_step:Fun K "step" "Hall.step" a84 t.a_Hall_step t.fd_Hall_step
 M_Hall_step:Meth K t.c_Hall "step" t.a_Hall_step
 b_Hall_step:Binds K t.fd_Hall_step ["self","standing","outer"] []
 F_copied:Fun K "copied" "copied" ab8 t.a_copied t.fd_copied
 m_copied:mg "copied"=some (.ref t.a_copied)
 b_copied:Binds K t.fd_copied ["told"] []
 F_put_behind:Fun K "put_behind" "put_behind" a73 t.a_put_behind t.fd_put_behind
 m_put_behind:mg "put_behind"=some (.ref t.a_put_behind)
 b_put_behind:Binds K t.fd_put_behind ["row","event"] []
 F_settled_turn:Fun K "settled_turn" "settled_turn" a51 t.a_settled_turn t.fd_settled_turn
 m_settled_turn:mg "settled_turn"=some (.ref t.a_settled_turn)
 b_settled_turn:Binds K t.fd_settled_turn ["told","rows"] []
 F_counted:Fun K "counted" "counted" aa5 t.a_counted t.fd_counted
 m_counted:mg "counted"=some (.ref t.a_counted)
 b_counted:Binds K t.fd_counted ["things"] []
 F_pack:Fun K "pack" "pack" ae8 t.a_pack t.fd_pack
 m_pack:mg "pack"=some (.ref t.a_pack)
 b_pack:Binds K t.fd_pack ["table"] []
 F_sayings_of:Fun K "sayings_of" "sayings_of" a67 t.a_sayings_of t.fd_sayings_of
 m_sayings_of:mg "sayings_of"=some (.ref t.a_sayings_of)
 b_sayings_of:Binds K t.fd_sayings_of ["table"] []
 F_pairs_of:Fun K "pairs_of" "pairs_of" a88 t.a_pairs_of t.fd_pairs_of
 m_pairs_of:mg "pairs_of"=some (.ref t.a_pairs_of)
 b_pairs_of:Binds K t.fd_pairs_of ["room","sayings"] []
 F_texts_in:Fun K "texts_in" "texts_in" a93 t.a_texts_in t.fd_texts_in
 m_texts_in:mg "texts_in"=some (.ref t.a_texts_in)
 b_texts_in:Binds K t.fd_texts_in ["sayings"] []
 F_block:Fun K "block" "block" ad5 t.a_block t.fd_block
 m_block:mg "block"=some (.ref t.a_block)
 b_block:Binds K t.fd_block ["cells"] []
 F_shape_cells:Fun K "shape_cells" "shape_cells" a63 t.a_shape_cells t.fd_shape_cells
 m_shape_cells:mg "shape_cells"=some (.ref t.a_shape_cells)
 b_shape_cells:Binds K t.fd_shape_cells ["shape"] []
 F_common_pair:Fun K "common_pair" "common_pair" a58 t.a_common_pair t.fd_common_pair
 m_common_pair:mg "common_pair"=some (.ref t.a_common_pair)
 b_common_pair:Binds K t.fd_common_pair ["shape"] []
 F_block_places:Fun K "block_places" "block_places" a59 t.a_block_places t.fd_block_places
 m_block_places:mg "block_places"=some (.ref t.a_block_places)
 b_block_places:Binds K t.fd_block_places ["cells","place","count"] []
 F_texts_at:Fun K "texts_at" "texts_at" a89 t.a_texts_at t.fd_texts_at
 m_texts_at:mg "texts_at"=some (.ref t.a_texts_at)
 b_texts_at:Binds K t.fd_texts_at ["texts","cells","place"] []
 F_cells_in:Fun K "cells_in" "cells_in" a94 t.a_cells_in t.fd_cells_in
 m_cells_in:mg "cells_in"=some (.ref t.a_cells_in)
 b_cells_in:Binds K t.fd_cells_in ["cells","place"] []
 F_others_in:Fun K "others_in" "others_in" a75 t.a_others_in t.fd_others_in
 m_others_in:mg "others_in"=some (.ref t.a_others_in)
 b_others_in:Binds K t.fd_others_in ["shape"] []
 F_room_with:Fun K "room_with" "room_with" a76 t.a_room_with t.fd_room_with
 m_room_with:mg "room_with"=some (.ref t.a_room_with)
 b_room_with:Binds K t.fd_room_with ["room","numbers"] []
 F_places_by:Fun K "places_by" "places_by" a85 t.a_places_by t.fd_places_by
 m_places_by:mg "places_by"=some (.ref t.a_places_by)
 b_places_by:Binds K t.fd_places_by ["events"] []
 F_place_of:Fun K "place_of" "place_of" a95 t.a_place_of t.fd_place_of
 m_place_of:mg "place_of"=some (.ref t.a_place_of)
 b_place_of:Binds K t.fd_place_of ["places","event"] []
 F_TableMachine___init__:Fun K "__init__" "TableMachine.__init__" a35 t.a_TableMachine___init__ t.fd_TableMachine___init__
 b_TableMachine___init__:Binds K t.fd_TableMachine___init__ ["self","table"] []
 F_TableMachine_begin:Fun K "begin" "TableMachine.begin" a41 t.a_TableMachine_begin t.fd_TableMachine_begin
 M_TableMachine_begin:Meth K t.c_TableMachine "begin" t.a_TableMachine_begin
 b_TableMachine_begin:Binds K t.fd_TableMachine_begin ["self"] []
 F_TableMachine_step:Fun K "step" "TableMachine.step" a43 t.a_TableMachine_step t.fd_TableMachine_step
 M_TableMachine_step:Meth K t.c_TableMachine "step" t.a_TableMachine_step
 b_TableMachine_step:Binds K t.fd_TableMachine_step ["self","standing","event"] []
 F_PackMachine___init__:Fun K "__init__" "PackMachine.__init__" a37 t.a_PackMachine___init__ t.fd_PackMachine___init__
 b_PackMachine___init__:Binds K t.fd_PackMachine___init__ ["self","pack"] []
 F_PackMachine_begin:Fun K "begin" "PackMachine.begin" a44 t.a_PackMachine_begin t.fd_PackMachine_begin
 M_PackMachine_begin:Meth K t.c_PackMachine "begin" t.a_PackMachine_begin
 b_PackMachine_begin:Binds K t.fd_PackMachine_begin ["self"] []
 F_PackMachine_step:Fun K "step" "PackMachine.step" a48 t.a_PackMachine_step t.fd_PackMachine_step
 M_PackMachine_step:Meth K t.c_PackMachine "step" t.a_PackMachine_step
 b_PackMachine_step:Binds K t.fd_PackMachine_step ["self","standing","event"] []
 F_PackMachine_said_by:Fun K "said_by" "PackMachine.said_by" a39 t.a_PackMachine_said_by t.fd_PackMachine_said_by
 M_PackMachine_said_by:Meth K t.c_PackMachine "said_by" t.a_PackMachine_said_by
 b_PackMachine_said_by:Binds K t.fd_PackMachine_said_by ["self","saying"] []
 F__law_take:Fun K "_law_take" "_law_take" a96 t.a__law_take t.fd__law_take
 m__law_take:mg "_law_take"=some (.ref t.a__law_take)
 b__law_take:Binds K t.fd__law_take ["state","many"] []
 F__law_cell:Fun K "_law_cell" "_law_cell" a97 t.a__law_cell t.fd__law_cell
 m__law_cell:mg "_law_cell"=some (.ref t.a__law_cell)
 b__law_cell:Binds K t.fd__law_cell ["script","k","mixed"] []
 F__law_said:Fun K "_law_said" "_law_said" a98 t.a__law_said t.fd__law_said
 m__law_said:mg "_law_said"=some (.ref t.a__law_said)
 b__law_said:Binds K t.fd__law_said ["state"] []
 F__law_table:Fun K "_law_table" "_law_table" a56 t.a__law_table t.fd__law_table
 m__law_table:mg "_law_table"=some (.ref t.a__law_table)
 b__law_table:Binds K t.fd__law_table ["cell","mixed"] []
 F__law_outer:Fun K "_law_outer" "_law_outer" a86 t.a__law_outer t.fd__law_outer
 m__law_outer:mg "_law_outer"=some (.ref t.a__law_outer)
 b__law_outer:Binds K t.fd__law_outer ["cell","mixed","many"] []
 F_law:Fun K "law" "law" ak7 t.a_law t.fd_law
 m_law:mg "law"=some (.ref t.a_law)
 b_law:Binds K t.fd_law ["script"] []
 m_Machine:mg "Machine"=some (.ref t.c_Machine)
 m_Hall:mg "Hall"=some (.ref t.c_Hall)
 cl_Hall:Cls K t.c_Hall
 mk_Hall:Mk K t.c_Hall t.a_Hall___init__
 n_Hall_lines:NoAttr K t.c_Hall "lines"
 n_Hall_machines:NoAttr K t.c_Hall "machines"
 m_TableMachine:mg "TableMachine"=some (.ref t.c_TableMachine)
 cl_TableMachine:Cls K t.c_TableMachine
 mk_TableMachine:Mk K t.c_TableMachine t.a_TableMachine___init__
 n_TableMachine_places:NoAttr K t.c_TableMachine "places"
 n_TableMachine_rooms:NoAttr K t.c_TableMachine "rooms"
 n_TableMachine_saying:NoAttr K t.c_TableMachine "saying"
 m_PackMachine:mg "PackMachine"=some (.ref t.c_PackMachine)
 cl_PackMachine:Cls K t.c_PackMachine
 mk_PackMachine:Mk K t.c_PackMachine t.a_PackMachine___init__
 n_PackMachine_cells:NoAttr K t.c_PackMachine "cells"
 n_PackMachine_places:NoAttr K t.c_PackMachine "places"
 n_PackMachine_sayings:NoAttr K t.c_PackMachine "sayings"
 n_PackMachine_shapes:NoAttr K t.c_PackMachine "shapes"
 n_PackMachine_texts:NoAttr K t.c_PackMachine "texts"
 z_enumerate:mg "enumerate"=none
 z_int:mg "int"=none
 z_len:mg "len"=none
 z_list:mg "list"=none
 z_max:mg "max"=none
 z_min:mg "min"=none
 z_range:mg "range"=none
 z_set:mg "set"=none
 z_sorted:mg "sorted"=none
 z_sum:mg "sum"=none
 z_tuple:mg "tuple"=none
 z_zip:mg "zip"=none
 m_QUIET:mg "QUIET"=some t.u_QUIET
 r_QUIET:RelV (.ref t.ad_QUIET) t.u_QUIET
 m_MOST_WAITING:mg "MOST_WAITING"=some t.u_MOST_WAITING
 r_MOST_WAITING:RelV (.int 3) t.u_MOST_WAITING
 m_HEAD:mg "HEAD"=some t.u_HEAD
 r_HEAD:RelV (.int 4) t.u_HEAD
 d_QUIET:TupK K t.ad_QUIET [.str "quiet"]
section
variable {P:Program}{w:World}{K:PySem.W.Frag}{mg:Str→Option Value}{base:Heap}{t:Adr}
def Oth (s:Addr) (H H':Hp):Prop:=∀ y o,y≠s→H y=some o→H' y=some o
def StA (H:Hp) (s:Addr) (z:Int):Prop:=∃ x:Int,H s=some (.lst [.int x,.int z])
theorem Oth.refl {s:Addr}{H:Hp}:Oth s H H:=fun _ _ _ e=>e
theorem Oth.trans {s:Addr}{H H1 H2:Hp}(a:Oth s H H1) (b:Oth s H1 H2):Oth s H H2:=fun c o h e=>b c o h (a c o h e)
theorem ab3 {s:Addr}{H H':Hp}(h:Same H H'):Oth s H H':=fun c o _ e=>h c o e
theorem Oth.tups {s:Addr}{H H':Hp}{z:Int}(f:Oth s H H') (k:StA H s z):Tups H H':=fun b ys e=>by
 obtain ⟨x,h⟩:=k
 exact f b _ (ac8 e h (fun z=>nomatch z)) e
theorem Oth.new {s:Addr}{H0 H H':Hp}(f:Oth s H H') (h:Same H0 H) (hs:H0 s=none):Same H0 H':=fun b o e=>f b o (a03 e hs) (h b o e)
theorem StA.same {H H':Hp}{s:Addr}{z:Int}(k:StA H s z) (h:Same H H'):StA H' s z:=by
 obtain ⟨x,e⟩:=k
 exact ⟨x,h _ _ e⟩
theorem Oth.free {s p:Addr}{H H':Hp}{z:Int}(f:Oth s H H') (k:StA H' s z) (h:H' p=none):H p=none:=by
 cases e:H p with
 | none=>rfl
 | some o =>
   obtain ⟨x,hs⟩:=k
   rw [f p o (fun q=>by rw [q,hs] at h; cases h) e] at h
   cases h
theorem aq2 (x:Int) {m:Nat}(h:0<m):∃ r:Nat,r<m∧x % (m:Int)=(r:Nat):=⟨(x % (m:Int)).toNat,by
 have h1:=Int.emod_nonneg x (show (m:Int)≠0 by omega)
 have h2:=Int.emod_lt_of_pos x (show (0:Int)<(m:Int) by omega)
 omega,by
 have h1:=Int.emod_nonneg x (show (m:Int)≠0 by omega)
 omega⟩
theorem cb {i j:Int}(h1:-1000000000000000000<i) (h2:i<1000000000000000000):CBig i j:=.inr (.inl ⟨by omega,by omega⟩)
theorem cb2 {i j:Int}(h1:-1000000000000000000<j) (h2:j<1000000000000000000):CBig i j:=.inr (.inr ⟨by omega,by omega⟩)
def bw5 (K:PySem.W.Frag):Sp:=fun vs H Q _=>∃ (s:Addr) (z:Int) (m:Nat),vs=[.ref s,.int (m:Nat)]∧StA H s z∧0<m∧m≤1000∧∀ (r:Nat) H',r<m→Oth s H H'→StA H' s z→Q (.int (r:Nat)) H'
theorem ae3 (T:Txt K mg t):FnOk P w K mg base CX0 1 t.a__law_take t.fd__law_take ["state","many"] (bw5 K):=by
 refine T.F__law_take.ok sc_law_take (fun vs H Q E h=>?_) (fun cdv A outer s H vs Q E hr h=>?_)
 · obtain ⟨s,z,m,rfl,_⟩:=h
   rfl
 · obtain ⟨s0,z,m,rfl,⟨x,hs⟩,hm,hm2,q⟩:=h
   refine ⟨_,(@a02 _ _ _ _ _ (@ai7 _ _ _ _ _ _ _ _ (@a83 _ _ _ _ _ _ _ _ bh4 (@a49 _ _ _ _ _ _ _ (a42 K) (pv 0) (@a05 _ _ _ _) (fun _ _=>rfl)) (@a05 _ _ _ _) (nomark _)) (@a02 _ _ _ _ _ (@am2 _ _ _ _ _ _ (@a80 _ _ _ _ _ _ _ _ ak2 (@a80 _ _ _ _ _ _ _ _ ad6 (@a80 _ _ _ _ _ _ _ _ a78 (@a49 _ _ _ _ _ _ _ (a42 K) (pv 0) (@a05 _ _ _ _) (fun _ _=>rfl)) (@a05 _ _ _ _)) (@a05 _ _ _ _)) (@a05 _ _ _ _)) (ar5 (pv 0) (@a05 _ _ _ _) ag5) (by rfl) (by rfl) (by rfl))
    (@a02 _ _ _ _ _ (@am2 _ _ _ _ _ _ (@a80 _ _ _ _ _ _ _ _ ak2 (@a80 _ _ _ _ _ _ _ _ ad6 (@a49 _ _ _ _ _ _ _ (a42 K) (pv 0) (@a05 _ _ _ _) (fun _ _=>rfl)) (@a49 _ _ _ _ _ _ _ (a42 K) (pv 0) (@a05 _ _ _ _) (fun _ _=>rfl))) (@a05 _ _ _ _)) (ar5 (pv 0) (@a05 _ _ _ _) ag5) (by rfl) (by rfl) (by rfl))
    (@a09 _ _ _ (@a53 _ _ _ _ (@a80 _ _ _ _ _ _ _ _ ak2 (@a80 _ _ _ _ _ _ _ _ ao6 (@a80 _ _ _ _ _ _ _ _ ak2 (@a80 _ _ _ _ _ _ _ _ ad6 (@a49 _ _ _ _ _ _ _ (a42 K) (pv 0) (@a05 _ _ _ _) (fun _ _=>rfl)) (@a05 _ _ _ _)) (@a05 _ _ _ _)) (@a05 _ _ _ _)) (pv 1)))))) (@ac1 _))
    (@a02 _ _ _ _ _ (@a47 _ _ 2 _ _ _ _ sc_law_take.nd rfl (by walk_at "o") (@a80 _ _ _ _ _ _ _ _ ak2 (@a49 _ _ _ _ _ _ _ (a42 K) (pv 0) (@a05 _ _ _ _) (fun _ _=>rfl)) (pv 1)) (by rfl) (by walk_at "o"))
    (@a02 _ _ _ _ _ (@am2 _ _ _ _ _ _ (@a80 _ _ _ _ _ _ _ _ ao6 (@a49 _ _ _ _ _ _ _ (a42 K) (pv 0) (@a05 _ _ _ _) (fun _ _=>rfl)) (pv 1)) (ar5 (pv 0) (@a05 _ _ _ _) ag5) (by rfl) (by rfl) (by rfl))
    (@a09 _ _ _ (@a53 _ _ _ _ (pv 2)))))),?_⟩
   walk_at "go"
   refine a99 (SqL.of hs) (a07 (j:=1) rfl) ?_
   walk_at "run"
   have up:∀ y:Int,Oth s0 H (upd H s0 (.lst [.int y,.int z])):=fun y c o h e=>by rw [a08 h]; exact e
   have ups:∀ y:Int,upd H s0 (.lst [.int y,.int z]) s0=some (.lst [.int y,.int z]):=fun y=>a34
   refine ite2 (fun hc=>?_) (fun hc=>?_)
   · walk_at "run"
     refine a99 (SqL.of hs) (a07 (j:=0) rfl) ?_
     walk_at "run"
     refine as9 hs (j:=0) rfl ?_
     have b1:=Int.emod_nonneg ((x+1)*48271) (show (2147483647:Int)≠0 by decide)
     have b2:=Int.emod_lt_of_pos ((x+1)*48271) (show (0:Int)<2147483647 by decide)
     rw [show [V.int x,V.int z].set 0 (V.int ((x+1)*48271 % 2147483647))=[V.int ((x+1)*48271 % 2147483647),.int z] from rfl]
     generalize (x+1)*48271 % 2147483647=y at b1 b2
     walk_at "run"
     refine a99 (SqL.of (ups y)) (a07 (j:=0) rfl) ?_
     walk_at "run"
     refine a99 (SqL.of (ups y)) (a07 (j:=0) rfl) ?_
     walk_at "run"
     refine af4 (cb2 (by omega) (by omega)) ?_
     walk_at "run"
     refine as9 (ups y) (j:=0) rfl ?_
     rw [br3,show [V.int y,V.int z].set 0 (V.int (y*y % 2147483629))=[V.int (y*y % 2147483629),.int z] from rfl]
     generalize y*y % 2147483629=y2
     walk_at "run"
     refine a99 (SqL.of (ups y2)) (a07 (j:=0) rfl) ?_
     walk_at "run"
     obtain ⟨r,hr,e⟩:=aq2 (y2*69621 % 2147483587 / 8) hm
     rw [e]
     exact q r _ hr (up y2) ⟨y2,ups y2⟩
   · walk_at "run"
     refine a99 (SqL.of hs) (a07 (j:=0) rfl) ?_
     walk_at "run"
     obtain ⟨r,hr,e⟩:=aq2 x hm
     rw [e]
     refine a99 (SqL.of hs) (a07 (j:=0) rfl) ?_
     walk_at "run"
     refine i_rI (show CDiv _ _ from ⟨by omega,by omega⟩) ?_
     walk_at "run"
     refine as9 hs (j:=0) rfl ?_
     walk_at "run"
     exact q r _ hr (up (x / (m:Nat))) ⟨x / (m:Nat),ups _⟩
def bw6 (K:PySem.W.Frag):Sp:=fun vs H Q _=>∃ (a:Addr) (ns:List Int) (k:Nat) (m:Int),vs=[.ref a,.int (k:Nat),.int m]∧SqL K H a (ns.map V.int)∧k≤1000∧0≤m∧m≤1∧∀ (z:Int) H',Same H H'→Q (.int z) H'
theorem ay2 (T:Txt K mg t):FnOk P w K mg base CX0 1 t.a__law_cell t.fd__law_cell ["script","k","mixed"] (bw6 K):=by
 refine T.F__law_cell.ok ay1 (fun vs H Q E h=>?_) (fun cdv A outer s H vs Q E hr h=>?_)
 · obtain ⟨a,ns,k,m,rfl,_⟩:=h
   rfl
 · obtain ⟨a,ns,k,m,rfl,hS,hk,hm,hm2,q⟩:=h
   refine ⟨_,(@a02 _ _ _ _ _ (@ai7 _ _ _ _ _ _ _ _ (@a83 _ _ _ _ _ _ _ _ (bb0 K (by exact hr.units)) (pv 0) (@a40 _ _ _ _ (@a01 _)) (nomark _)) (@a09 _ _ _ (@a53 _ _ _ _ (@a80 _ _ _ _ _ _ _ _ ad6 (pv 2) (pv 1)))) (@ac1 _))
    (@a09 _ _ _ (@a53 _ _ _ _ (@a80 _ _ _ _ _ _ _ _ a78 (@a49 _ _ _ _ _ _ _ (a42 K) (pv 0) (@a80 _ _ _ _ _ _ _ _ ak2 (pv 1) (@a70 _ _ _ _ _ _ _ _ _ b54 (by rfl) T.z_min c40 (@a00 _ _ _ _ _ (@a05 _ _ _ _) (@a00 _ _ _ _ _ (@a70 _ _ _ _ _ _ _ _ _ (ac2 K) (by rfl) T.z_len ac7 (@a00 _ _ _ _ _ (pv 0) (@a01 _) (by rfl)) (by decide) (by decide) (by rfl) (by rfl)) (@a01 _) (by rfl)) (by rfl)) (by decide) (by decide) (by rfl) (by rfl))) (fun _ _=>rfl)) (@a80 _ _ _ _ _ _ _ _ ad6 (pv 2) (pv 1)))))),?_⟩
   walk_at "go"
   intro p1 H1 f1 s1 e1
   refine bu6 (s1.seq hS) (SqL.of e1) ?_
   walk_at "run"
   cases ns with
   | nil =>
     refine bt2 ?_
     walk_at "run"
     refine af4 (cb (by omega) (by omega)) ?_
     exact q _ H1 s1
   | cons n0 nr =>
     refine bt3 ?_
     walk_at "run"
     refine ag9 (s1.seq hS) ?_
     walk_at "run"
     have hl:0<min 63 (n0::nr).length:=by simp; omega
     have hlen:(n0::nr).length=nr.length+1:=rfl
     generalize n0::nr=ns at hS hl hlen
     rw [List.length_map,show min (63:Int) (ns.length:Nat)=((min 63 ns.length:Nat):Int) by omega]
     obtain ⟨r,hr,e⟩:=aq2 (k:Int) hl
     walk_at "run"
     rw [e]
     have hrl:r<ns.length:=by omega
     refine a99 (s1.seq hS) (v:=.int ns[r]) (a07 (j:=r) (by simp [hrl])) ?_
     walk_at "run"
     refine af4 (cb (by omega) (by omega)) ?_
     walk_at "run"
     exact q _ H1 s1
inductive Ev where
 | quiet
 | key (k:Nat)
 | word (w:Str)
def Ev.kind:Ev→Str
 | .quiet=>"quiet"
 | .key _=>"key"
 | .word _=>"word"
def Ev.tr:Ev→Tr
 | .quiet=>.tup [.str "quiet"]
 | .key k=>.tup [.str "key",.int (k:Nat)]
 | .word w=>.tup [.str "word",.str w]
theorem Ev.tr_inj {a b:Ev}(h:a.tr=b.tr):a=b:=by
 cases a <;> cases b <;> simp [Ev.tr] at h ⊢ <;> first | exact h | omega | (exact h.2) | skip
theorem Ev.tr_h (a:Ev):a.tr.h≤1:=by cases a <;> simp [Ev.tr,Tr.h,Tr.hs]
theorem af6 {H:Hp}{xs:List Tr}{vs:List V}(h:Tr.Ats H xs vs []) {i:Nat}{v:V}(e:vs[i]?=some v):∃ x,xs[i]?=some x∧x.At H v []:=by
 obtain ⟨x,f,h1,h2,h3⟩:=h.get i v e
 have:f=[]:=List.eq_nil_iff_forall_not_mem.mpr fun a m=>by simpa using h3 a m
 subst this
 exact ⟨x,h1,h2⟩
theorem cc8 {H:Hp}{e:Ev}{v:V}(h:e.tr.At H v []):∃ a xs,v=.ref a∧H a=some (.tup (V.str e.kind::xs)):=by
 cases e with
 | quiet =>
   obtain ⟨a,vs,rfl,e2,h⟩:=at_tup0.mp h
   obtain ⟨u,w1,rfl,a1,h⟩:=ats_cons0.mp h
   cases at_str0.mp a1
   exact ⟨a,_,rfl,e2⟩
 | key k =>
   obtain ⟨a,vs,rfl,e2,h⟩:=at_tup0.mp h
   obtain ⟨u,w1,rfl,a1,h⟩:=ats_cons0.mp h
   cases at_str0.mp a1
   exact ⟨a,_,rfl,e2⟩
 | word w =>
   obtain ⟨a,vs,rfl,e2,h⟩:=at_tup0.mp h
   obtain ⟨u,w1,rfl,a1,h⟩:=ats_cons0.mp h
   cases at_str0.mp a1
   exact ⟨a,_,rfl,e2⟩
noncomputable def plc:List Ev→Nat→List (Tr×V)→List (Tr×V)
 | [],_,kvs=>kvs
 | e::es,n,kvs=>plc es (n+1) (putK (putK kvs e.tr (.int (n:Nat))) (.str e.kind) (.int (n:Nat)))
theorem aq3:∀ (es:List Ev) (n:Nat) (kvs:List (Tr×V)) (e:Ev),plc (es++[e]) n kvs=putK (putK (plc es n kvs) e.tr (.int ((n+es.length:Nat):Int))) (.str e.kind) (.int ((n+es.length:Nat):Int))
 | [],n,kvs,e=>rfl
 | x::xs,n,kvs,e=>by
   show plc (xs++[e]) (n+1) _=_
   rw [aq3 xs (n+1),show n+1+xs.length=n+(x::xs).length by simp; omega]
   rfl
theorem be1:∀ (es:List Ev) (n:Nat) (kvs:List (Tr×V)),(plc es n kvs).length≤kvs.length+2*es.length
 | [],n,kvs=>Nat.le_refl _
 | x::xs,n,kvs=>by
   refine Nat.le_trans (be1 xs (n+1) _) ?_
   have h1:=ag1 kvs x.tr (.int (n:Nat))
   have h2:=ag1 (putK kvs x.tr (.int (n:Nat))) (.str x.kind) (.int (n:Nat))
   simp only [List.length_cons]
   omega
def be2 (K:PySem.W.Frag) (P:Params):Sp:=fun vs H Q _=>∃ (a:Addr) (us:List V) (es:List Ev),vs=[.ref a]∧H a=some (.lst us)∧Tr.Ats H (es.map Ev.tr) us []∧es.length≤1000∧∀ d H',H d=none→Same H H'→DtAt P H' d (plc es 0 [])→Q (.ref d) H'
theorem ai5 (T:Txt K mg t):FnOk P w K mg base CX0 1 t.a_places_by t.fd_places_by ["events"] (be2 K w.params):=by
 refine T.F_places_by.ok sc_places_by (fun vs H Q E h=>?_) (fun cdv A outer s H vs Q E hr h=>?_)
 · obtain ⟨a,us,es,rfl,_⟩:=h
   rfl
 · obtain ⟨a,us,es,rfl,ha,hu,hl,q⟩:=h
   refine ⟨_,(@a02 _ _ _ _ _ (@a47 _ _ 1 _ _ _ _ sc_places_by.nd rfl (by walk_at "o") (aw4 w.params) (by rfl) (by walk_at "o"))
    (@a02 _ _ _ _ _ (@aa3 _ _ _ _ _ _ _ _ PassesOwn.never rfl (ba2 K rfl T.z_enumerate (@a00 _ _ _ _ _ (pv 0) (@a01 _) (by rfl))) (ab6 K (n:=2) rfl (a50 (a36 (i:=2) sc_places_by.nd rfl (by walk_at "o")) (a50 (a36 (i:=3) sc_places_by.nd rfl (by walk_at "o")) (@ab5 _)))) (@a02 _ _ _ _ _ (aw5 (P:=w.params) rfl (by exact hr.units) (pv 1) (pv 3) (pv 2) rfl)
     (@a09 _ _ _ (aw5 (P:=w.params) rfl (by exact hr.units) (pv 1) (@a49 _ _ _ _ _ _ _ (a45 K) (pv 3) (@a05 _ _ _ _) (fun _ _=>rfl)) (pv 2) rfl))) (by intro _; rfl))
    (@a09 _ _ _ (@a53 _ _ _ _ (pv 1))))),?_⟩
   have ul:us.length=es.length:=by rw [hu.len,List.length_map]
   walk_at "go"
   intro d o1 f1 d1
   have s1:Same H (upd H d o1):=Same.new f1
   generalize upd H d o1=H1 at d1 s1
   walk_at "run"
   refine ⟨⟨_,SqL.of (s1 _ _ ha)⟩,b01 (K:=K) (a:=a) (xs:=us) (fun i σ H'=>i≤es.length∧Same H H'∧DtAt w.params H' d (plc (es.take i) 0 [])∧∃ x y,σ=[some (.ref a),some (.ref d),x,y]) ⟨Nat.zero_le _,s1,d1,_,_,rfl⟩ (fun i σ H' _ ⟨_,s',_⟩=>SqL.of (s' _ _ ha)) ?_ ?_⟩
   · rintro i x σ H2 p H3 hi ⟨hil,s2,hd,x0,y0,rfl⟩ s3 e3
     obtain ⟨tx,hx1,hx2⟩:=af6 (hu.same (s2.trans s3)) hi
     rw [List.getElem?_map] at hx1
     obtain ⟨e,he,rfl⟩:=Option.map_eq_some_iff.mp hx1
     obtain ⟨b,xs,rfl,hb⟩:=cc8 hx2
     have hi':i<es.length:=(List.getElem?_eq_some_iff.mp he).1
     have htk:es.take (i+1)=es.take i++[e]:=by rw [List.take_add_one,he]; rfl
     have hlt:(es.take i).length=i:=by simp; omega
     have hlen:=be1 (es.take i) 0 []
     refine ai4 (SqT.of e3) rfl ?_
     walk_at "run"
     have hd3:=a55 hd s3
     have hth:=e.tr_h
     refine ⟨d,_,e.tr,rfl,hd3,⟨hx2,by omega⟩,Nat.lt_of_lt_of_le (show _<1000000 by simp only [List.length_nil] at hlen; omega) (le_line (Nat.le_refl _)),fun o2 d2=>?_⟩
     obtain ⟨φ,hφ⟩:=hd3.ext
     have t2:Tups H3 (upd H3 d o2):=ah2 hφ
     have s4:Same H (upd H3 d o2):=(s2.trans s3).updNew f1
     generalize upd H3 d o2=H4 at d2 t2 s4
     walk_at "run"
     refine a81 (SqT.of (t2 _ _ hb)) (a07 (j:=0) rfl) ?_
     have hl2:=ag1 (plc (es.take i) 0 []) e.tr (.int (i:Nat))
     refine ⟨d,_,.str e.kind,rfl,d2,⟨str_at0,by simp [Tr.h]⟩,Nat.lt_of_lt_of_le (show _<1000000 by simp only [List.length_nil] at hlen; omega) (le_line (Nat.le_refl _)),fun o3 d3=>?_⟩
     refine ⟨hi',s4.updNew f1,?_,_,_,rfl⟩
     rw [htk,aq3,hlt,Nat.zero_add]
     exact d3
   · rintro σ H2 ⟨_,s2,hd,x0,y0,rfl⟩
     rw [ul,List.take_length] at hd
     walk_at "run"
     exact q d H2 f1 s2 hd
noncomputable def plOf (es:List Ev) (e:Ev):Option V:=(valV (plc es 0 []) e.tr).orElse fun _=>some ((valV (plc es 0 []) (.str e.kind)).getD (.int 0))
theorem c81 {K:PySem.W.Frag}{H:Hp}{e:Ev}{v:V}(h:e.tr.AtK K H v):∃ a xs,v=.ref a∧SqT K H a (V.str e.kind::xs):=by
 have go:∀ (k:Str) (ts:List Tr),(Tr.tup (.str k::ts)).AtK K H v→∃ a xs,v=.ref a∧SqT K H a (V.str k::xs):=fun k ts h=>by
  simp only [Tr.AtK,Tr.AtsK] at h
  obtain ⟨a,vs,rfl,e2,u,ws,rfl,rfl,_⟩:=h
  exact ⟨a,ws,rfl,e2.elim SqT.of (fun z=>z.sq H)⟩
 cases e with
 | quiet=>exact go _ _ h
 | key k=>exact go _ _ h
 | word w=>exact go _ _ h
def bm8 (K:PySem.W.Frag) (P:Params):Sp:=fun vs H Q _=>∃ (d:Addr) (v:V) (es:List Ev) (e:Ev),vs=[.ref d,v]∧DtAt P H d (plc es 0 [])∧e.tr.AtK K H v∧∀ y,plOf es e=some y→Q y H
theorem al3 (T:Txt K mg t):FnOk P w K mg base CX0 1 t.a_place_of t.fd_place_of ["places","event"] (bm8 K w.params):=by
 refine T.F_place_of.ok ay0 (fun vs H Q E h=>?_) (fun cdv A outer s H vs Q E hr h=>?_)
 · obtain ⟨d,v,es,e,rfl,_⟩:=h
   rfl
 · obtain ⟨d,v,es,e,rfl,hd,hv,q⟩:=h
   refine ⟨_,(@a02 _ _ _ _ _ (@ai7 _ _ _ _ _ _ _ _ (by8 (bv1 K (P:=w.params) rfl (by exact hr.units) (pv 1) (pv 0))) (@a09 _ _ _ (@a53 _ _ _ _ (bl1 K (P:=w.params) rfl (by exact hr.units) (pv 0) (pv 1) (fun _ _=>rfl)))) (@ac1 _))
    (@a09 _ _ _ (@a53 _ _ _ _ (bc1 K (P:=w.params) rfl (by exact hr.units) (pv 0) (@a49 _ _ _ _ _ _ _ (a45 K) (pv 1) (@a05 _ _ _ _) (fun _ _=>rfl)) (@a05 _ _ _ _) ⟨by rfl,by rfl,by rfl,by rfl⟩)))),?_⟩
   have hth:=e.tr_h
   obtain ⟨b,xs,rfl,hb⟩:=c81 hv
   walk_at "go"
   refine ⟨d,_,e.tr,rfl,hd,⟨hv,by omega⟩,?_⟩
   walk_at "run"
   cases hx:valV (plc es 0 []) e.tr with
   | some y =>
     refine bt2 ?_
     walk_at "run"
     refine ⟨d,_,e.tr,y,rfl,hd,⟨hv,by omega⟩,hx,q y ?_⟩
     unfold plOf
     rw [hx]
     rfl
   | none =>
     refine bt3 ?_
     walk_at "run"
     refine ⟨d,_,rfl,hd,?_⟩
     walk_at "run"
     refine a81 hb (a07 (j:=0) rfl) ?_
     walk_at "run"
     refine ⟨_,.str e.kind,hd,⟨str_at0.toK K,by simp [Tr.h]⟩,q _ ?_⟩
     unfold plOf
     rw [hx]
     rfl
abbrev Row:=List Str×Nat
abbrev aa2:=Bool×List Row
def strW (s:Str):Tw:=.sc (.str s)
def rowW (r:Row):Tw:=.tup [.lst (r.1.map strW),.sc (.int (r.2:Nat))]
def roomW (r:aa2):Tw:=.tup [.sc (.bl r.1),.lst (r.2.map rowW)]
theorem strs_w {H:Hp}:∀ {ss:List Str}{vs:List V}{fs:List Addr},Tw.Ats H (ss.map strW) vs fs↔vs=strsV ss∧fs=[]
 | [],vs,fs=>by simp [Tw.Ats,strsV]
 | s::ss,vs,fs=>by
   simp only [List.map_cons,Tw.Ats,strW,Tw.At]
   constructor
   · rintro ⟨v,ws,f,g,rfl,rfl,⟨rfl,_,rfl⟩,h⟩
     obtain ⟨rfl,rfl⟩:=strs_w.mp h
     exact ⟨rfl,rfl⟩
   · rintro ⟨rfl,rfl⟩
     exact ⟨_,_,[],[],rfl,rfl,⟨rfl,True.intro,rfl⟩,strs_w.mpr ⟨rfl,rfl⟩⟩
theorem row_w {H:Hp}{r:Row}{v:V}{fs:List Addr}:(rowW r).At H v fs↔∃ k sl,v=.ref k∧H k=some (.tup [.ref sl,.int (r.2:Nat)])∧H sl=some (.lst (strsV r.1))∧fs=[sl]:=by
 simp only [rowW,Tw.At,Tw.Ats]
 constructor
 · rintro ⟨a,vs,rfl,e,v,ws,f,g,rfl,rfl,⟨sl,us,gs,rfl,e2,h,rfl⟩,v',ws',f',g',rfl,rfl,⟨rfl,_,rfl⟩,rfl,rfl⟩
   obtain ⟨rfl,rfl⟩:=strs_w.mp h
   exact ⟨a,sl,rfl,e,e2,rfl⟩
 · rintro ⟨k,sl,rfl,e,e2,rfl⟩
   exact ⟨k,_,rfl,e,_,_,[sl],[],rfl,rfl,⟨sl,_,[],rfl,e2,strs_w.mpr ⟨rfl,rfl⟩,rfl⟩,_,_,[],[],rfl,rfl,⟨rfl,True.intro,rfl⟩,rfl,rfl⟩
theorem room_w {H:Hp}{r:aa2}{v:V}{fs:List Addr}:(roomW r).At H v fs↔∃ q g ps gs,v=.ref q∧H q=some (.tup [.bl r.1,.ref g])∧H g=some (.lst ps)∧Tw.Ats H (r.2.map rowW) ps gs∧fs=g::gs:=by
 simp only [roomW,Tw.At,Tw.Ats]
 constructor
 · rintro ⟨a,vs,rfl,e,v,ws,f,g,rfl,rfl,⟨rfl,_,rfl⟩,v',ws',f',g',rfl,rfl,⟨sl,us,gs,rfl,e2,h,rfl⟩,rfl,rfl⟩
   exact ⟨a,sl,us,gs,rfl,e,e2,h,by simp⟩
 · rintro ⟨q,g,ps,gs,rfl,e,e2,h,rfl⟩
   exact ⟨q,_,rfl,e,_,_,[],g::gs,rfl,rfl,⟨rfl,True.intro,rfl⟩,_,_,g::gs,[],rfl,by simp,⟨g,ps,gs,rfl,e2,h,rfl⟩,rfl,rfl⟩
def bw7 (K:PySem.W.Frag):Sp:=fun vs H Q _=>∃ (v:V) (n:Addr) (m:Nat) (r:aa2) (fs:List Addr),vs=[v,.ref n]∧(roomW r).At H v fs∧H n=some (.lst (natsV (List.range m)))∧(∀ x∈r.2,x.2<m)∧r.2.length≤1000∧(∀ x∈r.2,x.1.length≤1000) ∧
 ∀ v' fs' H',Same H H'→(roomW r).At H' v' fs'→(∀ a∈fs',H a=none)→Q v' H'
theorem au2 (T:Txt K mg t):FnOk P w K mg base CX0 1 t.a_room_with t.fd_room_with ["room","numbers"] (bw7 K):=by
 refine T.F_room_with.ok au1 (fun vs H Q E h=>?_) (fun cdv A outer s H vs Q E hr h=>?_)
 · obtain ⟨v,n,m,r,fs,rfl,_⟩:=h
   rfl
 · obtain ⟨v,n,m,r,fs,rfl,hv,hn,hm,hl,hsl,q⟩:=h
   refine ⟨_,(@a09 _ _ _ (@a53 _ _ _ _ (@a57 _ _ _ _ _ (@a00 _ _ _ _ _ (@a49 _ _ _ _ _ _ _ (a45 K) (pv 0) (@a05 _ _ _ _) (fun _ _=>rfl)) (@a00 _ _ _ _ _ (ag8 (Nt:=["said","way"]) (Nf:=["numbers"]) (caps:=[1]) rfl (a90 (sc:=defScope a76) rfl rfl (by decide +kernel) (by decide +kernel) (by decide +kernel) rfl (by decide +kernel)) (a60 K (@a49 _ _ _ _ _ _ _ (a45 K) (pv 0) (@a05 _ _ _ _) (fun _ _=>rfl))) (fun _ _ _ _ _=>(ab6 K (n:=2) rfl (a50 (a36 (i:=0) (show (["said","way","numbers"]:List Str).Nodup by decide +kernel) rfl (by walk_at "o")) (a50 (a36 (i:=1) (show (["said","way","numbers"]:List Str).Nodup by decide +kernel) rfl (by walk_at "o")) (@ab5 _))))) (fun _ _ _ _ _=>(@a91 _)) (fun _ _ _ _ _=>(@a57 _ _ _ _ _ (@a00 _ _ _ _ _ (@a46 _ _ _ _ _ _ _ _ _ (aa0 K) (by rfl) T.z_list aa6 (@a00 _ _ _ _ _ (pv 0) (@a01 _) (by rfl)) (by decide) (by decide) (by rfl) (by rfl)) (@a00 _ _ _ _ _ (@a49 _ _ _ _ _ _ _ (a42 K) (pv 2) (pv 1) (fun _ _=>rfl)) (@a01 _) (by rfl)) (by rfl))))) (@a01 _) (by rfl)) (by rfl))))),?_⟩
   obtain ⟨b,g,ps,gs,rfl,hb,hg,hps,rfl⟩:=room_w.mp hv
   have pl:ps.length=r.2.length:=by rw [hps.len,List.length_map]
   walk_at "go"
   refine a81 (SqT.of hb) (a07 (j:=0) rfl) ?_
   walk_at "run"
   refine a81 (SqT.of hb) (a07 (j:=1) rfl) ?_
   walk_at "run"
   refine ⟨⟨_,SqL.of hg⟩,ap2 (xs:=ps) (le_line (by omega)) (fun i acc H'=>i≤r.2.length∧acc.length=i∧Same H H'∧∃ fs',Tw.Ats H' ((r.2.take i).map rowW) acc fs'∧∀ a∈fs',H a=none) ⟨Nat.zero_le _,rfl,Same.refl _,[],by simp [Tw.Ats],by simp⟩ (fun i acc H' ⟨_,e,s',_⟩=>⟨by omega,SqL.of (s' _ _ hg)⟩) ?_ ?_⟩
   · rintro i x acc H' hx ⟨hi,ea,s',fs',hat,hfr⟩
     obtain ⟨tx,fx,hx1,hx2,_⟩:=(hps.same s').get i x hx
     rw [List.getElem?_map] at hx1
     obtain ⟨w0,hw,rfl⟩:=Option.map_eq_some_iff.mp hx1
     obtain ⟨k,sl,rfl,hk,hsl',rfl⟩:=row_w.mp hx2
     have hi':i<r.2.length:=(List.getElem?_eq_some_iff.mp hw).1
     have hwm:=hm w0 (List.mem_of_getElem? hw)
     refine ⟨k,_,_,rfl,SqT.of hk,?_⟩
     walk_at "run"
     refine ab7 (SqL.of hsl') ?_
     intro p1 H1 f1 s1 e1
     walk_at "run"
     refine a99 (SqL.of ((s'.trans s1) _ _ hn)) (bj3 (by simpa using hwm)) ?_
     rw [show (List.range m).getD w0.2 0=w0.2 by simp [hwm]]
     walk_at "run"
     intro p2 H2 f2 s2 e2
     refine ⟨hi',by simp [ea],s'.trans (s1.trans s2),fs'++[p1],?_,?_⟩
     · rw [List.take_add_one,hw,List.map_append]
       exact (hat.same (s1.trans s2)).snoc (row_w.mpr ⟨p2,p1,rfl,e2,s2 _ _ e1,rfl⟩)
     · intro a ha
       rcases List.mem_append.mp ha with ha | ha
       · exact hfr a ha
       · rw [List.mem_singleton.mp ha]; exact s'.free f1
   · rintro acc H' ⟨_,ea,s',fs',hat,hfr⟩ p1 H1 f1 s1 e1
     rw [pl,List.take_length] at hat
     walk_at "run"
     intro p2 H2 f2 s2 e2
     refine q _ (p1::fs') H2 (s'.trans (s1.trans s2)) (room_w.mpr ⟨p2,p1,acc,fs',rfl,e2,s2 _ _ e1,hat.same (s1.trans s2),rfl⟩) ?_
     intro a ha
     rcases List.mem_cons.mp ha with rfl | ha
     · exact s'.free f1
     · exact hfr a ha
def mf (d s c:Addr):List (Str×V):=putF "rooms" (.ref c) (putF "saying" (.ref s) (putF "places" (.ref d) []))
theorem be3 (d s c:Addr):(mf d s c).lookup ("places":Str)=some (.ref d):=by
 unfold mf
 rw [a06,if_neg (by decide +kernel),a06,if_neg (by decide +kernel),a06,if_pos rfl]
theorem be4 (d s c:Addr):(mf d s c).lookup ("saying":Str)=some (.ref s):=by
 unfold mf
 rw [a06,if_neg (by decide +kernel),a06,if_pos rfl]
theorem bm9 (d s c:Addr):(mf d s c).lookup ("rooms":Str)=some (.ref c):=by
 unfold mf
 rw [a06,if_pos rfl]
theorem c82 (d s c:Addr) {m:Str}(h1:¬ m="rooms") (h2:¬ m="saying") (h3:¬ m="places"):(mf d s c).lookup m=none:=by
 unfold mf
 rw [a06,if_neg h1,a06,if_neg h2,a06,if_neg h3]
 all_goals rfl
structure MAt (P:Params) (C:Addr) (H:Hp) (p d s c:Addr) (es:List Ev) (sy:List Str) (rs:List aa2) (gs:List Addr):Prop where
 ex:∃ dx rvs,H p=some (.ins C dx (mf d s c))∧DtAt P H d (plc es 0 [])∧H s=some (.lst (strsV sy))∧H c=some (.lst rvs)∧Tw.Ats H (rs.map roomW) rvs gs
structure TabAt (H:Hp) (v:V) (a b c:Addr) (es:List Ev) (sy:List Str) (rs:List aa2) (gs:List Addr):Prop where
 ex:∃ t us rvs,v=.ref t∧H t=some (.tup [.ref a,.ref b,.ref c])∧H a=some (.lst us)∧Tr.Ats H (es.map Ev.tr) us []∧H b=some (.lst (strsV sy))∧H c=some (.lst rvs)∧Tw.Ats H (rs.map roomW) rvs gs
structure TabOk (es:List Ev) (sy:List Str) (rs:List aa2):Prop where
 ne:es.length≤100
 ns:sy.length≤100
 nr:rs.length≤100
 ok:∀ r∈rs,r.2.length=es.length∧∀ x∈r.2,x.2<rs.length∧x.1.length≤100
def sp_init (K:PySem.W.Frag) (P:Params) (C:Addr):Sp:=fun vs H Q _=>∃ (p dx:Addr) (v:V) (a b c:Addr) (es:List Ev) (sy:List Str) (rs:List aa2) (gs:List Addr),vs=[.ref p,v]∧H p=some (.ins C dx [])∧TabAt H v a b c es sy rs gs∧TabOk es sy rs ∧
 ∀ d s c' gs' H',MAt P C H' p d s c' es sy rs gs'→H d=none→H s=none→H c'=none→(∀ x∈gs',H x=none)→(∀ x o,H x=some o→x≠p→H' x=some o)→Q .non H'
theorem ad4 (T:Txt K mg t):FnOk P w K mg base CX0 2 t.a_TableMachine___init__ t.fd_TableMachine___init__ ["self","table"] (sp_init K w.params t.c_TableMachine):=by
 have G_places_by:=ai5 (P:=P) (w:=w) (base:=base) T
 have G_room_with:=au2 (P:=P) (w:=w) (base:=base) T
 refine T.F_TableMachine___init__.ok sc_TableMachine___init__ (fun vs H Q E h=>?_) (fun cdv A outer s H vs Q E hr h=>?_)
 · obtain ⟨p,dx,v,a,b,c,es,sy,rs,gs,rfl,_⟩:=h
   rfl
 · obtain ⟨p,dx,v,a,b,c,es,sy,rs,gs,rfl,hp,hT,ok,q⟩:=h
   refine ⟨_,(@a02 _ _ _ _ _ (ad0 K (pv 0) (@a38 _ _ _ _ _ _ _ _ _ _ _ _ _ _ _ _ G_places_by (hr.mono (by omega)) rfl T.m_places_by T.F_places_by.kp T.b_places_by .nil a52 (@a00 _ _ _ _ _ (@a49 _ _ _ _ _ _ _ (a45 K) (pv 1) (@a05 _ _ _ _) (fun _ _=>rfl)) (@a01 _) (by rfl)) (by decide) (by rfl) (by rfl)) rfl)
    (@a02 _ _ _ _ _ (ad0 K (pv 0) (@a46 _ _ _ _ _ _ _ _ _ (aa0 K) (by rfl) T.z_list aa6 (@a00 _ _ _ _ _ (@a49 _ _ _ _ _ _ _ (a45 K) (pv 1) (@a05 _ _ _ _) (fun _ _=>rfl)) (@a01 _) (by rfl)) (by decide) (by decide) (by rfl) (by rfl)) rfl)
    (@a02 _ _ _ _ _ (@a47 _ _ 2 _ _ _ _ sc_TableMachine___init__.nd rfl (by walk_at "o") (@a46 _ _ _ _ _ _ _ _ _ (bk3 rfl) (by rfl) T.z_list aa6 (@a00 _ _ _ _ _ (@a46 _ _ _ _ _ _ _ _ _ bb2 (by rfl) T.z_range bj0 (@a00 _ _ _ _ _ (@a70 _ _ _ _ _ _ _ _ _ (ac2 K) (by rfl) T.z_len ac7 (@a00 _ _ _ _ _ (@a49 _ _ _ _ _ _ _ (a45 K) (pv 1) (@a05 _ _ _ _) (fun _ _=>rfl)) (@a01 _) (by rfl)) (by decide) (by decide) (by rfl) (by rfl)) (@a01 _) (by rfl)) (by decide) (by decide) (by rfl) (by rfl)) (@a01 _) (by rfl)) (by decide) (by decide) (by rfl) (by rfl)) (by rfl) (by walk_at "o"))
    (@a09 _ _ _ (ad0 K (pv 0) (ag8 (Nt:=["room"]) (Nf:=["same"]) (caps:=[2]) rfl (a90 (sc:=defScope a35) rfl rfl (by decide +kernel) (by decide +kernel) (by decide +kernel) rfl (by decide +kernel)) (a60 K (@a49 _ _ _ _ _ _ _ (a45 K) (pv 1) (@a05 _ _ _ _) (fun _ _=>rfl))) (fun _ _ _ _ _=>(a36 (i:=0) (show (["room","same"]:List Str).Nodup by decide +kernel) rfl (by walk_at "o"))) (fun _ _ _ _ _=>(@a91 _)) (fun _ _ _ _ _=>(@a38 _ _ _ _ _ _ _ _ _ _ _ _ _ _ _ _ G_room_with (hr.mono (by omega)) rfl T.m_room_with T.F_room_with.kp T.b_room_with .nil a52 (@a00 _ _ _ _ _ (pv 0) (@a00 _ _ _ _ _ (pv 1) (@a01 _) (by rfl)) (by rfl)) (by decide) (by rfl) (by rfl)))) rfl))))),?_⟩
   obtain ⟨tt,us,rvs,rfl,h1,h2,h3,h4,h5,h6⟩:=hT.ex
   have rl:rvs.length=rs.length:=by rw [h6.len,List.length_map]
   have o1:=ok.ne
   have o2:=ok.ns
   have o3:=ok.nr
   walk_at "go"
   refine a81 (SqT.of h1) (a07 (j:=0) rfl) ?_
   walk_at "run"
   refine ⟨a,us,es,rfl,h2,h3,by omega,fun d H1 f1 s1 d1=>?_⟩
   walk_at "run"
   refine ⟨p,_,dx,_,rfl,s1 _ _ hp,T.cl_TableMachine,T.n_TableMachine_places,by decide,?_⟩
   have np:∀ {x:Addr}{o:HO},H x=some o→(∀ C dx fs,o≠.ins C dx fs)→x≠p:=fun e z=>ac8 e hp (z _ _ _)
   have kP2:∀ x o,x≠p→H x=some o→upd H1 p (.ins t.c_TableMachine dx (putF "places" (.ref d) [])) x=some o:=fun x o z e=>by rw [a08 z]; exact s1 _ _ e
   have e2:upd H1 p (.ins t.c_TableMachine dx (putF "places" (.ref d) [])) p=some (.ins t.c_TableMachine dx (putF "places" (.ref d) [])):=a34
   have hdp:d≠p:=(a03 hp f1).symm
   have d2:DtAt w.params (upd H1 p (.ins t.c_TableMachine dx (putF "places" (.ref d) []))) d (plc es 0 []):=d1.mono (aa7 (s1 _ _ hp)) (a08 hdp)
   generalize upd H1 p (.ins t.c_TableMachine dx (putF "places" (.ref d) []))=H2 at kP2 e2 d2
   walk_at "run"
   refine a81 (SqT.of (kP2 _ _ (np h1 (fun _ _ _ z=>nomatch z)) h1)) (a07 (j:=1) rfl) ?_
   walk_at "run"
   refine ab7 (SqL.of (kP2 _ _ (np h4 (fun _ _ _ z=>nomatch z)) h4)) ?_
   intro ps H3 f3 s3 e3
   walk_at "run"
   have hsp:ps≠p:=(a03 e2 f3).symm
   refine ⟨p,_,dx,_,rfl,s3 _ _ e2,T.cl_TableMachine,T.n_TableMachine_saying,(by have h1:=a74 "places" (V.ref d) []; rw [List.length_nil] at h1; omega),?_⟩
   have kP4:∀ x o,x≠p→H2 x=some o→upd H3 p (.ins t.c_TableMachine dx (putF "saying" (.ref ps) (putF "places" (.ref d) []))) x=some o:=fun x o z e=>by rw [a08 z]; exact s3 _ _ e
   have e4:upd H3 p (.ins t.c_TableMachine dx (putF "saying" (.ref ps) (putF "places" (.ref d) []))) p=some (.ins t.c_TableMachine dx (putF "saying" (.ref ps) (putF "places" (.ref d) []))):=a34
   have e34:upd H3 p (.ins t.c_TableMachine dx (putF "saying" (.ref ps) (putF "places" (.ref d) []))) ps=some (.lst (strsV sy)):=by rw [a08 hsp]; exact e3
   have d4:DtAt w.params (upd H3 p (.ins t.c_TableMachine dx (putF "saying" (.ref ps) (putF "places" (.ref d) [])))) d (plc es 0 []):=(a55 d2 s3).mono (aa7 (s3 _ _ e2)) (a08 hdp)
   have t4:Tups H2 (upd H3 p (.ins t.c_TableMachine dx (putF "saying" (.ref ps) (putF "places" (.ref d) [])))):=s3.tups.trans (aa7 (s3 _ _ e2))
   generalize upd H3 p (.ins t.c_TableMachine dx (putF "saying" (.ref ps) (putF "places" (.ref d) [])))=H4 at kP4 e4 e34 d4 t4
   have kP:∀ x o,x≠p→H x=some o→H4 x=some o:=fun x o z e=>kP4 x o z (kP2 x o z e)
   have h14:=kP _ _ (np h1 (fun _ _ _ z=>nomatch z)) h1
   have h54:=kP _ _ (np h5 (fun _ _ _ z=>nomatch z)) h5
   have k4:Keep gs H H4:=⟨fun b ys e=>kP _ _ (np e (fun _ _ _ z=>nomatch z)) e,fun a _ xs e=>kP _ _ (np e (fun _ _ _ z=>nomatch z)) e⟩
   have h64:=h6.mono k4
   walk_at "run"
   refine a81 (SqT.of h14) (a07 (j:=2) rfl) ?_
   walk_at "run"
   refine ag9 (SqL.of h54) ?_
   rw [rl]
   walk_at "run"
   refine bk4 (by omega) ?_
   intro pg H5 f5 s5 e5
   walk_at "run"
   refine bu8 e5 (by omega) ?_
   intro pn H6 f6 s6 e6
   walk_at "run"
   have s46:=s5.trans s6
   refine a81 (SqT.of (s46 _ _ h14)) (a07 (j:=2) rfl) ?_
   walk_at "run"
   refine ⟨⟨_,SqL.of (s46 _ _ h54)⟩,ac9 (xs:=rvs) (le_line (by omega)) (fun i acc H'=>i≤rs.length∧acc.length=i∧Same H6 H'∧∃ fs',Tw.Ats H' ((rs.take i).map roomW) acc fs'∧∀ a∈fs',H6 a=none) ⟨Nat.zero_le _,rfl,Same.refl _,[],by simp [Tw.Ats],by simp⟩ (fun i acc H' ⟨_,e,s',_⟩=>⟨by omega,SqL.of ((s46.trans s') _ _ h54)⟩) ?_ ?_⟩
   · rintro i x acc H' hx ⟨hi,ea,s',fs',hat,hfr⟩
     obtain ⟨tx,fx,hx1,hx2,_⟩:=(h64.same (s46.trans s')).get i x hx
     rw [List.getElem?_map] at hx1
     obtain ⟨w0,hw,rfl⟩:=Option.map_eq_some_iff.mp hx1
     have hi':i<rs.length:=(List.getElem?_eq_some_iff.mp hw).1
     obtain ⟨k1,k2⟩:=ok.ok w0 (List.mem_of_getElem? hw)
     walk_at "run"
     refine ⟨x,pn,rs.length,w0,fx,rfl,hx2,s' _ _ e6,fun z hz=>(k2 z hz).1,by omega,fun z hz=>by have:=(k2 z hz).2; omega,fun v' fs2 H7 s7 hv7 hf7=>?_⟩
     refine ⟨hi',by simp [ea],s'.trans s7,fs'++fs2,?_,?_⟩
     · rw [List.take_add_one,hw,List.map_append]
       exact (hat.same s7).snoc hv7
     · intro a ha
       rcases List.mem_append.mp ha with ha | ha
       · exact hfr a ha
       · exact s'.free (hf7 a ha)
   · rintro acc H' ⟨_,ea,s',fs',hat,hfr⟩ pc H8 f8 s8 e8
     rw [rl,List.take_length] at hat
     walk_at "run"
     have s48:=s46.trans (s'.trans s8)
     have e48:=s48 _ _ e4
     have hcp:pc≠p:=(a03 e4 ((s46.trans s').free f8)).symm
     refine ⟨p,_,dx,_,rfl,e48,T.cl_TableMachine,T.n_TableMachine_rooms,(by have h1:=a74 "places" (V.ref d) []; have h2:=a74 "saying" (V.ref ps) (putF "places" (V.ref d) []); rw [List.length_nil] at h1; omega),?_⟩
     walk_at "run"
     have tF:Tups H8 (upd H8 p (.ins t.c_TableMachine dx (mf d ps pc))):=aa7 e48
     have frH:∀ {x:Addr},H4 x=none→x≠p→H x=none:=fun {x} z zp=>by
      cases e:H x with
      | none=>rfl
      | some o=>rw [kP x o zp e] at z; cases z
     have nfs:∀ x∈fs',x≠p:=fun x hx z=>by
      have:=s46.free (hfr x hx)
      rw [z,e4] at this
      cases this
     refine q d ps pc fs' _ ⟨dx,acc,a34,(a55 d4 s48).mono tF (a08 hdp),by rw [a08 hsp]; exact s48 _ _ e34,by rw [a08 hcp]; exact e8,(hat.same s8).mono ⟨tF,fun a ha xs e=>by rw [a08 (nfs a ha)]; exact e⟩⟩ f1 ?_ (frH ((s46.trans s').free f8) hcp) (fun x hx=>frH (s46.free (hfr x hx)) (nfs x hx)) fun x o e z=>by rw [a08 z]; exact s48 _ _ (kP x o z e)
     cases e:H ps with
     | none=>rfl
     | some o=>rw [kP2 ps o hsp e] at f3; cases f3
def sp_begin (K:PySem.W.Frag) (P:Params) (C:Addr):Sp:=fun vs H Q _=>∃ (p d s c:Addr) (es:List Ev) (sy:List Str) (rs:List aa2) (gs:List Addr),vs=[.ref p]∧MAt P C H p d s c es sy rs gs ∧
 ∀ k l H',H l=none→Same H H'→H' k=some (.tup [.ref l,.int 0])→H' l=some (.lst (strsV sy))→Q (.ref k) H'
theorem af0 (T:Txt K mg t):FnOk P w K mg base CX0 1 t.a_TableMachine_begin t.fd_TableMachine_begin ["self"] (sp_begin K w.params t.c_TableMachine):=by
 refine T.F_TableMachine_begin.ok ae9 (fun vs H Q E h=>?_) (fun cdv A outer s H vs Q E hr h=>?_)
 · obtain ⟨p,d,s',c,es,sy,rs,gs,rfl,_⟩:=h
   rfl
 · obtain ⟨p,d,s',c,es,sy,rs,gs,rfl,hM,q⟩:=h
   refine ⟨_,(@a09 _ _ _ (@a53 _ _ _ _ (@a57 _ _ _ _ _ (@a00 _ _ _ _ _ (@a46 _ _ _ _ _ _ _ _ _ (aa0 K) (by rfl) T.z_list aa6 (@a00 _ _ _ _ _ (a79 K (pv 0) rfl) (@a01 _) (by rfl)) (by decide) (by decide) (by rfl) (by rfl)) (@a00 _ _ _ _ _ (@a05 _ _ _ _) (@a01 _) (by rfl)) (by rfl))))),?_⟩
   obtain ⟨dx,rvs,h1,h2,h3,h4,h5⟩:=hM.ex
   walk_at "go"
   refine ⟨p,_,dx,_,_,rfl,h1,T.cl_TableMachine,T.n_TableMachine_saying,be4 _ _ _,?_⟩
   walk_at "run"
   refine ab7 (SqL.of h3) ?_
   intro l H1 f1 s1 e1
   walk_at "run"
   intro k H2 f2 s2 e2
   exact q k l H2 f1 (s1.trans s2) e2 (s2 _ _ e1)
def sp_step (K:PySem.W.Frag) (P:Params) (C:Addr):Sp:=fun vs H Q _=>∃ (p d s c:Addr) (es:List Ev) (sy:List Str) (rs:List aa2) (gs:List Addr) (n j:Nat) (v:V) (e:Ev) (r:aa2) (x:Row),vs=[.ref p,.int (n:Nat),v]∧MAt P C H p d s c es sy rs gs∧e.tr.AtK K H v ∧
 plOf es e=some (.int (j:Nat))∧rs[n]?=some r∧r.2[j]?=some x∧∀ k l H',H l=none→Same H H'→H' k=some (.tup [.ref l,.int (x.2:Nat)])→H' l=some (.lst (strsV x.1))→Q (.ref k) H'
theorem af9 (T:Txt K mg t):FnOk P w K mg base CX0 2 t.a_TableMachine_step t.fd_TableMachine_step ["self","standing","event"] (sp_step K w.params t.c_TableMachine):=by
 have G_place_of:=al3 (P:=P) (w:=w) (base:=base) T
 refine T.F_TableMachine_step.ok sc_TableMachine_step (fun vs H Q E h=>?_) (fun cdv A outer s H vs Q E hr h=>?_)
 · obtain ⟨p,d,s',c,es,sy,rs,gs,n,j,v,e,r,x,rfl,_⟩:=h
   rfl
 · obtain ⟨p,d,s',c,es,sy,rs,gs,n,j,v,e,r,x,rfl,hM,hv,hj,hr1,hx,q⟩:=h
   refine ⟨_,(@a02 _ _ _ _ _ (@a47 _ _ 3 _ _ _ _ sc_TableMachine_step.nd rfl (by walk_at "o") (@a49 _ _ _ _ _ _ _ (a42 K) (@a49 _ _ _ _ _ _ _ (a45 K) (@a49 _ _ _ _ _ _ _ (a42 K) (a79 K (pv 0) rfl) (pv 1) (fun _ _=>rfl)) (@a05 _ _ _ _) (fun _ _=>rfl)) (@a38 _ _ _ _ _ _ _ _ _ _ _ _ _ _ _ _ G_place_of (hr.mono (by omega)) rfl T.m_place_of T.F_place_of.kp T.b_place_of .nil a52 (@a00 _ _ _ _ _ (a79 K (pv 0) rfl) (@a00 _ _ _ _ _ (pv 2) (@a01 _) (by rfl)) (by rfl)) (by decide) (by rfl) (by rfl)) (fun _ _=>rfl)) (by rfl) (by walk_at "o"))
    (@a09 _ _ _ (@a53 _ _ _ _ (@a57 _ _ _ _ _ (@a00 _ _ _ _ _ (@a46 _ _ _ _ _ _ _ _ _ (aa0 K) (by rfl) T.z_list aa6 (@a00 _ _ _ _ _ (@a49 _ _ _ _ _ _ _ (a45 K) (pv 3) (@a05 _ _ _ _) (fun _ _=>rfl)) (@a01 _) (by rfl)) (by decide) (by decide) (by rfl) (by rfl)) (@a00 _ _ _ _ _ (@a49 _ _ _ _ _ _ _ (a45 K) (pv 3) (@a05 _ _ _ _) (fun _ _=>rfl)) (@a01 _) (by rfl)) (by rfl)))))),?_⟩
   obtain ⟨dx,rvs,h1,h2,h3,h4,h5⟩:=hM.ex
   have hn:n<rvs.length:=by
    rw [h5.len,List.length_map]
    exact (List.getElem?_eq_some_iff.mp hr1).1
   obtain ⟨tx,fx,hx1,hx2,_⟩:=h5.get n rvs[n] (List.getElem?_eq_getElem hn)
   rw [List.getElem?_map,hr1] at hx1
   cases hx1
   obtain ⟨q1,g,ps,gs1,hq0,hq1,hg,hps,rfl⟩:=room_w.mp hx2
   have hjl:j<ps.length:=by
    rw [hps.len,List.length_map]
    exact (List.getElem?_eq_some_iff.mp hx).1
   obtain ⟨tx,fx,hx1,hx3,_⟩:=hps.get j ps[j] (List.getElem?_eq_getElem hjl)
   rw [List.getElem?_map,hx] at hx1
   cases hx1
   obtain ⟨k0,sl,hk0,hk1,hsl,rfl⟩:=row_w.mp hx3
   walk_at "go"
   refine ⟨p,_,dx,_,_,rfl,h1,T.cl_TableMachine,T.n_TableMachine_rooms,bm9 _ _ _,?_⟩
   walk_at "run"
   refine a99 (SqL.of h4) (a07 (j:=n) (v:=.ref q1) (by rw [List.getElem?_eq_getElem hn,hq0])) ?_
   walk_at "run"
   refine a81 (SqT.of hq1) (a07 (j:=1) rfl) ?_
   walk_at "run"
   refine ⟨p,_,dx,_,_,rfl,h1,T.cl_TableMachine,T.n_TableMachine_places,be3 _ _ _,?_⟩
   walk_at "run"
   refine ⟨d,v,es,e,rfl,h2,hv,fun y hy=>?_⟩
   rw [hj] at hy
   cases hy
   refine a99 (SqL.of hg) (a07 (j:=j) (v:=.ref k0) (by rw [List.getElem?_eq_getElem hjl,hk0])) ?_
   walk_at "run"
   refine a81 (SqT.of hk1) (a07 (j:=0) rfl) ?_
   walk_at "run"
   refine ab7 (SqL.of hsl) ?_
   intro l H1 f1 s1 e1
   walk_at "run"
   refine a81 (SqT.of (s1 _ _ hk1)) (a07 (j:=1) rfl) ?_
   walk_at "run"
   intro k H2 f2 s2 e2
   exact q k l H2 f1 (s1.trans s2) e2 (s2 _ _ e1)
noncomputable instance evDec:DecidableEq Ev:=fun _ _=>Classical.propDecidable _
theorem bq6 (e:Ev) (k:Str):¬ e.tr=Tr.str k:=by cases e <;> simp [Ev.tr]
theorem be5 (es:List Ev) (e:Ev) (t:Tr):valV (plc (es++[e]) 0 []) t=if t=.str e.kind then some (.int (es.length:Nat)) else if t=e.tr then some (.int (es.length:Nat)) else valV (plc es 0 []) t:=by
 rw [aq3,az5,az5,Nat.zero_add]
theorem c83 {es:List Ev}(hn:es.Nodup) (e:Ev):∀ i,i≤es.length→(∃ j:Nat,(es.take i)[j]?=some e∧valV (plc (es.take i) 0 []) e.tr=some (.int (j:Nat)))∨(e∉es.take i∧valV (plc (es.take i) 0 []) e.tr=none):=by
 intro i
 induction i with
 | zero=>intro _; exact .inr ⟨by simp,rfl⟩
 | succ i ih =>
   intro hi
   have he:es[i]?=some es[i]:=List.getElem?_eq_getElem (by omega)
   have htk:es.take (i+1)=es.take i++[es[i]]:=by rw [List.take_add_one,he]; rfl
   have hl:(es.take i).length=i:=by simp; omega
   rw [htk,be5,if_neg (bq6 e _),hl]
   by_cases h:e.tr=es[i].tr
   · have h':=Ev.tr_inj h
     rw [if_pos h]
     refine .inl ⟨i,?_,rfl⟩
     rw [List.getElem?_append_right (by omega),hl,Nat.sub_self,h']
     rfl
   · rw [if_neg h]
     rcases ih (by omega) with ⟨j,h1,h2⟩ | ⟨h1,h2⟩
     · refine .inl ⟨j,?_,h2⟩
       rw [List.getElem?_append_left (List.getElem?_eq_some_iff.mp h1).1]
       exact h1
     · refine .inr ⟨fun z=>?_,h2⟩
       rcases List.mem_append.mp z with z | z
       · exact h1 z
       · exact h (by rw [List.mem_singleton.mp z])
theorem bn0 {es:List Ev}(k:Str):∀ i,i≤es.length→(∃ (j:Nat) (x:Ev),j<i∧es[j]?=some x∧x.kind=k∧(∀ (m:Nat) (y:Ev),j<m→m<i→es[m]?=some y→y.kind≠k)∧valV (plc (es.take i) 0 []) (.str k)=some (.int (j:Nat)))∨((∀ (m:Nat) (y:Ev),m<i→es[m]?=some y→y.kind≠k)∧valV (plc (es.take i) 0 []) (.str k)=none):=by
 intro i
 induction i with
 | zero=>intro _; exact .inr ⟨fun m y h=>absurd h (Nat.not_lt_zero _),rfl⟩
 | succ i ih =>
   intro hi
   have he:es[i]?=some es[i]:=List.getElem?_eq_getElem (by omega)
   have htk:es.take (i+1)=es.take i++[es[i]]:=by rw [List.take_add_one,he]; rfl
   have hl:(es.take i).length=i:=by simp; omega
   rw [htk,be5,hl]
   by_cases h:k=es[i].kind
   · rw [if_pos (by rw [h])]
     exact .inl ⟨i,es[i],by omega,he,h.symm,fun m y h1 h2=>absurd h1 (by omega),rfl⟩
   · rw [if_neg (by simpa using h),if_neg (fun z=>bq6 _ _ z.symm)]
     rcases ih (by omega) with ⟨j,x,h0,h1,h2,h3,h4⟩ | ⟨h1,h2⟩
     · refine .inl ⟨j,x,by omega,h1,h2,fun m y a b c=>?_,h4⟩
       by_cases hm:m=i
       · subst hm
         rw [he] at c
         cases c
         exact fun z=>h z.symm
       · exact h3 m y a (by omega) c
     · refine .inr ⟨fun m y b c=>?_,h2⟩
       by_cases hm:m=i
       · subst hm
         rw [he] at c
         cases c
         exact fun z=>h z.symm
       · exact h1 m y (by omega) c
abbrev Say:=Option Nat×Str
def W5:List Str:=[Str.ofString "a",Str.ofString "b",Str.ofString "go",Str.ofString "yes",Str.ofString "no"]
def figS (l:Nat):Str:=Str.ofString (toString ((l:Nat):Int))
def sayT (x:Say):Str:=match x.1 with
 | none=>x.2
 | some l=>figS l++Str.ofString ":"++x.2
def SayOk (x:Say):Prop:=x.2∈W5∧∀ l,x.1=some l→l<10
theorem bw8:∀ l,l<10→∀ w∈W5,Txt.partition (figS l++Str.ofString ":"++w) (Str.ofString ":")=(figS l,Str.ofString ":",w):=by decide +kernel
theorem bw9:∀ w∈W5,Txt.partition w (Str.ofString ":")=(w,Str.ofString "",Str.ofString ""):=by decide +kernel
theorem be6:∀ l,l<10→intText? (figS l)=some (l:Int):=by decide +kernel
theorem c84:∀ l,l<10→∀ w∈W5,(figS l++Str.ofString ":"++w).length≤100:=by decide +kernel
theorem c85:∀ w∈W5,w.length≤100:=by decide +kernel
theorem be7:∀ l,l<10→(figS l).length≤100:=by decide +kernel
def pb (xs:List Ev) (w:Ev):List Ev:=if xs.length<3 then xs++[w] else xs
def stl (R:List (List Ev)) (x:Say):List (List Ev):=match x.1 with
 | none=>R
 | some l=>if l<R.length then R.set l (pb (R.getD l []) (.word x.2)) else R
def stlS (R:List (List Ev)) (s:List Say):List (List Ev):=s.foldl stl R
def stlA (R:List (List Ev)) (ss:List (List Say)):List (List Ev):=ss.foldl stlS R
theorem bx0 (R:List (List Ev)) (x:Say):(stl R x).length=R.length:=by
 unfold stl
 split
 · rfl
 · split
   · simp
   · rfl
theorem aq4:∀ (s:List Say) (R:List (List Ev)),(stlS R s).length=R.length
 | [],R=>rfl
 | x::s,R=>by
   show (stlS (stl R x) s).length=_
   rw [aq4 s,bx0]
theorem ah4:∀ (s:List (List Say)) (R:List (List Ev)),(stlA R s).length=R.length
 | [],R=>rfl
 | x::s,R=>by
   show (stlA (stlS R x) s).length=_
   rw [ah4 s,aq4]
def EvsAt (H:Hp) (v:V) (ws:List Ev):Prop:=∃ a us,v=.ref a∧H a=some (.tup us)∧Tr.Ats H (ws.map Ev.tr) us []
theorem EvsAt.tups {H H':Hp}{v:V}{ws:List Ev}(h:EvsAt H v ws) (k:Tups H H'):EvsAt H' v ws:=by
 obtain ⟨a,us,e,h1,h2⟩:=h
 exact ⟨a,us,e,k _ _ h1,ac5 h2 k⟩
theorem w_at {H:Hp}{a:Addr}{w:Str}(h:H a=some (.tup [.str "word",.str w])):(Ev.word w).tr.At H (.ref a) []:=by
 simp only [Ev.tr,Tr.At,Tr.Ats]
 exact ⟨a,_,rfl,h,_,_,[],[],rfl,rfl,⟨rfl,rfl⟩,_,_,[],[],rfl,rfl,⟨rfl,rfl⟩,rfl,rfl⟩
def be8 (K:PySem.W.Frag):Sp:=fun vs H Q _=>∃ (k l:Addr) (y:V) (xs:List V),vs=[.ref k]∧H k=some (.tup [.ref l,y])∧H l=some (.lst xs)∧∀ l' k' H',H l'=none→Same H H'→H' k'=some (.tup [.ref l',y])→H' l'=some (.lst xs)→Q (.ref k') H'
theorem au3 (T:Txt K mg t):FnOk P w K mg base CX0 1 t.a_copied t.fd_copied ["told"] (be8 K):=by
 refine T.F_copied.ok be0 (fun vs H Q E h=>?_) (fun cdv A outer s H vs Q E hr h=>?_)
 · obtain ⟨k,l,y,xs,rfl,_⟩:=h
   rfl
 · obtain ⟨k,l,y,xs,rfl,hk,hl,q⟩:=h
   refine ⟨_,(@a09 _ _ _ (@a53 _ _ _ _ (@a57 _ _ _ _ _ (@a00 _ _ _ _ _ (@a46 _ _ _ _ _ _ _ _ _ (aa0 K) (by rfl) T.z_list aa6 (@a00 _ _ _ _ _ (@a49 _ _ _ _ _ _ _ (a45 K) (pv 0) (@a05 _ _ _ _) (fun _ _=>rfl)) (@a01 _) (by rfl)) (by decide) (by decide) (by rfl) (by rfl)) (@a00 _ _ _ _ _ (@a49 _ _ _ _ _ _ _ (a45 K) (pv 0) (@a05 _ _ _ _) (fun _ _=>rfl)) (@a01 _) (by rfl)) (by rfl))))),?_⟩
   walk_at "go"
   refine a81 (SqT.of hk) (a07 (j:=0) rfl) ?_
   walk_at "run"
   refine ab7 (SqL.of hl) ?_
   intro p1 H1 f1 s1 e1
   walk_at "run"
   refine a81 (SqT.of (s1 _ _ hk)) (a07 (j:=1) rfl) ?_
   walk_at "run"
   intro p2 H2 f2 s2 e2
   exact q p1 p2 H2 f1 (s1.trans s2) e2 (s2 _ _ e1)
def c86 (K:PySem.W.Frag):Sp:=fun vs H Q _=>∃ (v u:V) (ws:List Ev) (w:Ev),vs=[v,u]∧EvsAt H v ws∧w.tr.At H u []∧ws.length≤100∧∀ v' H',Same H H'→EvsAt H' v' (pb ws w)→Q v' H'
theorem ah5 (T:Txt K mg t):FnOk P w K mg base CX0 1 t.a_put_behind t.fd_put_behind ["row","event"] (c86 K):=by
 refine T.F_put_behind.ok aq1 (fun vs H Q E h=>?_) (fun cdv A outer s H vs Q E hr h=>?_)
 · obtain ⟨v,u,ws,w0,rfl,_⟩:=h
   rfl
 · obtain ⟨v,u,ws,w0,rfl,⟨a,us,rfl,ha,hus⟩,hu,hl,q⟩:=h
   refine ⟨_,(@a02 _ _ _ _ _ (@ai7 _ _ _ _ _ _ _ _ (@a83 _ _ _ _ _ _ _ _ br8 (@a70 _ _ _ _ _ _ _ _ _ (ac2 K) (by rfl) T.z_len ac7 (@a00 _ _ _ _ _ (pv 0) (@a01 _) (by rfl)) (by decide) (by decide) (by rfl) (by rfl)) (ah9 (by rfl) T.m_MOST_WAITING (by exact T.r_MOST_WAITING)) (nomark _)) (@a09 _ _ _ (@a53 _ _ _ _ (@a80 _ _ _ _ _ _ _ _ bk7 (pv 0) (@a57 _ _ _ _ _ (@a00 _ _ _ _ _ (pv 1) (@a01 _) (by rfl)))))) (@ac1 _))
    (@a09 _ _ _ (@a53 _ _ _ _ (pv 0)))),?_⟩
   have sl:(1000000:Nat)≤sizeLine:=le_line (Nat.le_refl _)
   have ul:us.length=ws.length:=by rw [hus.len,List.length_map]
   walk_at "go"
   refine bp9 (SqT.of ha) ?_
   walk_at "run"
   rw [ul]
   by_cases hc:ws.length<3
   · refine bp7 (by omega) ?_
     walk_at "run"
     intro p1 H1 f1 s1 e1
     refine c75 (s1 _ _ ha) e1 (by simp; omega) fun c H2 s2 e2=>?_
     have s02:=s1.trans s2
     refine q _ H2 s02 ⟨c,_,rfl,e2,?_⟩
     unfold pb
     rw [if_pos hc,List.map_append]
     exact (ac5 hus s02.tups).snoc (a92 hu s02.tups)
   · refine bp8 (by omega) ?_
     walk_at "run"
     refine q _ H (Same.refl _) ⟨a,us,rfl,ha,?_⟩
     unfold pb
     rw [if_neg hc]
     exact hus
abbrev Told:=Addr×List Say×Nat
def ToldAt (H:Hp) (v:V) (x:Told):Prop:=∃ k,v=.ref k∧H k=some (.tup [.ref x.1,.int (x.2.2:Nat)])∧H x.1=some (.lst (strsV (x.2.1.map sayT)))
def StdAt (H:Hp) (v:V) (x:Nat×List Ev):Prop:=∃ k rv,v=.ref k∧H k=some (.tup [.int (x.1:Nat),rv])∧EvsAt H rv x.2
theorem ToldAt.same {H H':Hp}{v:V}{x:Told}(h:ToldAt H v x) (s:Same H H'):ToldAt H' v x:=by
 obtain ⟨k,e,h1,h2⟩:=h
 exact ⟨k,e,s _ _ h1,s _ _ h2⟩
theorem StdAt.tups {H H':Hp}{v:V}{x:Nat×List Ev}(h:StdAt H v x) (t:Tups H H'):StdAt H' v x:=by
 obtain ⟨k,rv,e,h1,h2⟩:=h
 exact ⟨k,rv,e,t _ _ h1,h2.tups t⟩
def stds (ts:List Told) (R:List (List Ev)):List (Nat×List Ev):=List.zipWith (fun x ws=>(x.2.2,ws)) ts R
structure TurnAt (B H:Hp) (v:V) (ts:List Told) (R:List (List Ev)):Prop where
 ex:∃ res sa st stv,v=.ref res∧H res=some (.tup [.ref sa,.ref st])∧H sa=some (.lst (ts.map fun x=>V.ref x.1))∧H st=some (.tup stv)∧Each (StdAt H) stv (stds ts R)∧(∀ x∈ts,H x.1=some (.lst (strsV (x.2.1.map sayT))))∧B sa=none
theorem TurnAt.free {A B H:Hp}{v:V}{ts:List Told}{R:List (List Ev)}(h:TurnAt B H v ts R) (s:Same A B):TurnAt A H v ts R:=by
 obtain ⟨res,sa,st,stv,h1,h2,h3,h4,h5,h6,h7⟩:=h.ex
 exact ⟨res,sa,st,stv,h1,h2,h3,h4,h5,h6,s.free h7⟩
def R3 (R:List (List Ev)):Prop:=∀ r∈R,r.length≤3
theorem bx1 {xs:List Ev}{w:Ev}(h:xs.length≤3):(pb xs w).length≤3:=by
 unfold pb
 split
 · simp; omega
 · exact h
theorem c87 {R:List (List Ev)}(h:R3 R) (x:Say):R3 (stl R x):=by
 unfold stl
 split
 · exact h
 · split
   · next l hl =>
     intro r hr
     rcases List.mem_or_eq_of_mem_set hr with hr | rfl
     · exact h r hr
     · exact bx1 (h _ (by rw [List.getD_eq_getElem?_getD,List.getElem?_eq_getElem hl]; exact List.getElem_mem hl))
   · exact h
theorem ay3:∀ (s:List Say) {R:List (List Ev)},R3 R→R3 (stlS R s)
 | [],R,h=>h
 | x::s,R,h=>ay3 s (c87 h x)
theorem aq5:∀ (s:List (List Say)) {R:List (List Ev)},R3 R→R3 (stlA R s)
 | [],R,h=>h
 | x::s,R,h=>aq5 s (ay3 x h)
theorem be9 (R:List (List Ev)) (s:List Say) (x:Say):stlS R (s++[x])=stl (stlS R s) x:=by simp [stlS,List.foldl_append]
theorem bf0 (R:List (List Ev)) (s:List (List Say)) (x:List Say):stlA R (s++[x])=stlS (stlA R s) x:=by simp [stlA,List.foldl_append]
theorem al4 {ss:List Str}{i:Nat}{v:V}(h:(strsV ss)[i]?=some v):∃ s,ss[i]?=some s∧v=.str s:=by
 unfold strsV at h
 rw [List.getElem?_map] at h
 obtain ⟨s,h1,h2⟩:=Option.map_eq_some_iff.mp h
 exact ⟨s,h1,h2.symm⟩
def b69 (K:PySem.W.Frag):Sp:=fun vs H Q _=>∃ (ta ra:Addr) (tvs rvs:List V) (ts:List Told) (R:List (List Ev)),vs=[.ref ta,.ref ra]∧H ta=some (.lst tvs)∧Each (ToldAt H) tvs ts∧H ra=some (.lst rvs)∧Each (EvsAt H) rvs R∧R.length=ts.length∧ts.length≤100∧(∀ x∈ts,x.2.1.length≤100∧∀ s∈x.2.1,SayOk s)∧R3 R ∧
 ∀ v H',Same H H'→TurnAt H H' v ts (stlA R (ts.map (·.2.1)))→Q v H'
theorem af1 (T:Txt K mg t):FnOk P w K mg base CX0 2 t.a_settled_turn t.fd_settled_turn ["told","rows"] (b69 K):=by
 have G_put_behind:=ah5 (P:=P) (w:=w) (base:=base) T
 refine T.F_settled_turn.ok sc_settled_turn (fun vs H Q E h=>?_) (fun cdv A outer s H vs Q E hr h=>?_)
 · obtain ⟨ta,ra,tvs,rvs,ts,R,rfl,_⟩:=h
   rfl
 · obtain ⟨ta,ra,tvs,rvs,ts,R,rfl,hta,hT,hra,hR,hl,hn,hok,hR3,q⟩:=h
   refine ⟨_,(@a02 _ _ _ _ _ (@a47 _ _ 1 _ _ _ _ sc_settled_turn.nd rfl (by walk_at "o") (@a46 _ _ _ _ _ _ _ _ _ (aa0 K) (by rfl) T.z_list aa6 (@a00 _ _ _ _ _ (pv 1) (@a01 _) (by rfl)) (by decide) (by decide) (by rfl) (by rfl)) (by rfl) (by walk_at "o"))
    (@a02 _ _ _ _ _ (bi5 (i:=2) (Nt:=["each"]) (Nf:=[]) (caps:=[]) rfl (a90 (sc:=defScope a51) rfl rfl (by decide +kernel) (by decide +kernel) (by decide +kernel) rfl (by decide +kernel)) (a60 K (pv 0)) (fun _ _ _ _ _=>(a36 (i:=0) (show (["each"]:List Str).Nodup by decide +kernel) rfl (by walk_at "o"))) (fun _ _ _ _ _=>(@a91 _)) (fun _ _ _ _ _=>(@a49 _ _ _ _ _ _ _ (a45 K) (pv 0) (@a05 _ _ _ _) (fun _ _=>rfl))) sc_settled_turn.nd rfl (by walk_at "o") rfl)
    (@a02 _ _ _ _ _ (@aa3 _ _ _ _ _ _ _ _ PassesOwn.never rfl (a60 K (pv 2)) (a36 (i:=3) sc_settled_turn.nd rfl (by walk_at "o")) (@a09 _ _ _ (@aa3 _ _ _ _ _ _ _ _ PassesOwn.never rfl (a60 K (pv 3)) (a36 (i:=4) sc_settled_turn.nd rfl (by walk_at "o")) (@a02 _ _ _ _ _ (@a47 _ _ 5 _ _ _ _ sc_settled_turn.nd rfl (by walk_at "o") (@ac4 _ K _ _ _ _ _ _ _ _ _ _ _ PySem.F.plainAttrs_str PySem.F.slot_str_partition PySem.F.type_str_partition bv3 (pv 4) (@a00 _ _ _ _ _ (@a62 _ _ _ _) (@a01 _) (by rfl)) (by rfl) (by rfl) (by rfl) (by rfl) (by rfl) (by rfl)) (by rfl) (by walk_at "o"))
     (@a09 _ _ _ (@ai7 _ _ _ _ _ _ _ _ (@PW.pt _ _ _ (@by9 _ _ _ _ _ _ _ (@a83 _ _ _ _ _ _ _ _ c97 (@a49 _ _ _ _ _ _ _ (a45 K) (pv 5) (@a05 _ _ _ _) (fun _ _=>rfl)) (@a62 _ _ _ _) (nomark _)) (@br5 _ _ _ _ (@a83 _ _ _ _ _ _ _ _ br8 (@a46 _ _ _ _ _ _ _ _ _ bb6 (by rfl) T.z_int bp6 (@a00 _ _ _ _ _ (@a49 _ _ _ _ _ _ _ (a45 K) (pv 5) (@a05 _ _ _ _) (fun _ _=>rfl)) (@a01 _) (by rfl)) (by decide) (by decide) (by rfl) (by rfl)) (@a70 _ _ _ _ _ _ _ _ _ (ac2 K) (by rfl) T.z_len ac7 (@a00 _ _ _ _ _ (pv 1) (@a01 _) (by rfl)) (by decide) (by decide) (by rfl) (by rfl)) (nomark _))))) (@a02 _ _ _ _ _ (@a47 _ _ 6 _ _ _ _ sc_settled_turn.nd rfl (by walk_at "o") (@a46 _ _ _ _ _ _ _ _ _ bb6 (by rfl) T.z_int bp6 (@a00 _ _ _ _ _ (@a49 _ _ _ _ _ _ _ (a45 K) (pv 5) (@a05 _ _ _ _) (fun _ _=>rfl)) (@a01 _) (by rfl)) (by decide) (by decide) (by rfl) (by rfl)) (by rfl) (by walk_at "o"))
      (@a09 _ _ _ (@am2 _ _ _ _ _ _ (@a38 _ _ _ _ _ _ _ _ _ _ _ _ _ _ _ _ G_put_behind (hr.mono (by omega)) rfl T.m_put_behind T.F_put_behind.kp T.b_put_behind .nil a52 (@a00 _ _ _ _ _ (@a49 _ _ _ _ _ _ _ (a42 K) (pv 1) (pv 6) (fun _ _=>rfl)) (@a00 _ _ _ _ _ (@a57 _ _ _ _ _ (@a00 _ _ _ _ _ (@a62 _ _ _ _) (@a00 _ _ _ _ _ (@a49 _ _ _ _ _ _ _ (a45 K) (pv 5) (@a05 _ _ _ _) (fun _ _=>rfl)) (@a01 _) (by rfl)) (by rfl))) (@a01 _) (by rfl)) (by rfl)) (by decide) (by rfl) (by rfl)) (ar5 (pv 1) (pv 6) ag5) (by rfl) (by rfl) (by rfl)))) (@ac1 _)))) (by intro _; rfl))) (by intro _; rfl))
    (@a09 _ _ _ (@a53 _ _ _ _ (@a57 _ _ _ _ _ (@a00 _ _ _ _ _ (pv 2) (@a00 _ _ _ _ _ (@a46 _ _ _ _ _ _ _ _ _ (ac3 K) (by rfl) T.z_tuple ad7 (@a00 _ _ _ _ _ (ag8 (Nt:=["each","row"]) (Nf:=[]) (caps:=[]) rfl (a90 (sc:=defScope a51) rfl rfl (by decide +kernel) (by decide +kernel) (by decide +kernel) rfl (by decide +kernel)) (bq1 K rfl T.z_zip (@a00 _ _ _ _ _ (pv 0) (@a00 _ _ _ _ _ (pv 1) (@a01 _) (by rfl)) (by rfl))) (fun _ _ _ _ _=>(ab6 K (n:=2) rfl (a50 (a36 (i:=0) (show (["each","row"]:List Str).Nodup by decide +kernel) rfl (by walk_at "o")) (a50 (a36 (i:=1) (show (["each","row"]:List Str).Nodup by decide +kernel) rfl (by walk_at "o")) (@ab5 _))))) (fun _ _ _ _ _=>(@a91 _)) (fun _ _ _ _ _=>(@a57 _ _ _ _ _ (@a00 _ _ _ _ _ (@a49 _ _ _ _ _ _ _ (a45 K) (pv 0) (@a05 _ _ _ _) (fun _ _=>rfl)) (@a00 _ _ _ _ _ (pv 1) (@a01 _) (by rfl)) (by rfl))))) (@a01 _) (by rfl)) (by decide) (by decide) (by rfl) (by rfl)) (@a01 _) (by rfl)) (by rfl)))))))),?_⟩
   have sl:(1000000:Nat)≤sizeLine:=le_line (Nat.le_refl _)
   have tl:=hT.len
   have rl:=hR.len
   walk_at "go"
   refine ab7 (SqL.of hra) ?_
   intro pr H1 f1 s1 e1
   walk_at "run"
   have hta1:=s1 _ _ hta
   refine ⟨⟨_,SqL.of hta1⟩,ac9 (xs:=tvs) (le_line (by omega)) (fun i acc H'=>H'=H1∧i≤ts.length∧acc=(ts.take i).map (fun x=>V.ref x.1)) ⟨rfl,Nat.zero_le _,rfl⟩ (fun i acc H' ⟨e0,_,e⟩=>⟨by rw [e]; simp; omega,e0 ▸ SqL.of hta1⟩) ?_ ?_⟩
   · rintro i v acc H' hv ⟨rfl,hi,rfl⟩
     obtain ⟨x,hx⟩:∃ x,ts[i]?=some x:=⟨_,List.getElem?_eq_getElem (by rw [← tl]; exact (List.getElem?_eq_some_iff.mp hv).1)⟩
     obtain ⟨k,rfl,hk,_⟩:=(hT.mono fun v x h=>h.same s1).2 i v x hv hx
     walk_at "run"
     refine a81 (SqT.of hk) (a07 (j:=0) rfl) ?_
     refine ⟨rfl,(List.getElem?_eq_some_iff.mp hx).1,?_⟩
     rw [List.take_add_one,hx]
     simp
   rintro acc H' ⟨rfl,_,rfl⟩ ps H2 f2 s2 e2
   rw [tl,List.take_length] at e2
   walk_at "run"
   have hne:pr≠ps:=a03 e1 f2
   have fps:H ps=none:=s1.free f2
   have e12:=s2 _ _ e1
   have s02:=s1.trans s2
   obtain ⟨Pv,hPv⟩:∃ Pv:Nat→St→Hp→Prop,Pv=(fun i σ H'=>i≤ts.length∧Same H H'∧H' ps=some (.lst (ts.map fun x=>V.ref x.1))∧(∃ rvs',H' pr=some (.lst rvs')∧Each (EvsAt H') rvs' (stlA R ((ts.take i).map (·.2.1))))∧∃ y1 y2 y3 y4,σ=[some (.ref ta),some (.ref pr),some (.ref ps),y1,y2,y3,y4]):=⟨_,rfl⟩
   refine ⟨⟨_,SqL.of e2⟩,ac6 (K:=K) (a:=ps) (xs:=ts.map fun x=>V.ref x.1) Pv (by rw [hPv]; exact ⟨Nat.zero_le _,s02,e2,⟨rvs,e12,hR.mono fun v x h=>h.tups s02.tups⟩,_,_,_,_,rfl⟩) (fun i σ H' _ h=>by rw [hPv] at h; exact SqL.of h.2.2.1) ?_ ?_⟩
   · intro i v σ H3 hv hI
     rw [hPv] at hI
     obtain ⟨hi,s3,hps3,⟨rv3,hp3,hE3⟩,y1,y2,y3,y4,rfl⟩:=hI
     rw [List.getElem?_map] at hv
     obtain ⟨x,hx,rfl⟩:=Option.map_eq_some_iff.mp hv
     have hi':i<ts.length:=(List.getElem?_eq_some_iff.mp hx).1
     obtain ⟨ok1,ok2⟩:=hok x (List.mem_of_getElem? hx)
     obtain ⟨_,_,k,_,_,hlx⟩:=hT.get hx
     have htk:(ts.take (i+1)).map (·.2.1)=(ts.take i).map (·.2.1)++[x.2.1]:=by rw [List.take_add_one,hx]; simp
     have h3A:R3 (stlA R ((ts.take i).map (·.2.1))):=aq5 _ hR3
     have lA:(stlA R ((ts.take i).map (·.2.1))).length=ts.length:=by rw [ah4,hl]
     have htk':stlA R ((ts.take (i+1)).map (·.2.1))=stlS (stlA R ((ts.take i).map (·.2.1))) x.2.1:=by rw [htk,bf0]
     generalize stlA R ((ts.take i).map (·.2.1))=R1 at hE3 h3A lA htk'
     walk_at "run"
     obtain ⟨Pw,hPw⟩:∃ Pw:Nat→St→Hp→Prop,Pw=(fun j σ H'=>j≤x.2.1.length∧Same H H'∧H' ps=some (.lst (ts.map fun x=>V.ref x.1))∧(∃ rvs',H' pr=some (.lst rvs')∧Each (EvsAt H') rvs' (stlS R1 (x.2.1.take j)))∧∃ y2 y3 y4,σ=[some (.ref ta),some (.ref pr),some (.ref ps),some (.ref x.1),y2,y3,y4]):=⟨_,rfl⟩
     refine ⟨⟨_,SqL.of (s3 _ _ hlx)⟩,ac6 (K:=K) (a:=x.1) (xs:=strsV (x.2.1.map sayT)) Pw (by rw [hPw]; exact ⟨Nat.zero_le _,s3,hps3,⟨rv3,hp3,hE3⟩,_,_,_,rfl⟩) (fun j σ H' _ h=>by rw [hPw] at h; exact SqL.of (h.2.1 _ _ hlx)) ?_ ?_⟩
     · intro j v σ H4 hv hI
       rw [hPw] at hI
       obtain ⟨hj,s4,hps4,⟨rv4,hp4,hE4⟩,z2,z3,z4,rfl⟩:=hI
       obtain ⟨tx,htx,rfl⟩:=al4 hv
       rw [List.getElem?_map] at htx
       obtain ⟨y,hy,rfl⟩:=Option.map_eq_some_iff.mp htx
       have hj':j<x.2.1.length:=(List.getElem?_eq_some_iff.mp hy).1
       obtain ⟨ow,ol⟩:=ok2 y (List.mem_of_getElem? hy)
       have htk2:x.2.1.take (j+1)=x.2.1.take j++[y]:=by rw [List.take_add_one,hy]; rfl
       have h3B:R3 (stlS R1 (x.2.1.take j)):=ay3 _ h3A
       have lB:(stlS R1 (x.2.1.take j)).length=ts.length:=by rw [aq4,lA]
       have htk3:stlS R1 (x.2.1.take (j+1))=stl (stlS R1 (x.2.1.take j)) y:=by rw [htk2,be9]
       generalize stlS R1 (x.2.1.take j)=R2 at hE4 h3B lB htk3
       obtain ⟨yl,yw⟩:=y
       have rl4:=hE4.len
       walk_at "run"
       cases yl with
       | none =>
         refine bc2 (by decide +kernel) (Nat.le_trans (c85 yw ow) (by omega)) ?_
         rw [show sayT (none,yw)=yw from rfl,bw9 yw ow]
         intro ph H5 f5 s5 e5
         walk_at "run"
         refine a81 (SqT.of e5) (a07 (j:=1) rfl) ?_
         walk_at "run"
         refine c55 rfl ?_
         walk_at "run"
         rw [hPw]
         show _∧_
         rw [htk3]
         exact ⟨hj',s4.trans s5,s5 _ _ hps4,⟨rv4,s5 _ _ hp4,hE4.mono fun v x h=>h.tups s5.tups⟩,_,_,_,rfl⟩
       | some l =>
         have hl7:=ol l rfl
         refine bc2 (by decide +kernel) (Nat.le_trans (c84 l hl7 yw ow) (by omega)) ?_
         rw [show sayT (some l,yw)=figS l++Str.ofString ":"++yw from rfl,bw8 l hl7 yw ow]
         intro ph H5 f5 s5 e5
         walk_at "run"
         refine a81 (SqT.of e5) (a07 (j:=1) rfl) ?_
         walk_at "run"
         refine c54 (show ¬ (Str.ofString ":":Str)=Str.ofString "" by decide +kernel) ?_
         walk_at "run"
         refine a81 (SqT.of e5) (a07 (j:=0) rfl) ?_
         walk_at "run"
         refine ⟨figS l,(l:Int),rfl,be6 l hl7,Nat.le_trans (be7 l hl7) (by omega),?_⟩
         walk_at "run"
         have hp5:=s5 _ _ hp4
         refine ag9 (SqL.of hp5) ?_
         walk_at "run"
         rw [rl4]
         have hE5:=hE4.mono fun v x (h:EvsAt H4 v x)=>h.tups s5.tups
         by_cases hc:l<R2.length
         · refine bp7 (by omega) ?_
           walk_at "run"
           refine a81 (SqT.of e5) (a07 (j:=0) rfl) ?_
           walk_at "run"
           refine ⟨figS l,(l:Int),rfl,be6 l hl7,Nat.le_trans (be7 l hl7) (by omega),?_⟩
           walk_at "run"
           have hg:R2[l]?=some (R2.getD l []):=by simp [hc]
           obtain ⟨rv,hrv,hrE⟩:=hE5.get hg
           refine a99 (SqL.of hp5) (a07 (j:=l) hrv) ?_
           walk_at "run"
           refine a81 (SqT.of e5) (a07 (j:=2) rfl) ?_
           walk_at "run"
           intro pt H6 f6 s6 e6
           walk_at "run"
           have h3l:=h3B _ (List.mem_of_getElem? hg)
           refine ⟨rv,.ref pt,R2.getD l [],.word yw,rfl,hrE.tups s6.tups,w_at e6,by omega,fun v' H7 s7 hE7=>?_⟩
           have s57:=s6.trans s7
           have hp7:=s57 _ _ hp5
           walk_at "run"
           refine as9 hp7 (j:=l) (by unfold ixN; rw [if_pos (by omega),if_pos (by omega)]; simp) ?_
           walk_at "run"
           have t8:Tups H7 (upd H7 pr (.lst (rv4.set l v'))):=Tups.upd hp7
           rw [hPw]
           show _∧_
           rw [htk3]
           refine ⟨hj',(s4.trans (s5.trans s57)).updNew f1,by rw [a08 (Ne.symm hne)]; exact s57 _ _ (s5 _ _ hps4),⟨_,a34,?_⟩,_,_,_,rfl⟩
           rw [show stl R2 (some l,yw)=R2.set l (pb (R2.getD l []) (.word yw)) by unfold stl; exact if_pos hc]
           exact Each.set (hE5.mono fun v x h=>h.tups (s57.tups.trans t8)) l (hE7.tups t8)
         · refine bp8 (by omega) ?_
           walk_at "run"
           rw [hPw]
           show _∧_
           rw [htk3]
           refine ⟨hj',s4.trans s5,s5 _ _ hps4,⟨rv4,hp5,?_⟩,_,_,_,rfl⟩
           rw [show stl R2 (some l,yw)=R2 by unfold stl; exact if_neg hc]
           exact hE5
     · intro σ H4 hI
       rw [hPw] at hI
       obtain ⟨_,s4,hps4,⟨rv4,hp4,hE4⟩,z2,z3,z4,rfl⟩:=hI
       rw [show (strsV (x.2.1.map sayT)).length=x.2.1.length by simp [strsV],List.take_length] at hE4
       walk_at "run"
       rw [hPv]
       show _∧_
       rw [htk']
       exact ⟨hi',s4,hps4,⟨rv4,hp4,hE4⟩,_,_,_,_,rfl⟩
   · intro σ H3 hI
     rw [hPv] at hI
     obtain ⟨_,s3,hps3,⟨rv3,hp3,hE3⟩,y1,y2,y3,y4,rfl⟩:=hI
     rw [List.length_map,List.take_length] at hE3
     have lR:(stlA R (ts.map (·.2.1))).length=ts.length:=by rw [ah4,hl]
     generalize stlA R (ts.map (·.2.1))=R1 at hE3 lR q
     have rl3:=hE3.len
     have hta3:=s3 _ _ hta
     walk_at "run"
     refine ⟨ta,pr,rfl,⟨_,SqL.of hta3⟩,⟨_,SqL.of hp3⟩,c78 (xs:=tvs) (ys:=rv3) (by omega) (le_line (by omega)) (fun i acc H'=>i≤ts.length∧Same H3 H'∧Each (StdAt H') acc ((stds ts R1).take i)) ⟨Nat.zero_le _,Same.refl _,.nil⟩ (fun i acc H' ⟨hi,s',he⟩=>⟨by rw [he.len,List.length_take]; omega,SqL.of (s' _ _ hta3),SqL.of (s' _ _ hp3)⟩) ?_ ?_⟩
     · rintro i v rv acc H4 H5 hv hrv ⟨hi,s4,he⟩ s45
       have hi':i<ts.length:=by rw [← tl]; exact (List.getElem?_eq_some_iff.mp hv).1
       have hx:ts[i]?=some ts[i]:=List.getElem?_eq_getElem hi'
       have hr:R1[i]?=some (R1[i]'(by omega)):=List.getElem?_eq_getElem (by omega)
       have s05:=s3.trans (s4.trans s45)
       obtain ⟨k,rfl,hk,_⟩:=(hT.mono fun v x h=>h.same s05).2 i v _ hv hx
       have hrE:=(hE3.mono fun v x (h:EvsAt H3 v x)=>h.tups (s4.trans s45).tups).2 i rv _ hrv hr
       walk_at "run"
       refine a81 (SqT.of hk) (a07 (j:=1) rfl) ?_
       walk_at "run"
       intro p6 H6 f6 s6 e6
       refine ⟨hi',s4.trans (s45.trans s6),?_⟩
       have hz:(stds ts R1)[i]?=some (ts[i].2.2,R1[i]'(by omega)):=by
        unfold stds
        rw [List.getElem?_zipWith,hx,hr]
       rw [List.take_add_one,hz]
       exact (he.mono fun v x h=>h.tups (s45.trans s6).tups).snoc ⟨p6,rv,rfl,e6,hrE.tups s6.tups⟩
     · rintro acc H4 ⟨_,s4,he⟩ p5 H5 f5 s5 e5
       rw [List.take_of_length_le (by unfold stds; simp; omega)] at he
       walk_at "run"
       refine ad8 (SqL.of e5) ?_
       intro p6 H6 f6 s6 e6
       walk_at "run"
       intro p7 H7 f7 s7 e7
       have s37:=s4.trans (s5.trans (s6.trans s7))
       have s07:=s3.trans s37
       refine q _ H7 s07 ⟨p7,ps,p6,acc,rfl,e7,s37 _ _ hps3,s7 _ _ e6,he.mono fun v x h=>h.tups (s5.trans (s6.trans s7)).tups,fun x hx=>?_,fps⟩
       obtain ⟨j,hj,rfl⟩:=List.mem_iff_getElem.mp hx
       obtain ⟨_,_,_,_,_,h⟩:=hT.get (List.getElem?_eq_getElem hj)
       exact s07 _ _ h
def hh (l1 l2:Addr):List (Str×V):=putF "machines" (.ref l2) (putF "lines" (.ref l1) [])
theorem ag2 (l1 l2:Addr):(hh l1 l2).lookup ("machines":Str)=some (.ref l2):=by
 unfold hh
 rw [a06,if_pos rfl]
theorem b70 (l1 l2:Addr) {m:Str}(h1:¬ m="machines") (h2:¬ m="lines"):(hh l1 l2).lookup m=none:=by
 unfold hh
 rw [a06,if_neg h1,a06,if_neg h2]
 rfl
structure HallAt (C:Addr) (H:Hp) (p:Addr) (ms:List Addr):Prop where
 ex:∃ dx l1 l2,H p=some (.ins C dx (hh l1 l2))∧H l2=some (.lst (ms.map V.ref))∧H l1=some (.lst (ms.map V.ref))
theorem HallAt.same {C p:Addr}{H H':Hp}{ms:List Addr}(h:HallAt C H p ms) (s:Same H H'):HallAt C H' p ms:=by
 obtain ⟨dx,l1,l2,h1,h2,h3⟩:=h.ex
 exact ⟨dx,l1,l2,s _ _ h1,s _ _ h2,s _ _ h3⟩
def bn1 (K:PySem.W.Frag) (C:Addr):Sp:=fun vs H Q _=>∃ (p m dx:Addr) (ms:List Addr),vs=[.ref p,.ref m]∧H p=some (.ins C dx [])∧H m=some (.lst (ms.map V.ref))∧∀ H',(∀ x o,H x=some o→x≠p→H' x=some o)→HallAt C H' p ms→(∀ y o,H y≠none→y≠p→HallAt C (upd H' y o) p ms)→Q .non H'
theorem aj0 (T:Txt K mg t):FnOk P w K mg base CX0 1 t.a_Hall___init__ t.fd_Hall___init__ ["self","machines"] (bn1 K t.c_Hall):=by
 refine T.F_Hall___init__.ok ai9 (fun vs H Q E h=>?_) (fun cdv A outer s H vs Q E hr h=>?_)
 · obtain ⟨p,m,dx,ms,rfl,_⟩:=h
   rfl
 · obtain ⟨p,m,dx,ms,rfl,hp,hm,q⟩:=h
   refine ⟨_,(@a02 _ _ _ _ _ (ad0 K (pv 0) (@a46 _ _ _ _ _ _ _ _ _ (aa0 K) (by rfl) T.z_list aa6 (@a00 _ _ _ _ _ (pv 1) (@a01 _) (by rfl)) (by decide) (by decide) (by rfl) (by rfl)) rfl)
    (@a09 _ _ _ (ad0 K (pv 0) (@a46 _ _ _ _ _ _ _ _ _ (aa0 K) (by rfl) T.z_list aa6 (@a00 _ _ _ _ _ (pv 1) (@a01 _) (by rfl)) (by decide) (by decide) (by rfl) (by rfl)) rfl))),?_⟩
   walk_at "go"
   refine ab7 (SqL.of hm) ?_
   intro l1 H1 f1 s1 e1
   walk_at "run"
   refine ⟨p,_,dx,_,rfl,s1 _ _ hp,T.cl_Hall,T.n_Hall_lines,by decide,?_⟩
   have np:∀ {x:Addr}{o:HO},H x=some o→(∀ C dx fs,o≠.ins C dx fs)→x≠p:=fun e z=>ac8 e hp (z _ _ _)
   have kP:∀ x o,x≠p→H x=some o→upd H1 p (.ins t.c_Hall dx (putF "lines" (.ref l1) [])) x=some o:=fun x o z e=>by rw [a08 z]; exact s1 _ _ e
   have e2:upd H1 p (.ins t.c_Hall dx (putF "lines" (.ref l1) [])) p=some (.ins t.c_Hall dx (putF "lines" (.ref l1) [])):=a34
   have hl1:l1≠p:=(a03 hp f1).symm
   have hH2:∀ x,x≠p→H1 x=upd H1 p (.ins t.c_Hall dx (putF "lines" (.ref l1) [])) x:=fun x z=>(a08 z).symm
   generalize upd H1 p (.ins t.c_Hall dx (putF "lines" (.ref l1) []))=H2 at kP e2 hH2
   walk_at "run"
   refine ab7 (SqL.of (kP _ _ (np hm (fun _ _ _ z=>nomatch z)) hm)) ?_
   intro l2 H3 f3 s3 e3
   walk_at "run"
   refine ⟨p,_,dx,_,rfl,s3 _ _ e2,T.cl_Hall,T.n_Hall_machines,(by have h1:=a74 "lines" (V.ref l1) []; rw [List.length_nil] at h1; omega),?_⟩
   walk_at "run"
   have hl2:l2≠p:=(a03 e2 f3).symm
   refine q _ (fun x o e z=>by rw [a08 z]; exact s3 _ _ (kP x o z e)) ⟨dx,l1,l2,a34,by rw [a08 hl2]; exact e3,by rw [a08 hl1]; exact s3 _ _ (by rw [← hH2 l1 hl1]; exact e1)⟩ fun y o hy hyp=>?_
   have n1:l1≠y:=fun z=>hy (by rw [← z]; exact f1)
   have n2:l2≠y:=fun z=>hy (by
    rw [← z]
    cases e:H l2 with
    | none=>rfl
    | some o'=>rw [kP l2 o' hl2 e] at f3; cases f3)
   exact ⟨dx,l1,l2,by rw [a08 hyp.symm]; exact a34,by rw [a08 n2,a08 hl2]; exact e3,by rw [a08 n1,a08 hl1]; exact s3 _ _ (by rw [← hH2 l1 hl1]; exact e1)⟩
abbrev SRow:=List Say×Nat
abbrev SRoom:=Bool×List SRow
def rowS (r:SRow):Row:=(r.1.map sayT,r.2)
def roomS (r:SRoom):aa2:=(r.1,r.2.map rowS)
structure Tab where
 es:List Ev
 sy:List Say
 rs:List SRoom
def saids:List (List Say) :=
 [[],[(none,Str.ofString "a")],[(some 0,Str.ofString "go")],[(some 1,Str.ofString "yes")],[(some 2,Str.ofString "no"),(none,Str.ofString "b")],[(some 0,Str.ofString "yes"),(some 1,Str.ofString "go")],
  [(some 1,Str.ofString "go"),(some 1,Str.ofString "no"),(some 1,Str.ofString "yes")],[(none,Str.ofString "b"),(some 3,Str.ofString "go")],
  [(some 9,Str.ofString "go")],[(some 0,Str.ofString "go"),(some 0,Str.ofString "go"),(some 0,Str.ofString "no"),(some 0,Str.ofString "yes")],[(some 5,Str.ofString "yes"),(some 4,Str.ofString "no")],[]]
def SaysOk (x:List Say):Prop:=x.length≤100∧(∀ s∈x,SayOk s)∧x∈saids
structure TOk (x:Tab):Prop where
 nd:x.es.Nodup
 ne:0<x.es.length
 ne2:x.es.length≤20
 sy:SaysOk x.sy
 nr:0<x.rs.length
 nr2:x.rs.length≤100
 ok:∀ r∈x.rs,r.2.length=x.es.length∧∀ y∈r.2,y.2<x.rs.length∧SaysOk y.1
theorem TOk.tab {x:Tab}(h:TOk x):TabOk x.es (x.sy.map sayT) (x.rs.map roomS):=⟨Nat.le_trans h.ne2 (by decide),by simpa using h.sy.1,by simpa using h.nr2,fun r hr=>by
 obtain ⟨r0,hr0,rfl⟩:=List.mem_map.mp hr
 obtain ⟨h1,h2⟩:=h.ok r0 hr0
 refine ⟨by simpa [roomS] using h1,fun y hy=>?_⟩
 obtain ⟨y0,hy0,rfl⟩:=List.mem_map.mp hy
 obtain ⟨h3,h4⟩:=h2 y0 hy0
 exact ⟨by simpa [rowS] using h3,by simpa [rowS] using h4.1⟩⟩
def MS (P:Params) (C:Addr) (H:Hp) (m:Addr) (x:Tab):Prop:=∃ d s c gs,MAt P C H m d s c x.es (x.sy.map sayT) (x.rs.map roomS) gs
theorem MS.same {P:Params}{C m:Addr}{H H':Hp}{x:Tab}(h:MS P C H m x) (s':Same H H'):MS P C H' m x:=by
 obtain ⟨d,s,c,gs,h⟩:=h
 obtain ⟨dx,rvs,h1,h2,h3,h4,h5⟩:=h.ex
 exact ⟨d,s,c,gs,⟨dx,rvs,s' _ _ h1,a55 h2 s',s' _ _ h3,s' _ _ h4,h5.same s'⟩⟩
namespace Z
def natW (k:Nat):Tw:=.sc (.int (k:Nat))
theorem natsV_get {ks:List Nat}{j:Nat}{v:V}(h:(natsV ks)[j]?=some v):∃ k,ks[j]?=some k∧v=.int (k:Nat):=by
 simp only [natsV,List.getElem?_map] at h
 obtain ⟨k,h1,h2⟩:=Option.map_eq_some_iff.mp h
 exact ⟨k,h1,h2.symm⟩
theorem af7 {ks:List Nat}{j k:Nat}(h:ks[j]?=some k):(natsV ks)[j]?=some (.int (k:Nat)):=by
 simp only [natsV,List.getElem?_map,h]
 rfl
theorem bn2 {ks:List Str}{j:Nat}{k:Str}(h:ks[j]?=some k):(strsV ks)[j]?=some (.str k):=by
 simp only [strsV,List.getElem?_map,h]
 rfl
noncomputable instance evDec:DecidableEq Ev:=fun _ _=>Classical.propDecidable _
end Z
namespace Z
def blocks (ls:List (List Nat)):List Nat:=ls.flatMap fun l=>l.length::l
def offF (b:Nat) (ls:List (List Nat)) (k:Nat):Nat:=b+(blocks (ls.take k)).length
def offsT (b:Nat) (ls:List (List Nat)) (k:Nat):List Nat:=(List.range k).map (offF b ls)
def offs (b:Nat) (ls:List (List Nat)):List Nat:=offsT b ls (ls.length+1)
theorem ao2 (b:Nat) (ls:List (List Nat)) (k:Nat):offsT b ls (k+1)=offsT b ls k++[offF b ls k]:=by
 unfold offsT
 rw [List.range_succ,List.map_append]
 rfl
theorem bf1 {b:Nat}{ls:List (List Nat)}{k:Nat}(h:k≤ls.length):(offs b ls)[k]?=some (offF b ls k):=by
 unfold offs offsT
 rw [List.getElem?_map,List.getElem?_range (by omega)]
 rfl
theorem bf2 {b:Nat}{ls:List (List Nat)}{k:Nat}{l:List Nat}(h:ls[k]?=some l):offF b ls (k+1)=offF b ls k+(1+l.length):=by
 unfold offF
 rw [List.take_add_one,h]
 simp only [Option.toList_some,blocks,List.flatMap_append,List.length_append,List.flatMap_cons,List.flatMap_nil,List.append_nil,List.length_cons]
 omega
theorem au4 (b:Nat) (ls:List (List Nat)):offF b ls ls.length=b+(blocks ls).length:=by
 unfold offF
 rw [List.take_length]
theorem aq6 {cells pre post:List Nat}{ls:List (List Nat)}(hc:cells=pre++(blocks ls++post)) {k:Nat}{l:List Nat}(h:ls[k]?=some l):cells[offF pre.length ls k]?=some l.length∧(cells.drop (offF pre.length ls k+1)).take l.length=l:=by
 have e:blocks ls=blocks (ls.take k)++(l.length::(l++blocks (ls.drop (k+1)))):=by
  conv=>lhs; rw [← List.take_append_drop k ls,List.drop_eq_getElem_cons (List.getElem?_eq_some_iff.mp h).1]
  rw [(List.getElem?_eq_some_iff.mp h).2]
  simp [blocks]
 have e2:cells=(pre++blocks (ls.take k))++(l.length::(l++(blocks (ls.drop (k+1))++post))):=by rw [hc,e]; simp
 have el:offF pre.length ls k=(pre++blocks (ls.take k)).length:=by simp [offF]
 rw [el,e2]
 constructor
 · rw [List.getElem?_append_right (Nat.le_refl _),Nat.sub_self]
   rfl
 · rw [List.drop_append,List.drop_of_length_le (by omega),Nat.add_sub_cancel_left]
   simp
def bf3 (K:PySem.W.Frag):Sp:=fun vs H Q _=>∃ (c:Addr) (cells pre post:List Nat) (ls:List (List Nat)),vs=[.ref c,.int (pre.length:Nat),.int (ls.length:Nat)]∧H c=some (.lst (natsV cells))∧cells=pre++(blocks ls++post)∧ls.length≤1000∧∀ p H',H p=none→Same H H'→H' p=some (.lst (natsV (offs pre.length ls)))→Q (.ref p) H'
theorem al5 (T:Txt K mg t):FnOk P w K mg base CX0 1 t.a_block_places t.fd_block_places ["cells","place","count"] (bf3 K):=by
 refine T.F_block_places.ok sc_block_places (fun vs H Q E h=>?_) (fun cdv A outer s H vs Q E hr h=>?_)
 · obtain ⟨c,cells,pre,post,ls,rfl,_⟩:=h
   rfl
 · obtain ⟨c,cells,pre,post,ls,rfl,hc,hcl,hll,q⟩:=h
   refine ⟨_,(@a02 _ _ _ _ _ (@a47 _ _ 3 _ _ _ _ sc_block_places.nd rfl (by walk_at "o") (@a40 _ _ _ _ (@a00 _ _ _ _ _ (pv 1) (@a01 _) (by rfl))) (by rfl) (by walk_at "o"))
    (@a02 _ _ _ _ _ (@bh2 _ _ _ _ _ _ PassesOwn.never (@a83 _ _ _ _ _ _ _ _ bz9 (@a70 _ _ _ _ _ _ _ _ _ (ac2 K) (by rfl) T.z_len ac7 (@a00 _ _ _ _ _ (pv 3) (@a01 _) (by rfl)) (by decide) (by decide) (by rfl) (by rfl)) (pv 2) (nomark _)) (@a02 _ _ _ _ _ (@ai7 _ _ _ _ _ _ _ _ (@PW.pt _ _ _ (@bz0 _ _ _ _ _ _ _ (@a83 _ _ _ _ _ _ _ _ c99 (pv 1) (@a70 _ _ _ _ _ _ _ _ _ (ac2 K) (by rfl) T.z_len ac7 (@a00 _ _ _ _ _ (pv 0) (@a01 _) (by rfl)) (by decide) (by decide) (by rfl) (by rfl)) (nomark _)) (@bp3 _ _ _ _ (@a83 _ _ _ _ _ _ _ _ br8 (@a49 _ _ _ _ _ _ _ (a42 K) (pv 0) (pv 1) (fun _ _=>rfl)) (@a05 _ _ _ _) (nomark _))))) (@a09 _ _ _ (@a53 _ _ _ _ (@bp2 _ _ _))) (@ac1 _))
     (@a02 _ _ _ _ _ (@bz2 _ _ 1 _ _ _ _ _ _ sc_block_places.nd rfl (by walk_at "o") (@a80 _ _ _ _ _ _ _ _ a78 (@a05 _ _ _ _) (@a49 _ _ _ _ _ _ _ (a42 K) (pv 0) (pv 1) (fun _ _=>rfl))) bz3 (by walk_at "o"))
     (@a09 _ _ _ (@aa1 _ _ _ _ (@ac4 _ K _ _ _ _ _ _ _ _ _ _ _ PySem.F.plainAttrs_list PySem.F.slot_list_append PySem.F.type_list_append aa4 (pv 3) (@a00 _ _ _ _ _ (pv 1) (@a01 _) (by rfl)) (by rfl) (by rfl) (by rfl) (by rfl) (by rfl) (by rfl)) (by rfl))))))
    (@a09 _ _ _ (@a53 _ _ _ _ (@aj2 _ _ _ _ _ _ _ _ (@a83 _ _ _ _ _ _ _ _ bz9 (pv 1) (@a70 _ _ _ _ _ _ _ _ _ (ac2 K) (by rfl) T.z_len ac7 (@a00 _ _ _ _ _ (pv 0) (@a01 _) (by rfl)) (by decide) (by decide) (by rfl) (by rfl)) (nomark _)) (pv 3) (@bp2 _ _ _)))))),?_⟩
   have sl:(1000000:Nat)≤sizeLine:=le_line (Nat.le_refl _)
   walk_at "go"
   intro pf H1 f1 s1 e1
   walk_at "run"
   refine bt5 (fun m σ H'=>Same H H'∧∃ k:Nat,k≤ls.length∧σ=[some (.ref c),some (.int (offF pre.length ls k:Nat)),some (.int (ls.length:Nat)),some (.ref pf)]∧m=ls.length - k∧H' pf=some (.lst (natsV (offsT pre.length ls (k+1))))) ls.length ⟨s1,0,Nat.zero_le _,by simp [offF,blocks],rfl,by rw [e1]; simp [offsT,offF,blocks,natsV]⟩ ?_
   rintro m σ H2 ⟨s2,k,hk,rfl,rfl,hpf⟩
   walk_at "run"
   refine ag9 (SqL.of hpf) ?_
   walk_at "run"
   have ol:(natsV (offsT pre.length ls (k+1))).length=k+1:=by simp [natsV,offsT]
   rw [ol]
   have hc2:=s2 _ _ hc
   refine ite2 (fun hd=>?_) (fun hd=>?_)
   · have hkl:k<ls.length:=by have:=of_decide_eq_true hd; omega
     have el:ls[k]?=some ls[k]:=List.getElem?_eq_getElem hkl
     obtain ⟨h1,h2⟩:=aq6 hcl el
     have hlt:offF pre.length ls k<cells.length:=(List.getElem?_eq_some_iff.mp h1).1
     refine ⟨fun σ' H'=>Same H H'∧σ'=[some (.ref c),some (.int (offF pre.length ls (k+1):Nat)),some (.int (ls.length:Nat)),some (.ref pf)]∧H' pf=some (.lst (natsV (offsT pre.length ls (k+1+1)))),fun σ' H' ⟨s',e,h⟩=>⟨ls.length - (k+1),by omega,s',k+1,hkl,e,rfl,h⟩,?_⟩
     walk_at "run"
     refine ag9 (SqL.of hc2) ?_
     walk_at "run"
     rw [a69]
     refine ite2 (fun hx=>?_) (fun hx=>?_)
     · exfalso
       have:=of_decide_eq_true hx
       omega
     walk_at "run"
     refine a99 (SqL.of hc2) (a07 (af7 h1)) ?_
     walk_at "run"
     refine ite2 (fun hx=>?_) (fun hx=>?_)
     · exfalso
       have:=of_decide_eq_true hx
       omega
     walk_at "run"
     refine c73 rfl ?_
     walk_at "run"
     refine a99 (SqL.of hc2) (a07 (af7 h1)) ?_
     walk_at "run"
     dsimp only [List.set_cons_zero,List.set_cons_succ]
     refine ah0 (SqL.of hpf) ?_
     walk_at "run"
     refine ab9 hpf (by rw [ol]; omega) ?_
     have eo:((offF pre.length ls k:Nat):Int)+(1+(ls[k].length:Nat))=((offF pre.length ls (k+1):Nat):Int):=by rw [bf2 el]; omega
     rw [eo]
     refine ⟨s2.updNew f1,rfl,?_⟩
     rw [a34,af5,←ao2]
   · have hkl:k=ls.length:=by
      have:¬ (k+1:Int)≤ls.length:=fun z=>hd (decide_eq_true (by omega))
      omega
     subst hkl
     walk_at "run"
     refine ag9 (SqL.of hc2) ?_
     walk_at "run"
     rw [a69]
     have hle:offF pre.length ls ls.length≤cells.length:=by rw [au4,hcl]; simp
     refine ite2 (fun hx=>?_) (fun hx=>?_)
     · walk_at "run"
       exact q pf H2 f1 s2 hpf
     · exfalso
       exact hx (decide_eq_true (by omega))
end Z
namespace Z
def b71 (K:PySem.W.Frag):Sp:=fun vs H Q _=>∃ (c:Addr) (cells l:List Nat) (pl:Nat),vs=[.ref c,.int (pl:Nat)]∧H c=some (.lst (natsV cells))∧cells[pl]?=some l.length∧(cells.drop (pl+1)).take l.length=l∧∀ p H',H p=none→Same H H'→H' p=some (.lst (natsV l))→Q (.ref p) H'
theorem b05 {ns:List Nat}{j k:Nat}:cutV (natsV ns) (some (j:Int)) (some (k:Int))=natsV ((ns.drop j).take (k - j)):=by
 rw [at0,bj1,←List.map_drop,←List.map_take,←at0]
theorem al6 (T:Txt K mg t):FnOk P w K mg base CX0 1 t.a_cells_in t.fd_cells_in ["cells","place"] (b71 K):=by
 refine T.F_cells_in.ok ax9 (fun vs H Q E h=>?_) (fun cdv A outer s H vs Q E hr h=>?_)
 · obtain ⟨c,cells,l,pl,rfl,_⟩:=h
   rfl
 · obtain ⟨c,cells,l,pl,rfl,hc,h1,h2,q⟩:=h
   refine ⟨_,(@a09 _ _ _ (@a53 _ _ _ _ (@aj3 _ _ _ _ _ _ _ _ _ _ (ap0 K) (pv 0) (@ai0 _ _ _ (@a80 _ _ _ _ _ _ _ _ a78 (pv 1) (@a05 _ _ _ _))) (@ai0 _ _ _ (@a80 _ _ _ _ _ _ _ _ a78 (@a80 _ _ _ _ _ _ _ _ a78 (pv 1) (@a05 _ _ _ _)) (@a49 _ _ _ _ _ _ _ (a42 K) (pv 0) (pv 1) (fun _ _=>rfl))))))),?_⟩
   walk_at "go"
   refine a99 (SqL.of hc) (a07 (af7 h1)) ?_
   walk_at "run"
   refine bt1 (SqL.of hc) ?_
   rw [show ((pl:Nat):Int)+1=((pl+1:Nat):Int) by omega,show ((pl+1:Nat):Int)+(l.length:Nat)=((pl+1+l.length:Nat):Int) by omega,b05,Nat.add_sub_cancel_left,h2]
   intro p H1 f1 s1 e1
   exact q p H1 f1 s1 e1
def txOf (txs:List Str) (l:List Nat):List Str:=l.map fun n=>txs.getD n (Str.ofString "")
def b72 (K:PySem.W.Frag):Sp:=fun vs H Q _=>∃ (t c:Addr) (txs:List Str) (cells l:List Nat) (pl:Nat),vs=[.ref t,.ref c,.int (pl:Nat)]∧H t=some (.lst (strsV txs))∧H c=some (.lst (natsV cells))∧cells[pl]?=some l.length∧(cells.drop (pl+1)).take l.length=l∧(∀ n∈l,n<txs.length)∧l.length≤1000∧∀ p H',H p=none→Same H H'→H' p=some (.lst (strsV (txOf txs l)))→Q (.ref p) H'
theorem c88 {txs:List Str}{n:Nat}(h:n<txs.length):(strsV txs)[n]?=some (.str (txs.getD n (Str.ofString ""))):=by
 refine bn2 ?_
 rw [List.getD_eq_getElem?_getD,List.getElem?_eq_getElem h]
 rfl
theorem bf4 {txs:List Str}{l:List Nat}{i n:Nat}(e:l[i]?=some n):strsV (txOf txs (l.take i))++[V.str (txs.getD n (Str.ofString ""))]=strsV (txOf txs (l.take (i+1))):=by
 rw [List.take_add_one,e]
 simp [txOf,strsV]
theorem ay4 (T:Txt K mg t):FnOk P w K mg base CX0 2 t.a_texts_at t.fd_texts_at ["texts","cells","place"] (b72 K):=by
 have G_cells_in:=al6 (P:=P) (w:=w) (base:=base) T
 refine T.F_texts_at.ok ax8 (fun vs H Q E h=>?_) (fun cdv A outer s H vs Q E hr h=>?_)
 · obtain ⟨t,c,txs,cells,l,pl,rfl,_⟩:=h
   rfl
 · obtain ⟨tx,c,txs,cells,l,pl,rfl,ht,hc,h1,h2,hlt,hll,q⟩:=h
   refine ⟨_,(@a09 _ _ _ (@a53 _ _ _ _ (ag8 (Nt:=["number"]) (Nf:=["texts"]) (caps:=[0]) rfl (a90 (sc:=defScope a89) rfl rfl (by decide +kernel) (by decide +kernel) (by decide +kernel) rfl (by decide +kernel)) (a60 K (@a38 _ _ _ _ _ _ _ _ _ _ _ _ _ _ _ _ G_cells_in (hr.mono (by omega)) rfl T.m_cells_in T.F_cells_in.kp T.b_cells_in .nil a52 (@a00 _ _ _ _ _ (pv 1) (@a00 _ _ _ _ _ (pv 2) (@a01 _) (by rfl)) (by rfl)) (by decide) (by rfl) (by rfl))) (fun _ _ _ _ _=>(a36 (i:=0) (show (["number","texts"]:List Str).Nodup by decide +kernel) rfl (by walk_at "o"))) (fun _ _ _ _ _=>(@a91 _)) (fun _ _ _ _ _=>(@a49 _ _ _ _ _ _ _ (a42 K) (pv 1) (pv 0) (fun _ _=>rfl)))))),?_⟩
   walk_at "go"
   refine ⟨c,cells,l,pl,rfl,hc,h1,h2,fun p1 H1 f1 s1 e1=>?_⟩
   refine ⟨p1,rfl,⟨_,SqL.of e1⟩,ac9 (xs:=natsV l) (le_line (by rw [a69]; omega)) (fun i acc H'=>H'=H1∧i≤l.length∧acc=strsV (txOf txs (l.take i))) ⟨rfl,Nat.zero_le _,rfl⟩ (fun i acc H' ⟨e,hi,ea⟩=>⟨by rw [ea]; simp [strsV,txOf]; omega,e ▸ SqL.of e1⟩) ?_ ?_⟩
   · rintro i x acc H' hx ⟨rfl,hi,rfl⟩
     obtain ⟨n,hn,rfl⟩:=natsV_get hx
     walk_at "run"
     refine a99 (SqL.of (s1 _ _ ht)) (a07 (c88 (hlt n (List.mem_of_getElem? hn)))) ?_
     exact ⟨rfl,(List.getElem?_eq_some_iff.mp hn).1,bf4 hn⟩
   · rintro acc H' ⟨rfl,_,rfl⟩ p2 H2 f2 s2 e2
     rw [a69,List.take_length] at e2
     exact q p2 H2 (s1.free f2) (s1.trans s2) e2
abbrev Tri:=Nat×Nat×Nat
abbrev Sh:=(Nat×Nat)×List Tri
def ai3 (ts:List Tri):List Nat:=ts.flatMap fun t=>[t.1,t.2.1,t.2.2]
def shL (h:Sh):List Nat:=h.1.1::h.1.2::ai3 h.2
theorem af2:∀ ts:List Tri,(ai3 ts).length=ts.length*3
 | []=>rfl
 | t::ts=>by
   have:=af2 ts
   simp only [ai3,List.flatMap_cons,List.length_append,List.length_cons,List.length_nil] at this ⊢
   omega
theorem b06:∀ {ts:List Tri}{i:Nat}{t:Tri},ts[i]?=some t→((ai3 ts).drop (i*3)).take 3=[t.1,t.2.1,t.2.2]∧(ai3 ts)[i*3]?=some t.1∧(ai3 ts)[i*3+1]?=some t.2.1∧(ai3 ts)[i*3+2]?=some t.2.2
 | [],i,t,h=>by simp at h
 | x::ts,0,t,h=>by
   obtain rfl:x=t:=by simpa using h
   refine ⟨?_,?_,?_,?_⟩ <;> simp [ai3]
 | x::ts,i+1,t,h=>by
   obtain ⟨h1,h2,h3,h4⟩:=b06 (ts:=ts) (i:=i) (t:=t) (by simpa using h)
   have e:ai3 (x::ts)=[x.1,x.2.1,x.2.2]++ai3 ts:=rfl
   rw [e,show (i+1)*3=i*3+3 by omega]
   refine ⟨?_,?_,?_,?_⟩
   · simpa using h1
   · simpa using h2
   · rw [show i*3+3+1=i*3+1+3 by omega]; simpa using h3
   · rw [show i*3+3+2=i*3+2+3 by omega]; simpa using h4
theorem c89 {h:Sh}{i:Nat}{t:Tri}(e:h.2[i]?=some t):((shL h).drop (2+i*3)).take 3=[t.1,t.2.1,t.2.2]∧(shL h)[2+i*3]?=some t.1∧(shL h)[2+i*3+1]?=some t.2.1∧(shL h)[2+i*3+2]?=some t.2.2:=by
 obtain ⟨h1,h2,h3,h4⟩:=b06 e
 unfold shL
 rw [show 2+i*3=i*3+1+1 by omega,show i*3+1+1+1=i*3+1+1+1 from rfl]
 refine ⟨?_,?_,?_,?_⟩
 · simpa using h1
 · simpa using h2
 · rw [show i*3+1+1+1=(i*3+1)+1+1 by omega]; simpa using h3
 · rw [show i*3+1+1+2=(i*3+2)+1+1 by omega]; simpa using h4
def tripW (t:Tri):Tw:=.tup [natW t.1,natW t.2.1,natW t.2.2]
theorem trip_w {H:Hp}{t:Tri}{v:V}{fs:List Addr}:(tripW t).At H v fs↔∃ k,v=.ref k∧H k=some (.tup [.int (t.1:Nat),.int (t.2.1:Nat),.int (t.2.2:Nat)])∧fs=[]:=by
 simp only [tripW,natW,Tw.At,Tw.Ats]
 constructor
 · rintro ⟨a,vs,rfl,e,v,ws,f,g,rfl,rfl,⟨rfl,_,rfl⟩,v',ws',f',g',rfl,rfl,⟨rfl,_,rfl⟩,v2,ws2,f2,g2,rfl,rfl,⟨rfl,_,rfl⟩,rfl,rfl⟩
   exact ⟨a,rfl,e,rfl⟩
 · rintro ⟨k,rfl,e,rfl⟩
   exact ⟨k,_,rfl,e,_,_,[],[],rfl,rfl,⟨rfl,True.intro,rfl⟩,_,_,[],[],rfl,rfl,⟨rfl,True.intro,rfl⟩,_,_,[],[],rfl,rfl,⟨rfl,True.intro,rfl⟩,rfl,rfl⟩
def bf5 (K:PySem.W.Frag):Sp:=fun vs H Q _=>∃ (s:Addr) (h:Sh),vs=[.ref s]∧H s=some (.lst (natsV (shL h)))∧h.2.length≤1000∧∀ p acc H',H p=none→Same H H'→H' p=some (.lst acc)→Tw.Ats H' (h.2.map tripW) acc []→Q (.ref p) H'
theorem bn3 (n:Nat):ap6 2 ((n*3+2:Nat):Int)=n:=by
 unfold ap6
 omega
theorem au5 (T:Txt K mg t):FnOk P w K mg base CX0 1 t.a_others_in t.fd_others_in ["shape"] (bf5 K):=by
 refine T.F_others_in.ok au0 (fun vs H Q E h=>?_) (fun cdv A outer s H vs Q E hr h=>?_)
 · obtain ⟨s,h,rfl,_⟩:=h
   rfl
 · obtain ⟨s0,sh,rfl,hs,hl,q⟩:=h
   refine ⟨_,(@a09 _ _ _ (@a53 _ _ _ _ (ag8 (Nt:=["place"]) (Nf:=["shape"]) (caps:=[0]) rfl (a90 (sc:=defScope a75) rfl rfl (by decide +kernel) (by decide +kernel) (by decide +kernel) rfl (by decide +kernel)) (bb4 rfl T.z_range (@a00 _ _ _ _ _ (@a05 _ _ _ _) (@a00 _ _ _ _ _ (@a70 _ _ _ _ _ _ _ _ _ (ac2 K) (by rfl) T.z_len ac7 (@a00 _ _ _ _ _ (pv 0) (@a01 _) (by rfl)) (by decide) (by decide) (by rfl) (by rfl)) (@a00 _ _ _ _ _ (@a05 _ _ _ _) (@a01 _) (by rfl)) (by rfl)) (by rfl))) (fun _ _ _ _ _=>(a36 (i:=0) (show (["place","shape"]:List Str).Nodup by decide +kernel) rfl (by walk_at "o"))) (fun _ _ _ _ _=>(@a91 _)) (fun _ _ _ _ _=>(@a46 _ _ _ _ _ _ _ _ _ (ac3 K) (by rfl) T.z_tuple ad7 (@a00 _ _ _ _ _ (@aj3 _ _ _ _ _ _ _ _ _ _ (ap0 K) (pv 1) (@ai0 _ _ _ (pv 0)) (@ai0 _ _ _ (@a80 _ _ _ _ _ _ _ _ a78 (pv 0) (@a05 _ _ _ _)))) (@a01 _) (by rfl)) (by decide) (by decide) (by rfl) (by rfl)))))),?_⟩
   walk_at "go"
   refine ag9 (SqL.of hs) ?_
   walk_at "run"
   have hle:(natsV (shL sh)).length=sh.2.length*3+2:=by rw [a69]; simp [shL,af2]
   rw [hle]
   refine ⟨2,_,rfl,⟨by omega,by omega,by omega,by omega⟩,?_⟩
   rw [bn3]
   refine bb5 (n:=sh.2.length) (le_line (by omega)) (fun i acc H'=>i≤sh.2.length∧acc.length=i∧Same H H'∧Tw.Ats H' ((sh.2.take i).map tripW) acc []) ⟨Nat.zero_le _,rfl,Same.refl _,by simp [Tw.Ats]⟩ (fun i acc H' ⟨_,e,_⟩=>by omega) ?_ ?_
   · rintro i acc H1 hi ⟨hil,ea,s1,hat⟩
     have et:sh.2[i]?=some sh.2[i]:=List.getElem?_eq_getElem hi
     obtain ⟨x1,_⟩:=c89 et
     walk_at "run"
     refine bt1 (SqL.of (s1 _ _ hs)) ?_
     rw [show (2:Int)+(i:Nat)*3=((2+i*3:Nat):Int) by omega,show ((2+i*3:Nat):Int)+3=((2+i*3+3:Nat):Int) by omega,b05,Nat.add_sub_cancel_left,x1]
     intro p2 H2 f2 s2 e2
     walk_at "run"
     refine ad8 (SqL.of e2) ?_
     intro p3 H3 f3 s3 e3
     refine ⟨hi,by simp [ea],s1.trans (s2.trans s3),?_⟩
     rw [List.take_add_one,et,List.map_append]
     exact Tw.Ats.snoc (gs:=[]) (hat.same (s2.trans s3)) (trip_w.mpr ⟨p3,rfl,e3,rfl⟩)
   · rintro acc H1 ⟨_,ea,s1,hat⟩ p2 H2 f2 s2 e2
     rw [List.take_length] at hat
     exact q p2 acc H2 (s1.free f2) (s1.trans s2) e2 (hat.same s2)
end Z
namespace Z
structure Pk where
 told:List Nat
 shs:List Sh
 sys:List (List Nat)
 say:Nat
def Pk.cells (k:Pk):List Nat:=k.told.length::k.sys.length::k.shs.length::k.say::(k.told++(blocks (k.shs.map shL)++blocks k.sys))
def Pk.pre1 (k:Pk):List Nat:=k.told.length::k.sys.length::k.shs.length::k.say::k.told
def Pk.pre2 (k:Pk):List Nat:=k.pre1++blocks (k.shs.map shL)
theorem Pk.c1 (k:Pk):k.cells=k.pre1++(blocks (k.shs.map shL)++blocks k.sys):=by simp [Pk.cells,Pk.pre1]
theorem Pk.c2 (k:Pk):k.cells=k.pre2++(blocks k.sys++[]):=by simp [Pk.cells,Pk.pre2,Pk.pre1]
theorem Pk.l1 (k:Pk):k.pre1.length=4+k.told.length:=by simp [Pk.pre1]; omega
theorem Pk.l2 (k:Pk):k.pre2.length=offF k.pre1.length (k.shs.map shL) (k.shs.map shL).length:=by rw [au4]; simp [Pk.pre2]
theorem Pk.at4 (k:Pk) {i t:Nat}(h:k.told[i]?=some t):k.cells[4+i]?=some t:=by
 unfold Pk.cells
 rw [show 4+i=i+1+1+1+1 by omega]
 simp only [List.getElem?_cons_succ]
 rw [List.getElem?_append_left (List.getElem?_eq_some_iff.mp h).1,h]
structure PkOk (k:Pk) (T:Nat):Prop where
 nt:k.told.length≤100
 n0:0<k.told.length
 nsh:k.shs.length≤100
 nsy:k.sys.length≤100
 told:∀ t∈k.told,t / 2<k.shs.length
 sh:∀ h∈k.shs,h.1.1<k.sys.length∧h.1.2<k.told.length∧(∀ t∈h.2,t.2.1<k.sys.length∧t.2.2<k.told.length)∧(h.2.map (·.1)).Nodup∧h.2.length≤100
 sy:∀ l∈k.sys,l.length≤100∧∀ n∈l,n<T
 say:k.say<k.sys.length
def pm (d tx c sh sy:Addr):List (Str×V):=putF "sayings" (.ref sy) (putF "shapes" (.ref sh) (putF "cells" (.ref c) (putF "texts" (.ref tx) (putF "places" (.ref d) []))))
theorem bf6 (d tx c sh sy:Addr):(pm d tx c sh sy).lookup ("places":Str)=some (.ref d):=by
 unfold pm
 rw [a06,if_neg (by decide +kernel),a06,if_neg (by decide +kernel),a06,if_neg (by decide +kernel),a06,if_neg (by decide +kernel),a06,if_pos rfl]
theorem bn4 (d tx c sh sy:Addr):(pm d tx c sh sy).lookup ("texts":Str)=some (.ref tx):=by
 unfold pm
 rw [a06,if_neg (by decide +kernel),a06,if_neg (by decide +kernel),a06,if_neg (by decide +kernel),a06,if_pos rfl]
theorem aj7 (d tx c sh sy:Addr):(pm d tx c sh sy).lookup ("cells":Str)=some (.ref c):=by
 unfold pm
 rw [a06,if_neg (by decide +kernel),a06,if_neg (by decide +kernel),a06,if_pos rfl]
theorem bf7 (d tx c sh sy:Addr):(pm d tx c sh sy).lookup ("shapes":Str)=some (.ref sh):=by
 unfold pm
 rw [a06,if_neg (by decide +kernel),a06,if_pos rfl]
theorem b73 (d tx c sh sy:Addr):(pm d tx c sh sy).lookup ("sayings":Str)=some (.ref sy):=by
 unfold pm
 rw [a06,if_pos rfl]
theorem pm_no (d tx c sh sy:Addr) {m:Str}(h1:¬ m="sayings") (h2:¬ m="shapes") (h3:¬ m="cells") (h4:¬ m="texts") (h5:¬ m="places"):(pm d tx c sh sy).lookup m=none:=by
 unfold pm
 rw [a06,if_neg h1,a06,if_neg h2,a06,if_neg h3,a06,if_neg h4,a06,if_neg h5]
 all_goals rfl
structure PAt (P:Params) (C:Addr) (H:Hp) (p d tx c sh sy:Addr) (es:List Ev) (txs:List Str) (k:Pk):Prop where
 ex:∃ dx,H p=some (.ins C dx (pm d tx c sh sy))∧DtAt P H d (plc es 0 [])∧H tx=some (.lst (strsV txs))∧H c=some (.lst (natsV k.cells))∧H sh=some (.lst (natsV (offs k.pre1.length (k.shs.map shL))))∧H sy=some (.lst (natsV (offs k.pre2.length k.sys)))
theorem PAt.same {P:Params}{C p d tx c sh sy:Addr}{H H':Hp}{es:List Ev}{txs:List Str}{k:Pk}(m:PAt P C H p d tx c sh sy es txs k) (s:Same H H'):PAt P C H' p d tx c sh sy es txs k:=by
 obtain ⟨dx,h1,h2,h3,h4,h5,h6⟩:=m.ex
 exact ⟨dx,s _ _ h1,a55 h2 s,s _ _ h3,s _ _ h4,s _ _ h5,s _ _ h6⟩
def sp_init (K:PySem.W.Frag) (P:Params) (C:Addr):Sp:=fun vs H Q _=>∃ (p dx tt a b c:Addr) (us:List V) (es:List Ev) (txs:List Str) (k:Pk),vs=[.ref p,.ref tt]∧H p=some (.ins C dx [])∧H tt=some (.tup [.ref a,.ref b,.ref c])∧H a=some (.lst us)∧Tr.Ats H (es.map Ev.tr) us []∧es.length≤100∧H b=some (.lst (strsV txs))∧H c=some (.lst (natsV k.cells))∧PkOk k txs.length ∧
 ∀ d tx c' sh sy H',PAt P C H' p d tx c' sh sy es txs k→(∀ x∈[d,tx,c',sh,sy],H x=none)→(∀ x o,H x=some o→x≠p→H' x=some o)→Q .non H'
theorem a65 (T:Txt K mg t):FnOk P w K mg base CX0 2 t.a_PackMachine___init__ t.fd_PackMachine___init__ ["self","pack"] (sp_init K w.params t.c_PackMachine):=by
 have G_block_places:=al5 (P:=P) (w:=w) (base:=base) T
 have G_places_by:=ai5 (P:=P) (w:=w) (base:=base) T
 refine T.F_PackMachine___init__.ok ae2 (fun vs H Q E h=>?_) (fun cdv A outer s H vs Q E hr h=>?_)
 · obtain ⟨p,dx,tt,a,b,c,us,es,txs,k,rfl,_⟩:=h
   rfl
 · obtain ⟨p,dx,tt,a,b,c,us,es,txs,k,rfl,hp,h1,h2,h3,hel,h4,h5,ok,q⟩:=h
   refine ⟨_,(@a02 _ _ _ _ _ (ad0 K (pv 0) (@a38 _ _ _ _ _ _ _ _ _ _ _ _ _ _ _ _ G_places_by (hr.mono (by omega)) rfl T.m_places_by T.F_places_by.kp T.b_places_by .nil a52 (@a00 _ _ _ _ _ (@a49 _ _ _ _ _ _ _ (a45 K) (pv 1) (@a05 _ _ _ _) (fun _ _=>rfl)) (@a01 _) (by rfl)) (by decide) (by rfl) (by rfl)) rfl)
    (@a02 _ _ _ _ _ (ad0 K (pv 0) (@a46 _ _ _ _ _ _ _ _ _ (aa0 K) (by rfl) T.z_list aa6 (@a00 _ _ _ _ _ (@a49 _ _ _ _ _ _ _ (a45 K) (pv 1) (@a05 _ _ _ _) (fun _ _=>rfl)) (@a01 _) (by rfl)) (by decide) (by decide) (by rfl) (by rfl)) rfl)
    (@a02 _ _ _ _ _ (ad0 K (pv 0) (@a46 _ _ _ _ _ _ _ _ _ (aa0 K) (by rfl) T.z_list aa6 (@a00 _ _ _ _ _ (@a49 _ _ _ _ _ _ _ (a45 K) (pv 1) (@a05 _ _ _ _) (fun _ _=>rfl)) (@a01 _) (by rfl)) (by decide) (by decide) (by rfl) (by rfl)) rfl)
    (@a02 _ _ _ _ _ (ad0 K (pv 0) (@a38 _ _ _ _ _ _ _ _ _ _ _ _ _ _ _ _ G_block_places (hr.mono (by omega)) rfl T.m_block_places T.F_block_places.kp T.b_block_places .nil a52 (@a00 _ _ _ _ _ (a79 K (pv 0) rfl) (@a00 _ _ _ _ _ (@a80 _ _ _ _ _ _ _ _ a78 (ah9 (by rfl) T.m_HEAD (by exact T.r_HEAD)) (@a49 _ _ _ _ _ _ _ (a42 K) (a79 K (pv 0) rfl) (@a05 _ _ _ _) (fun _ _=>rfl))) (@a00 _ _ _ _ _ (@a49 _ _ _ _ _ _ _ (a42 K) (a79 K (pv 0) rfl) (@a05 _ _ _ _) (fun _ _=>rfl)) (@a01 _) (by rfl)) (by rfl)) (by rfl)) (by decide) (by rfl) (by rfl)) rfl)
    (@a09 _ _ _ (ad0 K (pv 0) (@a38 _ _ _ _ _ _ _ _ _ _ _ _ _ _ _ _ G_block_places (hr.mono (by omega)) rfl T.m_block_places T.F_block_places.kp T.b_block_places .nil a52 (@a00 _ _ _ _ _ (a79 K (pv 0) rfl) (@a00 _ _ _ _ _ (@a49 _ _ _ _ _ _ _ (a42 K) (a79 K (pv 0) rfl) (@bz6 _ _ _ _ _ _ bp4 (@a05 _ _ _ _)) (fun _ _=>rfl)) (@a00 _ _ _ _ _ (@a49 _ _ _ _ _ _ _ (a42 K) (a79 K (pv 0) rfl) (@a05 _ _ _ _) (fun _ _=>rfl)) (@a01 _) (by rfl)) (by rfl)) (by rfl)) (by decide) (by rfl) (by rfl)) rfl)))))),?_⟩
   have np:∀ {x:Addr}{o:HO},H x=some o→(∀ C dx fs,o≠.ins C dx fs)→x≠p:=fun e z=>ac8 e hp (z _ _ _)
   have ntt:=np h1 (fun _ _ _ z=>nomatch z)
   have nb:=np h4 (fun _ _ _ z=>nomatch z)
   have nc:=np h5 (fun _ _ _ z=>nomatch z)
   walk_at "go"
   refine a81 (SqT.of h1) (a07 (j:=0) rfl) ?_
   walk_at "run"
   refine ⟨a,us,es,rfl,h2,h3,by omega,fun d H1 f1 s1 d1=>?_⟩
   walk_at "run"
   refine ⟨p,_,dx,_,rfl,s1 _ _ hp,T.cl_PackMachine,T.n_PackMachine_places,by decide,?_⟩
   have hdp:d≠p:=(a03 hp f1).symm
   have eA:upd H1 p (.ins t.c_PackMachine dx (putF "places" (.ref d) [])) p=some (.ins t.c_PackMachine dx (putF "places" (.ref d) [])):=a34
   have kA:∀ x o,x≠p→H x=some o→upd H1 p (.ins t.c_PackMachine dx (putF "places" (.ref d) [])) x=some o:=fun x o z e=>by rw [a08 z]; exact s1 _ _ e
   have dA:DtAt w.params (upd H1 p (.ins t.c_PackMachine dx (putF "places" (.ref d) []))) d (plc es 0 []):=d1.mono (aa7 (s1 _ _ hp)) (a08 hdp)
   generalize upd H1 p (.ins t.c_PackMachine dx (putF "places" (.ref d) []))=HA at eA kA dA
   have frA:∀ {x:Addr},HA x=none→H x=none:=fun {x} z=>by
    cases e:H x with
    | none=>rfl
    | some o =>
      rw [kA x o (fun q=>by rw [q,eA] at z; cases z) e] at z
      cases z
   walk_at "run"
   refine a81 (SqT.of (kA _ _ ntt h1)) (a07 (j:=1) rfl) ?_
   walk_at "run"
   refine ab7 (SqL.of (kA _ _ nb h4)) ?_
   intro pt H3 f3 s3 e3
   walk_at "run"
   have l1:=a74 "places" (V.ref d) []
   rw [List.length_nil] at l1
   refine ⟨p,_,dx,_,rfl,s3 _ _ eA,T.cl_PackMachine,T.n_PackMachine_texts,by omega,?_⟩
   have l2:=a74 "texts" (V.ref pt) (putF "places" (V.ref d) [])
   have htp:pt≠p:=(a03 eA f3).symm
   have eB:upd H3 p (.ins t.c_PackMachine dx (putF "texts" (.ref pt) (putF "places" (.ref d) []))) p=some (.ins t.c_PackMachine dx (putF "texts" (.ref pt) (putF "places" (.ref d) []))):=a34
   have kB:∀ x o,x≠p→HA x=some o→upd H3 p (.ins t.c_PackMachine dx (putF "texts" (.ref pt) (putF "places" (.ref d) []))) x=some o:=fun x o z e=>by rw [a08 z]; exact s3 _ _ e
   have tB:upd H3 p (.ins t.c_PackMachine dx (putF "texts" (.ref pt) (putF "places" (.ref d) []))) pt=some (.lst (strsV txs)):=by rw [a08 htp]; exact e3
   have dB:DtAt w.params (upd H3 p (.ins t.c_PackMachine dx (putF "texts" (.ref pt) (putF "places" (.ref d) [])))) d (plc es 0 []):=(a55 dA s3).mono (aa7 (s3 _ _ eA)) (a08 hdp)
   generalize upd H3 p (.ins t.c_PackMachine dx (putF "texts" (.ref pt) (putF "places" (.ref d) [])))=HB at eB kB tB dB
   have frB:∀ {x:Addr},HB x=none→HA x=none:=fun {x} z=>by
    cases e:HA x with
    | none=>rfl
    | some o =>
      rw [kB x o (fun q=>by rw [q,eB] at z; cases z) e] at z
      cases z
   walk_at "run"
   refine a81 (SqT.of (kB _ _ ntt (kA _ _ ntt h1))) (a07 (j:=2) rfl) ?_
   walk_at "run"
   refine ab7 (SqL.of (kB _ _ nc (kA _ _ nc h5))) ?_
   intro pc H4 f4 s4 e4
   walk_at "run"
   refine ⟨p,_,dx,_,rfl,s4 _ _ eB,T.cl_PackMachine,T.n_PackMachine_cells,by omega,?_⟩
   have l3:=a74 "cells" (V.ref pc) (putF "texts" (V.ref pt) (putF "places" (V.ref d) []))
   have hcp:pc≠p:=(a03 eB f4).symm
   have eC:upd H4 p (.ins t.c_PackMachine dx (putF "cells" (.ref pc) (putF "texts" (.ref pt) (putF "places" (.ref d) [])))) p=some (.ins t.c_PackMachine dx (putF "cells" (.ref pc) (putF "texts" (.ref pt) (putF "places" (.ref d) [])))):=a34
   have kC:∀ x o,x≠p→HB x=some o→upd H4 p (.ins t.c_PackMachine dx (putF "cells" (.ref pc) (putF "texts" (.ref pt) (putF "places" (.ref d) [])))) x=some o:=fun x o z e=>by rw [a08 z]; exact s4 _ _ e
   have cC:upd H4 p (.ins t.c_PackMachine dx (putF "cells" (.ref pc) (putF "texts" (.ref pt) (putF "places" (.ref d) [])))) pc=some (.lst (natsV k.cells)):=by rw [a08 hcp]; exact e4
   have dC:DtAt w.params (upd H4 p (.ins t.c_PackMachine dx (putF "cells" (.ref pc) (putF "texts" (.ref pt) (putF "places" (.ref d) []))))) d (plc es 0 []):=(a55 dB s4).mono (aa7 (s4 _ _ eB)) (a08 hdp)
   generalize upd H4 p (.ins t.c_PackMachine dx (putF "cells" (.ref pc) (putF "texts" (.ref pt) (putF "places" (.ref d) []))))=HC at eC kC cC dC
   have frC:∀ {x:Addr},HC x=none→HB x=none:=fun {x} z=>by
    cases e:HB x with
    | none=>rfl
    | some o =>
      rw [kC x o (fun q=>by rw [q,eC] at z; cases z) e] at z
      cases z
   have tC':=kC _ _ htp tB
   have lkC:(putF "cells" (V.ref pc) (putF "texts" (V.ref pt) (putF "places" (V.ref d) []))).lookup ("cells":Str)=some (.ref pc):=by rw [a06,if_pos rfl]
   walk_at "run"
   refine ⟨p,_,dx,_,_,rfl,eC,T.cl_PackMachine,T.n_PackMachine_cells,lkC,?_⟩
   walk_at "run"
   refine ⟨p,_,dx,_,_,rfl,eC,T.cl_PackMachine,T.n_PackMachine_cells,lkC,?_⟩
   walk_at "run"
   refine a99 (SqL.of cC) (v:=.int (k.told.length:Nat)) (a07 (j:=0) rfl) ?_
   walk_at "run"
   refine ⟨p,_,dx,_,_,rfl,eC,T.cl_PackMachine,T.n_PackMachine_cells,lkC,?_⟩
   walk_at "run"
   refine a99 (SqL.of cC) (v:=.int (k.shs.length:Nat)) (a07 (j:=2) rfl) ?_
   walk_at "run"
   rw [show (4:Int)+(k.told.length:Nat)=((k.pre1.length:Nat):Int) by rw [k.l1]; omega,show ((k.shs.length:Nat):Int)=(((k.shs.map shL).length:Nat):Int) by simp]
   have n1:=ok.nsh
   have n2:=ok.nsy
   refine ⟨pc,k.cells,k.pre1,blocks k.sys,k.shs.map shL,rfl,cC,k.c1,by simp; omega,fun ph H5 f5 s5 e5=>?_⟩
   walk_at "run"
   refine ⟨p,_,dx,_,rfl,s5 _ _ eC,T.cl_PackMachine,T.n_PackMachine_shapes,by omega,?_⟩
   have l4:=a74 "shapes" (V.ref ph) (putF "cells" (V.ref pc) (putF "texts" (V.ref pt) (putF "places" (V.ref d) [])))
   have hhp:ph≠p:=(a03 eC f5).symm
   have eD:upd H5 p (.ins t.c_PackMachine dx (putF "shapes" (.ref ph) (putF "cells" (.ref pc) (putF "texts" (.ref pt) (putF "places" (.ref d) []))))) p=some (.ins t.c_PackMachine dx (putF "shapes" (.ref ph) (putF "cells" (.ref pc) (putF "texts" (.ref pt) (putF "places" (.ref d) []))))):=a34
   have kD:∀ x o,x≠p→HC x=some o→upd H5 p (.ins t.c_PackMachine dx (putF "shapes" (.ref ph) (putF "cells" (.ref pc) (putF "texts" (.ref pt) (putF "places" (.ref d) []))))) x=some o:=fun x o z e=>by rw [a08 z]; exact s5 _ _ e
   have hD:upd H5 p (.ins t.c_PackMachine dx (putF "shapes" (.ref ph) (putF "cells" (.ref pc) (putF "texts" (.ref pt) (putF "places" (.ref d) []))))) ph=some (.lst (natsV (offs k.pre1.length (k.shs.map shL)))):=by rw [a08 hhp]; exact e5
   have dD:DtAt w.params (upd H5 p (.ins t.c_PackMachine dx (putF "shapes" (.ref ph) (putF "cells" (.ref pc) (putF "texts" (.ref pt) (putF "places" (.ref d) [])))))) d (plc es 0 []):=(a55 dC s5).mono (aa7 (s5 _ _ eC)) (a08 hdp)
   generalize upd H5 p (.ins t.c_PackMachine dx (putF "shapes" (.ref ph) (putF "cells" (.ref pc) (putF "texts" (.ref pt) (putF "places" (.ref d) [])))))=HD at eD kD hD dD
   have frD:∀ {x:Addr},HD x=none→HC x=none:=fun {x} z=>by
    cases e:HC x with
    | none=>rfl
    | some o =>
      rw [kD x o (fun q=>by rw [q,eD] at z; cases z) e] at z
      cases z
   have cD:=kD _ _ hcp cC
   have tD:=kD _ _ htp tC'
   have lkD:(putF "shapes" (V.ref ph) (putF "cells" (V.ref pc) (putF "texts" (V.ref pt) (putF "places" (V.ref d) [])))).lookup ("cells":Str)=some (.ref pc):=by rw [a06,if_neg (by decide +kernel),a06,if_pos rfl]
   have lkE:(putF "shapes" (V.ref ph) (putF "cells" (V.ref pc) (putF "texts" (V.ref pt) (putF "places" (V.ref d) [])))).lookup ("shapes":Str)=some (.ref ph):=by rw [a06,if_pos rfl]
   walk_at "run"
   refine ⟨p,_,dx,_,_,rfl,eD,T.cl_PackMachine,T.n_PackMachine_cells,lkD,?_⟩
   walk_at "run"
   refine ⟨p,_,dx,_,_,rfl,eD,T.cl_PackMachine,T.n_PackMachine_shapes,lkE,?_⟩
   walk_at "run"
   refine a99 (SqL.of hD) (v:=.int (k.pre2.length:Nat)) (by
    unfold offs
    rw [ao2,←af5,←k.l2]
    exact bi1 _ _) ?_
   walk_at "run"
   refine ⟨p,_,dx,_,_,rfl,eD,T.cl_PackMachine,T.n_PackMachine_cells,lkD,?_⟩
   walk_at "run"
   refine a99 (SqL.of cD) (v:=.int (k.sys.length:Nat)) (a07 (j:=1) rfl) ?_
   walk_at "run"
   refine ⟨pc,k.cells,k.pre2,[],k.sys,rfl,cD,k.c2,by omega,fun py H6 f6 s6 e6=>?_⟩
   walk_at "run"
   refine ⟨p,_,dx,_,rfl,s6 _ _ eD,T.cl_PackMachine,T.n_PackMachine_sayings,by omega,?_⟩
   have hyp:py≠p:=(a03 eD f6).symm
   have kE:∀ x o,x≠p→HD x=some o→upd H6 p (.ins t.c_PackMachine dx (pm d pt pc ph py)) x=some o:=fun x o z e=>by rw [a08 z]; exact s6 _ _ e
   walk_at "run"
   refine q d pt pc ph py _ ⟨dx,a34,(a55 dD s6).mono (aa7 (s6 _ _ eD)) (a08 hdp),kE _ _ htp tD,kE _ _ hcp cD,kE _ _ hhp hD,by rw [a08 hyp]; exact e6⟩ ?_ fun x o e z=>kE x o z (kD x o z (kC x o z (kB x o z (kA x o z e))))
   intro x hx
   simp only [List.mem_cons,List.not_mem_nil,or_false] at hx
   rcases hx with rfl | rfl | rfl | rfl | rfl
   · exact f1
   · exact frA f3
   · exact frA (frB f4)
   · exact frA (frB (frC f5))
   · exact frA (frB (frC (frD f6)))
def bf8 (K:PySem.W.Frag) (P:Params) (C:Addr):Sp:=fun vs H Q _=>∃ (p d tx c sh sy:Addr) (es:List Ev) (txs:List Str) (k:Pk) (n:Nat) (l:List Nat),vs=[.ref p,.int (n:Nat)]∧PAt P C H p d tx c sh sy es txs k∧PkOk k txs.length∧k.sys[n]?=some l∧∀ pl H',H pl=none→Same H H'→H' pl=some (.lst (strsV (txOf txs l)))→Q (.ref pl) H'
theorem ab0 (T:Txt K mg t):FnOk P w K mg base CX0 3 t.a_PackMachine_said_by t.fd_PackMachine_said_by ["self","saying"] (bf8 K w.params t.c_PackMachine):=by
 have G_texts_at:=ay4 (P:=P) (w:=w) (base:=base) T
 refine T.F_PackMachine_said_by.ok ae7 (fun vs H Q E h=>?_) (fun cdv A outer s H vs Q E hr h=>?_)
 · obtain ⟨p,d,tx,c,sh,sy,es,txs,k,n,l,rfl,_⟩:=h
   rfl
 · obtain ⟨p,d,tx,c,sh,sy,es,txs,k,n,l,rfl,hM,ok,hn,q⟩:=h
   refine ⟨_,(@a09 _ _ _ (@a53 _ _ _ _ (@a38 _ _ _ _ _ _ _ _ _ _ _ _ _ _ _ _ G_texts_at (hr.mono (by omega)) rfl T.m_texts_at T.F_texts_at.kp T.b_texts_at .nil a52 (@a00 _ _ _ _ _ (a79 K (pv 0) rfl) (@a00 _ _ _ _ _ (a79 K (pv 0) rfl) (@a00 _ _ _ _ _ (@a49 _ _ _ _ _ _ _ (a42 K) (a79 K (pv 0) rfl) (pv 1) (fun _ _=>rfl)) (@a01 _) (by rfl)) (by rfl)) (by rfl)) (by decide) (by rfl) (by rfl)))),?_⟩
   obtain ⟨dx,h1,h2,h3,h4,h5,h6⟩:=hM.ex
   obtain ⟨o1,o2⟩:=ok.sy l (List.mem_of_getElem? hn)
   obtain ⟨x1,x2⟩:=aq6 k.c2 hn
   walk_at "go"
   refine ⟨p,_,dx,_,_,rfl,h1,T.cl_PackMachine,T.n_PackMachine_texts,bn4 _ _ _ _ _,?_⟩
   walk_at "run"
   refine ⟨p,_,dx,_,_,rfl,h1,T.cl_PackMachine,T.n_PackMachine_cells,aj7 _ _ _ _ _,?_⟩
   walk_at "run"
   refine ⟨p,_,dx,_,_,rfl,h1,T.cl_PackMachine,T.n_PackMachine_sayings,b73 _ _ _ _ _,?_⟩
   walk_at "run"
   refine a99 (SqL.of h6) (a07 (af7 (bf1 (Nat.le_of_lt (List.getElem?_eq_some_iff.mp hn).1)))) ?_
   walk_at "run"
   exact ⟨tx,c,txs,k.cells,l,_,rfl,h3,h4,x1,x2,o2,by omega,fun pl H1 f1 s1 e1=>q pl H1 f1 s1 e1⟩
def sp_begin (K:PySem.W.Frag) (P:Params) (C:Addr):Sp:=fun vs H Q _=>∃ (p d tx c sh sy:Addr) (es:List Ev) (txs:List Str) (k:Pk) (l:List Nat),vs=[.ref p]∧PAt P C H p d tx c sh sy es txs k∧PkOk k txs.length∧k.sys[k.say]?=some l∧∀ kk pl H',H pl=none→Same H H'→H' kk=some (.tup [.ref pl,.int 0])→H' pl=some (.lst (strsV (txOf txs l)))→Q (.ref kk) H'
theorem a77 (T:Txt K mg t):FnOk P w K mg base CX0 4 t.a_PackMachine_begin t.fd_PackMachine_begin ["self"] (sp_begin K w.params t.c_PackMachine):=by
 have G_PackMachine_said_by:=ab0 (P:=P) (w:=w) (base:=base) T
 refine T.F_PackMachine_begin.ok af8 (fun vs H Q E h=>?_) (fun cdv A outer s H vs Q E hr h=>?_)
 · obtain ⟨p,d,tx,c,sh,sy,es,txs,k,l,rfl,_⟩:=h
   rfl
 · obtain ⟨p,d,tx,c,sh,sy,es,txs,k,l,rfl,hM,ok,hn,q⟩:=h
   refine ⟨_,(@a09 _ _ _ (@a53 _ _ _ _ (@a57 _ _ _ _ _ (@a00 _ _ _ _ _ (ag0 (pv 0) T.cl_PackMachine T.M_PackMachine_said_by G_PackMachine_said_by (hr.mono (by omega)) T.b_PackMachine_said_by .nil a52 (@a00 _ _ _ _ _ (@a49 _ _ _ _ _ _ _ (a42 K) (a79 K (pv 0) rfl) (@a80 _ _ _ _ _ _ _ _ bz8 (ah9 (by rfl) T.m_HEAD (by exact T.r_HEAD)) (@a05 _ _ _ _)) (fun _ _=>rfl)) (@a01 _) (by rfl))) (@a00 _ _ _ _ _ (@a05 _ _ _ _) (@a01 _) (by rfl)) (by rfl))))),?_⟩
   obtain ⟨dx,h1,h2,h3,h4,h5,h6⟩:=hM.ex
   walk_at "go"
   refine ⟨p,dx,_,rfl,h1,pm_no _ _ _ _ _ (by decide +kernel) (by decide +kernel) (by decide +kernel) (by decide +kernel) (by decide +kernel),?_⟩
   walk_at "run"
   refine ⟨p,_,dx,_,_,rfl,h1,T.cl_PackMachine,T.n_PackMachine_cells,aj7 _ _ _ _ _,?_⟩
   walk_at "run"
   refine a99 (SqL.of h4) (v:=.int (k.say:Nat)) (a07 (j:=3) rfl) ?_
   walk_at "run"
   refine ⟨p,d,tx,c,sh,sy,es,txs,k,k.say,l,rfl,hM,ok,hn,fun pl H1 f1 s1 e1=>?_⟩
   walk_at "run"
   intro p2 H2 f2 s2 e2
   exact q p2 pl H2 f1 (s1.trans s2) e2 (s2 _ _ e1)
def pick (h:Sh) (j:Nat):Nat×Nat:=match h.2.find? (fun t=>t.1 == j) with
 | some t=>t.2
 | none=>h.1
theorem bf9 {h:Sh}{j i:Nat}{t:Tri}(e:h.2[i]?=some t) (hj:t.1=j) (hn:∀ x∈h.2.take i,¬ x.1=j):pick h j=t.2:=by
 have e2:h.2=h.2.take i++t::h.2.drop (i+1):=by
  conv=>lhs; rw [← List.take_append_drop i h.2,List.drop_eq_getElem_cons (List.getElem?_eq_some_iff.mp e).1]
  rw [(List.getElem?_eq_some_iff.mp e).2]
 have hf:h.2.find? (fun t=>t.1 == j)=some t:=by
  rw [e2,List.find?_append,List.find?_eq_none.mpr fun x hx=>by simpa using hn x hx]
  simp [hj]
 unfold pick
 rw [hf]
theorem bg0 {h:Sh}{j:Nat}(hn:∀ x∈h.2,¬ x.1=j):pick h j=h.1:=by
 unfold pick
 rw [List.find?_eq_none.mpr fun x hx=>by simpa using hn x hx]
def sp_step (K:PySem.W.Frag) (P:Params) (C:Addr):Sp:=fun vs H Q _=>∃ (p d tx c sh sy:Addr) (es:List Ev) (txs:List Str) (k:Pk) (n t j:Nat) (h:Sh) (v:V) (e:Ev) (l:List Nat),vs=[.ref p,.int (n:Nat),v]∧PAt P C H p d tx c sh sy es txs k∧PkOk k txs.length∧k.told[n]?=some t∧k.shs[t / 2]?=some h∧e.tr.AtK K H v∧plOf es e=some (.int (j:Nat))∧k.sys[(pick h j).1]?=some l∧∀ kk pl H',H pl=none→Same H H'→H' kk=some (.tup [.ref pl,.int ((pick h j).2:Nat)])→H' pl=some (.lst (strsV (txOf txs l)))→Q (.ref kk) H'
theorem a87 (T:Txt K mg t):FnOk P w K mg base CX0 4 t.a_PackMachine_step t.fd_PackMachine_step ["self","standing","event"] (sp_step K w.params t.c_PackMachine):=by
 have G_PackMachine_said_by:=ab0 (P:=P) (w:=w) (base:=base) T
 have G_cells_in:=al6 (P:=P) (w:=w) (base:=base) T
 have G_others_in:=au5 (P:=P) (w:=w) (base:=base) T
 have G_place_of:=al3 (P:=P) (w:=w) (base:=base) T
 refine T.F_PackMachine_step.ok sc_PackMachine_step (fun vs H Q E h=>?_) (fun cdv A outer s H vs Q E hr h=>?_)
 · obtain ⟨p,d,tx,c,sh,sy,es,txs,k,n,t,j,h,v,e,l,rfl,_⟩:=h
   rfl
 · obtain ⟨p,d,tx,c,sh,sy,es,txs,k,n,tl,j,h,v,e,l,rfl,hM,ok,hn,hh,hv,hj,hl,q⟩:=h
   refine ⟨_,(@a02 _ _ _ _ _ (@a47 _ _ 3 _ _ _ _ sc_PackMachine_step.nd rfl (by walk_at "o") (@a38 _ _ _ _ _ _ _ _ _ _ _ _ _ _ _ _ G_cells_in (hr.mono (by omega)) rfl T.m_cells_in T.F_cells_in.kp T.b_cells_in .nil a52 (@a00 _ _ _ _ _ (a79 K (pv 0) rfl) (@a00 _ _ _ _ _ (@a49 _ _ _ _ _ _ _ (a42 K) (a79 K (pv 0) rfl) (@a80 _ _ _ _ _ _ _ _ ao6 (@a49 _ _ _ _ _ _ _ (a42 K) (a79 K (pv 0) rfl) (@a80 _ _ _ _ _ _ _ _ a78 (ah9 (by rfl) T.m_HEAD (by exact T.r_HEAD)) (pv 1)) (fun _ _=>rfl)) (@a05 _ _ _ _)) (fun _ _=>rfl)) (@a01 _) (by rfl)) (by rfl)) (by decide) (by rfl) (by rfl)) (by rfl) (by walk_at "o"))
    (@a02 _ _ _ _ _ (@a47 _ _ 4 _ _ _ _ sc_PackMachine_step.nd rfl (by walk_at "o") (@a38 _ _ _ _ _ _ _ _ _ _ _ _ _ _ _ _ G_place_of (hr.mono (by omega)) rfl T.m_place_of T.F_place_of.kp T.b_place_of .nil a52 (@a00 _ _ _ _ _ (a79 K (pv 0) rfl) (@a00 _ _ _ _ _ (pv 2) (@a01 _) (by rfl)) (by rfl)) (by decide) (by rfl) (by rfl)) (by rfl) (by walk_at "o"))
    (@a02 _ _ _ _ _ (@aa3 _ _ _ _ _ _ _ _ PassesOwn.never rfl (a60 K (@a38 _ _ _ _ _ _ _ _ _ _ _ _ _ _ _ _ G_others_in (hr.mono (by omega)) rfl T.m_others_in T.F_others_in.kp T.b_others_in .nil a52 (@a00 _ _ _ _ _ (pv 3) (@a01 _) (by rfl)) (by decide) (by rfl) (by rfl))) (ab6 K (n:=3) rfl (a50 (a36 (i:=5) sc_PackMachine_step.nd rfl (by walk_at "o")) (a50 (a36 (i:=6) sc_PackMachine_step.nd rfl (by walk_at "o")) (a50 (a36 (i:=7) sc_PackMachine_step.nd rfl (by walk_at "o")) (@ab5 _))))) (@a09 _ _ _ (@ai7 _ _ _ _ _ _ _ _ (@a83 _ _ _ _ _ _ _ _ bh4 (pv 5) (pv 4) (nomark _)) (@a09 _ _ _ (@a53 _ _ _ _ (@a57 _ _ _ _ _ (@a00 _ _ _ _ _ (ag0 (pv 0) T.cl_PackMachine T.M_PackMachine_said_by G_PackMachine_said_by (hr.mono (by omega)) T.b_PackMachine_said_by .nil a52 (@a00 _ _ _ _ _ (pv 6) (@a01 _) (by rfl))) (@a00 _ _ _ _ _ (pv 7) (@a01 _) (by rfl)) (by rfl))))) (@ac1 _))) (by intro _; rfl))
    (@a09 _ _ _ (@a53 _ _ _ _ (@a57 _ _ _ _ _ (@a00 _ _ _ _ _ (ag0 (pv 0) T.cl_PackMachine T.M_PackMachine_said_by G_PackMachine_said_by (hr.mono (by omega)) T.b_PackMachine_said_by .nil a52 (@a00 _ _ _ _ _ (@a49 _ _ _ _ _ _ _ (a42 K) (pv 3) (@a05 _ _ _ _) (fun _ _=>rfl)) (@a01 _) (by rfl))) (@a00 _ _ _ _ _ (@a49 _ _ _ _ _ _ _ (a42 K) (pv 3) (@a05 _ _ _ _) (fun _ _=>rfl)) (@a01 _) (by rfl)) (by rfl)))))))),?_⟩
   obtain ⟨dx,h1,h2,h3,h4,h5,h6⟩:=hM.ex
   obtain ⟨o1,o2,o3,o4,o5⟩:=ok.sh h (List.mem_of_getElem? hh)
   have hh2:(k.shs.map shL)[tl / 2]?=some (shL h):=by rw [List.getElem?_map,hh]; rfl
   obtain ⟨x1,x2⟩:=aq6 k.c1 hh2
   walk_at "go"
   refine ⟨p,_,dx,_,_,rfl,h1,T.cl_PackMachine,T.n_PackMachine_cells,aj7 _ _ _ _ _,?_⟩
   walk_at "run"
   refine ⟨p,_,dx,_,_,rfl,h1,T.cl_PackMachine,T.n_PackMachine_shapes,bf7 _ _ _ _ _,?_⟩
   walk_at "run"
   refine ⟨p,_,dx,_,_,rfl,h1,T.cl_PackMachine,T.n_PackMachine_cells,aj7 _ _ _ _ _,?_⟩
   walk_at "run"
   rw [show (4:Int)+(n:Nat)=((4+n:Nat):Int) by omega]
   refine a99 (SqL.of h4) (a07 (af7 (k.at4 hn))) ?_
   walk_at "run"
   rw [show ((tl:Nat):Int) / 2=((tl / 2:Nat):Int) by omega]
   refine a99 (SqL.of h5) (a07 (af7 (bf1 (Nat.le_of_lt (List.getElem?_eq_some_iff.mp hh2).1)))) ?_
   walk_at "run"
   refine ⟨c,k.cells,shL h,_,rfl,h4,x1,x2,fun ps H1 f1 s1 e1=>?_⟩
   walk_at "run"
   refine ⟨p,_,dx,_,_,rfl,s1 _ _ h1,T.cl_PackMachine,T.n_PackMachine_places,bf6 _ _ _ _ _,?_⟩
   walk_at "run"
   refine ⟨d,v,es,e,rfl,a55 h2 s1,hv.mono s1.tups,fun y hy=>?_⟩
   rw [hj] at hy
   cases hy
   walk_at "run"
   refine ⟨ps,h,rfl,e1,by omega,fun po acc H2 f2 s2 e2 ho=>?_⟩
   have al:acc.length=h.2.length:=by rw [ho.len,List.length_map]
   refine ⟨po,rfl,⟨_,SqL.of e2⟩,ac6 (K:=K) (a:=po) (xs:=acc) (fun i σ H'=>H'=H2∧(∀ x∈h.2.take i,¬ x.1=j)∧∃ y1 y2 y3,σ=[some (.ref p),some (.int (n:Nat)),some v,some (.ref ps),some (.int (j:Nat)),y1,y2,y3]) ⟨rfl,by simp,_,_,_,rfl⟩ (fun i σ H' _ ⟨e,_⟩=>e ▸ SqL.of e2) ?_ ?_⟩
   · rintro i x σ H' hx ⟨rfl,hno,y1,y2,y3,rfl⟩
     obtain ⟨tt,ff,ht1,ht2,_⟩:=ho.get i x hx
     rw [List.getElem?_map] at ht1
     obtain ⟨t3,ht3,rfl⟩:=Option.map_eq_some_iff.mp ht1
     obtain ⟨kk,rfl,hkk,_⟩:=trip_w.mp ht2
     refine ai4 (SqT.of hkk) rfl ?_
     walk_at "run"
     have s02:=s1.trans s2
     refine ite2 (fun hc=>?_) (fun hc=>?_)
     · have hc':t3.1=j:=by have:=of_decide_eq_true hc; omega
       have hp:=bf9 ht3 hc' hno
       rw [hp] at hl q
       walk_at "run"
       refine ⟨p,dx,_,rfl,s02 _ _ h1,pm_no _ _ _ _ _ (by decide +kernel) (by decide +kernel) (by decide +kernel) (by decide +kernel) (by decide +kernel),?_⟩
       walk_at "run"
       refine ⟨p,d,tx,c,sh,sy,es,txs,k,t3.2.1,l,rfl,hM.same s02,ok,hl,fun pl H3 f3 s3 e3=>?_⟩
       walk_at "run"
       intro p4 H4 f4 s4 e4
       exact q p4 pl H4 (s02.free f3) (s02.trans (s3.trans s4)) e4 (s4 _ _ e3)
     · have hc':¬ t3.1=j:=fun z=>hc (decide_eq_true (by omega))
       walk_at "run"
       refine ⟨rfl,fun x hx=>?_,_,_,_,rfl⟩
       rw [List.take_add_one,ht3] at hx
       rcases List.mem_append.mp hx with hx | hx
       · exact hno x hx
       · simp at hx
         rw [hx]
         exact hc'
   · rintro σ H' ⟨rfl,hno,y1,y2,y3,rfl⟩
     rw [al,List.take_length] at hno
     have hp:=bg0 hno
     rw [hp] at hl q
     have s02:=s1.trans s2
     walk_at "run"
     refine ⟨p,dx,_,rfl,s02 _ _ h1,pm_no _ _ _ _ _ (by decide +kernel) (by decide +kernel) (by decide +kernel) (by decide +kernel) (by decide +kernel),?_⟩
     walk_at "run"
     refine a99 (SqL.of (s2 _ _ e1)) (v:=.int (h.1.1:Nat)) (a07 (j:=0) rfl) ?_
     walk_at "run"
     refine ⟨p,d,tx,c,sh,sy,es,txs,k,h.1.1,l,rfl,hM.same s02,ok,hl,fun pl H3 f3 s3 e3=>?_⟩
     walk_at "run"
     refine a99 (SqL.of (s3 _ _ (s2 _ _ e1))) (v:=.int (h.1.2:Nat)) (a07 (j:=1) rfl) ?_
     walk_at "run"
     intro p4 H4 f4 s4 e4
     exact q p4 pl H4 (s02.free f3) (s02.trans (s3.trans s4)) e4 (s4 _ _ e3)
end Z
namespace Z
def met1 {α:Type} [DecidableEq α] (acc:List α) (x:α):List α:=if x∈acc then acc else acc++[x]
def mets {α:Type} [DecidableEq α] (l:List α):List α:=l.foldl met1 []
theorem au6 {α:Type} [DecidableEq α] (l:List α) (x:α):mets (l++[x])=met1 (mets l) x:=by
 unfold mets
 rw [List.foldl_append]
 rfl
theorem bn5 {α:Type} [DecidableEq α] {acc:List α}{x y:α}:x∈met1 acc y↔x∈acc∨x=y:=by
 unfold met1
 split
 · next h =>
   constructor
   · exact .inl
   · rintro (h' | rfl)
     · exact h'
     · exact h
 · simp
theorem b07 {α:Type} [DecidableEq α] (x:α):∀ (l acc:List α),x∈l.foldl met1 acc↔x∈acc∨x∈l
 | [],acc=>by simp
 | y::l,acc=>by
   rw [List.foldl_cons,b07 x l,bn5,List.mem_cons,or_assoc]
theorem aq7 {α:Type} [DecidableEq α] (x:α) (l:List α):x∈mets l↔x∈l:=by
 unfold mets
 rw [b07]
 simp
theorem bx2 {α:Type} [DecidableEq α] {acc:List α}{y:α}(ha:acc.Nodup):(met1 acc y).Nodup:=by
 unfold met1
 split
 · exact ha
 · next h =>
   refine List.nodup_append.mpr ⟨ha,by simp,fun a hm b hb z=>?_⟩
   rw [List.mem_singleton.mp hb] at z
   exact h (z ▸ hm)
theorem bg1 {α:Type} [DecidableEq α]:∀ (l acc:List α),acc.Nodup→(l.foldl met1 acc).Nodup
 | [],acc,h=>h
 | y::l,acc,h=>bg1 l _ (bx2 h)
theorem ay5 {α:Type} [DecidableEq α] (l:List α):(mets l).Nodup:=bg1 l [] (by simp)
theorem b08 {α:Type} [DecidableEq α]:∀ (l acc:List α),(l.foldl met1 acc).length≤acc.length+l.length
 | [],acc=>by simp
 | y::l,acc=>by
   have h:=b08 l (met1 acc y)
   have h2:(met1 acc y).length≤acc.length+1:=by
    unfold met1
    split <;> simp
   rw [List.foldl_cons,List.length_cons]
   omega
theorem b09 {α:Type} [DecidableEq α] (l:List α):(mets l).length≤l.length:=by
 have:=b08 l []
 simpa [mets] using this
def numF {α:Type}(f:α→Tr):List α→Nat→List (Tr×V)
 | [],_=>[]
 | x::l,n=>(f x,.int (n:Nat))::numF f l (n+1)
def numd {α:Type}(f:α→Tr) (l:List α):List (Tr×V):=numF f l 0
theorem ae4 {α:Type}(f:α→Tr):∀ (l:List α) (n:Nat),(numF f l n).length=l.length
 | [],_=>rfl
 | _::l,n=>by simp [numF,ae4 f l]
theorem ah6 {α:Type}(f:α→Tr):∀ (l:List α) (n:Nat),(numF f l n).map (·.1)=l.map f
 | [],_=>rfl
 | _::l,n=>by simp [numF,ah6 f l]
theorem au7 {α:Type}(f:α→Tr) (x:α):∀ (l:List α) (n:Nat),numF f (l++[x]) n=numF f l n++[(f x,.int ((n+l.length:Nat):Int))]
 | [],n=>rfl
 | y::l,n=>by
   show (f y,V.int (n:Nat))::numF f (l++[x]) (n+1)=_
   rw [au7 f x l (n+1),show n+1+l.length=n+(y::l).length by simp; omega]
   rfl
theorem b34 {α:Type}{f:α→Tr}(hf:∀ a b,f a=f b→a=b):∀ (l:List α) (n:Nat),l.Nodup→∀ (x:α) (i:Nat),l[i]?=some x→valV (numF f l n) (f x)=some (.int ((n+i:Nat):Int))
 | [],n,_,x,i,h=>by simp at h
 | y::l,n,hn,x,i,h=>by
   rw [List.nodup_cons] at hn
   unfold valV numF
   rw [List.find?_cons]
   cases i with
   | zero =>
     have e:y=x:=by simpa using h
     subst e
     simp
   | succ i =>
     have h':l[i]?=some x:=by simpa using h
     have hne:f y≠f x:=fun z=>hn.1 (by rw [hf _ _ z]; exact List.mem_of_getElem? h')
     rw [decide_eq_false hne]
     have:=b34 hf l (n+1) hn.2 x i h'
     unfold valV at this
     rw [this,show n+1+i=n+(i+1) by omega]
theorem au8 {α:Type}{f:α→Tr}(hf:∀ a b,f a=f b→a=b) {x:α}:∀ (l:List α) (n:Nat),x∉l→valV (numF f l n) (f x)=none
 | [],n,_=>rfl
 | y::l,n,h=>by
   rw [List.mem_cons,not_or] at h
   unfold valV numF
   rw [List.find?_cons,decide_eq_false (fun z:f y=f x=>h.1 (hf _ _ z).symm)]
   have:=au8 hf l (n+1) h.2
   unfold valV at this
   exact this
theorem bn6 {α:Type}{f:α→Tr}(hf:∀ a b,f a=f b→a=b) {l:List α}(hn:l.Nodup) {x:α}{i:Nat}(h:l[i]?=some x):valV (numd f l) (f x)=some (.int (i:Nat)):=by
 have:=b34 hf l 0 hn x i h
 rw [Nat.zero_add] at this
 exact this
theorem al7 {α:Type}{f:α→Tr}(hf:∀ a b,f a=f b→a=b) {l:List α}(hn:l.Nodup) {x:α}(h:x∈l):∃ i:Nat,l[i]?=some x∧valV (numd f l) (f x)=some (.int (i:Nat)):=by
 obtain ⟨i,hi,rfl⟩:=List.mem_iff_getElem.mp h
 exact ⟨i,List.getElem?_eq_getElem hi,bn6 hf hn (List.getElem?_eq_getElem hi)⟩
def b74 (K:PySem.W.Frag) (P:Params):Sp:=fun vs H Q _=>∃ (a:Addr) (us:List V) (α:Type) (_:DecidableEq α) (f:α→Tr) (xs:List α),vs=[.ref a]∧SqL K H a us∧Tr.Ats H (xs.map f) us []∧(∀ a b,f a=f b→a=b)∧(∀ x,(f x).h≤8)∧xs.length≤100000∧∀ d H',H d=none→Same H H'→DtAt P H' d (numd f (mets xs))→Q (.ref d) H'
theorem b75 (T:Txt K mg t):FnOk P w K mg base CX0 1 t.a_counted t.fd_counted ["things"] (b74 K w.params):=by
 refine T.F_counted.ok sc_counted (fun vs H Q E h=>?_) (fun cdv A outer s H vs Q E hr h=>?_)
 · obtain ⟨a,us,α,dα,f,xs,rfl,_⟩:=h
   rfl
 · obtain ⟨a,us,α,dα,f,xs,rfl,ha,hu,hf,hh,hl,q⟩:=h
   refine ⟨_,(@a02 _ _ _ _ _ (@a47 _ _ 1 _ _ _ _ sc_counted.nd rfl (by walk_at "o") (aw4 w.params) (by rfl) (by walk_at "o"))
    (@a02 _ _ _ _ _ (@aa3 _ _ _ _ _ _ _ _ PassesOwn.never rfl (a60 K (pv 0)) (a36 (i:=2) sc_counted.nd rfl (by walk_at "o")) (@a09 _ _ _ (@aa1 _ _ _ _ (bk0 (P:=w.params) rfl (by exact hr.units) (pv 1) (pv 2) (@a70 _ _ _ _ _ _ _ _ _ (ax1 (P:=w.params) rfl) (by rfl) T.z_len ac7 (@a00 _ _ _ _ _ (pv 1) (@a01 _) (by rfl)) (by decide) (by decide) (by rfl) (by rfl)) ⟨by rfl,by rfl,by rfl,by rfl⟩) (by rfl))) (by intro _; rfl))
    (@a09 _ _ _ (@a53 _ _ _ _ (pv 1))))),?_⟩
   have sl:(1000000:Nat)≤sizeLine:=le_line (Nat.le_refl _)
   have ul:us.length=xs.length:=by rw [hu.len,List.length_map]
   walk_at "go"
   intro d o fd hd
   walk_at "run"
   have s1:Same H (upd H d o):=Same.new fd
   refine ⟨⟨_,s1.seq ha⟩,ac6 (K:=K) (a:=a) (xs:=us) (fun i σ H'=>i≤xs.length∧Same H H'∧DtAt w.params H' d (numd f (mets (xs.take i)))∧∃ y,σ=[some (.ref a),some (.ref d),y]) ⟨Nat.zero_le _,s1,hd,_,rfl⟩ (fun i σ H' _ ⟨_,s',_⟩=>s'.seq ha) ?_ ?_⟩
   · rintro i v σ H2 hv ⟨hi,s2,hD,y,rfl⟩
     obtain ⟨tx,hx1,hx2⟩:=af6 hu hv
     rw [List.getElem?_map] at hx1
     obtain ⟨x,hx,rfl⟩:=Option.map_eq_some_iff.mp hx1
     have hi':i<xs.length:=(List.getElem?_eq_some_iff.mp hx).1
     have htk:xs.take (i+1)=xs.take i++[x]:=by rw [List.take_add_one,hx]; rfl
     have hln:=b09 (xs.take i)
     have hlt:(xs.take i).length≤100000:=by simp; omega
     walk_at "run"
     refine ⟨d,_,rfl,hD,?_⟩
     walk_at "run"
     refine ⟨d,_,rfl,hD,?_⟩
     walk_at "run"
     refine ⟨_,f x,hD,⟨a92 hx2 s2.tups,hh x⟩,by unfold numd; rw [ae4]; omega,fun z hz=>?_,fun hz o' hD'=>?_⟩
     · have hm:x∈mets (xs.take i):=Classical.byContradiction fun hm=>by
        have:=au8 hf (mets (xs.take i)) 0 hm
        unfold numd at hz
        rw [this] at hz
        cases hz
       rw [htk,au6,met1,if_pos hm]
       exact ⟨hi',s2,hD,_,rfl⟩
     · have hm:x∉mets (xs.take i):=fun hm=>by
        obtain ⟨j,_,hj⟩:=al7 hf (ay5 _) hm
        rw [hj] at hz
        cases hz
       rw [htk,au6,met1,if_neg hm]
       refine ⟨hi',s2.updNew fd,?_,_,rfl⟩
       unfold numd at hD' ⊢
       rw [au7,Nat.zero_add]
       rw [ae4] at hD'
       exact hD'
   · rintro σ H2 ⟨_,s2,hD,y,rfl⟩
     rw [ul,List.take_length] at hD
     walk_at "run"
     exact q d H2 fd s2 hD
end Z
namespace Z
def pairT (p:Nat×Nat):Tr:=.tup [.int (p.1:Nat),.int (p.2:Nat)]
theorem pairT_inj {a b:Nat×Nat}(h:pairT a=pairT b):a=b:=by
 simp only [pairT,Tr.tup.injEq,List.cons.injEq,Tr.int.injEq,and_true] at h
 exact Prod.ext (by omega) (by omega)
theorem aq8 (p:Nat×Nat):(pairT p).h≤1:=by simp [pairT,Tr.h,Tr.hs]
theorem bg2 {H:Hp}{p:Nat×Nat}{v:V}(h:(pairT p).At H v []):∃ a,v=.ref a∧H a=some (.tup [.int (p.1:Nat),.int (p.2:Nat)]):=by
 obtain ⟨a,vs,rfl,e,h2⟩:=at_tup0.mp h
 obtain ⟨u,w1,rfl,a1,h3⟩:=ats_cons0.mp h2
 obtain ⟨u2,w2,rfl,a2,h4⟩:=ats_cons0.mp h3
 cases at_int0.mp a1
 cases at_int0.mp a2
 cases ats_nil0.mp h4
 exact ⟨a,rfl,e⟩
def encC (x:(Nat×Nat)×Nat):Tr×V:=(pairT x.1,.int (x.2:Nat))
theorem bx3 (cs:List ((Nat×Nat)×Nat)) (p:Nat×Nat) (n:Nat):∃ cs':List ((Nat×Nat)×Nat),putK (cs.map encC) (pairT p) (.int (n:Nat))=cs'.map encC∧0<cs'.length∧cs'.length≤cs.length+1∧(∀ x∈cs',x.1=p∨∃ y∈cs,x.1=y.1)∧∀ x∈cs',x.2=n∨∃ y∈cs,x.2=y.2:=by
 unfold putK
 split
 · next h =>
   refine ⟨cs.map fun x=>if pairT x.1=pairT p then (x.1,n) else x,?_,?_,by simp,fun x hx=>?_,fun x hx=>?_⟩
   · rw [List.map_map,List.map_map]
     refine List.map_congr_left fun x _=>?_
     by_cases hx:pairT x.1=pairT p
     · show _=encC (if _ then _ else _)
       have e1:(if pairT x.1=pairT p then (x.1,n) else x)=(x.1,n):=if_pos hx
       exact (if_pos hx).trans (congrArg encC e1.symm)
     · have e1:(if pairT x.1=pairT p then (x.1,n) else x)=x:=if_neg hx
       exact (if_neg hx).trans (congrArg encC e1.symm)
   · cases cs with
     | nil=>simp at h
     | cons c cs=>simp
   · obtain ⟨y,hy,rfl⟩:=List.mem_map.mp hx
     refine .inr ⟨y,hy,?_⟩
     split <;> rfl
   · obtain ⟨y,hy,rfl⟩:=List.mem_map.mp hx
     by_cases hz:pairT y.1=pairT p
     · rw [if_pos hz]; exact .inl rfl
     · rw [if_neg hz]; exact .inr ⟨y,hy,rfl⟩
 · refine ⟨cs++[(p,n)],by simp [encC],by simp,by simp,fun x hx=>?_,fun x hx=>?_⟩
   · rcases List.mem_append.mp hx with h | h
     · exact .inr ⟨x,h,rfl⟩
     · rw [List.mem_singleton.mp h]; exact .inl rfl
   · rcases List.mem_append.mp hx with h | h
     · exact .inr ⟨x,h,rfl⟩
     · rw [List.mem_singleton.mp h]; exact .inl rfl
theorem bx4 (cs:List ((Nat×Nat)×Nat)) (t:Tr):∃ n:Nat,(valV (cs.map encC) t).getD (.int 0)=.int (n:Nat)∧(∀ b:Nat,(∀ x∈cs,x.2≤b)→n≤b):=by
 unfold valV
 cases h:(cs.map encC).find? (fun kv=>decide (kv.1=t)) with
 | none=>exact ⟨0,rfl,fun b _=>Nat.zero_le _⟩
 | some y =>
   obtain ⟨x,hx,rfl⟩:=List.mem_map.mp (List.mem_of_find?_eq_some h)
   exact ⟨x.2,rfl,fun b hb=>hb x hx⟩
def bn7 (K:PySem.W.Frag):Sp:=fun vs H Q _=>∃ (c:Addr) (l:List Nat),vs=[.ref c]∧H c=some (.lst (natsV l))∧l.length≤100000∧∀ p H',H p=none→Same H H'→H' p=some (.lst (natsV (l.length::l)))→Q (.ref p) H'
theorem bn8 (T:Txt K mg t):FnOk P w K mg base CX0 1 t.a_block t.fd_block ["cells"] (bn7 K):=by
 refine T.F_block.ok bm7 (fun vs H Q E h=>?_) (fun cdv A outer s H vs Q E hr h=>?_)
 · obtain ⟨c,l,rfl,_⟩:=h
   rfl
 · obtain ⟨c,l,rfl,hc,hl,q⟩:=h
   refine ⟨_,(@a09 _ _ _ (@a53 _ _ _ _ (@a80 _ _ _ _ _ _ _ _ a78 (@a40 _ _ _ _ (@a00 _ _ _ _ _ (@a70 _ _ _ _ _ _ _ _ _ (ac2 K) (by rfl) T.z_len ac7 (@a00 _ _ _ _ _ (pv 0) (@a01 _) (by rfl)) (by decide) (by decide) (by rfl) (by rfl)) (@a01 _) (by rfl))) (pv 0)))),?_⟩
   have sl:(1000000:Nat)≤sizeLine:=le_line (Nat.le_refl _)
   walk_at "go"
   refine ag9 (SqL.of hc) ?_
   walk_at "run"
   intro p1 H1 f1 s1 e1
   walk_at "run"
   refine ap1 e1 (s1 _ _ hc) (by rw [a69]; simp; omega) ?_
   intro p2 H2 f2 s2 e2
   rw [a69] at e2
   exact q p2 H2 (s1.free f2) (s1.trans s2) e2
def bg3 (K:PySem.W.Frag):Sp:=fun vs H Q _=>∃ (a:Addr) (us:List V) (row:List (Nat×Nat)),vs=[.ref a]∧H a=some (.tup us)∧Tr.Ats H (row.map pairT) us []∧0<row.length∧row.length≤1000∧∀ v c H',Same H H'→c∈row→(pairT c).At H' v []→Q v H'
theorem am0 (T:Txt K mg t):FnOk P w K mg base CX0 1 t.a_common_pair t.fd_common_pair ["shape"] (bg3 K):=by
 refine T.F_common_pair.ok sc_common_pair (fun vs H Q E h=>?_) (fun cdv A outer s H vs Q E hr h=>?_)
 · obtain ⟨a,us,row,rfl,_⟩:=h
   rfl
 · obtain ⟨a,us,row,rfl,ha,hu,h0,hl,q⟩:=h
   refine ⟨_,(@a02 _ _ _ _ _ (@a47 _ _ 1 _ _ _ _ sc_common_pair.nd rfl (by walk_at "o") (aw4 w.params) (by rfl) (by walk_at "o"))
    (@a02 _ _ _ _ _ (@aa3 _ _ _ _ _ _ _ _ PassesOwn.never rfl (b99 K (pv 0)) (a36 (i:=2) sc_common_pair.nd rfl (by walk_at "o")) (@a09 _ _ _ (aw5 (P:=w.params) rfl (by exact hr.units) (pv 1) (pv 2) (@a80 _ _ _ _ _ _ _ _ a78 (bj9 (P:=w.params) rfl (by exact hr.units) (pv 1) (pv 2) (@a05 _ _ _ _) ⟨by rfl,by rfl,by rfl,by rfl⟩) (@a05 _ _ _ _)) rfl)) (by intro _; rfl))
    (@a02 _ _ _ _ _ (@a47 _ _ 3 _ _ _ _ sc_common_pair.nd rfl (by walk_at "o") (@a70 _ _ _ _ _ _ _ _ _ (bv9 (P:=w.params) rfl rfl) (by rfl) T.z_max c41 (@a00 _ _ _ _ _ (bl6 (P:=w.params) rfl (pv 1)) (@a01 _) (by rfl)) (by decide) (by decide) (by rfl) (by rfl)) (by rfl) (by walk_at "o"))
    (@a09 _ _ _ (@a53 _ _ _ _ (@a49 _ _ _ _ _ _ _ (a42 K) (ag8 (Nt:=["pair"]) (Nf:=["counts","most"]) (caps:=[1,3]) rfl (a90 (sc:=defScope a58) rfl rfl (by decide +kernel) (by decide +kernel) (by decide +kernel) rfl (by decide +kernel)) (bv6 (P:=w.params) rfl (pv 1)) (fun _ _ _ _ _=>(a36 (i:=0) (show (["pair","counts","most"]:List Str).Nodup by decide +kernel) rfl (by walk_at "o"))) (fun _ _ _ _ _=>(@bs5 _ _ _ (@a83 _ _ _ _ _ _ _ _ bh4 (ak8 (P:=w.params) rfl (by exact hr.units) (pv 1) (pv 0) (fun _ _=>rfl)) (pv 2) (nomark _)))) (fun _ _ _ _ _=>(pv 0))) (@a05 _ _ _ _) (fun _ _=>rfl))))))),?_⟩
   have sl:(1000000:Nat)≤sizeLine:=le_line (Nat.le_refl _)
   have ul:us.length=row.length:=by rw [hu.len,List.length_map]
   walk_at "go"
   intro d o fd hd
   walk_at "run"
   have s1:Same H (upd H d o):=Same.new fd
   refine ⟨⟨_,SqT.of (s1 _ _ ha)⟩,br7 (K:=K) (a:=a) (xs:=us) (fun i σ H'=>i≤row.length∧Same H H'∧(∃ cs:List ((Nat×Nat)×Nat),DtAt w.params H' d (cs.map encC)∧cs.length≤i∧(0<i→0<cs.length)∧(∀ x∈cs,x.1∈row∧x.2≤i))∧∃ y,σ=[some (.ref a),some (.ref d),y,none]) ⟨Nat.zero_le _,s1,⟨[],hd,Nat.zero_le _,fun z=>absurd z (by omega),by simp⟩,_,rfl⟩ (fun i σ H' _ ⟨_,s',_⟩=>SqT.of (s' _ _ ha)) ?_ ?_⟩
   · rintro i v σ H2 hv ⟨hi,s2,⟨cs,hD,hcl,_,hcs⟩,y,rfl⟩
     obtain ⟨tx,hx1,hx2⟩:=af6 hu hv
     rw [List.getElem?_map] at hx1
     obtain ⟨p,hp,rfl⟩:=Option.map_eq_some_iff.mp hx1
     have hi':i<row.length:=(List.getElem?_eq_some_iff.mp hp).1
     have hpm:=List.mem_of_getElem? hp
     have tk:TK H2 (pairT p) v:=⟨a92 hx2 s2.tups,by have:=aq8 p; omega⟩
     walk_at "run"
     refine ⟨d,_,rfl,hD,?_⟩
     walk_at "run"
     obtain ⟨n,hn,hb⟩:=bx4 cs (pairT p)
     refine ⟨_,pairT p,hD,tk,?_⟩
     rw [hn]
     have hni:n≤i:=hb i fun x hx=>(hcs x hx).2
     walk_at "run"
     refine ⟨d,_,pairT p,rfl,hD,tk,by rw [List.length_map]; omega,fun o' hD'=>?_⟩
     rw [show ((n:Nat):Int)+1=((n+1:Nat):Int) by omega] at hD'
     obtain ⟨cs',e1,e2,e3,e4,e5⟩:=bx3 cs p (n+1)
     rw [e1] at hD'
     have hb2:∀ x∈cs',x.1∈row:=fun x hx=>by
      rcases e4 x hx with h | ⟨y,hy,h⟩
      · rw [h]; exact hpm
      · rw [h]; exact (hcs y hy).1
     refine ⟨hi',s2.updNew fd,⟨cs',hD',by omega,fun _=>e2,fun x hx=>⟨hb2 x hx,?_⟩⟩,_,rfl⟩
     rcases e5 x hx with h | ⟨y,hy,h⟩
     · omega
     · have:=(hcs y hy).2
       omega
   · rintro σ H2 ⟨_,s2,⟨cs,hD,hcl,hc0,hcs⟩,y,rfl⟩
     have hc0':0<cs.length:=hc0 (by omega)
     walk_at "run"
     refine ⟨d,_,rfl,hD,fun pv H3 f3 s3 e3=>?_⟩
     walk_at "run"
     refine ⟨pv,d,_,cs.map fun x=>((x.2:Nat):Int),rfl,e3,a55 hD s3,by simp [encC],by simpa using hc0',fun b hb hmx=>?_⟩
     walk_at "run"
     refine ⟨d,_,rfl,a55 hD s3,fun m o H4 hm hk fz=>?_⟩
     have s4:Same H H4:=fun x ob e=>hk x ob (a03 e fd) (s3 _ _ (s2 _ _ e))
     have hml:m.length=cs.length:=by simpa using congrArg List.length hm
     have hmem:∀ x∈m,∃ y∈cs,x.1=pairT y.1∧x.2.2=.int (y.2:Nat):=fun x hx=>by
      have:(x.1,x.2.2)∈cs.map encC:=by rw [← hm]; exact List.mem_map_of_mem (f:=fun x:Tr×V×V=>(x.1,x.2.2)) hx
      obtain ⟨y,hy,e⟩:=List.mem_map.mp this
      exact ⟨y,hy,(congrArg Prod.fst e).symm,(congrArg Prod.snd e).symm⟩
     refine cc7 (by omega) (fun i acc H'=>H'=H4∧acc.length≤i∧(∀ v∈acc,∃ c∈row,(pairT c).At H4 v [])∧∀ (j:Nat) x,j<i→m[j]?=some x→x.2.2=.int b→0<acc.length) ⟨rfl,Nat.zero_le _,by simp,fun j x h=>absurd h (by omega)⟩ (fun i acc H' ⟨e,h,_⟩=>⟨h,by rw [e]; exact fz.e⟩) ?_ ?_
     · rintro i x acc H' hx ⟨rfl,h1,h2,h3⟩
       have hxm:=List.mem_of_getElem? hx
       obtain ⟨y,hy,e1,e2⟩:=hmem x hxm
       walk_at "run"
       refine ⟨d,_,x.1,_,rfl,fz.dt,fz.k x hxm,aj5 fz.n hx,?_⟩
       rw [e2]
       walk_at "run"
       refine ite2 (fun hc=>?_) (fun hc=>?_)
       · walk_at "run"
         refine ⟨rfl,by simp; omega,fun v hv=>?_,fun j x' _ _ _=>by simp⟩
         rcases List.mem_append.mp hv with hv | hv
         · exact h2 v hv
         · rw [List.mem_singleton.mp hv]
           exact ⟨y.1,(hcs y hy).1,e1 ▸ (fz.k x hxm).1⟩
       · refine ⟨rfl,by omega,h2,fun j x' hj hx' e=>?_⟩
         by_cases hji:j=i
         · subst hji
           rw [hx] at hx'
           cases hx'
           rw [e2] at e
           injection e with e
           exact absurd (decide_eq_true e) (by simpa using hc)
         · exact h3 j x' (by omega) hx' e
     · rintro acc H' ⟨rfl,h1,h2,h3⟩
       have hpos:0<acc.length:=by
        obtain ⟨y,hy,e⟩:=List.mem_map.mp hb
        obtain ⟨j,hj,rfl⟩:=List.mem_iff_getElem.mp hy
        have hjm:j<m.length:=by omega
        refine h3 j m[j] hjm (List.getElem?_eq_getElem hjm) ?_
        have:=congrArg (fun l=>l[j]?) hm
        simp only [List.getElem?_map,List.getElem?_eq_getElem hj,List.getElem?_eq_getElem hjm,Option.map_some,encC,Option.some.injEq,Prod.mk.injEq] at this
        rw [this.2,e]
       intro p5 H5 f5 s5 e5
       walk_at "run"
       obtain ⟨c,hc,hat⟩:=h2 acc[0] (List.getElem_mem _)
       refine a99 (SqL.of e5) (v:=acc[0]) (a07 (j:=0) (List.getElem?_eq_getElem hpos)) ?_
       exact q _ c H5 (s4.trans s5) hc (hat.same s5)
end Z
namespace Z
def excF (c:Nat×Nat):List (Nat×Nat)→Nat→List Tri
 | [],_=>[]
 | p::ps,n=>(if p=c then [] else [(n,p)])++excF c ps (n+1)
theorem au9 (c p:Nat×Nat):∀ (row:List (Nat×Nat)) (n:Nat),excF c (row++[p]) n=excF c row n++(if p=c then [] else [(n+row.length,p)])
 | [],n=>by simp [excF]
 | x::row,n=>by
   show (if x=c then [] else [(n,x)])++excF c (row++[p]) (n+1)=((if x=c then [] else [(n,x)])++excF c row (n+1))++_
   rw [au9 c p row (n+1),List.append_assoc,show n+1+row.length=n+(x::row).length by simp; omega]
theorem aj8 (c:Nat×Nat):∀ (row:List (Nat×Nat)) (n:Nat) (t:Tri),t∈excF c row n→n≤t.1∧t.2∈row
 | [],n,t,h=>by simp [excF] at h
 | x::row,n,t,h=>by
   rcases List.mem_append.mp h with h | h
   · split at h
     · simp at h
     · rw [List.mem_singleton.mp h]; simp
   · obtain ⟨h1,h2⟩:=aj8 c row (n+1) t h
     exact ⟨by omega,List.mem_cons_of_mem _ h2⟩
theorem ah7 (c:Nat×Nat):∀ (row:List (Nat×Nat)) (n:Nat),(excF c row n).length≤row.length
 | [],n=>by simp [excF]
 | x::row,n=>by
   have:=ah7 c row (n+1)
   show ((if x=c then [] else [(n,x)])++excF c row (n+1)).length≤_
   rw [List.length_append,List.length_cons]
   split
   · simp; omega
   · simp; omega
theorem bg4 (c:Nat×Nat):∀ (row:List (Nat×Nat)) (n:Nat),((excF c row n).map (·.1)).Nodup
 | [],n=>by simp [excF]
 | x::row,n=>by
   have ih:=bg4 c row (n+1)
   show (((if x=c then [] else [(n,x)])++excF c row (n+1)).map (·.1)).Nodup
   split
   · exact ih
   · rw [List.singleton_append,List.map_cons,List.nodup_cons]
     refine ⟨fun hm=>?_,ih⟩
     obtain ⟨t,ht,e⟩:=List.mem_map.mp hm
     have:=(aj8 c row (n+1) t ht).1
     simp only at e
     omega
theorem av0 (c:Nat×Nat):∀ (row:List (Nat×Nat)) (n j:Nat) (p:Nat×Nat),row[j]?=some p→(match (excF c row n).find? (fun t=>t.1 == n+j) with | some t=>t.2 | none=>c)=p
 | [],n,j,p,h=>by simp at h
 | x::row,n,0,p,h=>by
   obtain rfl:x=p:=by simpa using h
   show (match ((if x=c then [] else [(n,x)])++excF c row (n+1)).find? (fun t=>t.1 == n+0) with | some t=>t.2 | none=>c)=x
   split
   · next hx =>
     by_cases hc:x=c
     · rw [if_pos hc] at hx
       exfalso
       have hm:=List.mem_of_find?_eq_some hx
       have h1:=List.find?_some hx
       have h2:=(aj8 c row (n+1) _ hm).1
       simp at h1
       omega
     · rw [if_neg hc,List.singleton_append,List.find?_cons] at hx
       simp at hx
       rw [← hx]
   · next hx =>
     by_cases hc:x=c
     · exact hc.symm
     · rw [if_neg hc,List.singleton_append,List.find?_cons] at hx
       simp at hx
 | x::row,n,j+1,p,h=>by
   have ih:=av0 c row (n+1) j p (by simpa using h)
   rw [show n+1+j=n+(j+1) by omega] at ih
   show (match ((if x=c then [] else [(n,x)])++excF c row (n+1)).find? (fun t=>t.1 == n+(j+1)) with | some t=>t.2 | none=>c)=p
   have e:((if x=c then [] else [(n,x)])++excF c row (n+1)).find? (fun t=>t.1 == n+(j+1))=(excF c row (n+1)).find? (fun t=>t.1 == n+(j+1)):=by
    by_cases hc:x=c
    · rw [if_pos hc,List.nil_append]
    · rw [if_neg hc,List.singleton_append,List.find?_cons,show (n == n+(j+1))=false by simp]
   rw [e]
   exact ih
theorem bn9 {c p:Nat×Nat}{row:List (Nat×Nat)}{j:Nat}(h:row[j]?=some p):pick (c,excF c row 0) j=p:=by
 have:=av0 c row 0 j p h
 rw [Nat.zero_add] at this
 unfold pick
 exact this
theorem b76 (ts:List Tri) (t:Tri):ai3 (ts++[t])=ai3 ts++[t.1,t.2.1,t.2.2]:=by simp [ai3]
def bo0 (K:PySem.W.Frag):Sp:=fun vs H Q _=>∃ (a:Addr) (us:List V) (row:List (Nat×Nat)),vs=[.ref a]∧H a=some (.tup us)∧Tr.Ats H (row.map pairT) us []∧0<row.length∧row.length≤1000∧∀ p c H',H p=none→Same H H'→c∈row→H' p=some (.lst (natsV (shL (c,excF c row 0))))→Q (.ref p) H'
theorem am1 (T:Txt K mg t):FnOk P w K mg base CX0 2 t.a_shape_cells t.fd_shape_cells ["shape"] (bo0 K):=by
 have G_common_pair:=am0 (P:=P) (w:=w) (base:=base) T
 refine T.F_shape_cells.ok sc_shape_cells (fun vs H Q E h=>?_) (fun cdv A outer s H vs Q E hr h=>?_)
 · obtain ⟨a,us,row,rfl,_⟩:=h
   rfl
 · obtain ⟨a,us,row,rfl,ha,hu,h0,hl,q⟩:=h
   refine ⟨_,(@a02 _ _ _ _ _ (@a47 _ _ 1 _ _ _ _ sc_shape_cells.nd rfl (by walk_at "o") (@a38 _ _ _ _ _ _ _ _ _ _ _ _ _ _ _ _ G_common_pair (hr.mono (by omega)) rfl T.m_common_pair T.F_common_pair.kp T.b_common_pair .nil a52 (@a00 _ _ _ _ _ (pv 0) (@a01 _) (by rfl)) (by decide) (by rfl) (by rfl)) (by rfl) (by walk_at "o"))
    (@a02 _ _ _ _ _ (@a47 _ _ 2 _ _ _ _ sc_shape_cells.nd rfl (by walk_at "o") (@a40 _ _ _ _ (@a00 _ _ _ _ _ (@a49 _ _ _ _ _ _ _ (a45 K) (pv 1) (@a05 _ _ _ _) (fun _ _=>rfl)) (@a00 _ _ _ _ _ (@a49 _ _ _ _ _ _ _ (a45 K) (pv 1) (@a05 _ _ _ _) (fun _ _=>rfl)) (@a01 _) (by rfl)) (by rfl))) (by rfl) (by walk_at "o"))
    (@a02 _ _ _ _ _ (@aa3 _ _ _ _ _ _ _ _ PassesOwn.never rfl (bl7 K rfl T.z_enumerate (@a00 _ _ _ _ _ (pv 0) (@a01 _) (by rfl))) (ab6 K (n:=2) rfl (a50 (a36 (i:=3) sc_shape_cells.nd rfl (by walk_at "o")) (a50 (a36 (i:=4) sc_shape_cells.nd rfl (by walk_at "o")) (@ab5 _)))) (@a09 _ _ _ (@ai7 _ _ _ _ _ _ _ _ (@a83 _ _ _ _ _ _ _ _ (bl4 K (by exact hr.units)) (pv 4) (pv 1) (nomark _)) (@a09 _ _ _ (@aa1 _ _ _ _ (@ac4 _ K _ _ _ _ _ _ _ _ _ _ _ PySem.F.plainAttrs_list PySem.F.slot_list_extend PySem.F.type_list_extend ag6 (pv 2) (@a00 _ _ _ _ _ (@a40 _ _ _ _ (@a00 _ _ _ _ _ (pv 3) (@a00 _ _ _ _ _ (@a49 _ _ _ _ _ _ _ (a45 K) (pv 4) (@a05 _ _ _ _) (fun _ _=>rfl)) (@a00 _ _ _ _ _ (@a49 _ _ _ _ _ _ _ (a45 K) (pv 4) (@a05 _ _ _ _) (fun _ _=>rfl)) (@a01 _) (by rfl)) (by rfl)) (by rfl))) (@a01 _) (by rfl)) (by rfl) (by rfl) (by rfl) (by rfl) (by rfl) (by rfl)) (by rfl))) (@ac1 _))) (by intro _; rfl))
    (@a09 _ _ _ (@a53 _ _ _ _ (pv 2)))))),?_⟩
   have sl:(1000000:Nat)≤sizeLine:=le_line (Nat.le_refl _)
   have ul:us.length=row.length:=by rw [hu.len,List.length_map]
   walk_at "go"
   refine ⟨a,us,row,rfl,ha,hu,h0,hl,fun v c H1 s1 hc hv=>?_⟩
   obtain ⟨ca,rfl,hca⟩:=bg2 hv
   walk_at "run"
   refine a81 (SqT.of hca) (a07 (j:=0) rfl) ?_
   walk_at "run"
   refine a81 (SqT.of hca) (a07 (j:=1) rfl) ?_
   walk_at "run"
   intro pl H2 f2 s2 e2
   walk_at "run"
   have s02:=s1.trans s2
   refine ⟨⟨_,SqT.of (s02 _ _ ha)⟩,bc8 (K:=K) (a:=a) (xs:=us) (fun i σ H'=>i≤row.length∧Same H1 H'∧H' pl=some (.lst (natsV (shL (c,excF c (row.take i) 0))))∧∃ y z,σ=[some (.ref a),some (.ref ca),some (.ref pl),y,z]) ⟨Nat.zero_le _,s2,by rw [e2]; rfl,_,_,rfl⟩ (fun i σ H' _ ⟨_,s',_⟩=>SqT.of ((s1.trans s') _ _ ha)) ?_ ?_⟩
   · rintro i v σ H3 p3 H4 hv' ⟨hi,s3,e3,y,z,rfl⟩ s4 e4
     obtain ⟨tx,hx1,hx2⟩:=af6 (hu.same (s1.trans (s3.trans s4))) hv'
     rw [List.getElem?_map] at hx1
     obtain ⟨p,hp,rfl⟩:=Option.map_eq_some_iff.mp hx1
     have hi':i<row.length:=(List.getElem?_eq_some_iff.mp hp).1
     have htk:row.take (i+1)=row.take i++[p]:=by rw [List.take_add_one,hp]; rfl
     obtain ⟨va,rfl,hva⟩:=bg2 hx2
     have s14:=s3.trans s4
     have hle:=ah7 c (row.take i) 0
     have hlt:(row.take i).length=i:=by simp; omega
     refine ai4 (SqT.of e4) rfl ?_
     walk_at "run"
     refine c79 (ts:=[.int (p.1:Nat),.int (p.2:Nat)]) (rs:=[.int (c.1:Nat),.int (c.2:Nat)]) (hx2.toK K) ((hv.same s14).toK K) (by have:=aq8 p; unfold pairT at this; omega) (by have:=aq8 c; unfold pairT at this; omega) ?_
     walk_at "run"
     rw [htk,au9,hlt,Nat.zero_add]
     have hlf:=af2 (excF c (row.take i) 0)
     refine ite2 (fun hne=>?_) (fun hne=>?_)
     · have hpc:¬ p=c:=fun z=>by subst z; simp at hne
       rw [if_neg hpc]
       walk_at "run"
       refine ah0 (SqL.of (s4 _ _ e3)) ?_
       walk_at "run"
       refine a81 (SqT.of hva) (a07 (j:=0) rfl) ?_
       walk_at "run"
       refine a81 (SqT.of hva) (a07 (j:=1) rfl) ?_
       walk_at "run"
       intro p5 H5 f5 s5 e5
       walk_at "run"
       refine aj4 ((s4.trans s5) _ _ e3) e5 (by rw [a69]; simp only [shL,List.length_cons,List.length_nil]; omega) ?_
       refine ⟨hi',(s14.trans s5).updNew f2,?_,_,_,rfl⟩
       rw [a34,show shL (c,excF c (row.take i) 0++[(i,p)])=shL (c,excF c (row.take i) 0)++[i,p.1,p.2] by simp [shL,b76]]
       simp [natsV]
     · have hpc:p=c:=Classical.byContradiction fun z=>hne (by
        have:¬ pairT p=pairT c:=fun h=>z (pairT_inj h)
        unfold pairT at this
        rw [decide_eq_false this]; rfl)
       rw [if_pos hpc,List.append_nil]
       walk_at "run"
       exact ⟨hi',s14,s4 _ _ e3,_,_,rfl⟩
   · rintro σ H3 ⟨_,s3,e3,y,z,rfl⟩
     rw [ul,List.take_length] at e3
     walk_at "run"
     exact q pl c H3 (s1.free f2) (s1.trans s3) hc e3
end Z
namespace Z
structure TabOk (es:List Ev) (sy:List Str) (rs:List aa2):Prop where
 ne:es.length≤20
 ns:sy.length≤20
 nr:rs.length≤100
 ok:∀ r∈rs,r.2.length=es.length∧∀ x∈r.2,x.2<rs.length∧x.1.length≤20
theorem ay6 {H:Hp}:∀ ss:List Str,Tr.Ats H (ss.map Tr.str) (strsV ss) []
 | []=>by simp [strsV,Tr.Ats]
 | s::ss=>ats_cons0.mpr ⟨_,_,rfl,str_at0,ay6 ss⟩
theorem bq7:∀ ss:List Str,Tr.hs (ss.map Tr.str)≤1
 | []=>by simp [Tr.hs]
 | s::ss=>by
   have:=bq7 ss
   simp only [List.map_cons,Tr.hs,Tr.h]
   omega
def sT (s:List Str):Tr:=.tup (s.map Tr.str)
theorem av1:∀ {a b:List Str},a.map Tr.str=b.map Tr.str→a=b
 | [],[],_=>rfl
 | [],_::_,h=>by simp at h
 | _::_,[],h=>by simp at h
 | x::a,y::b,h=>by
   simp only [List.map_cons,List.cons.injEq,Tr.str.injEq] at h
   rw [h.1,av1 h.2]
theorem bg5 {a b:List Str}(h:sT a=sT b):a=b:=by
 unfold sT at h
 injection h with h
 exact av1 h
theorem sT_h (s:List Str):(sT s).h≤8:=by
 have:=bq7 s
 simp only [sT,Tr.h]
 omega
theorem bo1 {H:Hp}{a:Addr}{s:List Str}(h:H a=some (.tup (strsV s))):(sT s).At H (.ref a) []:=at_tup0.mpr ⟨a,_,rfl,h,ay6 s⟩
theorem strs_of {H:Hp}:∀ {ss:List Str}{us:List V},Tr.Ats H (ss.map Tr.str) us []→us=strsV ss
 | [],us,h=>ats_nil0.mp h
 | s::ss,us,h=>by
   obtain ⟨u,w1,rfl,a1,h2⟩:=ats_cons0.mp h
   cases at_str0.mp a1
   rw [strs_of h2]
   rfl
theorem c90 {H:Hp}{v:V}{s:List Str}(h:(sT s).At H v []):∃ a,v=.ref a∧H a=some (.tup (strsV s)):=by
 obtain ⟨a,vs,rfl,e,h2⟩:=at_tup0.mp h
 rw [strs_of h2] at e
 exact ⟨a,rfl,e⟩
def sayL (sy:List Str) (rs:List aa2):List (List Str):=sy::rs.flatMap fun r=>r.2.map (·.1)
theorem ao3 {α β:Type}{f:α→List β}{n:Nat}:∀ {l:List α},(∀ x∈l,(f x).length≤n)→(l.flatMap f).length≤l.length*n
 | [],_=>by simp
 | x::l,h=>by
   have h1:=h x (by simp)
   have h2:=ao3 (f:=f) (n:=n) (l:=l) fun y hy=>h y (by simp [hy])
   rw [List.flatMap_cons,List.length_append,List.length_cons,Nat.add_mul]
   omega
def b77 (K:PySem.W.Frag):Sp:=fun vs H Q _=>∃ (v:V) (a b c:Addr) (es:List Ev) (sy:List Str) (rs:List aa2) (gs:List Addr),vs=[v]∧TabAt H v a b c es sy rs gs∧TabOk es sy rs∧∀ p us H',H p=none→Same H H'→H' p=some (.lst us)→Tr.Ats H' ((sayL sy rs).map sT) us []→Q (.ref p) H'
theorem aq9 (T:Txt K mg t):FnOk P w K mg base CX0 1 t.a_sayings_of t.fd_sayings_of ["table"] (b77 K):=by
 refine T.F_sayings_of.ok sc_sayings_of (fun vs H Q E h=>?_) (fun cdv A outer s H vs Q E hr h=>?_)
 · obtain ⟨v,a,b,c,es,sy,rs,gs,rfl,_⟩:=h
   rfl
 · obtain ⟨v,a,b,c,es,sy,rs,gs,rfl,hT,ok,q⟩:=h
   refine ⟨_,(@a02 _ _ _ _ _ (@a47 _ _ 1 _ _ _ _ sc_sayings_of.nd rfl (by walk_at "o") (@a40 _ _ _ _ (@a00 _ _ _ _ _ (@a46 _ _ _ _ _ _ _ _ _ (ac3 K) (by rfl) T.z_tuple ad7 (@a00 _ _ _ _ _ (@a49 _ _ _ _ _ _ _ (a45 K) (pv 0) (@a05 _ _ _ _) (fun _ _=>rfl)) (@a01 _) (by rfl)) (by decide) (by decide) (by rfl) (by rfl)) (@a01 _) (by rfl))) (by rfl) (by walk_at "o"))
    (@a02 _ _ _ _ _ (@aa3 _ _ _ _ _ _ _ _ PassesOwn.never rfl (a60 K (@a49 _ _ _ _ _ _ _ (a45 K) (pv 0) (@a05 _ _ _ _) (fun _ _=>rfl))) (a36 (i:=2) sc_sayings_of.nd rfl (by walk_at "o")) (@a09 _ _ _ (@aa1 _ _ _ _ (@ac4 _ K _ _ _ _ _ _ _ _ _ _ _ PySem.F.plainAttrs_list PySem.F.slot_list_extend PySem.F.type_list_extend ag6 (pv 1) (@a00 _ _ _ _ _ (ag8 (Nt:=["said","way"]) (Nf:=[]) (caps:=[]) rfl (a90 (sc:=defScope a67) rfl rfl (by decide +kernel) (by decide +kernel) (by decide +kernel) rfl (by decide +kernel)) (a60 K (@a49 _ _ _ _ _ _ _ (a45 K) (pv 2) (@a05 _ _ _ _) (fun _ _=>rfl))) (fun _ _ _ _ _=>(ab6 K (n:=2) rfl (a50 (a36 (i:=0) (show (["said","way"]:List Str).Nodup by decide +kernel) rfl (by walk_at "o")) (a50 (a36 (i:=1) (show (["said","way"]:List Str).Nodup by decide +kernel) rfl (by walk_at "o")) (@ab5 _))))) (fun _ _ _ _ _=>(@a91 _)) (fun _ _ _ _ _=>(@a46 _ _ _ _ _ _ _ _ _ (ac3 K) (by rfl) T.z_tuple ad7 (@a00 _ _ _ _ _ (pv 0) (@a01 _) (by rfl)) (by decide) (by decide) (by rfl) (by rfl)))) (@a01 _) (by rfl)) (by rfl) (by rfl) (by rfl) (by rfl) (by rfl) (by rfl)) (by rfl))) (by intro _; rfl))
    (@a09 _ _ _ (@a53 _ _ _ _ (pv 1))))),?_⟩
   have sl:(1000000:Nat)≤sizeLine:=le_line (Nat.le_refl _)
   obtain ⟨tt,us,rvs,rfl,h1,h2,h3,h4,h5,h6⟩:=hT.ex
   have rl:rvs.length=rs.length:=by rw [h6.len,List.length_map]
   walk_at "go"
   refine a81 (SqT.of h1) (a07 (j:=1) rfl) ?_
   walk_at "run"
   refine ad8 (SqL.of h4) ?_
   intro p1 H1 f1 s1 e1
   walk_at "run"
   intro pf H2 f2 s2 e2
   walk_at "run"
   have s02:=s1.trans s2
   refine a81 (SqT.of (s02 _ _ h1)) (a07 (j:=2) rfl) ?_
   have frl:∀ i,((rs.take i).flatMap fun r=>r.2.map (·.1)).length≤2000:=fun i=>by
    have h:=ao3 (f:=fun r:aa2=>r.2.map (·.1)) (n:=20) (l:=rs.take i) fun r hr=>by
     have:=(ok.ok r (List.mem_of_mem_take hr)).1
     have:=ok.ne
     simp
     omega
    have:=ok.nr
    have hle:(rs.take i).length≤100:=by simp; omega
    have:=Nat.mul_le_mul_right 20 hle
    omega
   refine ⟨c,rfl,⟨_,SqL.of (s02 _ _ h5)⟩,ac6 (K:=K) (a:=c) (xs:=rvs) (fun i σ H'=>i≤rs.length∧Same H1 H'∧(∃ ws,H' pf=some (.lst ws)∧Tr.Ats H' ((sayL sy (rs.take i)).map sT) ws [])∧∃ y,σ=[some (.ref tt),some (.ref pf),y]) ⟨Nat.zero_le _,s2,⟨_,e2,ats_cons0.mpr ⟨_,_,rfl,bo1 (s2 _ _ e1),ats_nil0.mpr rfl⟩⟩,_,rfl⟩ (fun i σ H' _ ⟨_,s',_⟩=>SqL.of ((s1.trans s') _ _ h5)) ?_ ?_⟩
   · rintro i v σ H3 hv ⟨hi,s3,⟨ws,e3,hw⟩,y,rfl⟩
     have s03:=s1.trans s3
     obtain ⟨tx,fx,hx1,hx2,_⟩:=(h6.same s03).get i v hv
     rw [List.getElem?_map] at hx1
     obtain ⟨r,hr,rfl⟩:=Option.map_eq_some_iff.mp hx1
     obtain ⟨q1,g,ps,gs1,rfl,k1,k2,k3,rfl⟩:=room_w.mp hx2
     have hi':i<rs.length:=(List.getElem?_eq_some_iff.mp hr).1
     have htk:rs.take (i+1)=rs.take i++[r]:=by rw [List.take_add_one,hr]; rfl
     have pl:ps.length=r.2.length:=by rw [k3.len,List.length_map]
     have hwl:ws.length≤2001:=by
      have:=frl i
      rw [hw.len,List.length_map]
      simp only [sayL,List.length_cons]
      omega
     have hrl:r.2.length≤20:=by rw [(ok.ok r (List.mem_of_getElem? hr)).1]; exact ok.ne
     walk_at "run"
     refine ah0 (SqL.of e3) ?_
     walk_at "run"
     refine a81 (SqT.of k1) (a07 (j:=1) rfl) ?_
     refine ⟨g,rfl,⟨_,SqL.of k2⟩,ap2 (xs:=ps) (by omega) (fun i acc H'=>i≤r.2.length∧acc.length=i∧Same H3 H'∧Tr.Ats H' (((r.2.take i).map (·.1)).map sT) acc []) ⟨Nat.zero_le _,rfl,Same.refl _,ats_nil0.mpr rfl⟩ (fun i acc H' ⟨_,e,s',_⟩=>⟨by omega,SqL.of (s' _ _ k2)⟩) ?_ ?_⟩
     · rintro j x acc H4 hx ⟨hj,ea,s4,hat⟩
       obtain ⟨tx2,fx2,hy1,hy2,_⟩:=(k3.same s4).get j x hx
       rw [List.getElem?_map] at hy1
       obtain ⟨w0,hw0,rfl⟩:=Option.map_eq_some_iff.mp hy1
       obtain ⟨k,sl',rfl,hk,hsl',rfl⟩:=row_w.mp hy2
       refine ⟨k,_,_,rfl,SqT.of hk,?_⟩
       walk_at "run"
       refine ad8 (SqL.of hsl') ?_
       intro p5 H5 f5 s5 e5
       refine ⟨(List.getElem?_eq_some_iff.mp hw0).1,by simp [ea],s4.trans s5,?_⟩
       rw [List.take_add_one,hw0,show r.2.take j++(some w0).toList=r.2.take j++[w0] from rfl,List.map_append,List.map_append]
       exact ats_app0.mpr ⟨_,_,rfl,hat.same s5,ats_cons0.mpr ⟨_,_,rfl,bo1 e5,ats_nil0.mpr rfl⟩⟩
     · rintro acc H4 ⟨_,ea,s4,hat⟩ p5 H5 f5 s5 e5
       rw [pl,List.take_length] at hat
       have s35:=s4.trans s5
       walk_at "run"
       refine aj4 (s35 _ _ e3) e5 (by omega) ?_
       refine ⟨hi',(s3.trans s35).updNew f2,⟨_,a34,?_⟩,_,rfl⟩
       rw [htk,show sayL sy (rs.take i++[r])=sayL sy (rs.take i)++r.2.map (·.1) by simp [sayL],List.map_append]
       exact ats_app0.mpr ⟨_,_,rfl,ac5 (hw.same s35) (Tups.upd (s35 _ _ e3)),ac5 (hat.same s5) (Tups.upd (s35 _ _ e3))⟩
   · rintro σ H3 ⟨_,s3,⟨ws,e3,hw⟩,y,rfl⟩
     rw [rl,List.take_length] at hw
     walk_at "run"
     exact q pf ws H3 (s1.free f2) (s1.trans s3) e3 hw
def PairsOf (l:List (List Str)) (r:aa2) (row:List (Nat×Nat)):Prop:=row.length=r.2.length∧∀ (j:Nat) (x:Row),r.2[j]?=some x→∃ n,row[j]?=some (n,x.2)∧l[n]?=some x.1
def rT (r:List (Nat×Nat)):Tr:=.tup (r.map pairT)
def bo2 (K:PySem.W.Frag) (P:Params):Sp:=fun vs H Q _=>∃ (v:V) (d:Addr) (r:aa2) (fs:List Addr) (l:List (List Str)),vs=[v,.ref d]∧(roomW r).At H v fs∧DtAt P H d (numd sT l)∧l.Nodup∧r.2.length≤100∧(∀ x∈r.2,x.1∈l)∧∀ v' row H',Same H H'→(rT row).At H' v' []→PairsOf l r row→Q v' H'
theorem ay7 (T:Txt K mg t):FnOk P w K mg base CX0 1 t.a_pairs_of t.fd_pairs_of ["room","sayings"] (bo2 K w.params):=by
 refine T.F_pairs_of.ok ax7 (fun vs H Q E h=>?_) (fun cdv A outer s H vs Q E hr h=>?_)
 · obtain ⟨v,d,r,fs,l,rfl,_⟩:=h
   rfl
 · obtain ⟨v,d,r,fs,l,rfl,hv,hD,nd,hl,hin,q⟩:=h
   refine ⟨_,(@a09 _ _ _ (@a53 _ _ _ _ (@a46 _ _ _ _ _ _ _ _ _ (ac3 K) (by rfl) T.z_tuple ad7 (@a00 _ _ _ _ _ (ag8 (Nt:=["said","way"]) (Nf:=["sayings"]) (caps:=[1]) rfl (a90 (sc:=defScope a88) rfl rfl (by decide +kernel) (by decide +kernel) (by decide +kernel) rfl (by decide +kernel)) (a60 K (@a49 _ _ _ _ _ _ _ (a45 K) (pv 0) (@a05 _ _ _ _) (fun _ _=>rfl))) (fun _ _ _ _ _=>(ab6 K (n:=2) rfl (a50 (a36 (i:=0) (show (["said","way","sayings"]:List Str).Nodup by decide +kernel) rfl (by walk_at "o")) (a50 (a36 (i:=1) (show (["said","way","sayings"]:List Str).Nodup by decide +kernel) rfl (by walk_at "o")) (@ab5 _))))) (fun _ _ _ _ _=>(@a91 _)) (fun _ _ _ _ _=>(@a57 _ _ _ _ _ (@a00 _ _ _ _ _ (ak8 (P:=w.params) rfl (by exact hr.units) (pv 2) (@a46 _ _ _ _ _ _ _ _ _ (ac3 K) (by rfl) T.z_tuple ad7 (@a00 _ _ _ _ _ (pv 0) (@a01 _) (by rfl)) (by decide) (by decide) (by rfl) (by rfl)) (fun _ _=>rfl)) (@a00 _ _ _ _ _ (pv 1) (@a01 _) (by rfl)) (by rfl))))) (@a01 _) (by rfl)) (by decide) (by decide) (by rfl) (by rfl)))),?_⟩
   have sl:(1000000:Nat)≤sizeLine:=le_line (Nat.le_refl _)
   obtain ⟨q1,g,ps,gs1,rfl,k1,k2,k3,rfl⟩:=room_w.mp hv
   have pl:ps.length=r.2.length:=by rw [k3.len,List.length_map]
   walk_at "go"
   refine a81 (SqT.of k1) (a07 (j:=1) rfl) ?_
   walk_at "run"
   refine ⟨⟨_,SqL.of k2⟩,ap2 (xs:=ps) (by omega) (fun i acc H'=>i≤r.2.length∧acc.length=i∧Same H H'∧∃ row,Tr.Ats H' (row.map pairT) acc []∧row.length=i∧∀ (j:Nat) (x:Row),j<i→r.2[j]?=some x→∃ n,row[j]?=some (n,x.2)∧l[n]?=some x.1) ⟨Nat.zero_le _,rfl,Same.refl _,[],ats_nil0.mpr rfl,rfl,fun j x h=>absurd h (by omega)⟩ (fun i acc H' ⟨_,e,s',_⟩=>⟨by omega,SqL.of (s' _ _ k2)⟩) ?_ ?_⟩
   · rintro j x acc H4 hx ⟨hj,ea,s4,row,hat,hrl,hrow⟩
     obtain ⟨tx2,fx2,hy1,hy2,_⟩:=(k3.same s4).get j x hx
     rw [List.getElem?_map] at hy1
     obtain ⟨w0,hw0,rfl⟩:=Option.map_eq_some_iff.mp hy1
     obtain ⟨k,sl',rfl,hk,hsl',rfl⟩:=row_w.mp hy2
     refine ⟨k,_,_,rfl,SqT.of hk,?_⟩
     walk_at "run"
     refine ad8 (SqL.of hsl') ?_
     intro p5 H5 f5 s5 e5
     obtain ⟨n,hn,hval⟩:=al7 (f:=sT) (fun a b=>bg5) nd (hin w0 (List.mem_of_getElem? hw0))
     refine ⟨d,_,sT w0.1,_,rfl,a55 hD (s4.trans s5),⟨bo1 e5,sT_h _⟩,hval,?_⟩
     walk_at "run"
     intro p6 H6 f6 s6 e6
     refine ⟨(List.getElem?_eq_some_iff.mp hw0).1,by simp [ea],s4.trans (s5.trans s6),row++[(n,w0.2)],?_,by simp [hrl],fun m y hm hy=>?_⟩
     · rw [List.map_append]
       exact ats_app0.mpr ⟨_,_,rfl,hat.same (s5.trans s6),ats_cons0.mpr ⟨_,_,rfl,ap3 e6 az6 az6,ats_nil0.mpr rfl⟩⟩
     · by_cases hmj:m=j
       · subst hmj
         rw [hw0] at hy
         cases hy
         exact ⟨n,by rw [List.getElem?_append_right (by omega),hrl,Nat.sub_self]; rfl,hn⟩
       · obtain ⟨n2,a1,a2⟩:=hrow m y (by omega) hy
         exact ⟨n2,by rw [List.getElem?_append_left (List.getElem?_eq_some_iff.mp a1).1]; exact a1,a2⟩
   · rintro acc H4 ⟨_,ea,s4,row,hat,hrl,hrow⟩ p5 H5 f5 s5 e5
     walk_at "run"
     refine ad8 (SqL.of e5) ?_
     intro p6 H6 f6 s6 e6
     exact q (.ref p6) row H6 (s4.trans (s5.trans s6)) (at_tup0.mpr ⟨p6,_,rfl,e6,hat.same (s5.trans s6)⟩) ⟨by omega,fun j x hx=>hrow j x (by rw [pl]; exact (List.getElem?_eq_some_iff.mp hx).1) hx⟩
theorem bg6 {α:Type} [DecidableEq α]:∀ {a b:List α},a.Nodup→(∀ x∈a,x∈b)→a.length≤b.length
 | [],b,_,_=>by simp
 | x::a,b,hn,h=>by
   rw [List.nodup_cons] at hn
   have hx:=h x (by simp)
   have ih:=bg6 (b:=b.erase x) hn.2 fun y hy=>(List.mem_erase_of_ne (fun z=>hn.1 (by rw [← z]; exact hy))).mpr (h y (by simp [hy]))
   have:=List.length_erase_of_mem hx
   have:=List.length_pos_of_mem hx
   rw [List.length_cons]
   omega
def b78 (K:PySem.W.Frag):Sp:=fun vs H Q _=>∃ (a:Addr) (us:List V) (l:List (List Str)) (W:List Str),vs=[.ref a]∧SqL K H a us∧Tr.Ats H (l.map sT) us []∧l.length≤50∧(∀ s∈l,s.length≤20∧∀ x∈s,x∈W)∧W.length<64∧∀ p out H',H p=none→Same H H'→H' p=some (.lst (strsV out))→out.Nodup→(∀ x,x∈out↔∃ s∈l,x∈s)→out.length<64→Q (.ref p) H'
theorem ay8 (T:Txt K mg t):FnOk P w K mg base CX0 1 t.a_texts_in t.fd_texts_in ["sayings"] (b78 K):=by
 refine T.F_texts_in.ok sc_texts_in (fun vs H Q E h=>?_) (fun cdv A outer s H vs Q E hr h=>?_)
 · obtain ⟨a,us,l,W,rfl,_⟩:=h
   rfl
 · obtain ⟨a,us,l,W,rfl,ha,hu,hl,hW,hWl,q⟩:=h
   refine ⟨_,(@a02 _ _ _ _ _ (@a47 _ _ 1 _ _ _ _ sc_texts_in.nd rfl (by walk_at "o") (@a40 _ _ _ _ (@a01 _)) (by rfl) (by walk_at "o"))
    (@a02 _ _ _ _ _ (@aa3 _ _ _ _ _ _ _ _ PassesOwn.never rfl (a60 K (pv 0)) (a36 (i:=2) sc_texts_in.nd rfl (by walk_at "o")) (@a09 _ _ _ (@aa1 _ _ _ _ (@ac4 _ K _ _ _ _ _ _ _ _ _ _ _ PySem.F.plainAttrs_list PySem.F.slot_list_extend PySem.F.type_list_extend (ax2 K) (pv 1) (@a00 _ _ _ _ _ (pv 2) (@a01 _) (by rfl)) (by rfl) (by rfl) (by rfl) (by rfl) (by rfl) (by rfl)) (by rfl))) (by intro _; rfl))
    (@a09 _ _ _ (@a53 _ _ _ _ (@a70 _ _ _ _ _ _ _ _ _ (bm5 (P:=P) (w:=w) rfl rfl rfl) (by rfl) T.z_sorted ba0 (@a00 _ _ _ _ _ (@a46 _ _ _ _ _ _ _ _ _ (bw2 (P:=P) (w:=w) K rfl rfl rfl) (by rfl) T.z_set c42 (@a00 _ _ _ _ _ (pv 1) (@a01 _) (by rfl)) (by decide) (by decide) (by rfl) (by rfl)) (@a01 _) (by rfl)) (by decide) (by decide) (by rfl) (by rfl)))))),?_⟩
   have sl:(1000000:Nat)≤sizeLine:=le_line (Nat.le_refl _)
   have ul:us.length=l.length:=by rw [hu.len,List.length_map]
   have fll:∀ l':List (List Str),(∀ s∈l',s∈l)→l'.length≤50→(l'.flatMap id).length≤1000:=fun l' hs hl'=>by
    have h1:=ao3 (f:=id) (n:=20) (l:=l') fun s h=>(hW s (hs s h)).1
    have h2:=Nat.mul_le_mul_right 20 hl'
    omega
   walk_at "go"
   intro pf H1 f1 s1 e1
   walk_at "run"
   refine ⟨⟨_,s1.seq ha⟩,ac6 (K:=K) (a:=a) (xs:=us) (fun i σ H'=>i≤l.length∧Same H H'∧H' pf=some (.lst (strsV ((l.take i).flatMap id)))∧∃ y,σ=[some (.ref a),some (.ref pf),y]) ⟨Nat.zero_le _,s1,e1,_,rfl⟩ (fun i σ H' _ ⟨_,s',_⟩=>s'.seq ha) ?_ ?_⟩
   · rintro i v σ H3 hv ⟨hi,s3,e3,y,rfl⟩
     obtain ⟨tx,hx1,hx2⟩:=af6 (hu.same s3) hv
     rw [List.getElem?_map] at hx1
     obtain ⟨r,hr,rfl⟩:=Option.map_eq_some_iff.mp hx1
     obtain ⟨b,rfl,hb⟩:=c90 hx2
     have hi':i<l.length:=(List.getElem?_eq_some_iff.mp hr).1
     have htk:l.take (i+1)=l.take i++[r]:=by rw [List.take_add_one,hr]; rfl
     have hfl:=fll (l.take i) (fun s hs=>List.mem_of_mem_take hs) (by simp; omega)
     have hrl:=(hW r (List.mem_of_getElem? hr)).1
     walk_at "run"
     refine ah0 (SqL.of e3) ?_
     walk_at "run"
     refine ⟨pf,b,_,_,rfl,rfl,e3,SqT.of hb,by simp only [strsV,List.length_map]; omega,?_⟩
     refine ⟨hi',s3.updNew f1,?_,_,rfl⟩
     rw [a34,htk,List.flatMap_append]
     simp [strsV]
   · rintro σ H3 ⟨_,s3,e3,y,rfl⟩
     rw [ul,List.take_length] at e3
     walk_at "run"
     refine ⟨pf,l.flatMap id,rfl,SqL.of e3,by have:=fll l (fun s hs=>hs) hl; omega,fun p4 H4 ks f4 s4 e4 nd hks=>?_⟩
     walk_at "run"
     have hkm:∀ x,x∈ks↔∃ s∈l,x∈s:=fun x=>by rw [hks x,List.mem_flatMap]; rfl
     have hkl:ks.length≤W.length:=bg6 nd fun x hx=>by
      obtain ⟨s,hs,hxs⟩:=(hkm x).mp hx
      exact (hW s hs).2 x hxs
     refine ⟨p4,ks,rfl,e4,by omega,fun p5 out H5 f5 s5 e5 pm so=>?_⟩
     have:=pm.length_eq
     exact q p5 out H5 (s3.free (s4.free f5)) (s3.trans (s4.trans s5)) e5 (pm.nodup_iff.mpr nd) (fun x=>by rw [pm.mem_iff]; exact hkm x) (by omega)
end Z
namespace Z
theorem bq8 {a b:List (Nat×Nat)}(h:rT a=rT b):a=b:=by
 unfold rT at h
 injection h with h
 induction a generalizing b with
 | nil =>
   cases b with
   | nil=>rfl
   | cons y b=>simp at h
 | cons x a ih =>
   cases b with
   | nil=>simp at h
   | cons y b =>
     simp only [List.map_cons,List.cons.injEq] at h
     rw [pairT_inj h.1,ih h.2]
theorem rT_h (r:List (Nat×Nat)):(rT r).h≤8:=by
 have:Tr.hs (r.map pairT)≤1:=by
  induction r with
  | nil=>simp [Tr.hs]
  | cons x r ih =>
    have:=aq8 x
    simp only [List.map_cons,Tr.hs]
    omega
 simp only [rT,Tr.h]
 omega
theorem bg7 {α:Type} [DecidableEq α]:∀ {l:List α},l.Nodup→mets l=l:=by
 have h:∀ (l acc:List α),(acc++l).Nodup→l.foldl met1 acc=acc++l:=by
  intro l
  induction l with
  | nil=>intro acc _; simp
  | cons x l ih =>
    intro acc hn
    have hx:x∉acc:=fun hm=>(List.nodup_append.mp hn).2.2 x hm x (by simp) rfl
    rw [List.foldl_cons,met1,if_neg hx,ih _ (by simpa using hn)]
    simp
 intro l hn
 unfold mets
 rw [h l [] (by simpa using hn)]
 rfl
structure Packs (k:Pk) (txs sy:List Str) (rs:List aa2):Prop where
 tl:k.told.length=rs.length
 say:∃ l,k.sys[k.say]?=some l∧txOf txs l=sy
 room:∀ (i:Nat) (r:aa2),rs[i]?=some r→∃ t h,k.told[i]?=some t∧decide ((t:Int) % 2=1)=r.1∧k.shs[t / 2]?=some h∧∀ (j:Nat) (x:Row),r.2[j]?=some x→(pick h j).2=x.2∧∃ l,k.sys[(pick h j).1]?=some l∧txOf txs l=x.1
structure PackPost (H H':Hp) (tt a b c:Addr) (us:List V) (txs:List Str) (k:Pk) (es:List Ev) (sy:List Str) (rs:List aa2):Prop where
 same:Same H H'
 e:H' tt=some (.tup [.ref a,.ref b,.ref c])
 fa:H a=none
 fb:H b=none
 fc:H c=none
 ab:a≠b
 ac:a≠c
 bc:b≠c
 ea:H' a=some (.lst us)
 hu:Tr.Ats H' (es.map Ev.tr) us []
 eb:H' b=some (.lst (strsV txs))
 ec:H' c=some (.lst (natsV k.cells))
 ok:PkOk k txs.length
 tx:txs.length<64
 is:Packs k txs sy rs
def bx5 (K:PySem.W.Frag):Sp:=fun vs H Q _=>∃ (v:V) (a b c:Addr) (es:List Ev) (sy:List Str) (rs:List aa2) (gs:List Addr) (M:List (List Str)) (W:List Str),vs=[v]∧TabAt H v a b c es sy rs gs∧TabOk es sy rs∧0<es.length∧0<rs.length∧M.length≤50∧W.length<64∧(∀ s∈sayL sy rs,s∈M∧∀ x∈s,x∈W)∧∀ tt a' b' c' us txs k H',PackPost H H' tt a' b' c' us txs k es sy rs→Q (.ref tt) H'
theorem bo3 {es:List Ev}{sy:List Str}{rs:List aa2}(ok:TabOk es sy rs):(sayL sy rs).length≤2001:=by
 have h:=ao3 (f:=fun r:aa2=>r.2.map (·.1)) (n:=20) (l:=rs) fun r hr=>by
  have:=(ok.ok r hr).1
  have:=ok.ne
  simp
  omega
 have:=Nat.mul_le_mul_right 20 ok.nr
 simp only [sayL,List.length_cons]
 omega
theorem bo4 {es:List Ev}{sy:List Str}{rs:List aa2}{L:List (List Str)}{rows:List (List (Nat×Nat))}{told:List Nat}{shs:List Sh}{sys:List (List Nat)}{n0 T:Nat}(ok:TabOk es sy rs) (hr0:0<rs.length) (hnr:rs.length≤100) (htl:told.length=rs.length) (hml:(mets rows).length≤100) (hsl:shs.length=(mets rows).length) (hLl:L.length≤100) (hyl:sys.length=L.length) (hel:es.length≤100)
 (ht:∀ (j:Nat) (r:aa2),j<rs.length→rs[j]?=some r→∃ row m,rows[j]?=some row∧(mets rows)[m]?=some row∧told[j]?=some (2*m+if r.1=true then 1 else 0))
 (hrok:∀ row∈mets rows,∃ r∈rs,PairsOf L r row∧row.length=es.length)
 (hsh:∀ (j:Nat) (row:List (Nat×Nat)),j<(mets rows).length→(mets rows)[j]?=some row→∃ c∈row,shs[j]?=some (c,excF c row 0))
 (hsy:∀ l∈sys,l.length≤100∧∀ n∈l,n<T) (hn0:L[n0]?=some sy):PkOk ⟨told,shs,sys,n0⟩ T:=by
 refine ⟨by simp only; omega,by simp only; omega,by simp only; omega,by simp only; omega,fun t htm=>?_,fun h hh=>?_,hsy,?_⟩
 · obtain ⟨j,hj,rfl⟩:=List.mem_iff_getElem.mp htm
   have hj':j<rs.length:=by simp only at hj; omega
   obtain ⟨row,m,a1,a2,a3⟩:=ht j rs[j] hj' (List.getElem?_eq_getElem hj')
   have hm:=(List.getElem?_eq_some_iff.mp a2).1
   simp only at hj ⊢
   rw [List.getElem?_eq_getElem hj] at a3
   injection a3 with a3
   rw [a3,hsl]
   split <;> omega
 · obtain ⟨j,hj,rfl⟩:=List.mem_iff_getElem.mp hh
   simp only at hj ⊢
   have hj':j<(mets rows).length:=by omega
   obtain ⟨c,hc,e⟩:=hsh j (mets rows)[j] hj' (List.getElem?_eq_getElem hj')
   obtain ⟨r,hr,hp,hrl⟩:=hrok (mets rows)[j] (List.getElem_mem _)
   generalize (mets rows)[j]=row at hc e hp hrl
   rw [List.getElem?_eq_getElem hj] at e
   injection e with e
   rw [e]
   have hpr:∀ p∈row,p.1<sys.length∧p.2<told.length:=fun p hpm=>by
    obtain ⟨i,hi,rfl⟩:=List.mem_iff_getElem.mp hpm
    have hi':i<r.2.length:=by rw [← hp.1]; exact hi
    obtain ⟨n,b1,b2⟩:=hp.2 i r.2[i] (List.getElem?_eq_getElem hi')
    rw [List.getElem?_eq_getElem hi] at b1
    injection b1 with b1
    rw [b1]
    have:=(List.getElem?_eq_some_iff.mp b2).1
    have:=((ok.ok r hr).2 r.2[i] (List.getElem_mem _)).1
    simp only
    omega
   have hxl:=ah7 c row 0
   exact ⟨(hpr c hc).1,(hpr c hc).2,fun t ht=>hpr t.2 (aj8 c row 0 t ht).2,bg4 c row 0,by simp only; omega⟩
 · have:=(List.getElem?_eq_some_iff.mp hn0).1
   simp only
   omega
theorem bo5 {sy:List Str}{rs:List aa2}{L:List (List Str)}{rows:List (List (Nat×Nat))}{told:List Nat}{shs:List Sh}{sys:List (List Nat)}{n0:Nat}{txs:List Str}(htl:told.length=rs.length)
 (ht:∀ (j:Nat) (r:aa2),j<rs.length→rs[j]?=some r→∃ row m,rows[j]?=some row∧(mets rows)[m]?=some row∧told[j]?=some (2*m+if r.1=true then 1 else 0))
 (hrow:∀ (j:Nat) (r:aa2),j<rs.length→rs[j]?=some r→∃ row,rows[j]?=some row∧PairsOf L r row)
 (hsh:∀ (j:Nat) (row:List (Nat×Nat)),j<(mets rows).length→(mets rows)[j]?=some row→∃ c∈row,shs[j]?=some (c,excF c row 0))
 (hsy:∀ (j:Nat) (s:List Str),j<L.length→L[j]?=some s→∃ l,sys[j]?=some l∧l.length=s.length∧txOf txs l=s∧∀ n∈l,n<txs.length) (hn0:L[n0]?=some sy):Packs ⟨told,shs,sys,n0⟩ txs sy rs:=by
 refine ⟨htl,?_,fun i r hr=>?_⟩
 · obtain ⟨l,a1,_,a2,_⟩:=hsy n0 sy (List.getElem?_eq_some_iff.mp hn0).1 hn0
   exact ⟨l,a1,a2⟩
 · have hi:=(List.getElem?_eq_some_iff.mp hr).1
   obtain ⟨row,m,a1,a2,a3⟩:=ht i r hi hr
   obtain ⟨row',b1,b2⟩:=hrow i r hi hr
   rw [a1] at b1
   cases b1
   obtain ⟨c,hc,e⟩:=hsh m row (List.getElem?_eq_some_iff.mp a2).1 a2
   refine ⟨_,(c,excF c row 0),a3,?_,?_,fun j x hx=>?_⟩
   · cases r.1
     · simp
     · simp
   · rw [show (2*m+if r.1=true then 1 else 0) / 2=m by split <;> omega]
     exact e
   · obtain ⟨n,d1,d2⟩:=b2.2 j x hx
     rw [bn9 d1]
     obtain ⟨l,f1,_,f2,_⟩:=hsy n x.1 (List.getElem?_eq_some_iff.mp d2).1 d2
     exact ⟨rfl,l,f1,f2⟩
theorem ar0 (T:Txt K mg t):FnOk P w K mg base CX0 4 t.a_pack t.fd_pack ["table"] (bx5 K):=by
 have G_block:=bn8 (P:=P) (w:=w) (base:=base) T
 have G_counted:=b75 (P:=P) (w:=w) (base:=base) T
 have G_pairs_of:=ay7 (P:=P) (w:=w) (base:=base) T
 have G_sayings_of:=aq9 (P:=P) (w:=w) (base:=base) T
 have G_shape_cells:=am1 (P:=P) (w:=w) (base:=base) T
 have G_texts_in:=ay8 (P:=P) (w:=w) (base:=base) T
 refine T.F_pack.ok sc_pack (fun vs H Q E h=>?_) (fun cdv A outer s H vs Q E hr h=>?_)
 · obtain ⟨v,a,b,c,es,sy,rs,gs,M,W,rfl,_⟩:=h
   rfl
 · obtain ⟨v,a,b,c,es,sy,rs,gs,M,W,rfl,hT,ok,he0,hr0,hM,hW,hin,q⟩:=h
   refine ⟨_,(@a02 _ _ _ _ _ (@a47 _ _ 1 _ _ _ _ sc_pack.nd rfl (by walk_at "o") (@a49 _ _ _ _ _ _ _ (a45 K) (pv 0) (@a05 _ _ _ _) (fun _ _=>rfl)) (by rfl) (by walk_at "o"))
    (@a02 _ _ _ _ _ (@a47 _ _ 2 _ _ _ _ sc_pack.nd rfl (by walk_at "o") (@a38 _ _ _ _ _ _ _ _ _ _ _ _ _ _ _ _ G_counted (hr.mono (by omega)) rfl T.m_counted T.F_counted.kp T.b_counted .nil a52 (@a00 _ _ _ _ _ (@a38 _ _ _ _ _ _ _ _ _ _ _ _ _ _ _ _ G_sayings_of (hr.mono (by omega)) rfl T.m_sayings_of T.F_sayings_of.kp T.b_sayings_of .nil a52 (@a00 _ _ _ _ _ (pv 0) (@a01 _) (by rfl)) (by decide) (by rfl) (by rfl)) (@a01 _) (by rfl)) (by decide) (by rfl) (by rfl)) (by rfl) (by walk_at "o"))
    (@a02 _ _ _ _ _ (bi5 (i:=3) (Nt:=["room"]) (Nf:=["sayings"]) (caps:=[2]) rfl (a90 (sc:=defScope ae8) rfl rfl (by decide +kernel) (by decide +kernel) (by decide +kernel) rfl (by decide +kernel)) (a60 K (pv 1)) (fun _ _ _ _ _=>(a36 (i:=0) (show (["room","sayings"]:List Str).Nodup by decide +kernel) rfl (by walk_at "o"))) (fun _ _ _ _ _=>(@a91 _)) (fun _ _ _ _ _=>(@a38 _ _ _ _ _ _ _ _ _ _ _ _ _ _ _ _ G_pairs_of (hr.mono (by omega)) rfl T.m_pairs_of T.F_pairs_of.kp T.b_pairs_of .nil a52 (@a00 _ _ _ _ _ (pv 0) (@a00 _ _ _ _ _ (pv 1) (@a01 _) (by rfl)) (by rfl)) (by decide) (by rfl) (by rfl))) sc_pack.nd rfl (by walk_at "o") rfl)
    (@a02 _ _ _ _ _ (@a47 _ _ 4 _ _ _ _ sc_pack.nd rfl (by walk_at "o") (@a38 _ _ _ _ _ _ _ _ _ _ _ _ _ _ _ _ G_counted (hr.mono (by omega)) rfl T.m_counted T.F_counted.kp T.b_counted .nil a52 (@a00 _ _ _ _ _ (pv 3) (@a01 _) (by rfl)) (by decide) (by rfl) (by rfl)) (by rfl) (by walk_at "o"))
    (@a02 _ _ _ _ _ (@a47 _ _ 5 _ _ _ _ sc_pack.nd rfl (by walk_at "o") (@a38 _ _ _ _ _ _ _ _ _ _ _ _ _ _ _ _ G_texts_in (hr.mono (by omega)) rfl T.m_texts_in T.F_texts_in.kp T.b_texts_in .nil a52 (@a00 _ _ _ _ _ (@a46 _ _ _ _ _ _ _ _ _ (bk1 (P:=w.params) rfl rfl) (by rfl) T.z_list aa6 (@a00 _ _ _ _ _ (pv 2) (@a01 _) (by rfl)) (by decide) (by decide) (by rfl) (by rfl)) (@a01 _) (by rfl)) (by decide) (by rfl) (by rfl)) (by rfl) (by walk_at "o"))
    (@a02 _ _ _ _ _ (@a47 _ _ 6 _ _ _ _ sc_pack.nd rfl (by walk_at "o") (@a38 _ _ _ _ _ _ _ _ _ _ _ _ _ _ _ _ G_counted (hr.mono (by omega)) rfl T.m_counted T.F_counted.kp T.b_counted .nil a52 (@a00 _ _ _ _ _ (pv 5) (@a01 _) (by rfl)) (by decide) (by rfl) (by rfl)) (by rfl) (by walk_at "o"))
    (@a02 _ _ _ _ _ (@a47 _ _ 7 _ _ _ _ sc_pack.nd rfl (by walk_at "o") (@a40 _ _ _ _ (@a00 _ _ _ _ _ (@a70 _ _ _ _ _ _ _ _ _ (ac2 K) (by rfl) T.z_len ac7 (@a00 _ _ _ _ _ (pv 1) (@a01 _) (by rfl)) (by decide) (by decide) (by rfl) (by rfl)) (@a00 _ _ _ _ _ (@a70 _ _ _ _ _ _ _ _ _ (ax1 (P:=w.params) rfl) (by rfl) T.z_len ac7 (@a00 _ _ _ _ _ (pv 2) (@a01 _) (by rfl)) (by decide) (by decide) (by rfl) (by rfl)) (@a00 _ _ _ _ _ (@a70 _ _ _ _ _ _ _ _ _ (ax1 (P:=w.params) rfl) (by rfl) T.z_len ac7 (@a00 _ _ _ _ _ (pv 4) (@a01 _) (by rfl)) (by decide) (by decide) (by rfl) (by rfl)) (@a00 _ _ _ _ _ (ak8 (P:=w.params) rfl (by exact hr.units) (pv 2) (@a46 _ _ _ _ _ _ _ _ _ (ac3 K) (by rfl) T.z_tuple ad7 (@a00 _ _ _ _ _ (@a49 _ _ _ _ _ _ _ (a45 K) (pv 0) (@a05 _ _ _ _) (fun _ _=>rfl)) (@a01 _) (by rfl)) (by decide) (by decide) (by rfl) (by rfl)) (fun _ _=>rfl)) (@a01 _) (by rfl)) (by rfl)) (by rfl)) (by rfl))) (by rfl) (by walk_at "o"))
    (@a02 _ _ _ _ _ (@aa3 _ _ _ _ _ _ _ _ PassesOwn.never rfl (bq1 K rfl T.z_zip (@a00 _ _ _ _ _ (pv 1) (@a00 _ _ _ _ _ (pv 3) (@a01 _) (by rfl)) (by rfl))) (ab6 K (n:=2) rfl (a50 (a36 (i:=8) sc_pack.nd rfl (by walk_at "o")) (a50 (a36 (i:=9) sc_pack.nd rfl (by walk_at "o")) (@ab5 _)))) (@a09 _ _ _ (@aa1 _ _ _ _ (@ac4 _ K _ _ _ _ _ _ _ _ _ _ _ PySem.F.plainAttrs_list PySem.F.slot_list_append PySem.F.type_list_append aa4 (pv 7) (@a00 _ _ _ _ _ (@a80 _ _ _ _ _ _ _ _ a78 (@a80 _ _ _ _ _ _ _ _ ad6 (@a05 _ _ _ _) (ak8 (P:=w.params) rfl (by exact hr.units) (pv 4) (pv 9) (fun _ _=>rfl))) (@aj2 _ _ _ _ _ _ _ _ (bs8 K (@a49 _ _ _ _ _ _ _ (a45 K) (pv 8) (@a05 _ _ _ _) (fun _ _=>rfl)) (fun _=>rfl)) (@a05 _ _ _ _) (@a05 _ _ _ _))) (@a01 _) (by rfl)) (by rfl) (by rfl) (by rfl) (by rfl) (by rfl) (by rfl)) (by rfl))) (by intro _; rfl))
    (@a02 _ _ _ _ _ (@aa3 _ _ _ _ _ _ _ _ PassesOwn.never rfl (bv6 (P:=w.params) rfl (pv 4)) (a36 (i:=10) sc_pack.nd rfl (by walk_at "o")) (@a09 _ _ _ (@aa1 _ _ _ _ (@ac4 _ K _ _ _ _ _ _ _ _ _ _ _ PySem.F.plainAttrs_list PySem.F.slot_list_extend PySem.F.type_list_extend ag6 (pv 7) (@a00 _ _ _ _ _ (@a38 _ _ _ _ _ _ _ _ _ _ _ _ _ _ _ _ G_block (hr.mono (by omega)) rfl T.m_block T.F_block.kp T.b_block .nil a52 (@a00 _ _ _ _ _ (@a38 _ _ _ _ _ _ _ _ _ _ _ _ _ _ _ _ G_shape_cells (hr.mono (by omega)) rfl T.m_shape_cells T.F_shape_cells.kp T.b_shape_cells .nil a52 (@a00 _ _ _ _ _ (pv 10) (@a01 _) (by rfl)) (by decide) (by rfl) (by rfl)) (@a01 _) (by rfl)) (by decide) (by rfl) (by rfl)) (@a01 _) (by rfl)) (by rfl) (by rfl) (by rfl) (by rfl) (by rfl) (by rfl)) (by rfl))) (by intro _; rfl))
    (@a02 _ _ _ _ _ (@aa3 _ _ _ _ _ _ _ _ PassesOwn.never rfl (bv6 (P:=w.params) rfl (pv 2)) (a36 (i:=11) sc_pack.nd rfl (by walk_at "o")) (@a09 _ _ _ (@aa1 _ _ _ _ (@ac4 _ K _ _ _ _ _ _ _ _ _ _ _ PySem.F.plainAttrs_list PySem.F.slot_list_extend PySem.F.type_list_extend ag6 (pv 7) (@a00 _ _ _ _ _ (@a38 _ _ _ _ _ _ _ _ _ _ _ _ _ _ _ _ G_block (hr.mono (by omega)) rfl T.m_block T.F_block.kp T.b_block .nil a52 (@a00 _ _ _ _ _ (ag8 (Nt:=["text"]) (Nf:=["places"]) (caps:=[6]) rfl (a90 (sc:=defScope ae8) rfl rfl (by decide +kernel) (by decide +kernel) (by decide +kernel) rfl (by decide +kernel)) (b99 K (pv 11)) (fun _ _ _ _ _=>(a36 (i:=0) (show (["text","places"]:List Str).Nodup by decide +kernel) rfl (by walk_at "o"))) (fun _ _ _ _ _=>(@a91 _)) (fun _ _ _ _ _=>(ak8 (P:=w.params) rfl (by exact hr.units) (pv 1) (pv 0) (fun _ _=>rfl)))) (@a01 _) (by rfl)) (by decide) (by rfl) (by rfl)) (@a01 _) (by rfl)) (by rfl) (by rfl) (by rfl) (by rfl) (by rfl) (by rfl)) (by rfl))) (by intro _; rfl))
    (@a09 _ _ _ (@a53 _ _ _ _ (@a57 _ _ _ _ _ (@a00 _ _ _ _ _ (@a46 _ _ _ _ _ _ _ _ _ (aa0 K) (by rfl) T.z_list aa6 (@a00 _ _ _ _ _ (@a49 _ _ _ _ _ _ _ (a45 K) (pv 0) (@a05 _ _ _ _) (fun _ _=>rfl)) (@a01 _) (by rfl)) (by decide) (by decide) (by rfl) (by rfl)) (@a00 _ _ _ _ _ (pv 5) (@a00 _ _ _ _ _ (pv 7) (@a01 _) (by rfl)) (by rfl)) (by rfl))))))))))))))),?_⟩
   generalize hTF3:(tFor (iTd _ _) (gName 11) _:TS)=TF3
   revert hTF3
   revert TF3
   refine keepE ?_
   intro TF3 hTF3
   generalize hTF2:(tFor (iTd _ _) (gName 10) _:TS)=TF2
   revert hTF2
   revert TF2
   refine keepE ?_
   intro TF2 hTF2
   generalize hTF1:(tFor (iZip _ _) _ _:TS)=TF1
   revert hTF1
   revert TF1
   refine keepE ?_
   intro TF1 hTF1
   generalize hTC7:(tSeq (tAsg _ (gName 7)) _:TS)=TC7
   revert hTC7
   revert TC7
   refine keepE ?_
   intro TC7 hTC7
   generalize hTC5:(tSeq (tAsg _ (gName 5)) _:TS)=TC5
   revert hTC5
   revert TC5
   refine keepE ?_
   intro TC5 hTC5
   generalize hTC4:(tSeq (tAsg _ (gName 4)) _:TS)=TC4
   revert hTC4
   revert TC4
   refine keepE ?_
   intro TC4 hTC4
   have sl:(1000000:Nat)≤sizeLine:=le_line (Nat.le_refl _)
   obtain ⟨tt,us,rvs,rfl,h1,h2,h3,h4,h5,h6⟩:=hT.ex
   have rl:rvs.length=rs.length:=by rw [h6.len,List.length_map]
   have hnr:=ok.nr
   have hsl:=bo3 ok
   walk_at "go"
   refine a81 (SqT.of h1) (a07 (j:=2) rfl) ?_
   walk_at "run"
   refine ⟨_,a,b,c,es,sy,rs,gs,rfl,hT,ok,fun p1 us1 H1 f1 s1 e1 hs1=>?_⟩
   walk_at "run"
   refine ⟨p1,us1,List Str,inferInstance,sT,sayL sy rs,rfl,SqL.of e1,hs1,fun a b=>bg5,sT_h,by omega,fun d1 H2 f2 s2 hD=>?_⟩
   walk_at "run"
   have s02:=s1.trans s2
   obtain ⟨L,hL⟩:∃ L,L=mets (sayL sy rs):=⟨_,rfl⟩
   have Lnd:L.Nodup:=by rw [hL]; exact ay5 _
   have Lm:∀ x,x∈L↔x∈sayL sy rs:=fun x=>by rw [hL]; exact aq7 x _
   have Ll:L.length≤50:=Nat.le_trans (bg6 Lnd fun x hx=>(hin x ((Lm x).mp hx)).1) hM
   rw [← hL] at hD
   refine ⟨⟨_,SqL.of (s02 _ _ h5)⟩,ac9 (xs:=rvs) (by omega) (fun i acc H'=>i≤rs.length∧acc.length=i∧Same H2 H'∧∃ rows:List (List (Nat×Nat)),rows.length=i∧Tr.Ats H' (rows.map rT) acc []∧∀ (j:Nat) (r:aa2),j<i→rs[j]?=some r→∃ row,rows[j]?=some row∧PairsOf L r row) ⟨Nat.zero_le _,rfl,Same.refl _,[],rfl,ats_nil0.mpr rfl,fun j r h=>absurd h (by omega)⟩ (fun i acc H' ⟨_,e,s',_⟩=>⟨by omega,SqL.of ((s02.trans s') _ _ h5)⟩) ?_ ?_⟩
   · rintro i v acc H3 hv ⟨hi,ea,s3,rows,hrl,hat,hrow⟩
     obtain ⟨tx,fx,hx1,hx2,_⟩:=(h6.same (s02.trans s3)).get i v hv
     rw [List.getElem?_map] at hx1
     obtain ⟨r,hr,rfl⟩:=Option.map_eq_some_iff.mp hx1
     have hrm:=List.mem_of_getElem? hr
     have hi':i<rs.length:=(List.getElem?_eq_some_iff.mp hr).1
     have:=ok.ne
     walk_at "run"
     refine ⟨v,d1,r,fx,L,rfl,hx2,a55 hD s3,Lnd,by rw [(ok.ok r hrm).1]; omega,fun x hx=>(Lm _).mpr ?_,fun v' row H4 s4 hr4 hp=>?_⟩
     · exact List.mem_cons_of_mem _ (List.mem_flatMap.mpr ⟨r,hrm,List.mem_map.mpr ⟨x,hx,rfl⟩⟩)
     refine ⟨hi',by simp [ea],s3.trans s4,rows++[row],by simp [hrl],?_,fun j r' hj hr'=>?_⟩
     · rw [List.map_append]
       exact ats_app0.mpr ⟨_,_,rfl,hat.same s4,ats_cons0.mpr ⟨_,_,rfl,hr4,ats_nil0.mpr rfl⟩⟩
     · by_cases hji:j=i
       · subst hji
         rw [hr] at hr'
         cases hr'
         exact ⟨row,by rw [List.getElem?_append_right (by omega),hrl,Nat.sub_self]; rfl,hp⟩
       · obtain ⟨row',a1,a2⟩:=hrow j r' (by omega) hr'
         exact ⟨row',by rw [List.getElem?_append_left (List.getElem?_eq_some_iff.mp a1).1]; exact a1,a2⟩
   rintro acc H3 ⟨_,ea,s3,rows,hrl,hat,hrow⟩ pr H4 f4 s4 e4
   rw [rl] at ea hrl hrow
   walk_at "run"
   subst hTC4
   walk_at "run"
   refine ⟨pr,acc,List (Nat×Nat),inferInstance,rT,rows,rfl,SqL.of e4,hat.same s4,fun a b=>bq8,rT_h,by omega,fun d2 H5 f5 s5 hD2=>?_⟩
   walk_at "run"
   have s25:=s3.trans (s4.trans s5)
   have hD5:=a55 hD s25
   subst hTC5
   walk_at "run"
   refine ⟨d1,_,rfl,hD5,fun p6 ks H6 f6 s6 e6 hk6=>?_⟩
   rw [show (numd sT L).map (·.1)=L.map sT from ah6 _ _ _] at hk6
   walk_at "run"
   refine ⟨p6,ks,L,W,rfl,SqL.of e6,hk6,Ll,fun s hs=>⟨?_,(hin s ((Lm s).mp hs)).2⟩,hW,fun px txs H7 f7 s7 e7 txnd txm txl=>?_⟩
   · rcases List.mem_cons.mp ((Lm s).mp hs) with rfl | h
     · exact ok.ns
     · obtain ⟨r,hr,hx⟩:=List.mem_flatMap.mp h
       obtain ⟨x,hx2,rfl⟩:=List.mem_map.mp hx
       exact ((ok.ok r hr).2 x hx2).2
   walk_at "run"
   refine ⟨px,strsV txs,Str,inferInstance,Tr.str,txs,rfl,SqL.of e7,ay6 txs,fun a b h=>by injection h,fun x=>by simp [Tr.h],by omega,fun d3 H8 f8 s8 hD3=>?_⟩
   rw [bg7 txnd] at hD3
   have s58:=s6.trans (s7.trans s8)
   have s08:=s02.trans (s25.trans s58)
   have e7':=s8 _ _ e7
   have e4':=(s5.trans s58) _ _ e4
   have hat8:=hat.same (s4.trans (s5.trans s58))
   have fpx:H px=none:=s02.free (s25.free (s6.free f7))
   have hD8:=a55 hD5 s58
   have hD28:=a55 hD2 s58
   have fd1:H d1=none:=s1.free f2
   have fd2:H d2=none:=s02.free ((s3.trans s4).free f5)
   have d12:d2≠d1:=by
    obtain ⟨φ,hφ⟩:=(a55 hD (s3.trans s4)).ext
    exact (a03 hφ f5).symm
   have d13:d3≠d1:=by
    obtain ⟨φ,hφ⟩:=(a55 hD5 (s6.trans s7)).ext
    exact (a03 hφ f8).symm
   have d23:d3≠d2:=by
    obtain ⟨φ,hφ⟩:=(a55 hD2 (s6.trans s7)).ext
    exact (a03 hφ f8).symm
   clear hk6 e6 f6 hD5 hD2 hD e7 e4 hat f7 s6 s7 s8 s25 s3 s4 s5 s1 s2 s02 hs1 e1 f1 f2 f4 f5 f8 s58 hL
   walk_at "run"
   subst hTC7
   walk_at "run"
   refine ag9 (SqL.of (s08 _ _ h5)) ?_
   walk_at "run"
   refine ⟨d1,_,rfl,hD8,?_⟩
   walk_at "run"
   refine ⟨d2,_,rfl,hD28,?_⟩
   walk_at "run"
   refine a81 (SqT.of (s08 _ _ h1)) (a07 (j:=1) rfl) ?_
   walk_at "run"
   refine ad8 (SqL.of (s08 _ _ h4)) ?_
   intro pq H9 f9 s9 e9
   obtain ⟨n0,hn0,hval0⟩:=al7 (f:=sT) (fun a b=>bg5) Lnd ((Lm sy).mpr (List.mem_cons_self ..))
   refine ⟨d1,_,sT sy,_,rfl,a55 hD8 s9,⟨bo1 e9,sT_h _⟩,hval0,?_⟩
   walk_at "run"
   unfold numd
   rw [ae4,ae4,rl]
   intro pc H10 f10 s10 e10
   walk_at "run"
   subst hTF1
   walk_at "run"
   have fpc:H pc=none:=s08.free (s9.free f10)
   have s09:=s08.trans s9
   have hml:=b09 rows
   obtain ⟨hd4,hhd⟩:∃ hd4:List Nat,hd4=[rs.length,L.length,(mets rows).length,n0]:=⟨_,rfl⟩
   have h4l:hd4.length=4:=by rw [hhd]; rfl
   obtain ⟨Pv,hPv⟩:∃ Pv:Nat→St→Hp→Prop,Pv=(fun i σ H'=>i≤rs.length∧Same H9 H'∧(∃ told:List Nat,H' pc=some (.lst (natsV (hd4++told)))∧told.length=i∧∀ (j:Nat) (r:aa2),j<i→rs[j]?=some r→∃ row m,rows[j]?=some row∧(mets rows)[m]?=some row∧told[j]?=some (2*m+if r.1=true then 1 else 0))∧∃ y z,σ=[some (.ref tt),some (.ref c),some (.ref d1),some (.ref pr),some (.ref d2),some (.ref px),some (.ref d3),some (.ref pc),y,z,none,none]):=⟨_,rfl⟩
   refine ⟨c,pr,rfl,⟨_,SqL.of ((s09.trans s10) _ _ h5)⟩,⟨_,SqL.of ((s9.trans s10) _ _ e4')⟩,bt6 (K:=K) (xs:=rvs) (ys:=acc) (by omega) Pv (by rw [hPv]; exact ⟨Nat.zero_le _,s10,⟨[],by rw [e10,hhd]; rfl,rfl,fun j r h=>absurd h (by omega)⟩,_,_,rfl⟩) (fun i σ H' _ hI=>by rw [hPv] at hI; obtain ⟨_,s',_⟩:=hI; exact ⟨SqL.of ((s09.trans s') _ _ h5),SqL.of ((s9.trans s') _ _ e4')⟩) ?_ ?_⟩
   · intro i v u σ H11 p12 H12 hv hu hI s12 e12
     rw [hPv] at hI
     obtain ⟨hi,s11,⟨told,e11,htl,ht⟩,y,z,rfl⟩:=hI
     have s912:=s11.trans s12
     have s012:=s09.trans s912
     obtain ⟨tx,fx,hx1,hx2,_⟩:=(h6.same s012).get i v hv
     rw [List.getElem?_map] at hx1
     obtain ⟨r,hr,rfl⟩:=Option.map_eq_some_iff.mp hx1
     obtain ⟨q1,g,ps,gs1,rfl,k1,k2,k3,rfl⟩:=room_w.mp hx2
     obtain ⟨ty,hy1,hy2⟩:=af6 (hat8.same (s9.trans s912)) hu
     rw [List.getElem?_map] at hy1
     obtain ⟨row,hrow1,rfl⟩:=Option.map_eq_some_iff.mp hy1
     have hi':i<rs.length:=(List.getElem?_eq_some_iff.mp hr).1
     obtain ⟨m,hm,hval⟩:=al7 (f:=rT) (fun a b=>bq8) (ay5 rows) ((aq7 row rows).mpr (List.mem_of_getElem? hrow1))
     have hmlt:m<(mets rows).length:=(List.getElem?_eq_some_iff.mp hm).1
     refine ai4 (SqT.of e12) rfl ?_
     walk_at "run"
     refine ah0 (SqL.of (s12 _ _ e11)) ?_
     walk_at "run"
     refine ⟨d2,_,rT row,_,rfl,a55 hD28 (s9.trans s912),⟨hy2,rT_h _⟩,hval,?_⟩
     walk_at "run"
     refine a81 (SqT.of k1) (a07 (j:=0) rfl) ?_
     walk_at "run"
     have fin:∀ n:Nat,n=2*m+(if r.1=true then 1 else 0)→∀ vv:V,vv=.int (n:Nat)→rAppend (.ref pc) [vv] H12 fun x H1=>Pv (i+1) [some (V.ref tt),some (.ref c),some (.ref d1),some (.ref pr),some (.ref d2),some (.ref px),some (.ref d3),some (.ref pc),some (V.ref q1),some u,none,none] H1:=by
      rintro n hn vv rfl
      refine ab9 (s12 _ _ e11) (by rw [a69,List.length_append]; omega) ?_
      rw [hPv]
      refine ⟨hi',s912.updNew f10,⟨told++[n],by rw [a34,af5,List.append_assoc],by simp [htl],fun j r' hj hr'=>?_⟩,_,_,rfl⟩
      by_cases hji:j=i
      · subst hji
        rw [hr] at hr'
        cases hr'
        exact ⟨row,m,hrow1,hm,by rw [List.getElem?_append_right (by omega),htl,Nat.sub_self,←hn]; rfl⟩
      · obtain ⟨row',m',a1,a2,a3⟩:=ht j r' (by omega) hr'
        exact ⟨row',m',a1,a2,by rw [List.getElem?_append_left (List.getElem?_eq_some_iff.mp a3).1]; exact a3⟩
     refine ite2 (fun hb=>?_) (fun hb=>?_)
     · rw [if_pos hb] at fin
       walk_at "run"
       exact fin (2*m+1) rfl _ (by rw [show ((2*m+1:Nat):Int)=2*(m:Nat)+1 by omega])
     · rw [if_neg hb] at fin
       walk_at "run"
       exact fin (2*m) rfl _ (by rw [show ((2*m:Nat):Int)=2*(m:Nat)+0 by omega])
   intro σ H11 hI
   rw [hPv] at hI
   obtain ⟨_,s11,⟨told,e11,htl,ht⟩,y,z,rfl⟩:=hI
   clear hPv Pv
   rw [rl] at htl ht
   walk_at "run"
   subst hTF2
   walk_at "run"
   have s911:=s9.trans s11
   refine ⟨d2,_,rfl,a55 hD28 s911,fun m2 o2 H12 hm2 hk2 fz2=>?_⟩
   have hD1:=a55 hD8 s911
   have hD311:=a55 hD3 s911
   have e7'':=s911 _ _ e7'
   have s011:=s08.trans s911
   have npc:∀ {x:Addr}{o:HO},H8 x=some o→x≠pc:=fun e=>a03 (s9 _ _ e) f10
   have npc2:pc≠d2:=by
    obtain ⟨φ,hφ⟩:=hD28.ext
    exact (npc hφ).symm
   have npc1:pc≠d1:=by
    obtain ⟨φ,hφ⟩:=hD8.ext
    exact (npc hφ).symm
   have npc3:d3≠pc:=by
    obtain ⟨φ,hφ⟩:=hD3.ext
    exact npc hφ
   have npx:px≠pc:=npc e7'
   have t12:Tups H11 H12:=fun b ys e=>by
    obtain ⟨φ,hφ⟩:=(a55 hD28 s911).ext
    exact hk2 b _ (ac8 e hφ (fun z=>nomatch z)) e
   have hml2:m2.length=(mets rows).length:=by
    have:=congrArg List.length hm2
    simpa [numd,ae4] using this
   have hkey2:∀ (i:Nat) x,m2[i]?=some x→∃ row,(mets rows)[i]?=some row∧x.1=rT row:=fun i x hx=>by
    have h:(m2.map fun x=>(x.1,x.2.2)).map (·.1)=(mets rows).map rT:=by rw [hm2]; exact ah6 _ _ _
    have h':=congrArg (fun l=>l[i]?) h
    simp only [List.getElem?_map,hx,Option.map_some] at h'
    obtain ⟨row,a1,a2⟩:=Option.map_eq_some_iff.mp h'.symm
    exact ⟨row,a1,a2.symm⟩
   have hrok:∀ row∈mets rows,∃ r∈rs,PairsOf L r row∧row.length=es.length:=fun row hr=>by
    obtain ⟨j,hj,rfl⟩:=List.mem_iff_getElem.mp ((aq7 _ _).mp hr)
    have hj':j<rs.length:=by omega
    obtain ⟨row',a1,a2⟩:=hrow j rs[j] hj' (List.getElem?_eq_getElem hj')
    rw [List.getElem?_eq_getElem hj] at a1
    cases a1
    exact ⟨rs[j],List.getElem_mem _,a2,by rw [a2.1]; exact (ok.ok _ (List.getElem_mem _)).1⟩
   have hel:=ok.ne
   have hb2:∀ (shs:List Sh) (i:Nat),i≤(mets rows).length→shs.length=i→(∀ (j:Nat) (row:List (Nat×Nat)),j<i→(mets rows)[j]?=some row→∃ c∈row,shs[j]?=some (c,excF c row 0))→(∀ h∈shs,h.2.length≤20)∧(blocks (shs.map shL)).length≤6300:=fun shs i hi hl hs=>by
    have h1:∀ h∈shs,h.2.length≤20:=fun h hh=>by
     obtain ⟨j,hj,rfl⟩:=List.mem_iff_getElem.mp hh
     have hj':j<(mets rows).length:=by omega
     obtain ⟨c,_,e⟩:=hs j (mets rows)[j] (by omega) (List.getElem?_eq_getElem hj')
     rw [List.getElem?_eq_getElem hj] at e
     injection e with e
     rw [e]
     have:=ah7 c (mets rows)[j] 0
     obtain ⟨r,_,_,h⟩:=hrok (mets rows)[j] (List.getElem_mem _)
     simp only
     omega
    refine ⟨h1,?_⟩
    have:=ao3 (f:=fun l:List Nat=>l.length::l) (n:=63) (l:=shs.map shL) fun l hl=>by
     obtain ⟨h,hh,rfl⟩:=List.mem_map.mp hl
     have:=h1 h hh
     simp only [List.length_cons,shL,af2]
     omega
    have h2:=Nat.mul_le_mul_right 63 (show (shs.map shL).length≤100 by rw [List.length_map]; omega)
    unfold blocks
    omega
   obtain ⟨Pv,hPv⟩:∃ Pv:Nat→St→Hp→Prop,Pv=(fun i σ H'=>i≤m2.length∧(∀ x o,x≠d2→x≠pc→H11 x=some o→H' x=some o)∧FzAt w.params H' d2 m2 o2∧(∃ shs:List Sh,H' pc=some (.lst (natsV (hd4++told++blocks (shs.map shL))))∧shs.length=i∧∀ (j:Nat) (row:List (Nat×Nat)),j<i→(mets rows)[j]?=some row→∃ c∈row,shs[j]?=some (c,excF c row 0))∧∃ y z u,σ=[some (.ref tt),some (.ref c),some (.ref d1),some (.ref pr),some (.ref d2),some (.ref px),some (.ref d3),some (.ref pc),y,z,u,none]):=⟨_,rfl⟩
   refine bq4 Pv (by rw [hPv]; exact ⟨Nat.zero_le _,fun x o h1 h2 e=>hk2 x o h1 e,fz2,⟨[],by rw [hk2 _ _ npc2 e11]; simp [blocks],rfl,fun j row h=>absurd h (by omega)⟩,_,_,_,rfl⟩) (fun i σ H' _ hI=>by rw [hPv] at hI; obtain ⟨_,_,h,_⟩:=hI; exact h.e) ?_ ?_
   · intro i x σ H13 hx hI
     rw [hPv] at hI
     obtain ⟨hi,hk,fz,⟨shs,e13,hsl2,hsh⟩,y,z,u,rfl⟩:=hI
     have hxm:=List.mem_of_getElem? hx
     obtain ⟨row,hrow1,hxr⟩:=hkey2 i x hx
     have hrm:=List.mem_of_getElem? hrow1
     obtain ⟨r,hr,hpo,hrlen⟩:=hrok row hrm
     have hat13:=(fz.k x hxm).1
     rw [hxr] at hat13
     obtain ⟨ra,rus,hra,hrt,hrats⟩:=at_tup0.mp hat13
     rw [hra]
     have hi':i<(mets rows).length:=(List.getElem?_eq_some_iff.mp hrow1).1
     obtain ⟨hb3,hb4⟩:=hb2 shs i (by omega) hsl2 hsh
     walk_at "run"
     refine ah0 (SqL.of e13) ?_
     walk_at "run"
     refine ⟨ra,rus,row,rfl,hrt,hrats,by omega,by omega,fun p14 cc H14 f14 s14 hcc e14=>?_⟩
     walk_at "run"
     have hlen14:(shL (cc,excF cc row 0)).length≤62:=by
      have:=ah7 cc row 0
      simp only [shL,List.length_cons,af2]
      omega
     refine ⟨p14,_,rfl,e14,by omega,fun p15 H15 f15 s15 e15=>?_⟩
     walk_at "run"
     have s1315:=s14.trans s15
     have e13':=s1315 _ _ e13
     refine aj4 e13' e15 (by simp only [a69,List.length_append,List.length_cons]; omega) ?_
     rw [hPv]
     refine ⟨by omega,fun x o h1 h2 e=>by rw [a08 h2]; exact s1315 _ _ (hk x o h1 h2 e),(fz.same s1315).mono (Tups.upd e13') (a08 (Ne.symm npc2)),⟨shs++[(cc,excF cc row 0)],?_,by simp [hsl2],fun j row' hj hr'=>?_⟩,_,_,_,rfl⟩
     · rw [a34]
       simp [blocks,natsV]
     · by_cases hji:j=i
       · subst hji
         rw [hrow1] at hr'
         cases hr'
         exact ⟨cc,hcc,by rw [List.getElem?_append_right (by omega),hsl2,Nat.sub_self]; rfl⟩
       · obtain ⟨c',a1,a2⟩:=hsh j row' (by omega) hr'
         exact ⟨c',a1,by rw [List.getElem?_append_left (List.getElem?_eq_some_iff.mp a2).1]; exact a2⟩
   intro σ H13 hI
   rw [hPv] at hI
   obtain ⟨_,hk,fz,⟨shs,e13,hsl2,hsh⟩,y,z,u,rfl⟩:=hI
   clear hPv Pv
   walk_at "run"
   subst hTF3
   walk_at "run"
   rw [hml2] at hsl2 hsh
   obtain ⟨hb3,hb4⟩:=hb2 shs _ (Nat.le_refl _) hsl2 hsh
   obtain ⟨φ1,hφ1⟩:=hD1.ext
   obtain ⟨φ2,hφ2⟩:=(a55 hD28 s911).ext
   obtain ⟨φ3,hφ3⟩:=hD311.ext
   have t13:Tups H11 H13:=fun b ys e=>hk b _ (ac8 e hφ2 (fun z=>nomatch z)) (ac8 e e11 (fun z=>nomatch z)) e
   have hD13:DtAt w.params H13 d1 (numd sT L):=hD1.mono t13 (by rw [hφ1]; exact hk _ _ (Ne.symm d12) (Ne.symm npc1) hφ1)
   have hD313:DtAt w.params H13 d3 (numd Tr.str txs):=hD311.mono t13 (by rw [hφ3]; exact hk _ _ d23 npc3 hφ3)
   obtain ⟨φ4,hφ4⟩:=hD313.ext
   obtain ⟨φ5,hφ5⟩:=hD13.ext
   refine ⟨d1,_,rfl,hD13,fun m1 o1 H14 hm1 hk1 fz1=>?_⟩
   have t14:Tups H13 H14:=fun b ys e=>hk1 b _ (ac8 e hφ5 (fun z=>nomatch z)) e
   have hml1:m1.length=L.length:=by
    have:=congrArg List.length hm1
    simpa [numd,ae4] using this
   have hkey1:∀ (i:Nat) x,m1[i]?=some x→∃ s,L[i]?=some s∧x.1=sT s:=fun i x hx=>by
    have h:(m1.map fun x=>(x.1,x.2.2)).map (·.1)=L.map sT:=by rw [hm1]; exact ah6 _ _ _
    have h':=congrArg (fun l=>l[i]?) h
    simp only [List.getElem?_map,hx,Option.map_some] at h'
    obtain ⟨row,a1,a2⟩:=Option.map_eq_some_iff.mp h'.symm
    exact ⟨row,a1,a2.symm⟩
   have hLl:∀ s∈L,s.length≤20:=fun s hs=>by
    rcases List.mem_cons.mp ((Lm s).mp hs) with rfl | h
    · exact ok.ns
    · obtain ⟨r,hr,hx⟩:=List.mem_flatMap.mp h
      obtain ⟨x,hx2,rfl⟩:=List.mem_map.mp hx
      exact ((ok.ok r hr).2 x hx2).2
   have hb5:∀ (sys:List (List Nat)) (i:Nat),i≤L.length→sys.length=i→(∀ (j:Nat) (s:List Str),j<i→L[j]?=some s→∃ l,sys[j]?=some l∧l.length=s.length∧txOf txs l=s∧∀ n∈l,n<txs.length)→(∀ l∈sys,l.length≤20∧∀ n∈l,n<txs.length)∧(blocks sys).length≤1050:=fun sys i hi hl hs=>by
    have h1:∀ l∈sys,l.length≤20∧∀ n∈l,n<txs.length:=fun l hh=>by
     obtain ⟨j,hj,rfl⟩:=List.mem_iff_getElem.mp hh
     have hj':j<L.length:=by omega
     obtain ⟨c,e,e2,_,e3⟩:=hs j L[j] (by omega) (List.getElem?_eq_getElem hj')
     rw [List.getElem?_eq_getElem hj] at e
     injection e with e
     rw [e]
     exact ⟨by rw [e2]; exact hLl _ (List.getElem_mem _),e3⟩
    refine ⟨h1,?_⟩
    have:=ao3 (f:=fun l:List Nat=>l.length::l) (n:=21) (l:=sys) fun l hl=>by
     have:=(h1 l hl).1
     simp only [List.length_cons]
     omega
    have h2:=Nat.mul_le_mul_right 21 (show sys.length≤50 by omega)
    unfold blocks
    omega
   obtain ⟨Pv,hPv⟩:∃ Pv:Nat→St→Hp→Prop,Pv=(fun i σ H'=>i≤m1.length∧(∀ x o,x≠d1→x≠pc→H13 x=some o→H' x=some o)∧FzAt w.params H' d1 m1 o1∧(∃ sys:List (List Nat),H' pc=some (.lst (natsV (hd4++told++blocks (shs.map shL)++blocks sys)))∧sys.length=i∧∀ (j:Nat) (s:List Str),j<i→L[j]?=some s→∃ l,sys[j]?=some l∧l.length=s.length∧txOf txs l=s∧∀ n∈l,n<txs.length)∧∃ y z u v,σ=[some (.ref tt),some (.ref c),some (.ref d1),some (.ref pr),some (.ref d2),some (.ref px),some (.ref d3),some (.ref pc),y,z,u,v]):=⟨_,rfl⟩
   refine bq4 Pv (by rw [hPv]; exact ⟨Nat.zero_le _,fun x o h1 h2 e=>hk1 x o h1 e,fz1,⟨[],by rw [hk1 _ _ npc1 e13]; simp [blocks],rfl,fun j row h=>absurd h (by omega)⟩,_,_,_,_,rfl⟩) (fun i σ H' _ hI=>by rw [hPv] at hI; obtain ⟨_,_,h,_⟩:=hI; exact h.e) ?_ ?_
   · intro i x σ H15 hx hI
     rw [hPv] at hI
     obtain ⟨hi,hk5,fz5,⟨sys,e15,hsl5,hsy⟩,y,z,u,v,rfl⟩:=hI
     have hxm:=List.mem_of_getElem? hx
     obtain ⟨sg,hsg,hxr⟩:=hkey1 i x hx
     have hsm:=List.mem_of_getElem? hsg
     have hat15:=(fz5.k x hxm).1
     rw [hxr] at hat15
     obtain ⟨sa,hsa,hst⟩:=c90 hat15
     rw [hsa]
     have hi':i<L.length:=(List.getElem?_eq_some_iff.mp hsg).1
     obtain ⟨_,hb6⟩:=hb5 sys i (by omega) hsl5 hsy
     have hsgl:=hLl sg hsm
     have t15:Tups H13 H15:=fun b ys e=>hk5 b _ (ac8 e hφ5 (fun z=>nomatch z)) (ac8 e e13 (fun z=>nomatch z)) e
     have hD15:DtAt w.params H15 d3 (numd Tr.str txs):=hD313.mono t15 (by rw [hφ4]; exact hk5 _ _ d13 npc3 hφ4)
     walk_at "run"
     refine ah0 (SqL.of e15) ?_
     walk_at "run"
     refine ⟨⟨_,SqT.of hst⟩,c38 (xs:=strsV sg) (by simp only [strsV,List.length_map]; omega) (fun i acc H'=>i≤sg.length∧H'=H15∧∃ l,acc=natsV l∧l.length=i∧txOf txs l=sg.take i∧∀ n∈l,n<txs.length) ⟨Nat.zero_le _,rfl,[],rfl,rfl,rfl,by simp⟩ (fun i acc H' ⟨_,e,l,e2,e3,_⟩=>⟨by rw [e2,a69]; omega,e ▸ SqT.of hst⟩) ?_ ?_⟩
     · rintro j x' acc' H' hx' ⟨hj,rfl,l,rfl,hll,htx,hln⟩
       obtain ⟨t0,ht0,rfl⟩:=al4 hx'
       have ht0m:t0∈txs:=(txm t0).mpr ⟨sg,hsm,List.mem_of_getElem? ht0⟩
       obtain ⟨n,hn,hvn⟩:=al7 (f:=Tr.str) (fun a b h=>by injection h) txnd ht0m
       walk_at "run"
       refine ⟨d3,_,.str t0,_,rfl,hD15,⟨str_at0,by simp [Tr.h]⟩,hvn,?_⟩
       refine ⟨(List.getElem?_eq_some_iff.mp ht0).1,rfl,l++[n],af5 _ _,by simp [hll],?_,fun k hk=>?_⟩
       · rw [List.take_add_one,ht0]
         unfold txOf at htx ⊢
         rw [List.map_append,htx]
         simp [hn]
       · rcases List.mem_append.mp hk with h | h
         · exact hln k h
         · rw [List.mem_singleton.mp h]; exact (List.getElem?_eq_some_iff.mp hn).1
     rintro acc' H' ⟨_,rfl,l,rfl,hll,htx,hln⟩ p16 H16 f16 s16 e16
     rw [show (strsV sg).length=sg.length by simp [strsV]] at hll htx
     rw [List.take_length] at htx
     walk_at "run"
     refine ⟨p16,_,rfl,e16,by omega,fun p17 H17 f17 s17 e17=>?_⟩
     walk_at "run"
     have s1517:=s16.trans s17
     have e15':=s1517 _ _ e15
     refine aj4 e15' e17 (by simp only [a69,List.length_append,List.length_cons]; omega) ?_
     rw [hPv]
     refine ⟨by omega,fun x o h1 h2 e=>by rw [a08 h2]; exact s1517 _ _ (hk5 x o h1 h2 e),(fz5.same s1517).mono (Tups.upd e15') (a08 (Ne.symm npc1)),⟨sys++[l],?_,by simp [hsl5],fun j row' hj hr'=>?_⟩,_,_,_,_,rfl⟩
     · rw [a34]
       simp [blocks,natsV]
     · by_cases hji:j=i
       · subst hji
         rw [hsg] at hr'
         cases hr'
         exact ⟨l,by rw [List.getElem?_append_right (by omega),hsl5,Nat.sub_self]; rfl,hll,htx,hln⟩
       · obtain ⟨c',a1,a2⟩:=hsy j row' (by omega) hr'
         exact ⟨c',by rw [List.getElem?_append_left (List.getElem?_eq_some_iff.mp a1).1]; exact a1,a2⟩
   intro σ H15 hI
   rw [hPv] at hI
   obtain ⟨_,hk5,fz5,⟨sys,e15,hsl5,hsy⟩,y,z,u,v,rfl⟩:=hI
   clear hPv Pv
   rw [hml1] at hsl5 hsy
   obtain ⟨hb7,hb8⟩:=hb5 sys _ (Nat.le_refl _) hsl5 hsy
   have k15:∀ x o,x≠d1→x≠d2→x≠pc→H11 x=some o→H15 x=some o:=fun x o a1 a2 a3 e=>hk5 x o a1 a3 (hk x o a2 a3 e)
   have s015:Same H H15:=fun x o e=>k15 x o (a03 e fd1) (a03 e fd2) (a03 e fpc) (s011 _ _ e)
   walk_at "run"
   refine a81 (SqT.of (s015 _ _ h1)) (a07 (j:=0) rfl) ?_
   walk_at "run"
   refine ab7 (SqL.of (s015 _ _ h2)) ?_
   intro pe H16 f16 s16 e16
   walk_at "run"
   intro pt H17 f17 s17 e17
   have s1517:=s16.trans s17
   have e17x:H15 px=some (.lst (strsV txs)):=k15 _ _ (ac8 e7'' hφ1 (fun z=>nomatch z)) (ac8 e7'' hφ2 (fun z=>nomatch z)) npx e7''
   refine q pt pe px pc us txs ⟨told,shs,sys,n0⟩ H17 ⟨s015.trans s1517,e17,s015.free f16,fpx,fpc,(a03 e17x f16).symm,(a03 e15 f16).symm,npx,s17 _ _ e16,h3.same (s015.trans s1517),s1517 _ _ e17x,?_,?_,txl,?_⟩
   · rw [s1517 _ _ e15,hhd]
     simp [Pk.cells,htl,hsl2,hsl5]
   · exact bo4 ok hr0 hnr htl (by omega) hsl2 (by omega) hsl5 (by omega) ht hrok hsh (fun l hl=>⟨by have:=(hb7 l hl).1; omega,(hb7 l hl).2⟩) hn0
   · exact bo5 htl ht hrow hsh hsy hn0
end Z
theorem MAt.same {P:Params}{C:Addr}{H H':Hp}{p d s c:Addr}{es:List Ev}{sy:List Str}{rs:List aa2}{gs:List Addr}(h:MAt P C H p d s c es sy rs gs) (s':Same H H'):MAt P C H' p d s c es sy rs gs:=by
 obtain ⟨dx,rvs,h1,h2,h3,h4,h5⟩:=h.ex
 exact ⟨dx,rvs,s' _ _ h1,a55 h2 s',s' _ _ h3,s' _ _ h4,h5.same s'⟩
def PSt (P:Params) (C:Addr) (H:Hp) (m:Addr) (x:Tab):Prop:=∃ d tx c sh sy txs k,Z.PAt P C H m d tx c sh sy x.es txs k∧Z.PkOk k txs.length∧Z.Packs k txs (x.sy.map sayT) (x.rs.map roomS)
def MX (P:Params) (Ct Cp:Addr) (H:Hp) (m:Addr) (x:Tab):Prop:=MS P Ct H m x∨PSt P Cp H m x
theorem MX.same {P:Params}{Ct Cp m:Addr}{H H':Hp}{x:Tab}(h:MX P Ct Cp H m x) (s:Same H H'):MX P Ct Cp H' m x:=h.imp (fun h=>h.same s) fun ⟨d,tx,c,sh,sy,txs,k,h1,h2,h3⟩=>⟨d,tx,c,sh,sy,txs,k,h1.same s,h2,h3⟩
theorem bo6 {K:PySem.W.Frag}{P:Params}{Ct Cp m:Addr}{H:Hp}{x:Tab}(h:MX P Ct Cp H m x):∃ C dx fs sp,H m=some (.ins C dx fs)∧fs.lookup ("begin":Str)=none∧((C=Ct∧sp=sp_begin K P Ct)∨(C=Cp∧sp=Z.sp_begin K P Cp)) ∧
 ∀ (Q:VK) (E:XK),(∀ k l H',H l=none→Same H H'→H' k=some (.tup [.ref l,.int 0])→H' l=some (.lst (strsV (x.sy.map sayT)))→Q (.ref k) H')→sp [.ref m] H Q E:=by
 rcases h with ⟨d,s,c,gs,h⟩ | ⟨d,tx,c,sh,sy,txs,k,h1,h2,h3⟩
 · obtain ⟨dx,rvs,g1,_⟩:=h.ex
   exact ⟨Ct,dx,_,_,g1,c82 _ _ _ (by decide +kernel) (by decide +kernel) (by decide +kernel),.inl ⟨rfl,rfl⟩,fun Q E q=>⟨m,d,s,c,_,_,_,gs,rfl,h,q⟩⟩
 · obtain ⟨dx,g1,_⟩:=h1.ex
   obtain ⟨l,l1,l2⟩:=h3.say
   exact ⟨Cp,dx,_,_,g1,Z.pm_no _ _ _ _ _ (by decide +kernel) (by decide +kernel) (by decide +kernel) (by decide +kernel) (by decide +kernel),.inr ⟨rfl,rfl⟩,fun Q E q=>⟨m,d,tx,c,sh,sy,_,txs,k,l,rfl,h1,h2,l1,fun kk pl H' f s e1 e2=>q kk pl H' f s e1 (by rw [l2] at e2; exact e2)⟩⟩
theorem bx6 {K:PySem.W.Frag}{P:Params}{Ct Cp m:Addr}{H:Hp}{x:Tab}(h:MX P Ct Cp H m x):∃ C dx fs sp,H m=some (.ins C dx fs)∧fs.lookup ("step":Str)=none∧((C=Ct∧sp=sp_step K P Ct)∨(C=Cp∧sp=Z.sp_step K P Cp)) ∧
 ∀ (H':Hp) (g j:Nat) (v:V) (e:Ev) (rm:SRoom) (y:SRow) (Q:VK) (E:XK),Same H H'→e.tr.AtK K H' v→plOf x.es e=some (.int (j:Nat))→x.rs[g]?=some rm→rm.2[j]?=some y →
  (∀ k l H'',H' l=none→Same H' H''→H'' k=some (.tup [.ref l,.int (y.2:Nat)])→H'' l=some (.lst (strsV (y.1.map sayT)))→Q (.ref k) H'')→sp [.ref m,.int (g:Nat),v] H' Q E:=by
 rcases h with ⟨d,s,c,gs,h⟩ | ⟨d,tx,c,sh,sy,txs,k,h1,h2,h3⟩
 · obtain ⟨dx,rvs,g1,_⟩:=h.ex
   refine ⟨Ct,dx,_,_,g1,c82 _ _ _ (by decide +kernel) (by decide +kernel) (by decide +kernel),.inl ⟨rfl,rfl⟩,fun H' g j v e rm y Q E s' he hj hg hy q=>?_⟩
   exact ⟨m,d,s,c,_,_,_,gs,g,j,v,e,roomS rm,rowS y,rfl,h.same s',he,hj,by rw [List.getElem?_map,hg]; rfl,by show (rm.2.map rowS)[j]?=_; rw [List.getElem?_map,hy]; rfl,q⟩
 · obtain ⟨dx,g1,_⟩:=h1.ex
   refine ⟨Cp,dx,_,_,g1,Z.pm_no _ _ _ _ _ (by decide +kernel) (by decide +kernel) (by decide +kernel) (by decide +kernel) (by decide +kernel),.inr ⟨rfl,rfl⟩,fun H' g j v e rm y Q E s' he hj hg hy q=>?_⟩
   obtain ⟨t,hh,a1,_,a3,a4⟩:=h3.room g (roomS rm) (by rw [List.getElem?_map,hg]; rfl)
   obtain ⟨p2,l,l1,l2⟩:=a4 j (rowS y) (by show (rm.2.map rowS)[j]?=_; rw [List.getElem?_map,hy]; rfl)
   exact ⟨m,d,tx,c,sh,sy,_,txs,k,g,t,j,hh,v,e,l,rfl,h1.same s',h2,a1,a3,he,hj,l1,fun kk pl H'' f s e1 e2=>q kk pl H'' f s (by rw [p2] at e1; exact e1) (by rw [l2] at e2; exact e2)⟩
open Z (a77 a87 a65 ar0)
theorem ToldAt.upd {H:Hp}{v:V}{x:Told}{p:Addr}{xs:List V}{o:HO}(h:ToldAt H v x) (hp:H p=some (.lst xs)) (hn:x.1≠p):ToldAt (upd H p o) v x:=by
 obtain ⟨k,e,h1,h2⟩:=h
 exact ⟨k,e,by rw [a08 (ac8 h1 hp (fun z=>nomatch z))]; exact h1,by rw [a08 hn]; exact h2⟩
def NewT (H:Hp) (ts:List Told):Prop:=∀ x∈ts,H x.1=none
def Tab.beg (x:Tab):SRow:=(x.sy,0)
def av2 (K:PySem.W.Frag) (P:Params) (C Ct Cp:Addr):Sp:=fun vs H Q _=>∃ (p:Addr) (ms:List Addr) (xs:List Tab),vs=[.ref p]∧HallAt C H p ms∧Each (MX P Ct Cp H) ms xs∧ms.length≤100∧(∀ x∈xs,SaysOk x.sy) ∧
 ∀ v H' ts,Same H H'→TurnAt H H' v ts (stlA (List.replicate ms.length []) (xs.map (·.sy)))→ts.map (·.2)=xs.map Tab.beg→NewT H ts→Q v H'
theorem bq9 (n:Nat):R3 (List.replicate n []):=fun r hr=>by rw [List.eq_of_mem_replicate hr]; simp
theorem ar1 (T:Txt K mg t):FnOk P w K mg base CX0 5 t.a_Hall_begin t.fd_Hall_begin ["self"] (av2 K w.params t.c_Hall t.c_TableMachine t.c_PackMachine):=by
 have G_PackMachine_begin:=a77 (P:=P) (w:=w) (base:=base) T
 have G_TableMachine_begin:=af0 (P:=P) (w:=w) (base:=base) T
 have G_copied:=au3 (P:=P) (w:=w) (base:=base) T
 have G_settled_turn:=af1 (P:=P) (w:=w) (base:=base) T
 refine T.F_Hall_begin.ok sc_Hall_begin (fun vs H Q E h=>?_) (fun cdv A outer s H vs Q E hr h=>?_)
 · obtain ⟨p,ms,xs,rfl,_⟩:=h
   rfl
 · obtain ⟨p,ms,xs,rfl,hh,hM,hn,hok,q⟩:=h
   refine ⟨_,(@a02 _ _ _ _ _ (@a47 _ _ 1 _ _ _ _ sc_Hall_begin.nd rfl (by walk_at "o") (@a40 _ _ _ _ (@a01 _)) (by rfl) (by walk_at "o"))
    (@a02 _ _ _ _ _ (@aa3 _ _ _ _ _ _ _ _ PassesOwn.never rfl (a60 K (a79 K (pv 0) rfl)) (a36 (i:=2) sc_Hall_begin.nd rfl (by walk_at "o")) (@a09 _ _ _ (@aa1 _ _ _ _ (@ac4 _ K _ _ _ _ _ _ _ _ _ _ _ PySem.F.plainAttrs_list PySem.F.slot_list_append PySem.F.type_list_append aa4 (pv 1) (@a00 _ _ _ _ _ (@a38 _ _ _ _ _ _ _ _ _ _ _ _ _ _ _ _ G_copied (hr.mono (by omega)) rfl T.m_copied T.F_copied.kp T.b_copied .nil a52 (@a00 _ _ _ _ _ (bd7 (pv 2) T.cl_TableMachine T.M_TableMachine_begin G_TableMachine_begin (hr.mono (by omega)) T.b_TableMachine_begin T.cl_PackMachine T.M_PackMachine_begin G_PackMachine_begin (hr.mono (by omega)) T.b_PackMachine_begin) (@a01 _) (by rfl)) (by decide) (by rfl) (by rfl)) (@a01 _) (by rfl)) (by rfl) (by rfl) (by rfl) (by rfl) (by rfl) (by rfl)) (by rfl))) (by intro _; rfl))
    (@a09 _ _ _ (@a53 _ _ _ _ (@a38 _ _ _ _ _ _ _ _ _ _ _ _ _ _ _ _ G_settled_turn (hr.mono (by omega)) rfl T.m_settled_turn T.F_settled_turn.kp T.b_settled_turn .nil a52 (@a00 _ _ _ _ _ (pv 1) (@a00 _ _ _ _ _ (ag8 (Nt:=["machine"]) (Nf:=[]) (caps:=[]) rfl (a90 (sc:=defScope a66) rfl rfl (by decide +kernel) (by decide +kernel) (by decide +kernel) rfl (by decide +kernel)) (a60 K (a79 K (pv 0) rfl)) (fun _ _ _ _ _=>(a36 (i:=0) (show (["machine"]:List Str).Nodup by decide +kernel) rfl (by walk_at "o"))) (fun _ _ _ _ _=>(@a91 _)) (fun _ _ _ _ _=>(@a57 _ _ _ _ _ (@a01 _)))) (@a01 _) (by rfl)) (by rfl)) (by decide) (by rfl) (by rfl)))))),?_⟩
   have sl:(1000000:Nat)≤sizeLine:=le_line (Nat.le_refl _)
   have ml:=hM.len
   obtain ⟨dx,l1,l2,h1,h2,_⟩:=hh.ex
   walk_at "go"
   intro pt H1 f1 s1 e1
   walk_at "run"
   refine ⟨p,_,dx,_,_,rfl,s1 _ _ h1,T.cl_Hall,T.n_Hall_machines,ag2 _ _,?_⟩
   walk_at "run"
   refine ⟨⟨_,SqL.of (s1 _ _ h2)⟩,ac6 (K:=K) (a:=l2) (xs:=ms.map V.ref) (fun i σ H'=>i≤ms.length∧Same H H'∧(∃ tvs ts,H' pt=some (.lst tvs)∧Each (ToldAt H') tvs ts∧ts.map (·.2)=(xs.map Tab.beg).take i∧NewT H ts∧∀ x∈ts,x.1≠pt)∧∃ y,σ=[some (.ref p),some (.ref pt),y]) ⟨Nat.zero_le _,s1,⟨[],[],e1,.nil,rfl,fun x hx=>absurd hx (by simp),fun x hx=>absurd hx (by simp)⟩,_,rfl⟩ (fun i σ H' _ ⟨_,s',_⟩=>SqL.of (s' _ _ h2)) ?_ ?_⟩
   · rintro i v σ H2 hv ⟨hi,s2,⟨tvs,ts,hp2,hE2,hx2,hN2,hne2⟩,y,rfl⟩
     rw [List.getElem?_map] at hv
     obtain ⟨m,hm,rfl⟩:=Option.map_eq_some_iff.mp hv
     have hi':i<ms.length:=(List.getElem?_eq_some_iff.mp hm).1
     have hxi:xs[i]?=some (xs[i]'(by omega)):=List.getElem?_eq_getElem (by omega)
     obtain ⟨Cm,dxm,fsm,spm,m1,hno,hC,hsp⟩:=bo6 (K:=K) ((hM.2 i m _ hm hxi).same s2)
     have tlen:ts.length=i:=by
      have:=congrArg List.length hx2
      simp at this
      omega
     walk_at "run"
     refine ah0 (SqL.of hp2) ?_
     walk_at "run"
     refine ⟨m,Cm,dxm,fsm,spm,rfl,m1,hno,hC,?_⟩
     walk_at "run"
     refine hsp _ _ (fun k l H3 f3 s3 e3 e3'=>?_)
     walk_at "run"
     refine ⟨k,l,_,_,rfl,e3,e3',fun l' k' H4 f4 s4 e4 e4'=>?_⟩
     walk_at "run"
     have s24:=s3.trans s4
     have hp4:=s24 _ _ hp2
     refine ab9 hp4 (by rw [hE2.len,tlen]; omega) ?_
     have hne:l'≠pt:=(a03 (s3 _ _ hp2) f4).symm
     refine ⟨hi',(s2.trans s24).updNew f1,⟨_,ts++[(l',(xs[i]'(by omega)).sy,0)],a34,?_,?_,?_,?_⟩,_,rfl⟩
     · refine Each.snoc ⟨hE2.1,fun j v x a b=>(((hE2.2 j v x a b).same s24).upd hp4 (hne2 x (List.mem_of_getElem? b)))⟩ (ToldAt.upd ⟨k',rfl,e4,e4'⟩ hp4 hne)
     · rw [List.map_append,hx2,List.take_add_one,List.getElem?_map,hxi]
       rfl
     · intro x hx
       rcases List.mem_append.mp hx with hx | hx
       · exact hN2 x hx
       · rw [List.mem_singleton.mp hx]
         exact (s2.trans s3).free f4
     · intro x hx
       rcases List.mem_append.mp hx with hx | hx
       · exact hne2 x hx
       · rw [List.mem_singleton.mp hx]
         exact hne
   · rintro σ H2 ⟨_,s2,⟨tvs,ts,hp2,hE2,hx2,hN2,hne2⟩,y,rfl⟩
     rw [List.length_map,ml,List.take_of_length_le (by simp)] at hx2
     have tlen:ts.length=ms.length:=by
      have:=congrArg List.length hx2
      simp at this
      omega
     walk_at "run"
     refine ⟨p,_,dx,_,_,rfl,s2 _ _ h1,T.cl_Hall,T.n_Hall_machines,ag2 _ _,?_⟩
     walk_at "run"
     refine ⟨⟨_,SqL.of (s2 _ _ h2)⟩,ac9 (xs:=ms.map V.ref) (le_line (by simp; omega)) (fun i acc H'=>i≤ms.length∧Same H2 H'∧Each (EvsAt H') acc (List.replicate i [])) ⟨Nat.zero_le _,Same.refl _,.nil⟩ (fun i acc H' ⟨_,s',he⟩=>⟨by rw [he.len]; simp,SqL.of ((s2.trans s') _ _ h2)⟩) ?_ ?_⟩
     · rintro i v acc H3 hv ⟨hi,s3,he⟩
       have hi':i<ms.length:=by have:=(List.getElem?_eq_some_iff.mp hv).1; simpa using this
       walk_at "run"
       intro p4 H4 f4 s4 e4
       refine ⟨hi',s3.trans s4,?_⟩
       rw [List.replicate_succ']
       exact (he.mono fun v x h=>h.tups s4.tups).snoc ⟨p4,[],rfl,e4,by simp [Tr.Ats]⟩
     · rintro acc H3 ⟨_,s3,he⟩ pr H4 f4 s4 e4
       rw [List.length_map] at he
       walk_at "run"
       have s24:=s3.trans s4
       refine ⟨pt,pr,tvs,acc,ts,List.replicate ms.length [],rfl,s24 _ _ hp2,hE2.mono fun v x h=>h.same s24,e4,he.mono fun v x h=>h.tups s4.tups,by simp [tlen],by omega,fun x hx=>?_,bq9 _,fun v H5 s5 hT5=>?_⟩
       · have hm:x.2∈xs.map Tab.beg:=by rw [← hx2]; exact List.mem_map_of_mem hx
         obtain ⟨x0,hx0,e0⟩:=List.mem_map.mp hm
         rw [← e0]
         exact ⟨(hok x0 hx0).1,(hok x0 hx0).2.1⟩
       · rw [show ts.map (·.2.1)=xs.map (·.sy) by
          have:=congrArg (List.map Prod.fst) hx2
          rw [List.map_map,List.map_map] at this
          exact this] at hT5
         exact q v H5 ts (s2.trans (s24.trans s5)) (hT5.free (s2.trans s24)) hx2 hN2
open Z (a77 a87 a65 ar0)
def inRow (r:List Ev):Ev→List Ev
 | .quiet=>r
 | .key k=>pb r (.key k)
 | .word w=>pb r (.word w)
def evOf (r:List Ev):Ev:=r.headD .quiet
theorem ar2 {r:List Ev}{o:Ev}(h:r.length≤3):(inRow r o).length≤3:=by
 cases o with
 | quiet=>exact h
 | key k=>exact bx1 h
 | word w=>exact bx1 h
structure Ln where
 m:Addr
 x:Tab
 g:Nat
 r:List Ev
 o:Ev
 y:SRow
structure Ln.Ok (l:Ln):Prop where
 at_:∃ (j:Nat) (rm:SRoom),plOf l.x.es (evOf (inRow l.r l.o))=some (.int (j:Nat))∧l.x.rs[l.g]?=some rm∧rm.2[j]?=some l.y
 le:l.r.length≤3
 says:SaysOk l.y.1
theorem quietK {K:PySem.W.Frag}{H:Hp}{a:Addr}(h:TupK K a [.str "quiet"]):Ev.quiet.tr.AtK K H (.ref a):=by
 simp only [Ev.tr,Tr.AtK,Tr.AtsK]
 exact ⟨_,_,rfl,.inr h,_,_,rfl,rfl,rfl⟩
theorem cut1 (us:List V):cutV us (some 1) none=us.tail:=by
 unfold cutV
 rw [HT.sIx_none,show (1:Int)=((1:Nat):Int) from rfl,HT.sIx_nat]
 cases us with
 | nil=>rfl
 | cons u us=>simp
theorem bo7 {H:Hp}{r:List Ev}{us:List V}(h:Tr.Ats H (r.map Ev.tr) us []):Tr.Ats H (r.tail.map Ev.tr) us.tail []:=by
 cases r with
 | nil =>
   simp only [List.map_nil,Tr.Ats] at h
   rw [h.1]
   simp [Tr.Ats]
 | cons w r =>
   obtain ⟨v,ws,rfl,_,h2⟩:=ats_cons0.mp h
   exact h2
def Ln.std (l:Ln):Nat×List Ev:=(l.g,l.r)
def Ln.row (l:Ln):List Ev:=(inRow l.r l.o).tail
structure StepPre (P:Params) (C Ct Cp:Addr) (H:Hp) (p st ou:Addr) (ls:List Ln) (stv ovs:List V):Prop where
 hh:HallAt C H p (ls.map (·.m))
 hM:∀ l∈ls,MX P Ct Cp H l.m l.x
 hn:ls.length≤100
 hst:H st=some (.tup stv)
 hS:Each (StdAt H) stv (ls.map Ln.std)
 hou:H ou=some (.lst ovs)
 hO:Each (fun v (e:Ev)=>e.tr.At H v []) ovs (ls.map (·.o))
 hok:∀ l∈ls,l.Ok
def StepPost (H:Hp) (ls:List Ln) (Q:VK):Prop:=∀ v H' ts,Same H H'→TurnAt H H' v ts (stlA (ls.map Ln.row) (ls.map (·.y.1)))→ts.map (·.2)=ls.map (·.y)→NewT H ts→Q v H'
def b35 (K:PySem.W.Frag) (P:Params) (C Ct Cp:Addr):Sp:=fun vs H Q _=>∃ (p st ou:Addr) (ls:List Ln) (stv ovs:List V),vs=[.ref p,.ref st,.ref ou]∧StepPre P C Ct Cp H p st ou ls stv ovs∧StepPost H ls Q
theorem av3 (T:Txt K mg t):FnOk P w K mg base CX0 5 t.a_Hall_step t.fd_Hall_step ["self","standing","outer"] (b35 K w.params t.c_Hall t.c_TableMachine t.c_PackMachine):=by
 have G_PackMachine_step:=a87 (P:=P) (w:=w) (base:=base) T
 have G_TableMachine_step:=af9 (P:=P) (w:=w) (base:=base) T
 have G_copied:=au3 (P:=P) (w:=w) (base:=base) T
 have G_put_behind:=ah5 (P:=P) (w:=w) (base:=base) T
 have G_settled_turn:=af1 (P:=P) (w:=w) (base:=base) T
 refine T.F_Hall_step.ok sc_Hall_step (fun vs H Q E h=>?_) (fun cdv A outer s H vs Q E hr h=>?_)
 · obtain ⟨p,st,ou,ls,stv,ovs,rfl,_⟩:=h
   rfl
 · obtain ⟨p,st,ou,ls,stv,ovs,rfl,⟨hh,hM,hn,hst,hS,hou,hO,hok⟩,q⟩:=h
   refine ⟨_,(@a02 _ _ _ _ _ (@a47 _ _ 3 _ _ _ _ sc_Hall_step.nd rfl (by walk_at "o") (@a40 _ _ _ _ (@a01 _)) (by rfl) (by walk_at "o"))
    (@a02 _ _ _ _ _ (@a47 _ _ 4 _ _ _ _ sc_Hall_step.nd rfl (by walk_at "o") (@a40 _ _ _ _ (@a01 _)) (by rfl) (by walk_at "o"))
    (@a02 _ _ _ _ _ (@aa3 _ _ _ _ _ _ _ _ PassesOwn.never rfl (bl3 K rfl T.z_zip (@a00 _ _ _ _ _ (a79 K (pv 0) rfl) (@a00 _ _ _ _ _ (pv 1) (@a00 _ _ _ _ _ (pv 2) (@a01 _) (by rfl)) (by rfl)) (by rfl))) (ab6 K (n:=3) rfl (a50 (a36 (i:=5) sc_Hall_step.nd rfl (by walk_at "o")) (a50 (a36 (i:=6) sc_Hall_step.nd rfl (by walk_at "o")) (a50 (a36 (i:=7) sc_Hall_step.nd rfl (by walk_at "o")) (@ab5 _))))) (@a02 _ _ _ _ _ (@a47 _ _ 8 _ _ _ _ sc_Hall_step.nd rfl (by walk_at "o") (@aj2 _ _ _ _ _ _ _ _ (@a83 _ _ _ _ _ _ _ _ (bl0 K (by exact hr.units)) (pv 7) (ah9 (by rfl) T.m_QUIET (by exact T.r_QUIET)) (nomark _)) (@a49 _ _ _ _ _ _ _ (a45 K) (pv 6) (@a05 _ _ _ _) (fun _ _=>rfl)) (@a38 _ _ _ _ _ _ _ _ _ _ _ _ _ _ _ _ G_put_behind (hr.mono (by omega)) rfl T.m_put_behind T.F_put_behind.kp T.b_put_behind .nil a52 (@a00 _ _ _ _ _ (@a49 _ _ _ _ _ _ _ (a45 K) (pv 6) (@a05 _ _ _ _) (fun _ _=>rfl)) (@a00 _ _ _ _ _ (pv 7) (@a01 _) (by rfl)) (by rfl)) (by decide) (by rfl) (by rfl))) (by rfl) (by walk_at "o"))
     (@a02 _ _ _ _ _ (@aa1 _ _ _ _ (@ac4 _ K _ _ _ _ _ _ _ _ _ _ _ PySem.F.plainAttrs_list PySem.F.slot_list_append PySem.F.type_list_append aa4 (pv 3) (@a00 _ _ _ _ _ (@a38 _ _ _ _ _ _ _ _ _ _ _ _ _ _ _ _ G_copied (hr.mono (by omega)) rfl T.m_copied T.F_copied.kp T.b_copied .nil a52 (@a00 _ _ _ _ _ (bm6 (pv 5) T.cl_TableMachine T.M_TableMachine_step G_TableMachine_step (hr.mono (by omega)) T.b_TableMachine_step T.cl_PackMachine T.M_PackMachine_step G_PackMachine_step (hr.mono (by omega)) T.b_PackMachine_step (@a00 _ _ _ _ _ (@a49 _ _ _ _ _ _ _ (a45 K) (pv 6) (@a05 _ _ _ _) (fun _ _=>rfl)) (@a00 _ _ _ _ _ (@aj2 _ _ _ _ _ _ _ _ (@a83 _ _ _ _ _ _ _ _ c98 (@a70 _ _ _ _ _ _ _ _ _ (ac2 K) (by rfl) T.z_len ac7 (@a00 _ _ _ _ _ (pv 8) (@a01 _) (by rfl)) (by decide) (by decide) (by rfl) (by rfl)) (@a05 _ _ _ _) (nomark _)) (@a49 _ _ _ _ _ _ _ (a45 K) (pv 8) (@a05 _ _ _ _) (fun _ _=>rfl)) (ah9 (by rfl) T.m_QUIET (by exact T.r_QUIET))) (@a01 _) (by rfl)) (by rfl))) (@a01 _) (by rfl)) (by decide) (by rfl) (by rfl)) (@a01 _) (by rfl)) (by rfl) (by rfl) (by rfl) (by rfl) (by rfl) (by rfl)) (by rfl))
     (@a09 _ _ _ (@aa1 _ _ _ _ (@ac4 _ K _ _ _ _ _ _ _ _ _ _ _ PySem.F.plainAttrs_list PySem.F.slot_list_append PySem.F.type_list_append aa4 (pv 4) (@a00 _ _ _ _ _ (@aj3 _ _ _ _ _ _ _ _ _ _ bk8 (pv 8) (@ai0 _ _ _ (@a05 _ _ _ _)) (@b91 _)) (@a01 _) (by rfl)) (by rfl) (by rfl) (by rfl) (by rfl) (by rfl) (by rfl)) (by rfl))))) (by intro _; rfl))
    (@a09 _ _ _ (@a53 _ _ _ _ (@a38 _ _ _ _ _ _ _ _ _ _ _ _ _ _ _ _ G_settled_turn (hr.mono (by omega)) rfl T.m_settled_turn T.F_settled_turn.kp T.b_settled_turn .nil a52 (@a00 _ _ _ _ _ (pv 3) (@a00 _ _ _ _ _ (pv 4) (@a01 _) (by rfl)) (by rfl)) (by decide) (by rfl) (by rfl))))))),?_⟩
   have sl:(1000000:Nat)≤sizeLine:=le_line (Nat.le_refl _)
   have stl:=hS.len
   rw [List.length_map] at stl
   have hol:=hO.len
   rw [List.length_map] at hol
   obtain ⟨dx,l1,l2,h1,h2,_⟩:=hh.ex
   walk_at "go"
   intro pt H1 f1 s1 e1
   walk_at "run"
   intro pr H2 f2 s2 e2
   walk_at "run"
   have s02:=s1.trans s2
   have hne:pt≠pr:=a03 e1 f2
   have fpr:=s1.free f2
   refine ⟨p,_,dx,_,_,rfl,s02 _ _ h1,T.cl_Hall,T.n_Hall_machines,ag2 _ _,?_⟩
   walk_at "run"
   obtain ⟨Pv,hPv⟩:∃ Pv:Nat→St→Hp→Prop,Pv=(fun i σ H'=>i≤ls.length∧Same H H'∧(∃ tvs ts,H' pt=some (.lst tvs)∧Each (ToldAt H') tvs ts∧ts.map (·.2)=(ls.map (·.y)).take i∧NewT H ts∧(∀ x∈ts,x.1≠pt)∧∀ x∈ts,x.1≠pr)∧(∃ rvs,H' pr=some (.lst rvs)∧Each (EvsAt H') rvs ((ls.map Ln.row).take i))∧∃ y1 y2 y3 y4,σ=[some (.ref p),some (.ref st),some (.ref ou),some (.ref pt),some (.ref pr),y1,y2,y3,y4]):=⟨_,rfl⟩
   refine ⟨l2,st,ou,rfl,⟨_,SqL.of (s02 _ _ h2)⟩,⟨_,SqT.of (s02 _ _ hst)⟩,⟨_,SqL.of (s02 _ _ hou)⟩,bc4 (K:=K) (a:=l2) (b:=st) (c:=ou) (xs:=(ls.map (·.m)).map V.ref) (ys:=stv) (us:=ovs) (by simp; omega) (by simp; omega) Pv (by rw [hPv]; exact ⟨Nat.zero_le _,s02,⟨[],[],s2 _ _ e1,.nil,rfl,fun x hx=>absurd hx (by simp),fun x hx=>absurd hx (by simp),fun x hx=>absurd hx (by simp)⟩,⟨[],e2,.nil⟩,_,_,_,_,rfl⟩) (fun i σ H' _ h=>by rw [hPv] at h; exact ⟨SqL.of (h.2.1 _ _ h2),SqT.of (h.2.1 _ _ hst),SqL.of (h.2.1 _ _ hou)⟩) ?_ ?_⟩
   · intro i mv lv ev σ H3 qt H4 hmv hlv hev hI s34 hqt
     rw [hPv] at hI
     obtain ⟨hi,s3,⟨tvs,ts,hp3,hE3,hx3,hN3,hn3,hn3'⟩,⟨rvs,hr3,hrE3⟩,y1,y2,y3,y4,rfl⟩:=hI
     rw [List.getElem?_map,List.getElem?_map] at hmv
     obtain ⟨m0,hm0,rfl⟩:=Option.map_eq_some_iff.mp hmv
     obtain ⟨L,hL,rfl⟩:=Option.map_eq_some_iff.mp hm0
     have hi':i<ls.length:=(List.getElem?_eq_some_iff.mp hL).1
     have s4:=s3.trans s34
     obtain ⟨lk,rv,rfl,hlk,hrv⟩:=(hS.2 i lv L.std hlv (by rw [List.getElem?_map,hL]; rfl)).tups s4.tups
     obtain ⟨Cm,dxm,fsm,spm,m1,hno,hC,hsp⟩:=bx6 (K:=K) ((hM L (List.mem_of_getElem? hL)).same s4)
     have heq:=a92 (hO.2 i ev L.o hev (by rw [List.getElem?_map,hL]; rfl)) s4.tups
     obtain ⟨⟨pj,rm,pj1,pj2,pj3⟩,h3i,_⟩:=hok L (List.mem_of_getElem? hL)
     have htk1:(ls.map (·.y)).take (i+1)=(ls.map (·.y)).take i++[L.y]:=by rw [List.take_add_one,List.getElem?_map,hL]; rfl
     have htk2:(ls.map Ln.row).take (i+1)=(ls.map Ln.row).take i++[L.row]:=by rw [List.take_add_one,List.getElem?_map,hL]; rfl
     have tlen:ts.length=i:=by
      have:=congrArg List.length hx3
      simp at this
      omega
     have rlen:rvs.length=i:=by rw [hrE3.len]; simp; omega
     have hp4:=s34 _ _ hp3
     have hr4:=s34 _ _ hr3
     refine ai4 (SqT.of hqt) rfl ?_
     walk_at "run"
     refine c77 (heq.toK K) (quietK T.d_QUIET) (by have:=L.o.tr_h; omega) (by have:=Ev.quiet.tr_h; omega) ?_
     walk_at "run"
     refine twoH (fun v H5=>Same H4 H5∧EvsAt H5 v (inRow L.r L.o)) ?_ (fun hb z=>?_) (fun hb z=>?_)
     rotate_left
     · have ho:L.o=.quiet:=Ev.tr_inj (of_decide_eq_true hb)
       rw [ho] at z
       walk_at "run"
       refine a81 (SqT.of hlk) (a07 (j:=1) rfl) ?_
       exact z _ _ ⟨Same.refl _,hrv⟩
     · have ho:inRow L.r L.o=pb L.r L.o:=by
        cases h:L.o with
        | quiet=>exact absurd (congrArg Ev.tr h) (of_decide_eq_false hb)
        | key k=>rfl
        | word w=>rfl
       rw [ho] at z
       walk_at "run"
       refine a81 (SqT.of hlk) (a07 (j:=1) rfl) ?_
       walk_at "run"
       exact ⟨rv,ev,L.r,L.o,rfl,hrv,heq,by omega,fun v' H5 s5 hE5=>z _ _ ⟨s5,hE5⟩⟩
     rintro v5 H5 ⟨s45,ra,rus,rfl,hra,hrus⟩
     replace hlk:=s45 _ _ hlk
     replace hp4:=s45 _ _ hp4
     replace hr4:=s45 _ _ hr4
     replace m1:=s45 _ _ m1
     have s5':=s4.trans s45
     have s35:=s34.trans s45
     have h3r:(inRow L.r L.o).length≤3:=ar2 h3i
     have hLr:L.row=(inRow L.r L.o).tail:=rfl
     generalize inRow L.r L.o=r at hrus h3r pj1 hLr
     walk_at "run"
     refine ah0 (SqL.of hp4) ?_
     walk_at "run"
     refine ⟨L.m,Cm,dxm,fsm,spm,rfl,m1,hno,hC,?_⟩
     walk_at "run"
     refine a81 (SqT.of hlk) (a07 (j:=0) rfl) ?_
     walk_at "run"
     refine bp9 (SqT.of hra) ?_
     walk_at "run"
     have ul:rus.length=r.length:=by rw [hrus.len,List.length_map]
     rw [ul]
     refine twoH (fun v H6=>H6=H5∧(evOf r).tr.AtK K H5 v) ?_ (fun hb z=>?_) (fun hb z=>?_)
     rotate_left
     · have hpos:0<r.length:=by have:=of_decide_eq_true hb; omega
       cases r with
       | nil=>simp at hpos
       | cons w0 r =>
         obtain ⟨v0,us0,rfl,hv0,_⟩:=ats_cons0.mp hrus
         walk_at "run"
         refine a81 (SqT.of hra) (a07 (j:=0) rfl) ?_
         exact z _ _ ⟨rfl,hv0.toK K⟩
     · have hz:r=[]:=by
        have:=of_decide_eq_false hb
        exact List.length_eq_zero_iff.mp (by omega)
       subst hz
       walk_at "run"
       exact z _ _ ⟨rfl,quietK T.d_QUIET⟩
     · rintro v _ ⟨rfl,he⟩
       walk_at "run"
       refine hsp _ L.g pj v (evOf r) rm L.y _ _ s45 he pj1 pj2 pj3 (fun k l H6 f5 s5 e5 e5'=>?_)
       walk_at "run"
       refine ⟨k,l,_,_,rfl,e5,e5',fun l' k' H7 f6 s6 e6 e6'=>?_⟩
       walk_at "run"
       have s46:=s5.trans s6
       have hp6:=s46 _ _ hp4
       have hr6:=s46 _ _ hr4
       refine ab9 hp6 (by rw [hE3.len,tlen]; omega) ?_
       have hnl:l'≠pt:=(a03 (s5 _ _ hp4) f6).symm
       have hnl':l'≠pr:=(a03 (s5 _ _ hr4) f6).symm
       have s7:Same H (upd H7 pt (.lst (tvs++[.ref k']))):=(s5'.trans s46).updNew f1
       have t7:Tups H7 (upd H7 pt (.lst (tvs++[.ref k']))):=Tups.upd hp6
       have e7:upd H7 pt (.lst (tvs++[.ref k'])) pt=some (.lst (tvs++[.ref k'])):=a34
       have hr7:upd H7 pt (.lst (tvs++[.ref k'])) pr=some (.lst rvs):=by rw [a08 (Ne.symm hne)]; exact hr6
       have hE7:Each (ToldAt (upd H7 pt (.lst (tvs++[.ref k'])))) (tvs++[.ref k']) (ts++[(l',L.y)]):=by
        refine Each.snoc ⟨hE3.1,fun j v x a b=>(((hE3.2 j v x a b).same (s35.trans s46)).upd hp6 (hn3 x (List.mem_of_getElem? b)))⟩ (ToldAt.upd ⟨k',rfl,e6,e6'⟩ hp6 hnl)
       have hra7:=t7 _ _ (s46 _ _ hra)
       generalize upd H7 pt (.lst (tvs++[.ref k']))=H7b at s7 t7 e7 hr7 hE7 hra7
       walk_at "run"
       refine ah0 (SqL.of hr7) ?_
       walk_at "run"
       refine cc5 hra7 fun c8 H8 s8 e8=>?_
       rw [cut1] at e8
       walk_at "run"
       have hr8:=s8 _ _ hr7
       refine ab9 hr8 (by omega) ?_
       have t9:Tups H8 (upd H8 pr (.lst (rvs++[.ref c8]))):=Tups.upd hr8
       have t39:Tups H3 (upd H8 pr (.lst (rvs++[.ref c8]))):=(s35.trans s46).tups.trans (t7.trans (s8.tups.trans t9))
       have hnx:∀ x∈ts++[(l',L.y)],x.1≠pt∧x.1≠pr:=fun x hx=>by
        rcases List.mem_append.mp hx with hx | hx
        · exact ⟨hn3 x hx,hn3' x hx⟩
        · rw [List.mem_singleton.mp hx]
          exact ⟨hnl,hnl'⟩
       rw [hPv]
       show _∧_
       rw [htk1,htk2,show L.row=r.tail from hLr]
       refine ⟨hi',(s7.trans s8).updNew fpr,⟨_,ts++[(l',L.y)],by rw [a08 hne]; exact s8 _ _ e7,?_,?_,?_,fun x hx=>(hnx x hx).1,fun x hx=>(hnx x hx).2⟩,⟨_,a34,?_⟩,_,_,_,_,rfl⟩
       · exact ⟨hE7.1,fun j v x a b=>((hE7.2 j v x a b).same s8).upd hr8 (hnx x (List.mem_of_getElem? b)).2⟩
       · rw [List.map_append,hx3]
         rfl
       · intro x hx
         rcases List.mem_append.mp hx with hx | hx
         · exact hN3 x hx
         · rw [List.mem_singleton.mp hx]
           exact (s5'.trans s5).free f6
       · exact (hrE3.mono fun v x h=>h.tups t39).snoc ⟨c8,_,rfl,t9 _ _ e8,ac5 (bo7 hrus) (s46.tups.trans (t7.trans (s8.tups.trans t9)))⟩
   · intro σ H3 hI
     rw [hPv] at hI
     obtain ⟨_,s3,⟨tvs,ts,hp3,hE3,hx3,hN3,hn3,hn3'⟩,⟨rvs,hr3,hrE3⟩,y1,y2,y3,y4,rfl⟩:=hI
     rw [List.length_map,List.length_map,List.take_of_length_le (by simp)] at hx3
     rw [List.length_map,List.length_map,List.take_of_length_le (by simp)] at hrE3
     have tlen:ts.length=ls.length:=by
      have:=congrArg List.length hx3
      simp at this
      omega
     walk_at "run"
     refine ⟨pt,pr,tvs,rvs,ts,ls.map Ln.row,rfl,hp3,hE3,hr3,hrE3,by simp; omega,by omega,fun x hx=>?_,fun r hr=>?_,fun v H5 s5 hT5=>?_⟩
     · have:x.2∈ls.map (·.y):=by rw [← hx3]; exact List.mem_map_of_mem hx
       obtain ⟨L,hL,e⟩:=List.mem_map.mp this
       rw [← e]
       exact ⟨(hok L hL).says.1,(hok L hL).says.2.1⟩
     · obtain ⟨L,hL,rfl⟩:=List.mem_map.mp hr
       have h3:=ar2 (o:=L.o) (hok L hL).le
       unfold Ln.row
       simp
       omega
     · rw [show ts.map (·.2.1)=ls.map (·.y.1) by
        have:=congrArg (List.map Prod.fst) hx3
        rw [List.map_map,List.map_map] at this
        exact this] at hT5
       exact q v H5 ts (s3.trans s5) (hT5.free s3) hx3 hN3
def saidT:List (List Str):=[[],["a"],["0:go"],["1:yes"],["2:no","b"],["0:yes","1:go"],["1:go","1:no","1:yes"],["b","3:go"],["9:go"],["0:go","0:go","0:no","0:yes"],["5:yes","4:no"],[]]
theorem bx7:saids.map (·.map sayT)=saidT:=by decide +kernel
def sayB (x:Say):Bool:=W5.contains x.2 && (match x.1 with | none=>true | some l=>decide (l<10))
theorem bx8 {x:Say}(h:sayB x=true):SayOk x:=by
 unfold sayB at h
 rw [Bool.and_eq_true] at h
 refine ⟨by simpa using h.1,fun l hl=>?_⟩
 have h2:=h.2
 rw [hl] at h2
 exact of_decide_eq_true h2
theorem bo8:∀ x∈saids,SaysOk x:=by
 have h:saids.all (fun x=>decide (x.length≤100) && x.all sayB)=true:=by decide +kernel
 intro x hx
 have:=List.all_eq_true.mp h x hx
 rw [Bool.and_eq_true] at this
 exact ⟨of_decide_eq_true this.1,fun s hs=>bx8 (List.all_eq_true.mp this.2 s hs),hx⟩
def TxtsAt (H:Hp) (ls:List Addr) (ts:List (List Str)):Prop:=Each (fun l t=>H l=some (.lst (strsV t))) ls ts
theorem TxtsAt.add {H H':Hp}{ls:List Addr}{ts:List (List Str)}{l:Addr}{t:List Str}(h:TxtsAt H ls ts) (s:Same H H') (e:H' l=some (.lst (strsV t))):TxtsAt H' (ls++[l]) (ts++[t]):=Each.snoc (h.mono fun l t h=>s _ _ h) e
theorem TxtsAt.same {H H':Hp}{ls:List Addr}{ts:List (List Str)}(h:TxtsAt H ls ts) (s:Same H H'):TxtsAt H' ls ts:=h.mono fun l t h=>s _ _ h
theorem StA.ne {H:Hp}{s:Addr}{z:Int}(k:StA H s z) {p:Addr}(h:H p=none):p≠s:=by
 obtain ⟨x,e⟩:=k
 exact (a03 e h).symm
theorem StA.not_str {H:Hp}{s:Addr}{z:Int}(k:StA H s z) {p:Addr}{t:List Str}(h:H p=some (.lst (strsV t))):p≠s:=by
 obtain ⟨x,e⟩:=k
 rintro rfl
 rw [e] at h
 cases t <;> simp [strsV] at h
def bx9 (K:PySem.W.Frag):Sp:=fun vs H Q _=>∃ (s:Addr) (z:Int),vs=[.ref s]∧StA H s z∧∀ l x H',Oth s H H'→StA H' s z→H l=none→H' l=some (.lst (strsV (List.map sayT x)))→SaysOk x→Q (.ref l) H'
theorem ay9 (T:Txt K mg t):FnOk P w K mg base CX0 2 t.a__law_said t.fd__law_said ["state"] (bx9 K):=by
 have G__law_take:=ae3 (P:=P) (w:=w) (base:=base) T
 refine T.F__law_said.ok sc_law_said (fun vs H Q E h=>?_) (fun cdv A outer s H vs Q E hr h=>?_)
 · obtain ⟨s0,z,rfl,_⟩:=h
   rfl
 · obtain ⟨s0,z,rfl,hs,q⟩:=h
   refine ⟨_,(@a02 _ _ _ _ _ (@a47 _ _ 1 _ _ _ _ sc_law_said.nd rfl (by walk_at "o") (@a40 _ _ _ _ (@a00 _ _ _ _ _ (@a40 _ _ _ _ (@a01 _)) (@a00 _ _ _ _ _ (@a40 _ _ _ _ (@a00 _ _ _ _ _ (@a62 _ _ _ _) (@a01 _) (by rfl))) (@a00 _ _ _ _ _ (@a40 _ _ _ _ (@a00 _ _ _ _ _ (@a62 _ _ _ _) (@a01 _) (by rfl))) (@a00 _ _ _ _ _ (@a40 _ _ _ _ (@a00 _ _ _ _ _ (@a62 _ _ _ _) (@a01 _) (by rfl))) (@a00 _ _ _ _ _ (@a40 _ _ _ _ (@a00 _ _ _ _ _ (@a62 _ _ _ _) (@a00 _ _ _ _ _ (@a62 _ _ _ _) (@a01 _) (by rfl)) (by rfl))) (@a00 _ _ _ _ _ (@a40 _ _ _ _ (@a00 _ _ _ _ _ (@a62 _ _ _ _) (@a00 _ _ _ _ _ (@a62 _ _ _ _) (@a01 _) (by rfl)) (by rfl))) (@a00 _ _ _ _ _ (@a40 _ _ _ _ (@a00 _ _ _ _ _ (@a62 _ _ _ _) (@a00 _ _ _ _ _ (@a62 _ _ _ _) (@a00 _ _ _ _ _ (@a62 _ _ _ _) (@a01 _) (by rfl)) (by rfl)) (by rfl))) (@a00 _ _ _ _ _ (@a40 _ _ _ _ (@a00 _ _ _ _ _ (@a62 _ _ _ _) (@a00 _ _ _ _ _ (@a62 _ _ _ _) (@a01 _) (by rfl)) (by rfl))) (@a01 _) (by rfl)) (by rfl)) (by rfl)) (by rfl)) (by rfl)) (by rfl)) (by rfl)) (by rfl))) (by rfl) (by walk_at "o"))
    (@a02 _ _ _ _ _ (@a47 _ _ 1 _ _ _ _ sc_law_said.nd rfl (by walk_at "o") (@a80 _ _ _ _ _ _ _ _ a78 (pv 1) (@a40 _ _ _ _ (@a00 _ _ _ _ _ (@a40 _ _ _ _ (@a00 _ _ _ _ _ (@a62 _ _ _ _) (@a01 _) (by rfl))) (@a00 _ _ _ _ _ (@a40 _ _ _ _ (@a00 _ _ _ _ _ (@a62 _ _ _ _) (@a00 _ _ _ _ _ (@a62 _ _ _ _) (@a00 _ _ _ _ _ (@a62 _ _ _ _) (@a00 _ _ _ _ _ (@a62 _ _ _ _) (@a01 _) (by rfl)) (by rfl)) (by rfl)) (by rfl))) (@a00 _ _ _ _ _ (@a40 _ _ _ _ (@a00 _ _ _ _ _ (@a62 _ _ _ _) (@a00 _ _ _ _ _ (@a62 _ _ _ _) (@a01 _) (by rfl)) (by rfl))) (@a00 _ _ _ _ _ (@a40 _ _ _ _ (@a01 _)) (@a01 _) (by rfl)) (by rfl)) (by rfl)) (by rfl)))) (by rfl) (by walk_at "o"))
    (@a09 _ _ _ (@a53 _ _ _ _ (@a46 _ _ _ _ _ _ _ _ _ (aa0 K) (by rfl) T.z_list aa6 (@a00 _ _ _ _ _ (@a49 _ _ _ _ _ _ _ (a42 K) (pv 1) (@a38 _ _ _ _ _ _ _ _ _ _ _ _ _ _ _ _ G__law_take (hr.mono (by omega)) rfl T.m__law_take T.F__law_take.kp T.b__law_take .nil a52 (@a00 _ _ _ _ _ (pv 0) (@a00 _ _ _ _ _ (@a05 _ _ _ _) (@a01 _) (by rfl)) (by rfl)) (by decide) (by rfl) (by rfl)) (fun _ _=>rfl)) (@a01 _) (by rfl)) (by decide) (by decide) (by rfl) (by rfl)))))),?_⟩
   have sl:(1000000:Nat)≤sizeLine:=le_line (Nat.le_refl _)
   walk_at "go"
   intro a0 H1 f0 s0' e0
   walk_at "run"
   intro a1 H2 f1 s1 e1
   walk_at "run"
   intro a2 H3 f2 s2 e2
   walk_at "run"
   intro a3 H4 f3 s3 e3
   walk_at "run"
   intro a4 H5 f4 s4 e4
   walk_at "run"
   intro a5 H6 f5 s5 e5
   walk_at "run"
   intro a6 H7 f6 s6 e6
   walk_at "run"
   intro a7 H8 f7 s7 e7
   have T8:TxtsAt H8 [a0,a1,a2,a3,a4,a5,a6,a7] [[],["a"],["0:go"],["1:yes"],["2:no","b"],["0:yes","1:go"],["1:go","1:no","1:yes"],["b","3:go"]] :=
    ((((((((show TxtsAt H [] [] from Each.nil).add s0' e0).add s1 e1).add s2 e2).add s3 e3).add s4 e4).add s5 e5).add s6 e6).add s7 e7
   have s08:Same H H8:=s0'.trans (s1.trans (s2.trans (s3.trans (s4.trans (s5.trans (s6.trans s7))))))
   clear e0 e1 e2 e3 e4 e5 e6 e7 f0 f1 f2 f3 f4 f5 f6 f7 s0' s1 s2 s3 s4 s5 s6 s7
   walk_at "run"
   intro b0 H9 g0 r0 e0
   walk_at "run"
   intro b1 H10 g1 r1 e1
   walk_at "run"
   intro b2 H11 g2 r2 e2
   walk_at "run"
   intro b3 H12 g3 r3 e3
   walk_at "run"
   intro b4 H13 g4 r4 e4
   walk_at "run"
   intro b5 H14 g5 r5 e5
   walk_at "run"
   refine ap1 ((r1.trans (r2.trans (r3.trans (r4.trans r5)))) _ _ e0) e5 (le_line (by simp)) ?_
   intro b6 H15 g6 r6 e6
   walk_at "run"
   have T15:TxtsAt H15 [a0,a1,a2,a3,a4,a5,a6,a7,b1,b2,b3,b4] saidT:=(((((T8.same r0).add r1 e1).add r2 e2).add r3 e3).add r4 e4).same (r5.trans r6)
   have s015:Same H H15:=s08.trans (r0.trans (r1.trans (r2.trans (r3.trans (r4.trans (r5.trans r6))))))
   have k15:=hs.same s015
   have nb6:b6≠s0:=(hs.same (s08.trans (r0.trans (r1.trans (r2.trans (r3.trans (r4.trans r5))))))).ne g6
   clear e0 e1 e2 e3 e4 e5 T8
   refine ⟨s0,z,12,rfl,k15,by decide,by decide,fun r H16 hr o16 k16=>?_⟩
   walk_at "run"
   have e16:=o16 _ _ nb6 e6
   have hrl:r<saids.length:=hr
   have hT:saidT[r]?=some (saids[r].map sayT):=by rw [← bx7,List.getElem?_map,List.getElem?_eq_getElem hrl]; rfl
   obtain ⟨av,hav,hat⟩:=Each.get T15 hT
   have hat16:=o16 _ _ (k15.not_str hat) hat
   refine a99 (SqL.of e16) (a07 (j:=r) (v:=.ref av) (by
    have h:=congrArg (Option.map V.ref) hav
    rw [← List.getElem?_map] at h
    exact h)) ?_
   walk_at "run"
   refine ab7 (SqL.of hat16) ?_
   intro p17 H17 f17 s17 e17
   exact q p17 _ H17 (((ab3 s015).trans o16).trans (ab3 s17)) (k16.same s17) (((ab3 s015).trans o16).free k16 f17) e17 (bo8 _ (List.getElem_mem hrl))
theorem cc9 {ks:List Nat}{ws:List Str}(h1:ks.Nodup) (h2:ws.Nodup):([Ev.quiet]++ks.map Ev.key++ws.map Ev.word).Nodup:=by
 have i1:(ks.map Ev.key).Nodup:=List.Pairwise.map _ (fun a b hab z=>hab (by injection z)) h1
 have i2:(ws.map Ev.word).Nodup:=List.Pairwise.map _ (fun a b hab z=>hab (by injection z)) h2
 unfold List.Nodup at *
 rw [List.pairwise_append,List.pairwise_append]
 refine ⟨⟨by simp,i1,?_⟩,i2,?_⟩
 · intro a ha b hb z
   obtain ⟨k,_,rfl⟩:=List.mem_map.mp hb
   rw [List.mem_singleton.mp ha] at z
   cases z
 · intro a ha b hb z
   obtain ⟨k,_,rfl⟩:=List.mem_map.mp hb
   rcases List.mem_append.mp ha with ha | ha
   · rw [List.mem_singleton.mp ha] at z
     cases z
   · obtain ⟨k',_,rfl⟩:=List.mem_map.mp ha
     cases z
theorem natsV_get {ks:List Nat}{j:Nat}{v:V}(h:(natsV ks)[j]?=some v):∃ k,ks[j]?=some k∧v=.int (k:Nat):=by
 simp only [natsV,List.getElem?_map] at h
 obtain ⟨k,h1,h2⟩:=Option.map_eq_some_iff.mp h
 exact ⟨k,h1,h2.symm⟩
theorem of4 {r:Nat}{a b c d:Addr}(h:r<4):∃ x:Addr,atI [V.ref a,.ref b,.ref c,.ref d] (r:Nat)=some (.ref x)∧(x=a∨x=b∨x=c∨x=d):=by
 have:r=0∨r=1∨r=2∨r=3:=by omega
 rcases this with rfl | rfl | rfl | rfl
 · exact ⟨a,a07 rfl,by simp⟩
 · exact ⟨b,a07 rfl,by simp⟩
 · exact ⟨c,a07 rfl,by simp⟩
 · exact ⟨d,a07 rfl,by simp⟩
def TabW (H:Hp) (v:V) (x:Tab):Prop:=∃ a b c gs,TabAt H v a b c x.es (x.sy.map sayT) (x.rs.map roomS) gs
theorem TabW.same {H H':Hp}{v:V}{x:Tab}(h:TabW H v x) (s:Same H H'):TabW H' v x:=by
 obtain ⟨a,b,c,gs,h⟩:=h
 obtain ⟨t,us,rvs,h1,h2,h3,h4,h5,h6,h7⟩:=h.ex
 exact ⟨a,b,c,gs,⟨t,us,rvs,h1,s _ _ h2,s _ _ h3,h4.same s,s _ _ h5,s _ _ h6,h7.same s⟩⟩
def RowsOk (es:List Ev) (m:Nat) (rows:List SRow):Prop:=rows.length=es.length∧∀ x∈rows,x.2<m∧SaysOk x.1
theorem aj9 {s:Addr}{H H':Hp}{z:Int}{gs:List Addr}(o:Oth s H H') (k:StA H s z) (h:∀ x∈gs,x≠s):Keep gs H H':=⟨o.tups k,fun a ha xs e=>o a _ (h a ha) e⟩
def bo9 (K:PySem.W.Frag):Sp:=fun vs H Q _=>∃ (c m:Int),vs=[.int c,.int m]∧∀ v x H',Same H H'→TabW H' v x→TOk x→Q v H'
theorem av4 (T:Txt K mg t):FnOk P w K mg base CX0 3 t.a__law_table t.fd__law_table ["cell","mixed"] (bo9 K):=by
 have G__law_said:=ay9 (P:=P) (w:=w) (base:=base) T
 have G__law_take:=ae3 (P:=P) (w:=w) (base:=base) T
 refine T.F__law_table.ok sc_law_table (fun vs H Q E h=>?_) (fun cdv A outer s H vs Q E hr h=>?_)
 · obtain ⟨c,m,rfl,_⟩:=h
   rfl
 · obtain ⟨c,m,rfl,q⟩:=h
   refine ⟨_,(@a02 _ _ _ _ _ (@a47 _ _ 2 _ _ _ _ sc_law_table.nd rfl (by walk_at "o") (@a40 _ _ _ _ (@a00 _ _ _ _ _ (pv 0) (@a00 _ _ _ _ _ (pv 1) (@a01 _) (by rfl)) (by rfl))) (by rfl) (by walk_at "o"))
    (@a02 _ _ _ _ _ (@a47 _ _ 3 _ _ _ _ sc_law_table.nd rfl (by walk_at "o") (@a49 _ _ _ _ _ _ _ (a42 K) (@a40 _ _ _ _ (@a00 _ _ _ _ _ (@a40 _ _ _ _ (@a01 _)) (@a00 _ _ _ _ _ (@a40 _ _ _ _ (@a00 _ _ _ _ _ (@a05 _ _ _ _) (@a01 _) (by rfl))) (@a00 _ _ _ _ _ (@a40 _ _ _ _ (@a00 _ _ _ _ _ (@a05 _ _ _ _) (@a01 _) (by rfl))) (@a00 _ _ _ _ _ (@a40 _ _ _ _ (@a00 _ _ _ _ _ (@a05 _ _ _ _) (@a00 _ _ _ _ _ (@a05 _ _ _ _) (@a01 _) (by rfl)) (by rfl))) (@a01 _) (by rfl)) (by rfl)) (by rfl)) (by rfl))) (@a38 _ _ _ _ _ _ _ _ _ _ _ _ _ _ _ _ G__law_take (hr.mono (by omega)) rfl T.m__law_take T.F__law_take.kp T.b__law_take .nil a52 (@a00 _ _ _ _ _ (pv 2) (@a00 _ _ _ _ _ (@a05 _ _ _ _) (@a01 _) (by rfl)) (by rfl)) (by decide) (by rfl) (by rfl)) (fun _ _=>rfl)) (by rfl) (by walk_at "o"))
    (@a02 _ _ _ _ _ (@a47 _ _ 4 _ _ _ _ sc_law_table.nd rfl (by walk_at "o") (@a49 _ _ _ _ _ _ _ (a42 K) (@a40 _ _ _ _ (@a00 _ _ _ _ _ (@a40 _ _ _ _ (@a01 _)) (@a00 _ _ _ _ _ (@a40 _ _ _ _ (@a00 _ _ _ _ _ (@a62 _ _ _ _) (@a01 _) (by rfl))) (@a00 _ _ _ _ _ (@a40 _ _ _ _ (@a00 _ _ _ _ _ (@a62 _ _ _ _) (@a00 _ _ _ _ _ (@a62 _ _ _ _) (@a01 _) (by rfl)) (by rfl))) (@a00 _ _ _ _ _ (@a40 _ _ _ _ (@a00 _ _ _ _ _ (@a62 _ _ _ _) (@a00 _ _ _ _ _ (@a62 _ _ _ _) (@a00 _ _ _ _ _ (@a62 _ _ _ _) (@a01 _) (by rfl)) (by rfl)) (by rfl))) (@a01 _) (by rfl)) (by rfl)) (by rfl)) (by rfl))) (@a38 _ _ _ _ _ _ _ _ _ _ _ _ _ _ _ _ G__law_take (hr.mono (by omega)) rfl T.m__law_take T.F__law_take.kp T.b__law_take .nil a52 (@a00 _ _ _ _ _ (pv 2) (@a00 _ _ _ _ _ (@a05 _ _ _ _) (@a01 _) (by rfl)) (by rfl)) (by decide) (by rfl) (by rfl)) (fun _ _=>rfl)) (by rfl) (by walk_at "o"))
    (@a02 _ _ _ _ _ (@a47 _ _ 5 _ _ _ _ sc_law_table.nd rfl (by walk_at "o") (@a80 _ _ _ _ _ _ _ _ a78 (@a80 _ _ _ _ _ _ _ _ a78 (@a40 _ _ _ _ (@a00 _ _ _ _ _ (@a57 _ _ _ _ _ (@a00 _ _ _ _ _ (@a62 _ _ _ _) (@a01 _) (by rfl))) (@a01 _) (by rfl))) (ag8 (Nt:=["key"]) (Nf:=[]) (caps:=[]) rfl (a90 (sc:=defScope a56) rfl rfl (by decide +kernel) (by decide +kernel) (by decide +kernel) rfl (by decide +kernel)) (a60 K (pv 3)) (fun _ _ _ _ _=>(a36 (i:=0) (show (["key"]:List Str).Nodup by decide +kernel) rfl (by walk_at "o"))) (fun _ _ _ _ _=>(@a91 _)) (fun _ _ _ _ _=>(@a57 _ _ _ _ _ (@a00 _ _ _ _ _ (@a62 _ _ _ _) (@a00 _ _ _ _ _ (pv 0) (@a01 _) (by rfl)) (by rfl)))))) (ag8 (Nt:=["word"]) (Nf:=[]) (caps:=[]) rfl (a90 (sc:=defScope a56) rfl rfl (by decide +kernel) (by decide +kernel) (by decide +kernel) rfl (by decide +kernel)) (a60 K (pv 4)) (fun _ _ _ _ _=>(a36 (i:=0) (show (["word"]:List Str).Nodup by decide +kernel) rfl (by walk_at "o"))) (fun _ _ _ _ _=>(@a91 _)) (fun _ _ _ _ _=>(@a57 _ _ _ _ _ (@a00 _ _ _ _ _ (@a62 _ _ _ _) (@a00 _ _ _ _ _ (pv 0) (@a01 _) (by rfl)) (by rfl)))))) (by rfl) (by walk_at "o"))
    (@a02 _ _ _ _ _ (@a47 _ _ 6 _ _ _ _ sc_law_table.nd rfl (by walk_at "o") (@a80 _ _ _ _ _ _ _ _ a78 (@a05 _ _ _ _) (@a38 _ _ _ _ _ _ _ _ _ _ _ _ _ _ _ _ G__law_take (hr.mono (by omega)) rfl T.m__law_take T.F__law_take.kp T.b__law_take .nil a52 (@a00 _ _ _ _ _ (pv 2) (@a00 _ _ _ _ _ (@a05 _ _ _ _) (@a01 _) (by rfl)) (by rfl)) (by decide) (by rfl) (by rfl))) (by rfl) (by walk_at "o"))
    (@a02 _ _ _ _ _ (@a47 _ _ 7 _ _ _ _ sc_law_table.nd rfl (by walk_at "o") (@a38 _ _ _ _ _ _ _ _ _ _ _ _ _ _ _ _ G__law_said (hr.mono (by omega)) rfl T.m__law_said T.F__law_said.kp T.b__law_said .nil a52 (@a00 _ _ _ _ _ (pv 2) (@a01 _) (by rfl)) (by decide) (by rfl) (by rfl)) (by rfl) (by walk_at "o"))
    (@a02 _ _ _ _ _ (@a47 _ _ 8 _ _ _ _ sc_law_table.nd rfl (by walk_at "o") (@a40 _ _ _ _ (@a01 _)) (by rfl) (by walk_at "o"))
    (@a02 _ _ _ _ _ (@aa3 _ _ _ _ _ _ _ _ PassesOwn.never rfl (ak1 rfl T.z_range (@a00 _ _ _ _ _ (pv 6) (@a01 _) (by rfl))) (a36 (i:=9) sc_law_table.nd rfl (by walk_at "o")) (@a09 _ _ _ (@ai7 _ _ _ _ _ _ _ _ (@a83 _ _ _ _ _ _ _ _ bh4 (@a38 _ _ _ _ _ _ _ _ _ _ _ _ _ _ _ _ G__law_take (hr.mono (by omega)) rfl T.m__law_take T.F__law_take.kp T.b__law_take .nil a52 (@a00 _ _ _ _ _ (pv 2) (@a00 _ _ _ _ _ (@a05 _ _ _ _) (@a01 _) (by rfl)) (by rfl)) (by decide) (by rfl) (by rfl)) (@a05 _ _ _ _) (nomark _)) (@a09 _ _ _ (@aa1 _ _ _ _ (@ac4 _ K _ _ _ _ _ _ _ _ _ _ _ PySem.F.plainAttrs_list PySem.F.slot_list_append PySem.F.type_list_append aa4 (pv 8) (@a00 _ _ _ _ _ (@a57 _ _ _ _ _ (@a00 _ _ _ _ _ (@b39 _ _ _ _) (@a00 _ _ _ _ _ (ag8 (Nt:=["event"]) (Nf:=["k"]) (caps:=[9]) rfl (a90 (sc:=defScope a56) rfl rfl (by decide +kernel) (by decide +kernel) (by decide +kernel) rfl (by decide +kernel)) (a60 K (pv 5)) (fun _ _ _ _ _=>(a36 (i:=0) (show (["event","k"]:List Str).Nodup by decide +kernel) rfl (by walk_at "o"))) (fun _ _ _ _ _=>(@a91 _)) (fun _ _ _ _ _=>(@a57 _ _ _ _ _ (@a00 _ _ _ _ _ (@a40 _ _ _ _ (@a01 _)) (@a00 _ _ _ _ _ (pv 1) (@a01 _) (by rfl)) (by rfl))))) (@a01 _) (by rfl)) (by rfl))) (@a01 _) (by rfl)) (by rfl) (by rfl) (by rfl) (by rfl) (by rfl) (by rfl)) (by rfl))) (@a09 _ _ _ (@aa1 _ _ _ _ (@ac4 _ K _ _ _ _ _ _ _ _ _ _ _ PySem.F.plainAttrs_list PySem.F.slot_list_append PySem.F.type_list_append aa4 (pv 8) (@a00 _ _ _ _ _ (@a57 _ _ _ _ _ (@a00 _ _ _ _ _ (@b39 _ _ _ _) (@a00 _ _ _ _ _ (ag8 (Nt:=["event"]) (Nf:=["state","many"]) (caps:=[2,6]) rfl (a90 (sc:=defScope a56) rfl rfl (by decide +kernel) (by decide +kernel) (by decide +kernel) rfl (by decide +kernel)) (a60 K (pv 5)) (fun _ _ _ _ _=>(a36 (i:=0) (show (["event","state","many"]:List Str).Nodup by decide +kernel) rfl (by walk_at "o"))) (fun _ _ _ _ _=>(@a91 _)) (fun _ _ _ _ _=>(@a57 _ _ _ _ _ (@a00 _ _ _ _ _ (@a38 _ _ _ _ _ _ _ _ _ _ _ _ _ _ _ _ G__law_said (hr.mono (by omega)) rfl T.m__law_said T.F__law_said.kp T.b__law_said .nil a52 (@a00 _ _ _ _ _ (pv 1) (@a01 _) (by rfl)) (by decide) (by rfl) (by rfl)) (@a00 _ _ _ _ _ (@a38 _ _ _ _ _ _ _ _ _ _ _ _ _ _ _ _ G__law_take (hr.mono (by omega)) rfl T.m__law_take T.F__law_take.kp T.b__law_take .nil a52 (@a00 _ _ _ _ _ (pv 1) (@a00 _ _ _ _ _ (pv 2) (@a01 _) (by rfl)) (by rfl)) (by decide) (by rfl) (by rfl)) (@a01 _) (by rfl)) (by rfl))))) (@a01 _) (by rfl)) (by rfl))) (@a01 _) (by rfl)) (by rfl) (by rfl) (by rfl) (by rfl) (by rfl) (by rfl)) (by rfl))))) (by intro _; rfl))
    (@a09 _ _ _ (@a53 _ _ _ _ (@a57 _ _ _ _ _ (@a00 _ _ _ _ _ (pv 5) (@a00 _ _ _ _ _ (pv 7) (@a00 _ _ _ _ _ (pv 8) (@a01 _) (by rfl)) (by rfl)) (by rfl))))))))))))),?_⟩
   generalize hTL:(tFor _ _ _:TS)=TL
   revert hTL
   revert TL
   refine keepE ?_
   intro TL hTL
   walk_at "go"
   intro s0 HA fA sA eA
   have k:StA HA s0 m:=⟨c,eA⟩
   walk_at "run"
   intro pa H1 f1 s1 e1
   walk_at "run"
   intro pb H2 f2 s2 e2
   walk_at "run"
   intro pc H3 f3 s3 e3
   walk_at "run"
   intro pd H4 f4 s4 e4
   walk_at "run"
   intro pe H5 f5 s5 e5
   walk_at "run"
   have s05:=s1.trans (s2.trans (s3.trans (s4.trans s5)))
   have k5:=k.same s05
   refine ⟨s0,m,4,rfl,k5,by decide,by decide,fun r H6 hr o6 k6=>?_⟩
   walk_at "run"
   obtain ⟨pk,hpk,hor⟩:=of4 (a:=pa) (b:=pb) (c:=pc) (d:=pd) hr
   refine a99 (SqL.of (o6 _ _ (k.ne ((s1.trans (s2.trans (s3.trans s4))).free f5)) e5)) hpk ?_
   walk_at "run"
   obtain ⟨ks,hk6,hknd,kl,hpks⟩:∃ ks:List Nat,H6 pk=some (.lst (natsV ks))∧ks.Nodup∧ks.length≤10∧pk≠s0:=by
    rcases hor with rfl | rfl | rfl | rfl
    · exact ⟨[],o6 _ _ (k.ne f1) ((s2.trans (s3.trans (s4.trans s5))) _ _ e1),by simp,by simp,k.ne f1⟩
    · exact ⟨[0],o6 _ _ (k.ne (s1.free f2)) ((s3.trans (s4.trans s5)) _ _ e2),by simp,by simp,k.ne (s1.free f2)⟩
    · exact ⟨[4],o6 _ _ (k.ne ((s1.trans s2).free f3)) ((s4.trans s5) _ _ e3),by simp,by simp,k.ne ((s1.trans s2).free f3)⟩
    · exact ⟨[2,9],o6 _ _ (k.ne ((s1.trans (s2.trans s3)).free f4)) (s5 _ _ e4),by simp,by simp,k.ne ((s1.trans (s2.trans s3)).free f4)⟩
   have oA:Oth s0 HA H6:=(ab3 s05).trans o6
   clear hor hpk o6 e1 e2 e3 e4 e5 f1 f2 f3 f4 f5 s1 s2 s3 s4 s5 s05 k5
   intro pa H1 f1 s1 e1
   walk_at "run"
   intro pb H2 f2 s2 e2
   walk_at "run"
   intro pc H3 f3 s3 e3
   walk_at "run"
   intro pd H4 f4 s4 e4
   walk_at "run"
   intro pe H5 f5 s5 e5
   walk_at "run"
   have s05:=s1.trans (s2.trans (s3.trans (s4.trans s5)))
   have k5:=k6.same s05
   refine ⟨s0,m,4,rfl,k5,by decide,by decide,fun r2 H7 hr2 o7 k7=>?_⟩
   walk_at "run"
   obtain ⟨pw,hpw,hor⟩:=of4 (a:=pa) (b:=pb) (c:=pc) (d:=pd) hr2
   refine a99 (SqL.of (o7 _ _ (k6.ne ((s1.trans (s2.trans (s3.trans s4))).free f5)) e5)) hpw ?_
   walk_at "run"
   obtain ⟨ws,e4',hwnd,wl⟩:∃ ws:List Str,H7 pw=some (.lst (strsV ws))∧ws.Nodup∧ws.length≤4:=by
    rcases hor with rfl | rfl | rfl | rfl
    · exact ⟨[],o7 _ _ (k6.ne f1) ((s2.trans (s3.trans (s4.trans s5))) _ _ e1),by simp,by simp⟩
    · exact ⟨["go"],o7 _ _ (k6.ne (s1.free f2)) ((s3.trans (s4.trans s5)) _ _ e2),by simp,by simp⟩
    · exact ⟨["yes","no"],o7 _ _ (k6.ne ((s1.trans s2).free f3)) ((s4.trans s5) _ _ e3),by decide +kernel,by simp⟩
    · exact ⟨["go","yes","no"],o7 _ _ (k6.ne ((s1.trans (s2.trans s3)).free f4)) (s5 _ _ e4),by decide +kernel,by simp⟩
   have oB:Oth s0 HA H7:=oA.trans ((ab3 s05).trans o7)
   have e14:H7 pk=some (.lst (natsV ks)):=o7 _ _ hpks (s05 _ _ hk6)
   clear hor hpw o7 e1 e2 e3 e4 e5 f1 f2 f3 f4 f5 s1 s2 s3 s4 s5 s05 k5 k6 hk6
   intro p5 H5 f5 s5 e5
   walk_at "run"
   intro p6 H6 f6 s6 e6
   walk_at "run"
   have s46:=s5.trans s6
   refine ⟨⟨_,SqL.of (s46 _ _ e14)⟩,ac9 (xs:=natsV ks) (le_line (by rw [a69]; omega)) (fun i acc H'=>i≤ks.length∧acc.length=i∧Same H6 H'∧Tr.Ats H' (((ks.take i).map Ev.key).map Ev.tr) acc []) ⟨Nat.zero_le _,rfl,Same.refl _,ats_nil0.mpr rfl⟩ (fun i acc H' ⟨_,e,s',_⟩=>⟨by omega,SqL.of ((s46.trans s') _ _ e14)⟩) ?_ ?_⟩
   · rintro i x acc H' hx ⟨hi,ea,s',hat⟩
     obtain ⟨k0,hk0,rfl⟩:=natsV_get hx
     walk_at "run"
     intro p7 H7 f7 s7 e7
     refine ⟨(List.getElem?_eq_some_iff.mp hk0).1,by simp [ea],s'.trans s7,?_⟩
     rw [List.take_add_one,hk0,show ks.take i++(some k0).toList=ks.take i++[k0] from rfl,List.map_append,List.map_append]
     exact ats_app0.mpr ⟨_,_,rfl,hat.same s7,ats_cons0.mpr ⟨_,_,rfl,ap3 e7 str_at0 az6,ats_nil0.mpr rfl⟩⟩
   rintro acc H' ⟨_,ea,s',hat⟩ p8 H8 f8 s8 e8
   rw [a69,List.take_length] at hat
   have al:acc.length≤10:=by rw [ea,a69]; exact kl
   walk_at "run"
   refine ap1 ((s'.trans s8) _ _ e6) e8 (le_line (by simp; omega)) ?_
   intro p9 H9 f9 s9 e9
   walk_at "run"
   have s49:=s46.trans (s'.trans (s8.trans s9))
   refine ⟨⟨_,SqL.of (s49 _ _ e4')⟩,ac9 (xs:=strsV ws) (le_line (by simp [strsV]; omega)) (fun i acc H'=>i≤ws.length∧acc.length=i∧Same H9 H'∧Tr.Ats H' (((ws.take i).map Ev.word).map Ev.tr) acc []) ⟨Nat.zero_le _,rfl,Same.refl _,ats_nil0.mpr rfl⟩ (fun i acc H' ⟨_,e,s',_⟩=>⟨by omega,SqL.of ((s49.trans s') _ _ e4')⟩) ?_ ?_⟩
   · rintro i x acc H' hx ⟨hi,ea,s',hat⟩
     obtain ⟨k0,hk0,rfl⟩:=al4 hx
     walk_at "run"
     intro p7 H7 f7 s7 e7
     refine ⟨(List.getElem?_eq_some_iff.mp hk0).1,by simp [ea],s'.trans s7,?_⟩
     rw [List.take_add_one,hk0,show ws.take i++(some k0).toList=ws.take i++[k0] from rfl,List.map_append,List.map_append]
     exact ats_app0.mpr ⟨_,_,rfl,hat.same s7,ats_cons0.mpr ⟨_,_,rfl,ap3 e7 str_at0 str_at0,ats_nil0.mpr rfl⟩⟩
   rintro acc2 H10 ⟨_,ea2,s10,hat2⟩ p11 H11 f11 s11 e11
   rw [show (strsV ws).length=ws.length by simp [strsV],List.take_length] at hat2
   have al2:acc2.length≤4:=by rw [ea2]; simp [strsV]; omega
   walk_at "run"
   have s911:=s10.trans s11
   refine ap1 (s911 _ _ e9) e11 (le_line (by simp; omega)) ?_
   intro p12 H12 f12 s12 e12
   walk_at "run"
   have s412:=s49.trans (s911.trans s12)
   have hu:Tr.Ats H12 (([Ev.quiet]++ks.map Ev.key++ws.map Ev.word).map Ev.tr) ([V.ref p5]++acc++acc2) []:=by
    rw [List.map_append,List.map_append]
    refine ats_app0.mpr ⟨_,_,rfl,ats_app0.mpr ⟨_,_,rfl,ats_cons0.mpr ⟨_,_,rfl,?_,ats_nil0.mpr rfl⟩,hat.same (s8.trans (s9.trans (s911.trans s12)))⟩,hat2.same (s11.trans s12)⟩
    exact at_tup0.mpr ⟨p5,_,rfl,(s6.trans (s'.trans (s8.trans (s9.trans (s911.trans s12))))) _ _ e5,ats_cons0.mpr ⟨_,_,rfl,str_at0,ats_nil0.mpr rfl⟩⟩
   have hnd:=cc9 hknd hwnd
   have hel:([Ev.quiet]++ks.map Ev.key++ws.map Ev.word).length≤15:=by simp; omega
   have hep:0<([Ev.quiet]++ks.map Ev.key++ws.map Ev.word).length:=by simp
   have e12':H12 p12=some (.lst ([V.ref p5]++acc++acc2)):=e12
   have k12:=k7.same s412
   have o12:=oB.trans (ab3 s412)
   have ne12:p12≠s0:=(k7.same (s49.trans s911)).ne f12
   generalize [Ev.quiet]++ks.map Ev.key++ws.map Ev.word=es at hu hnd hel hep
   generalize [V.ref p5]++acc++acc2=us at hu e12'
   clear e12 hat hat2 e4' e14 e5 e6 e8 e9 e11 f5 f6 f8 f9 f11 s5 s6 s' s8 s9 s10 s11 s12 s46 s49 s911 s412 oA oB ea ea2 hwnd hknd k7 f12
   have e1:=e12'
   have k1:=k12
   have o1:=o12
   have pe1:=ne12
   refine ⟨s0,m,4,rfl,k1,by decide,by decide,fun r H2 hr o2 k2=>?_⟩
   walk_at "run"
   refine ⟨s0,m,rfl,k2,fun pb sy H3 o3 k3 f3 e3 hsy=>?_⟩
   walk_at "run"
   intro pc H4 f4 s4 e4
   walk_at "run"
   subst hTL
   walk_at "run"
   rw [show (1+(r:Int)).toNat=r+1 by omega]
   have pb1:pb≠s0:=k2.ne f3
   have pc1:pc≠s0:=k3.ne f4
   have o14:Oth s0 H12 H4:=o2.trans (o3.trans (ab3 s4))
   have e14:=o14 _ _ pe1 e1
   have hu4:=ac5 hu (o14.tups k1)
   have e24:=s4 _ _ e3
   have k4:=k3.same s4
   have ul:us.length=es.length:=by rw [hu.len,List.length_map]
   have hcpe:p12≠pc:=a03 ((o2.trans o3) _ _ pe1 e1) f4
   have hcpb:pb≠pc:=a03 e3 f4
   obtain ⟨Pv,hPv⟩:∃ Pv:Nat→St→Hp→Prop,Pv=(fun i σ H'=>i≤r+1∧∃ (rs:List SRoom) (acc:List V) (gs:List Addr),H' pc=some (.lst acc)∧Tw.Ats H' ((rs.map roomS).map roomW) acc gs∧rs.length=i∧(∀ q∈rs,RowsOk es (r+1) q.2)∧(∀ x∈gs,H4 x=none)∧(∀ x o,x≠s0→x≠pc→H4 x=some o→H' x=some o)∧StA H' s0 m∧∃ y,σ=[some (.int c),some (.int m),some (.ref s0),some (.ref pk),some (.ref pw),some (.ref p12),some (.int (1+(r:Int))),some (.ref pb),some (.ref pc),y]):=⟨_,rfl⟩
   refine ar6 (lo:=0) (n:=r+1) Pv (by rw [hPv]; exact ⟨Nat.zero_le _,[],[],[],e4,by simp [Tw.Ats],rfl,by simp,by simp,fun x o _ _ e=>e,k4,_,rfl⟩) ?_ ?_
   · intro i σ H5 hi hI
     rw [hPv] at hI
     obtain ⟨hi2,rs,acc,gs,hc5,hat5,hrl,hro,hgs,kp5,k5,y,rfl⟩:=hI
     rw [Int.zero_add]
     walk_at "run"
     refine ⟨s0,m,8,rfl,k5,by decide,by decide,fun r6 H6 hr6 o6 k6=>?_⟩
     walk_at "run"
     have hc6:=o6 _ _ pc1 hc5
     have gsn:∀ x∈gs,x≠s0:=fun x hx=>k4.ne (hgs x hx)
     have gsc:∀ x∈gs,x≠pc:=fun x hx z=>by have:=hgs x hx; rw [z,e4] at this; cases this
     have hat6:=hat5.mono (aj9 o6 k5 gsn)
     have kp6:∀ x o,x≠s0→x≠pc→H4 x=some o→H6 x=some o:=fun x o a c e=>o6 x o a (kp5 x o a c e)
     have e16:=kp6 _ _ pe1 hcpe e14
     have al:acc.length=i:=by rw [hat5.len,List.length_map,List.length_map,hrl]
     have fr6:∀ {x:Addr},H6 x=none→H4 x=none:=fun {x} z=>by
      have z1:=k6.ne z
      have z3:x≠pc:=fun q=>by rw [q,hc6] at z; cases z
      cases e:H4 x with
      | none=>rfl
      | some o=>rw [kp6 x o z1 z3 e] at z; cases z
     have fin:∀ (b:Bool) (rows:List SRow) (v:V) (fs2:List Addr) (He:Hp),(roomW (roomS (b,rows))).At He v fs2→(∀ x∈fs2,H6 x=none)→Oth s0 H6 He→StA He s0 m→RowsOk es (r+1) rows →
      He pc=some (.lst acc)∧(i+1≤r+1∧∃ (rs:List SRoom) (acc2:List V) (gs:List Addr),upd He pc (.lst (acc++[v])) pc=some (.lst acc2)∧Tw.Ats (upd He pc (.lst (acc++[v]))) ((rs.map roomS).map roomW) acc2 gs∧rs.length=i+1∧(∀ q∈rs,RowsOk es (r+1) q.2)∧(∀ x∈gs,H4 x=none)∧(∀ x o,x≠s0→x≠pc→H4 x=some o→upd He pc (.lst (acc++[v])) x=some o)∧StA (upd He pc (.lst (acc++[v]))) s0 m):=by
      intro b rows v fs2 He hv hf oE kE hro'
      have hcE:=oE _ _ pc1 hc6
      have fsc:∀ x∈fs2,x≠pc:=fun x hx z=>by have:=hf x hx; rw [z,hc6] at this; cases this
      have tE:Tups He (upd He pc (.lst (acc++[v]))):=Tups.upd hcE
      refine ⟨hcE,hi,rs++[(b,rows)],acc++[v],gs++fs2,a34,?_,by simp [hrl],?_,?_,fun x o a c e=>by rw [a08 c]; exact oE x o a (kp6 x o a c e),?_⟩
      · rw [List.map_append,List.map_append]
        refine Tw.Ats.snoc ((hat6.mono (aj9 oE k6 gsn)).mono ⟨tE,fun a ha xs e=>by rw [a08 (gsc a ha)]; exact e⟩) (hv.mono ⟨tE,fun a ha xs e=>by rw [a08 (fsc a ha)]; exact e⟩)
      · intro q hq
        rcases List.mem_append.mp hq with hq | hq
        · exact hro q hq
        · rw [List.mem_singleton.mp hq]; exact hro'
      · intro x hx
        rcases List.mem_append.mp hx with hx | hx
        · exact hgs x hx
        · exact fr6 (hf x hx)
      · obtain ⟨z,g1⟩:=kE
        exact ⟨z,by rw [a08 pc1.symm]; exact g1⟩
     refine ite2 (fun h0=>?_) (fun h0=>?_)
     · walk_at "run"
       refine ah0 (SqL.of hc6) ?_
       walk_at "run"
       refine ⟨⟨_,SqL.of e16⟩,ac9 (xs:=us) (le_line (by omega)) (fun j acc H'=>j≤es.length∧acc.length=j∧Same H6 H'∧∃ fs,Tw.Ats H' (((List.replicate j (([],i):SRow)).map rowS).map rowW) acc fs∧∀ x∈fs,H6 x=none) ⟨Nat.zero_le _,rfl,Same.refl _,[],by simp [Tw.Ats],by simp⟩ (fun j acc H' ⟨_,e,s',_⟩=>⟨by omega,SqL.of (s' _ _ e16)⟩) ?_ ?_⟩
       · rintro j x acc3 H' hx ⟨hj,ea,s',fs,hat,hfs⟩
         have hj':j<us.length:=(List.getElem?_eq_some_iff.mp hx).1
         walk_at "run"
         intro p7 H7 f7 s7 e7
         walk_at "run"
         intro p8 H8 f8 s8 e8
         refine ⟨by omega,by simp [ea],s'.trans (s7.trans s8),fs++[p7],?_,?_⟩
         · rw [List.replicate_succ',List.map_append,List.map_append]
           exact (hat.same (s7.trans s8)).snoc (row_w.mpr ⟨p8,p7,rfl,e8,s8 _ _ e7,rfl⟩)
         · intro x hx
           rcases List.mem_append.mp hx with hx | hx
           · exact hfs x hx
           · rw [List.mem_singleton.mp hx]; exact s'.free f7
       · rintro acc3 H7 ⟨_,ea,s7,fs,hat,hfs⟩ p8 H8 f8 s8 e8
         rw [ul] at hat
         walk_at "run"
         intro p9 H9 f9 s9 e9
         walk_at "run"
         have s69:=s7.trans (s8.trans s9)
         obtain ⟨g1,g2⟩:=fin true (List.replicate es.length ([],i)) (.ref p9) (p8::fs) H9 (room_w.mpr ⟨p9,p8,acc3,fs,rfl,e9,s9 _ _ e8,hat.same (s8.trans s9),rfl⟩) (fun x hx=>by
          rcases List.mem_cons.mp hx with rfl | hx
          · exact s7.free f8
          · exact hfs x hx) (ab3 s69) (k6.same s69) ⟨by simp,fun x hx=>by
          rw [(List.mem_replicate.mp hx).2]
          exact ⟨hi,⟨by simp,by simp,List.mem_cons_self⟩⟩⟩
         refine ab9 g1 (Nat.lt_of_lt_of_le (show acc.length<1000000 by omega) (le_line (Nat.le_refl _))) ?_
         obtain ⟨x1,rs2,a2,gs2,x2,x3,x4,x5,x6,x7,x8⟩:=g2
         rw [hPv]
         exact ⟨x1,rs2,a2,gs2,x2,x3,x4,x5,x6,x7,x8,_,rfl⟩
     · walk_at "run"
       refine ah0 (SqL.of hc6) ?_
       walk_at "run"
       refine ⟨⟨_,SqL.of e16⟩,ac9 (xs:=us) (le_line (by omega)) (fun j acc H'=>j≤es.length∧acc.length=j∧Oth s0 H6 H'∧∃ (rows:List SRow) (fs:List Addr),rows.length=j∧(∀ x∈rows,x.2<r+1∧SaysOk x.1)∧Tw.Ats H' ((rows.map rowS).map rowW) acc fs∧(∀ x∈fs,H6 x=none)∧StA H' s0 m) ⟨Nat.zero_le _,rfl,Oth.refl,[],[],rfl,by simp,by simp [Tw.Ats],by simp,k6⟩ (fun j acc H' ⟨_,e,o',_⟩=>⟨by omega,SqL.of (o' _ _ pe1 e16)⟩) ?_ ?_⟩
       · rintro j x acc3 H' hx ⟨hj,ea,o',rows,fs,hrw,hok,hat,hfs,k'⟩
         have hj':j<us.length:=(List.getElem?_eq_some_iff.mp hx).1
         walk_at "run"
         refine ⟨s0,m,rfl,k',fun p7 ss H7 o7 k7 f7 e7 hss=>?_⟩
         walk_at "run"
         rw [show (1+(r:Int))=((r+1:Nat):Int) by omega]
         refine ⟨s0,m,r+1,rfl,k7,by omega,by omega,fun w8 H8 hw8 o8 k8=>?_⟩
         walk_at "run"
         intro p9 H9 f9 s9 e9
         have z1:=k'.ne f7
         have fsn:∀ x∈fs,x≠s0:=fun x hx=>k6.ne (hfs x hx)
         refine ⟨by omega,by simp [ea],o'.trans (o7.trans (o8.trans (ab3 s9))),rows++[(ss,w8)],fs++[p7],by simp [hrw],?_,?_,?_,k8.same s9⟩
         · intro x hx
           rcases List.mem_append.mp hx with hx | hx
           · exact hok x hx
           · rw [List.mem_singleton.mp hx]; exact ⟨hw8,hss⟩
         · rw [List.map_append,List.map_append]
           refine Tw.Ats.snoc (hat.mono ((aj9 o7 k' fsn).trans ((aj9 o8 k7 fsn).trans (s9.keep _)))) (row_w.mpr ⟨p9,p7,rfl,e9,s9 _ _ (o8 _ _ z1 e7),rfl⟩)
         · intro x hx
           rcases List.mem_append.mp hx with hx | hx
           · exact hfs x hx
           · rw [List.mem_singleton.mp hx]; exact o'.free k' f7
       · rintro acc3 H7 ⟨_,ea,o7,rows,fs,hrw,hok,hat,hfs,k7⟩ p8 H8 f8 s8 e8
         walk_at "run"
         intro p9 H9 f9 s9 e9
         walk_at "run"
         obtain ⟨g1,g2⟩:=fin false rows (.ref p9) (p8::fs) H9 (room_w.mpr ⟨p9,p8,acc3,fs,rfl,e9,s9 _ _ e8,hat.same (s8.trans s9),rfl⟩) (fun x hx=>by
          rcases List.mem_cons.mp hx with rfl | hx
          · exact o7.free k7 f8
          · exact hfs x hx) (o7.trans (ab3 (s8.trans s9))) (k7.same (s8.trans s9)) ⟨by omega,hok⟩
         refine ab9 g1 (Nat.lt_of_lt_of_le (show acc.length<1000000 by omega) (le_line (Nat.le_refl _))) ?_
         obtain ⟨x1,rs2,a2,gs2,x2,x3,x4,x5,x6,x7,x8⟩:=g2
         rw [hPv]
         exact ⟨x1,rs2,a2,gs2,x2,x3,x4,x5,x6,x7,x8,_,rfl⟩
   · intro σ H5 hI
     rw [hPv] at hI
     obtain ⟨hi2,rs,acc,gs,hc5,hat5,hrl,hro,hgs,kp5,k5,y,rfl⟩:=hI
     walk_at "run"
     intro pt H6 f6 s6 e6
     have kpA:∀ x o,x≠s0→x≠pc→H4 x=some o→H6 x=some o:=fun x o a c e=>s6 _ _ (kp5 x o a c e)
     have t46:Tups H4 H6:=fun b ys e=>by
      obtain ⟨z,g1⟩:=k4
      exact kpA b _ (ac8 e g1 (fun z=>nomatch z)) (ac8 e e4 (fun z=>nomatch z)) e
     have hs06:Same H H6:=fun x o e=>by
      have h1:x≠s0:=a03 e fA
      have h4:H4 x=some o:=o14 _ _ h1 (o1 _ _ h1 (sA _ _ e))
      have h3:H3 x=some o:=o3 _ _ h1 (o2 _ _ h1 (o1 _ _ h1 (sA _ _ e)))
      exact kpA x o h1 (a03 h3 f4) h4
     refine q _ ⟨es,sy,rs⟩ H6 hs06 ⟨p12,pb,pc,gs,⟨pt,us,acc,rfl,e6,kpA _ _ pe1 hcpe e14,ac5 hu4 t46,kpA _ _ pb1 hcpb e24,s6 _ _ hc5,hat5.same s6⟩⟩ ⟨hnd,hep,by show es.length≤20; omega,hsy,by show 0<rs.length; omega,by show rs.length≤100; omega,fun r0 hr0=>⟨(hro r0 hr0).1,fun x hx=>?_⟩⟩
     obtain ⟨h1,h2⟩:=(hro r0 hr0).2 x hx
     exact ⟨by show x.2<rs.length; omega,h2⟩
def bp0 (K:PySem.W.Frag):Sp:=fun vs H Q _=>∃ (c m:Int) (n:Nat),vs=[.int c,.int m,.int (n:Nat)]∧n≤100∧∀ l ovs os H',Same H H'→H l=none→H' l=some (.lst ovs)→Each (fun v (e:Ev)=>e.tr.At H' v []) ovs os→os.length=n→Q (.ref l) H'
theorem av5 (T:Txt K mg t):FnOk P w K mg base CX0 2 t.a__law_outer t.fd__law_outer ["cell","mixed","many"] (bp0 K):=by
 have G__law_take:=ae3 (P:=P) (w:=w) (base:=base) T
 refine T.F__law_outer.ok sc_law_outer (fun vs H Q E h=>?_) (fun cdv A outer s H vs Q E hr h=>?_)
 · obtain ⟨c,m,n,rfl,_⟩:=h
   rfl
 · obtain ⟨c,m,n,rfl,hn,q⟩:=h
   refine ⟨_,(@a02 _ _ _ _ _ (@a47 _ _ 3 _ _ _ _ sc_law_outer.nd rfl (by walk_at "o") (@a40 _ _ _ _ (@a00 _ _ _ _ _ (pv 0) (@a00 _ _ _ _ _ (pv 1) (@a01 _) (by rfl)) (by rfl))) (by rfl) (by walk_at "o"))
    (@a02 _ _ _ _ _ (@a47 _ _ 4 _ _ _ _ sc_law_outer.nd rfl (by walk_at "o") (@a40 _ _ _ _ (@a01 _)) (by rfl) (by walk_at "o"))
    (@a02 _ _ _ _ _ (@aa3 _ _ _ _ _ _ _ _ PassesOwn.never rfl (ak1 rfl T.z_range (@a00 _ _ _ _ _ (pv 2) (@a01 _) (by rfl))) (a36 (i:=5) sc_law_outer.nd rfl (by walk_at "o")) (@a02 _ _ _ _ _ (@a47 _ _ 6 _ _ _ _ sc_law_outer.nd rfl (by walk_at "o") (@a57 _ _ _ _ _ (@a00 _ _ _ _ _ (@a62 _ _ _ _) (@a00 _ _ _ _ _ (@a38 _ _ _ _ _ _ _ _ _ _ _ _ _ _ _ _ G__law_take (hr.mono (by omega)) rfl T.m__law_take T.F__law_take.kp T.b__law_take .nil a52 (@a00 _ _ _ _ _ (pv 3) (@a00 _ _ _ _ _ (@a05 _ _ _ _) (@a01 _) (by rfl)) (by rfl)) (by decide) (by rfl) (by rfl)) (@a01 _) (by rfl)) (by rfl))) (by rfl) (by walk_at "o"))
     (@a09 _ _ _ (@aa1 _ _ _ _ (@ac4 _ K _ _ _ _ _ _ _ _ _ _ _ PySem.F.plainAttrs_list PySem.F.slot_list_append PySem.F.type_list_append aa4 (pv 4) (@a00 _ _ _ _ _ (@a49 _ _ _ _ _ _ _ (a42 K) (@a40 _ _ _ _ (@a00 _ _ _ _ _ (@a57 _ _ _ _ _ (@a00 _ _ _ _ _ (@a62 _ _ _ _) (@a01 _) (by rfl))) (@a00 _ _ _ _ _ (pv 6) (@a01 _) (by rfl)) (by rfl))) (@a38 _ _ _ _ _ _ _ _ _ _ _ _ _ _ _ _ G__law_take (hr.mono (by omega)) rfl T.m__law_take T.F__law_take.kp T.b__law_take .nil a52 (@a00 _ _ _ _ _ (pv 3) (@a00 _ _ _ _ _ (@a05 _ _ _ _) (@a01 _) (by rfl)) (by rfl)) (by decide) (by rfl) (by rfl)) (fun _ _=>rfl)) (@a01 _) (by rfl)) (by rfl) (by rfl) (by rfl) (by rfl) (by rfl) (by rfl)) (by rfl)))) (by intro _; rfl))
    (@a09 _ _ _ (@a53 _ _ _ _ (pv 4)))))),?_⟩
   have sl:(1000000:Nat)≤sizeLine:=le_line (Nat.le_refl _)
   walk_at "go"
   intro s0 H1 f1 s1 e1
   walk_at "run"
   intro po H2 f2 s2 e2
   walk_at "run"
   have k1:StA H1 s0 m:=⟨c,e1⟩
   have nps:po≠s0:=k1.ne f2
   refine ar6 (lo:=0) (n:=n) (fun i σ H'=>i≤n∧Same H H'∧StA H' s0 m∧(∃ ovs os,H' po=some (.lst ovs)∧Each (fun v (e:Ev)=>e.tr.At H' v []) ovs os∧os.length=i)∧∃ y1 y2,σ=[some (.int c),some (.int m),some (.int (n:Nat)),some (.ref s0),some (.ref po),y1,y2]) ⟨Nat.zero_le _,s1.trans s2,k1.same s2,⟨[],[],e2,.nil,rfl⟩,_,_,rfl⟩ ?_ ?_
   · rintro i σ H3 hi ⟨_,s3,k3,⟨ovs,os,hp3,hE3,hl3⟩,y1,y2,rfl⟩
     walk_at "run"
     refine ⟨s0,m,10,rfl,k3,by omega,by omega,fun r H4 hr o4 k4=>?_⟩
     walk_at "run"
     intro p5 H5 f5 s5 e5
     walk_at "run"
     have hp5:=s5 _ _ (o4 _ _ nps hp3)
     refine ah0 (SqL.of hp5) ?_
     walk_at "run"
     intro p6 H6 f6 s6 e6
     walk_at "run"
     intro p7 H7 f7 s7 e7
     walk_at "run"
     have k7:=k4.same (s5.trans (s6.trans s7))
     have n7:p7≠s0:=(k4.same (s5.trans s6)).ne f7
     refine ⟨s0,m,2,rfl,k7,by omega,by omega,fun r2 H8 hr2 o8 k8=>?_⟩
     walk_at "run"
     have t48:Tups H4 H8:=(s5.trans (s6.trans s7)).tups.trans (o8.tups k7)
     have t38:Tups H3 H8:=(o4.tups k3).trans t48
     have hp8:=o8 _ _ nps ((s6.trans s7) _ _ hp5)
     obtain ⟨v,e,hv,he⟩:∃ v,∃ e:Ev,atI [V.ref p6,V.ref p5] (r2:Nat)=some v∧e.tr.At H8 v []:=by
      have:r2=0∨r2=1:=by omega
      rcases this with rfl | rfl
      · exact ⟨_,.quiet,a07 rfl,at_tup0.mpr ⟨p6,_,rfl,(s7.tups.trans (o8.tups k7)) _ _ e6,ats_cons0.mpr ⟨_,_,rfl,str_at0,ats_nil0.mpr rfl⟩⟩⟩
      · exact ⟨_,.key r,a07 rfl,ap3 (((s6.trans s7).tups.trans (o8.tups k7)) _ _ e5) str_at0 az6⟩
     refine a99 (SqL.of (o8 _ _ n7 e7)) hv ?_
     walk_at "run"
     refine ab9 hp8 (by rw [hE3.len]; omega) ?_
     have t9:Tups H8 (upd H8 po (.lst (ovs++[v]))):=Tups.upd hp8
     have s08:Same H H8:=o8.new ((o4.new s3 f1).trans (s5.trans (s6.trans s7))) f1
     refine ⟨hi,s08.updNew (s1.free f2),?_,⟨_,os++[e],a34,?_,by simp [hl3]⟩,_,_,rfl⟩
     · obtain ⟨x,hx⟩:=k8
       exact ⟨x,by rw [a08 nps.symm]; exact hx⟩
     · exact (hE3.mono fun v x h=>a92 h (t38.trans t9)).snoc (a92 he t9)
   · rintro σ H3 ⟨_,s3,k3,⟨ovs,os,hp3,hE3,hl3⟩,y1,y2,rfl⟩
     walk_at "run"
     exact q po ovs os H3 s3 (s1.free f2) hp3 hE3 hl3
def SaysAt (H:Hp) (ls:List Addr) (xs:List (List Say)):Prop:=Each (fun l x=>H l=some (.lst (strsV (x.map sayT)))) ls xs
def sayW (x:List Say):Tw:=.lst ((x.map sayT).map strW)
def evW:Ev→Tw
 | .quiet=>.tup [.sc (.str "quiet")]
 | .key k=>.tup [.sc (.str "key"),.sc (.int (k:Nat))]
 | .word w=>.tup [.sc (.str "word"),.sc (.str w)]
def stdW (x:Nat×List Ev):Tw:=.tup [.sc (.int (x.1:Nat)),.tup (x.2.map evW)]
def turnW (xs:List (List Say)) (R:List (Nat×List Ev)):List Tw:=[.lst (xs.map sayW),.tup (R.map stdW)]
theorem av6 {α β:Type}{R:α→β→Prop}{v:α}{vs:List α}{x:β}{xs:List β}(h:Each R (v::vs) (x::xs)):R v x∧Each R vs xs:=⟨h.2 0 v x rfl rfl,by have:=h.1; simpa using this,fun j a b h1 h2=>h.2 (j+1) a b h1 h2⟩
theorem br0 {H:Hp}:∀ {ls:List Addr}{xs:List (List Say)},SaysAt H ls xs→Tw.Ats H (xs.map sayW) (ls.map V.ref) ls
 | [],[],_=>by simp [Tw.Ats]
 | l::ls,x::xs,h=>by
   obtain ⟨h1,h2⟩:=av6 h
   simp only [List.map_cons,Tw.Ats]
   refine ⟨_,_,[l],ls,rfl,rfl,?_,br0 h2⟩
   simp only [sayW,Tw.At]
   exact ⟨l,_,[],rfl,h1,strs_w.mpr ⟨rfl,rfl⟩,rfl⟩
 | [],x::xs,h=>by have:=h.1; simp at this
 | l::ls,[],h=>by have:=h.1; simp at this
theorem ev_w {H:Hp}{e:Ev}{v:V}(h1:e.tr.At H v []):(evW e).At H v []:=by
 cases e with
 | quiet =>
   obtain ⟨a,as,rfl,e,h3a⟩:=at_tup0.mp h1
   obtain ⟨b,bs,rfl,h4,h3b⟩:=ats_cons0.mp h3a
   cases at_str0.mp h4
   simp only [Tr.Ats] at h3b
   obtain ⟨rfl,_⟩:=h3b
   simp only [evW,Tw.At,Tw.Ats]
   exact ⟨a,_,rfl,e,_,_,[],[],rfl,rfl,⟨rfl,True.intro,rfl⟩,rfl,rfl⟩
 | key k =>
   obtain ⟨a,as,rfl,e,h3a⟩:=at_tup0.mp h1
   obtain ⟨b,bs,rfl,h4,h3b⟩:=ats_cons0.mp h3a
   obtain ⟨c,cs,rfl,h5,h3c⟩:=ats_cons0.mp h3b
   cases at_str0.mp h4
   cases at_int0.mp h5
   simp only [Tr.Ats] at h3c
   obtain ⟨rfl,_⟩:=h3c
   simp only [evW,Tw.At,Tw.Ats]
   exact ⟨a,_,rfl,e,_,_,[],[],rfl,rfl,⟨rfl,True.intro,rfl⟩,_,_,[],[],rfl,rfl,⟨rfl,True.intro,rfl⟩,rfl,rfl⟩
 | word w =>
   obtain ⟨a,as,rfl,e,h3a⟩:=at_tup0.mp h1
   obtain ⟨b,bs,rfl,h4,h3b⟩:=ats_cons0.mp h3a
   obtain ⟨c,cs,rfl,h5,h3c⟩:=ats_cons0.mp h3b
   cases at_str0.mp h4
   cases at_str0.mp h5
   simp only [Tr.Ats] at h3c
   obtain ⟨rfl,_⟩:=h3c
   simp only [evW,Tw.At,Tw.Ats]
   exact ⟨a,_,rfl,e,_,_,[],[],rfl,rfl,⟨rfl,True.intro,rfl⟩,_,_,[],[],rfl,rfl,⟨rfl,True.intro,rfl⟩,rfl,rfl⟩
theorem c91 {H:Hp}:∀ {ws:List Ev}{us:List V},Tr.Ats H (ws.map Ev.tr) us []→Tw.Ats H (ws.map evW) us []
 | [],us,h=>by
   simp only [List.map_nil,Tr.Ats] at h
   rw [h.1]
   simp [Tw.Ats]
 | w::ws,us,h=>by
   obtain ⟨v,vs,rfl,h1,h2⟩:=ats_cons0.mp h
   simp only [List.map_cons,Tw.Ats]
   exact ⟨v,vs,[],[],rfl,rfl,ev_w h1,c91 h2⟩
theorem c92 {H:Hp}:∀ {R:List (Nat×List Ev)}{stv:List V},Each (StdAt H) stv R→Tw.Ats H (R.map stdW) stv []
 | [],[],_=>by simp [Tw.Ats]
 | r::R,v::vs,h=>by
   obtain ⟨⟨k,rv,rfl,h1,a,us,rfl,h2,h3⟩,h4⟩:=av6 h
   simp only [List.map_cons,Tw.Ats]
   refine ⟨_,_,[],[],rfl,rfl,?_,c92 h4⟩
   simp only [stdW,Tw.At,Tw.Ats]
   exact ⟨k,_,rfl,h1,_,_,[],[],rfl,rfl,⟨rfl,True.intro,rfl⟩,_,_,[],[],rfl,rfl,⟨a,us,rfl,h2,c91 h3⟩,rfl,rfl⟩
 | [],v::vs,h=>by have:=h.1; simp at this
 | r::R,[],h=>by have:=h.1; simp at this
theorem av7 {α:Type}{f:α→Tw}{n:Nat}:∀ {l:List α},(∀ x∈l,(f x).h≤n)→Tw.hs (l.map f)≤n
 | [],_=>by simp [Tw.hs]
 | x::l,h=>by
   simp only [List.map_cons,Tw.hs]
   have h1:=h x (by simp)
   have h2:=av7 (l:=l) fun y hy=>h y (by simp [hy])
   omega
theorem c93 (x:List Say):(sayW x).h≤1:=by
 simp only [sayW,Tw.h]
 have:=av7 (f:=strW) (n:=0) (l:=x.map sayT) fun y _=>by simp [strW,Tw.h]
 omega
theorem ce0 (e:Ev):(evW e).h≤1:=by cases e <;> simp [evW,Tw.h,Tw.hs]
theorem c94 (r:Nat×List Ev):(stdW r).h≤3:=by
 simp only [stdW,Tw.h,Tw.hs]
 have:=av7 (f:=evW) (n:=1) (l:=r.2) fun y _=>ce0 y
 omega
theorem ar3 (xs:List (List Say)) (R:List (Nat×List Ev)):Tw.hs (turnW xs R)≤50:=by
 simp only [turnW,Tw.hs,Tw.h]
 have h1:=av7 (f:=sayW) (n:=1) (l:=xs) fun y _=>c93 y
 have h2:=av7 (f:=stdW) (n:=3) (l:=R) fun y _=>c94 y
 omega
theorem ai6 {H:Hp}{t sa st:Addr}{ls:List Addr}{stv:List V}{xs:List (List Say)}{R:List (Nat×List Ev)}(h1:H t=some (.tup [.ref sa,.ref st])) (h2:H sa=some (.lst (ls.map V.ref))) (h3:SaysAt H ls xs) (h4:H st=some (.tup stv)) (h5:Each (StdAt H) stv R):(Tw.tup (turnW xs R)).At H (.ref t) (sa::ls):=by
 simp only [turnW,Tw.At,Tw.Ats]
 exact ⟨t,_,rfl,h1,_,_,sa::ls,[],rfl,by simp,⟨sa,_,ls,rfl,h2,br0 h3,rfl⟩,_,_,[],[],rfl,rfl,⟨st,stv,rfl,h4,c92 h5⟩,rfl,rfl⟩
structure FoundAt (H:Hp) (f sa st:Addr) (ls:List Addr) (xs:List (List Say)) (R:List (Nat×List Ev)):Prop where
 ex:∃ stv,H f=some (.tup [.ref sa,.ref st])∧H sa=some (.lst (ls.map V.ref))∧SaysAt H ls xs∧H st=some (.tup stv)∧Each (StdAt H) stv R
theorem b36:∀ (ts:List Told) (R:List (List Ev)),stds ts R=(ts.map (·.2.2)).zip R
 | [],_=>by simp [stds]
 | _::_,[]=>by simp [stds]
 | x::ts,r::R=>by
   have:=b36 ts R
   unfold stds at this ⊢
   simp only [List.zipWith_cons_cons,List.map_cons,List.zip_cons_cons,this]
theorem TurnAt.found {B H:Hp}{v:V}{ts:List Told}{R:List (List Ev)}{ys:List SRow}(h:TurnAt B H v ts R) (he:ts.map (·.2)=ys):∃ f fs fst,v=.ref f∧FoundAt H f fs fst (ts.map (·.1)) (ys.map (·.1)) ((ys.map (·.2)).zip R)∧B fs=none:=by
 obtain ⟨res,sa,st,stv,h1,h2,h3,h4,h5,h6,h7⟩:=h.ex
 subst he
 refine ⟨res,sa,st,h1,⟨stv,h2,by rw [List.map_map]; exact h3,?_,h4,by rw [List.map_map]; rw [b36] at h5; exact h5⟩,h7⟩
 refine ⟨by simp,fun j l x a b=>?_⟩
 rw [List.getElem?_map] at a
 obtain ⟨t0,ht,rfl⟩:=Option.map_eq_some_iff.mp a
 rw [List.getElem?_map,List.getElem?_map,ht] at b
 cases b
 exact h6 t0 (List.mem_of_getElem? ht)
theorem FoundAt.same {H H':Hp}{f sa st:Addr}{ls:List Addr}{xs:List (List Say)}{R:List (Nat×List Ev)}(h:FoundAt H f sa st ls xs R) (s:Same H H'):FoundAt H' f sa st ls xs R:=by
 obtain ⟨stv,h1,h2,h3,h4,h5⟩:=h.ex
 exact ⟨stv,s _ _ h1,s _ _ h2,h3.mono fun l x e=>s _ _ e,s _ _ h4,h5.mono fun v x e=>e.tups s.tups⟩
theorem begs {xs:List Tab}:(xs.map Tab.beg).map (·.1)=xs.map (·.sy)∧(xs.map Tab.beg).map (·.2)=List.replicate xs.length 0:=by
 constructor
 · rw [List.map_map]; rfl
 · rw [List.map_map]
   induction xs with
   | nil=>rfl
   | cons x xs ih=>rw [List.map_cons,ih]; rfl
def hds (xs:List Addr) (H:Hp):Hp:=fun a=>if a∈xs then none else H a
theorem hds_same {xs:List Addr}{H:Hp}:Same (hds xs H) H:=fun b o e=>by
 unfold hds at e
 split at e
 · cases e
 · exact e
theorem ab4 {xs:List Addr}{H:Hp}{a:Addr}{o:HO}(e:H a=some o) (h:a∉xs):hds xs H a=some o:=by
 unfold hds
 rw [if_neg h]
 exact e
theorem br1 {xs:List Addr}{H:Hp}{a:Addr}{o:HO}(e:hds xs H a=some o):H a=some o∧a∉xs:=by
 unfold hds at e
 split at e
 · cases e
 · exact ⟨e,by assumption⟩
theorem ak0 {xs ys:List Addr}{H H':Hp}(hs:∀ a∈ys,a∈xs) (h:∀ b o,b∉xs→H b=some o→H' b=some o):Same (hds xs H) (hds ys H'):=fun b o e=>by
 obtain ⟨e1,e2⟩:=br1 e
 exact ab4 (h b o e2 e1) fun z=>e2 (hs b z)
theorem ce1 {es:List Ev}(hn:es.Nodup) (h0:0<es.length) (e:Ev):∃ j:Nat,plOf es e=some (.int (j:Nat))∧j<es.length:=by
 have a:=c83 hn e es.length (Nat.le_refl _)
 have b:=bn0 (es:=es) e.kind es.length (Nat.le_refl _)
 rw [List.take_length] at a b
 unfold plOf
 rcases a with ⟨i,a1,a2⟩ | ⟨_,a2⟩
 · exact ⟨i,by rw [a2]; rfl,(List.getElem?_eq_some_iff.mp a1).1⟩
 · rw [a2]
   rcases b with ⟨i,y,b0,b1,b2,b3,b4⟩ | ⟨_,b4⟩
   · exact ⟨i,by rw [b4]; rfl,b0⟩
   · exact ⟨0,by rw [b4]; rfl,h0⟩
def StOk (xs:List Tab) (S:List (Nat×List Ev)):Prop:=S.length=xs.length∧∀ (i:Nat) (x:Tab) (s:Nat×List Ev),xs[i]?=some x→S[i]?=some s→s.1<x.rs.length∧s.2.length≤3
theorem bg8:∀ {xs:List Tab}{S:List (Nat×List Ev)}{os:List Ev},(∀ x∈xs,TOk x)→StOk xs S→os.length=xs.length→∃ pl:List Ln,pl.map (·.x)=xs∧pl.map Ln.std=S∧pl.map (·.o)=os∧∀ l∈pl,l.Ok∧l.y.2<l.x.rs.length
 | [],S,os,_,hS,ho=>by
   obtain rfl:=List.length_eq_zero_iff.mp hS.1
   obtain rfl:=List.length_eq_zero_iff.mp ho
   exact ⟨[],rfl,rfl,rfl,fun l hl=>absurd hl (by simp)⟩
 | x::xs,[],_,_,hS,_=>by have:=hS.1; simp at this
 | x::xs,s::S,[],_,_,ho=>by simp at ho
 | x::xs,s::S,o::os,hT,hS,ho=>by
   obtain ⟨pl,p1,p2,p3,p4⟩:=bg8 (xs:=xs) (S:=S) (os:=os) (fun y hy=>hT y (List.mem_cons_of_mem _ hy)) ⟨by have:=hS.1; simpa using this,fun i y z h1 h2=>hS.2 (i+1) y z h1 h2⟩ (by simpa using ho)
   have t:=hT x List.mem_cons_self
   obtain ⟨h1,h2⟩:=hS.2 0 x s rfl rfl
   obtain ⟨j,hj,hj2⟩:=ce1 t.nd t.ne (evOf (inRow s.2 o))
   obtain ⟨r1,r2⟩:=t.ok x.rs[s.1] (List.getElem_mem h1)
   have hj3:j<x.rs[s.1].2.length:=by omega
   obtain ⟨y1,y2⟩:=r2 x.rs[s.1].2[j] (List.getElem_mem hj3)
   refine ⟨⟨0,x,s.1,s.2,o,x.rs[s.1].2[j]⟩::pl,by simp [p1],by simp [p2,Ln.std],by simp [p3],fun l hl=>?_⟩
   rcases List.mem_cons.mp hl with rfl | hl
   · exact ⟨⟨⟨j,x.rs[s.1],hj,List.getElem?_eq_getElem h1,List.getElem?_eq_getElem hj3⟩,h2,y2⟩,y1⟩
   · exact p4 l hl
def wm (ms:List Addr) (pl:List Ln):List Ln:=List.zipWith (fun m l=>{ l with m:=m }) ms pl
theorem ao4 {β:Type}{f:Ln→β}(hf:∀ (l:Ln) (m:Addr),f { l with m:=m }=f l):∀ {ms:List Addr}{pl:List Ln},ms.length=pl.length→(wm ms pl).map f=pl.map f
 | [],[],_=>rfl
 | m::ms,l::pl,h=>by
   have:=ao4 hf (ms:=ms) (pl:=pl) (by simpa using h)
   unfold wm at this ⊢
   simp only [List.zipWith_cons_cons,List.map_cons,this,hf]
 | [],l::pl,h=>by simp at h
 | m::ms,[],h=>by simp at h
theorem wm_m:∀ {ms:List Addr}{pl:List Ln},ms.length=pl.length→(wm ms pl).map (·.m)=ms
 | [],[],_=>rfl
 | m::ms,l::pl,h=>by
   have:=wm_m (ms:=ms) (pl:=pl) (by simpa using h)
   unfold wm at this ⊢
   simp only [List.zipWith_cons_cons,List.map_cons,this]
 | [],l::pl,h=>by simp at h
 | m::ms,[],h=>by simp at h
theorem bg9 {l:Ln}:∀ {ms:List Addr}{pl:List Ln},l∈wm ms pl→∃ (i:Nat) (m:Addr) (l0:Ln),ms[i]?=some m∧pl[i]?=some l0∧l={ l0 with m:=m }
 | [],_,h=>by simp [wm] at h
 | m::ms,[],h=>by simp [wm] at h
 | m::ms,l0::pl,h=>by
   unfold wm at h
   rw [List.zipWith_cons_cons] at h
   rcases List.mem_cons.mp h with rfl | h
   · exact ⟨0,m,l0,rfl,rfl,rfl⟩
   · obtain ⟨i,m',l',h1,h2,h3⟩:=bg9 (ms:=ms) (pl:=pl) h
     exact ⟨i+1,m',l',h1,h2,h3⟩
def outS (pl:List Ln):List (Nat×List Ev):=(pl.map (·.y.2)).zip (stlA (pl.map Ln.row) (pl.map (·.y.1)))
theorem ah8 {K:PySem.W.Frag}{P:Params}{C Ct Cp hp st ou:Addr}{H:Hp}{ms:List Addr}{pl:List Ln}{stv ovs:List V}{Q:VK}{E:XK}(hH:HallAt C H hp ms) (hM:Each (MX P Ct Cp H) ms (pl.map (·.x))) (hn:pl.length≤100) (hst:H st=some (.tup stv)) (hS:Each (StdAt H) stv (pl.map Ln.std))
 (hou:H ou=some (.lst ovs)) (hO:Each (fun v (e:Ev)=>e.tr.At H v []) ovs (pl.map (·.o))) (hok:∀ l∈pl,l.Ok)
 (q:∀ f fs fst ls H',Same H H'→FoundAt H' f fs fst ls (pl.map (·.y.1)) (outS pl)→H fs=none→(∀ l∈ls,H l=none)→Q (.ref f) H'):b35 K P C Ct Cp [.ref hp,.ref st,.ref ou] H Q E:=by
 have ml:ms.length=pl.length:=by have:=hM.len; simpa using this
 have em:=wm_m ml
 refine ⟨hp,st,ou,wm ms pl,stv,ovs,rfl,⟨by rw [em]; exact hH,fun l hl=>?_,?_,hst,?_,hou,?_,fun l hl=>?_⟩,fun v H' ts s hT hts hN=>?_⟩
 · obtain ⟨i,m,l0,h1,h2,rfl⟩:=bg9 hl
   exact hM.2 i m l0.x h1 (by rw [List.getElem?_map,h2]; rfl)
 · have:=congrArg List.length em
   rw [List.length_map] at this
   omega
 · rw [ao4 (f:=Ln.std) (fun _ _=>rfl) ml]
   exact hS
 · rw [ao4 (f:=fun l:Ln=>l.o) (fun _ _=>rfl) ml]
   exact hO
 · obtain ⟨i,m,l0,h1,h2,rfl⟩:=bg9 hl
   have:=hok l0 (List.mem_of_getElem? h2)
   exact ⟨this.at_,this.le,this.says⟩
 · obtain ⟨f,fs,fst,rfl,hF,hB⟩:=hT.found hts
   refine q f fs fst (ts.map (·.1)) H' s ?_ hB fun l hl=>?_
   · rw [ao4 (f:=Ln.row) (fun _ _=>rfl) ml,ao4 (f:=fun l:Ln=>l.y.1) (fun _ _=>rfl) ml,ao4 (f:=fun l:Ln=>l.y) (fun _ _=>rfl) ml,List.map_map,List.map_map] at hF
     exact hF
   · obtain ⟨x,hx,rfl⟩:=List.mem_map.mp hl
     exact hN x hx
def begS (xs:List Tab):List (Nat×List Ev):=(List.replicate xs.length 0).zip (stlA (List.replicate xs.length []) (xs.map (·.sy)))
theorem b37 {K:PySem.W.Frag}{P:Params}{C Ct Cp hp:Addr}{H:Hp}{ms:List Addr}{xs:List Tab}{Q:VK}{E:XK}(hH:HallAt C H hp ms) (hM:Each (MX P Ct Cp H) ms xs) (hn:xs.length≤100) (hok:∀ x∈xs,TOk x)
 (q:∀ f fs fst ls H',Same H H'→FoundAt H' f fs fst ls (xs.map (·.sy)) (begS xs)→Q (.ref f) H'):av2 K P C Ct Cp [.ref hp] H Q E:=by
 have ml:=hM.len
 refine ⟨hp,ms,xs,rfl,hH,hM,by omega,fun x hx=>(hok x hx).sy,fun v H' ts s hT hts hN=>?_⟩
 obtain ⟨f,fs,fst,rfl,hF,hB⟩:=hT.found hts
 rw [begs.1,begs.2,ml] at hF
 exact q f fs fst _ H' s hF
theorem br2 {α β:Type}{a:List α}{b:List β}{i:Nat}{s:α×β}(h:(a.zip b)[i]?=some s):a[i]?=some s.1∧b[i]?=some s.2:=by
 obtain ⟨x,y⟩:=s
 exact List.getElem?_zip_eq_some.mp h
theorem by0 {xs:List Tab}(hok:∀ x∈xs,TOk x):StOk xs (begS xs):=by
 refine ⟨by simp [begS,ah4],fun i x s hx hs=>?_⟩
 obtain ⟨h1,h2⟩:=br2 hs
 have h3:=List.eq_of_mem_replicate (List.mem_of_getElem? h1)
 refine ⟨by rw [h3]; exact (hok x (List.mem_of_getElem? hx)).nr,aq5 _ (bq9 _) _ (List.mem_of_getElem? h2)⟩
theorem by1 {xs:List Tab}{pl:List Ln}(hx:pl.map (·.x)=xs) (hok:∀ l∈pl,l.Ok∧l.y.2<l.x.rs.length):StOk xs (outS pl):=by
 subst hx
 refine ⟨by simp [outS,ah4],fun i x s h1 h2=>?_⟩
 obtain ⟨h3,h4⟩:=br2 h2
 rw [List.getElem?_map] at h1 h3
 obtain ⟨l,hl,rfl⟩:=Option.map_eq_some_iff.mp h1
 rw [hl] at h3
 have h5:l.y.2=s.1:=by simpa using h3
 refine ⟨by rw [← h5]; exact (hok l (List.mem_of_getElem? hl)).2,aq5 _ (fun r hr=>?_) _ (List.mem_of_getElem? h4)⟩
 obtain ⟨l',hl',rfl⟩:=List.mem_map.mp hr
 have:=ar2 (o:=l'.o) (hok l' hl').1.le
 unfold Ln.row
 simp
 omega
theorem FoundAt.hide {H:Hp}{f fs fst pw:Addr}{ls:List Addr}{xs:List (List Say)}{R:List (Nat×List Ev)}{ws:List V}(h:FoundAt H f fs fst ls xs R) (hp:H pw=some (.lst ws)) (n1:fs≠pw) (n2:∀ l∈ls,l≠pw):FoundAt (hds [pw] H) f fs fst ls xs R:=by
 obtain ⟨stv,h1,h2,h3,h4,h5⟩:=h.ex
 have tu:Tups H (hds [pw] H):=fun b ys e=>ab4 e (by simp; exact ac8 e hp (fun z=>nomatch z))
 exact ⟨stv,tu _ _ h1,ab4 h2 (by simpa using n1),⟨h3.1,fun j l x a b=>ab4 (h3.2 j l x a b) (by simpa using n2 l (List.mem_of_getElem? a))⟩,tu _ _ h4,h5.mono fun v x e=>e.tups tu⟩
def WayAt (xs:List Tab) (H:Hp) (v:V):Prop:=∃ (t st ou f fs fst:Addr) (ls:List Addr) (pl:List Ln) (stv ovs:List V),v=.ref t∧H t=some (.tup [.ref st,.ref ou,.ref f])∧H st=some (.tup stv)∧Each (StdAt H) stv (pl.map Ln.std)∧H ou=some (.lst ovs)∧Each (fun v (e:Ev)=>e.tr.At H v []) ovs (pl.map (·.o))∧pl.map (·.x)=xs∧(∀ l∈pl,l.Ok)∧FoundAt H f fs fst ls (pl.map (·.y.1)) (outS pl)
theorem WayAt.same {xs:List Tab}{H H':Hp}{v:V}(h:WayAt xs H v) (s:Same H H'):WayAt xs H' v:=by
 obtain ⟨t,st,ou,f,fs,fst,ls,pl,stv,ovs,h0,h1,h2,h3,h4,h5,h6,h7,h8⟩:=h
 exact ⟨t,st,ou,f,fs,fst,ls,pl,stv,ovs,h0,s _ _ h1,s _ _ h2,h3.mono fun v x e=>e.tups s.tups,s _ _ h4,h5.mono fun v x e=>a92 e s.tups,h6,h7,h8.same s⟩
theorem HallAt.hide {C:Addr}{H:Hp}{p pm:Addr}{ms:List Addr}(h:∀ o,HallAt C (upd H pm o) p ms) (hp:p≠pm):HallAt C (hds [pm] H) p ms:=by
 obtain ⟨dx,l1,l2,h1,h2,h3⟩:=(h (.tup [])).ex
 have n:∀ {l:Addr}{xs:List V},upd H pm (.tup []) l=some (.lst xs)→l≠pm:=fun e z=>by rw [z,a34] at e; cases e
 have n2:=n h2
 have n3:=n h3
 rw [a08 n2] at h2
 rw [a08 n3] at h3
 rw [a08 hp] at h1
 exact ⟨dx,l1,l2,ab4 h1 (by simpa using hp),ab4 h2 (by simpa using n2),ab4 h3 (by simpa using n3)⟩
theorem bp1 {n i:Nat}{c:Int}(hc:c=1∨c=2) (h:i<manyC 0 (n:Nat) c):∃ k:Nat,(0:Int)+i*c=(k:Nat)∧k<n:=by
 unfold manyC at h
 rcases hc with rfl | rfl
 · exact ⟨i,by omega,by omega⟩
 · exact ⟨i*2,by omega,by omega⟩
def WM:List (List Str):=saids.map (·.map sayT)
theorem b38:∀ x∈saids,x.length≤20:=by decide +kernel
theorem c95:WM.flatten.length<64:=by decide +kernel
theorem bh0 {x:List Say}(h:SaysOk x):x.map sayT∈WM∧∀ y∈x.map sayT,y∈WM.flatten:=by
 have h1:x.map sayT∈WM:=List.mem_map_of_mem h.2.2
 exact ⟨h1,fun y hy=>List.mem_flatten.mpr ⟨_,h1,hy⟩⟩
theorem TOk.ztab {x:Tab}(h:TOk x):Z.TabOk x.es (x.sy.map sayT) (x.rs.map roomS):=⟨h.ne2,by rw [List.length_map]; exact b38 _ h.sy.2.2,by simpa using h.nr2,fun r hr=>by
 obtain ⟨r0,hr0,rfl⟩:=List.mem_map.mp hr
 obtain ⟨h1,h2⟩:=h.ok r0 hr0
 refine ⟨by simpa [roomS] using h1,fun y hy=>?_⟩
 obtain ⟨y0,hy0,rfl⟩:=List.mem_map.mp hy
 obtain ⟨h3,h4⟩:=h2 y0 hy0
 exact ⟨by simpa [rowS] using h3,by show (y0.1.map sayT).length≤20; rw [List.length_map]; exact b38 _ h4.2.2⟩⟩
theorem TOk.says {x:Tab}(h:TOk x):∀ s∈Z.sayL (x.sy.map sayT) (x.rs.map roomS),s∈WM∧∀ y∈s,y∈WM.flatten:=fun s hs=>by
 unfold Z.sayL at hs
 rcases List.mem_cons.mp hs with rfl | hs
 · exact bh0 h.sy
 · obtain ⟨r,hr,h1⟩:=List.mem_flatMap.mp hs
   obtain ⟨r0,hr0,rfl⟩:=List.mem_map.mp hr
   obtain ⟨y,hy,rfl⟩:=List.mem_map.mp h1
   obtain ⟨y0,hy0,rfl⟩:=List.mem_map.mp hy
   exact bh0 ((h.ok r0 hr0).2 y0 hy0).2
theorem by2 {P:Params}{H:Hp}{a pm:Addr}{kvs:List (Tr×V)}(h:DtAt P H a kvs) (hn:a∉[pm]) (hp:∃ ws,H pm=some (.lst ws)):DtAt P (hds [pm] H) a kvs:=by
 obtain ⟨m,h1,⟨φ,h2,h3⟩,h4,h5⟩:=h
 obtain ⟨ws,hp⟩:=hp
 have tu:Tups H (hds [pm] H):=fun b ys e=>ab4 e (by simp; exact ac8 e hp (fun z=>nomatch z))
 exact ⟨m,h1,⟨φ,ab4 h2 hn,h3⟩,fun x hx=>⟨a92 (h4 x hx).1 tu,(h4 x hx).2⟩,h5⟩
open Z (a77 a87 a65 ar0)
theorem c96 (T:Txt K mg t):FnOk P w K mg base CX0 6 t.a_law t.fd_law ["script"] (am5 K):=by
 have G_Hall___init__:=aj0 (P:=P) (w:=w) (base:=base) T
 have G_Hall_begin:=ar1 (P:=P) (w:=w) (base:=base) T
 have G_Hall_step:=av3 (P:=P) (w:=w) (base:=base) T
 have G_PackMachine___init__:=a65 (P:=P) (w:=w) (base:=base) T
 have G_TableMachine___init__:=ad4 (P:=P) (w:=w) (base:=base) T
 have G__law_cell:=ay2 (P:=P) (w:=w) (base:=base) T
 have G__law_outer:=av5 (P:=P) (w:=w) (base:=base) T
 have G__law_table:=av4 (P:=P) (w:=w) (base:=base) T
 have G__law_take:=ae3 (P:=P) (w:=w) (base:=base) T
 have G_pack:=ar0 (P:=P) (w:=w) (base:=base) T
 refine T.F_law.ok sc_law (fun vs H Q E h=>?_) (fun cdv A outer s H vs Q E hr h=>?_)
 · obtain ⟨a,ns,rfl,_⟩:=h
   rfl
 · obtain ⟨a,ns,rfl,hS,hl,q⟩:=h
   refine ⟨_,(@a02 _ _ _ _ _ (@a47 _ _ 1 _ _ _ _ sc_law.nd rfl (by walk_at "o") (@a80 _ _ _ _ _ _ _ _ ak2 (@a70 _ _ _ _ _ _ _ _ _ (bu5 K) (by rfl) T.z_sum c39 (@a00 _ _ _ _ _ (pv 0) (@a01 _) (by rfl)) (by decide) (by decide) (by rfl) (by rfl)) (@a05 _ _ _ _)) (by rfl) (by walk_at "o"))
    (@a02 _ _ _ _ _ (@a47 _ _ 2 _ _ _ _ sc_law.nd rfl (by walk_at "o") (@a40 _ _ _ _ (@a00 _ _ _ _ _ (@a38 _ _ _ _ _ _ _ _ _ _ _ _ _ _ _ _ G__law_cell (hr.mono (by omega)) rfl T.m__law_cell T.F__law_cell.kp T.b__law_cell .nil a52 (@a00 _ _ _ _ _ (pv 0) (@a00 _ _ _ _ _ (@a05 _ _ _ _) (@a00 _ _ _ _ _ (pv 1) (@a01 _) (by rfl)) (by rfl)) (by rfl)) (by decide) (by rfl) (by rfl)) (@a00 _ _ _ _ _ (pv 1) (@a01 _) (by rfl)) (by rfl))) (by rfl) (by walk_at "o"))
    (@a02 _ _ _ _ _ (@a47 _ _ 3 _ _ _ _ sc_law.nd rfl (by walk_at "o") (@a80 _ _ _ _ _ _ _ _ a78 (@a05 _ _ _ _) (@a38 _ _ _ _ _ _ _ _ _ _ _ _ _ _ _ _ G__law_take (hr.mono (by omega)) rfl T.m__law_take T.F__law_take.kp T.b__law_take .nil a52 (@a00 _ _ _ _ _ (pv 2) (@a00 _ _ _ _ _ (@a05 _ _ _ _) (@a01 _) (by rfl)) (by rfl)) (by decide) (by rfl) (by rfl))) (by rfl) (by walk_at "o"))
    (@a02 _ _ _ _ _ (@a47 _ _ 4 _ _ _ _ sc_law.nd rfl (by walk_at "o") (@a80 _ _ _ _ _ _ _ _ a78 (@a05 _ _ _ _) (@a38 _ _ _ _ _ _ _ _ _ _ _ _ _ _ _ _ G__law_take (hr.mono (by omega)) rfl T.m__law_take T.F__law_take.kp T.b__law_take .nil a52 (@a00 _ _ _ _ _ (pv 2) (@a00 _ _ _ _ _ (@a05 _ _ _ _) (@a01 _) (by rfl)) (by rfl)) (by decide) (by rfl) (by rfl))) (by rfl) (by walk_at "o"))
    (@a02 _ _ _ _ _ (bi5 (i:=5) (Nt:=["k"]) (Nf:=["script","mixed"]) (caps:=[0,1]) rfl (a90 (sc:=defScope ak7) rfl rfl (by decide +kernel) (by decide +kernel) (by decide +kernel) rfl (by decide +kernel)) (ak1 rfl T.z_range (@a00 _ _ _ _ _ (pv 3) (@a01 _) (by rfl))) (fun _ _ _ _ _=>(a36 (i:=0) (show (["k","script","mixed"]:List Str).Nodup by decide +kernel) rfl (by walk_at "o"))) (fun _ _ _ _ _=>(@a91 _)) (fun _ _ _ _ _=>(@a38 _ _ _ _ _ _ _ _ _ _ _ _ _ _ _ _ G__law_table (hr.mono (by omega)) rfl T.m__law_table T.F__law_table.kp T.b__law_table .nil a52 (@a00 _ _ _ _ _ (@a38 _ _ _ _ _ _ _ _ _ _ _ _ _ _ _ _ G__law_cell (hr.mono (by omega)) rfl T.m__law_cell T.F__law_cell.kp T.b__law_cell .nil a52 (@a00 _ _ _ _ _ (pv 1) (@a00 _ _ _ _ _ (@a80 _ _ _ _ _ _ _ _ a78 (@a05 _ _ _ _) (pv 0)) (@a00 _ _ _ _ _ (pv 2) (@a01 _) (by rfl)) (by rfl)) (by rfl)) (by decide) (by rfl) (by rfl)) (@a00 _ _ _ _ _ (pv 2) (@a01 _) (by rfl)) (by rfl)) (by decide) (by rfl) (by rfl))) sc_law.nd rfl (by walk_at "o") rfl)
    (@a02 _ _ _ _ _ (bi5 (i:=6) (Nt:=["table"]) (Nf:=[]) (caps:=[]) rfl (a90 (sc:=defScope ak7) rfl rfl (by decide +kernel) (by decide +kernel) (by decide +kernel) rfl (by decide +kernel)) (a60 K (pv 5)) (fun _ _ _ _ _=>(a36 (i:=0) (show (["table"]:List Str).Nodup by decide +kernel) rfl (by walk_at "o"))) (fun _ _ _ _ _=>(@a91 _)) (fun _ _ _ _ _=>(ao7 T.mk_TableMachine G_TableMachine___init__ (hr.mono (by omega)) rfl T.m_TableMachine T.b_TableMachine___init__ .nil a52 (@a00 _ _ _ _ _ (pv 0) (@a01 _) (by rfl)))) sc_law.nd rfl (by walk_at "o") rfl)
    (@a02 _ _ _ _ _ (@a47 _ _ 7 _ _ _ _ sc_law.nd rfl (by walk_at "o") (ao7 T.mk_Hall G_Hall___init__ (hr.mono (by omega)) rfl T.m_Hall T.b_Hall___init__ .nil a52 (@a00 _ _ _ _ _ (pv 6) (@a01 _) (by rfl))) (by rfl) (by walk_at "o"))
    (@a02 _ _ _ _ _ (@aa3 _ _ _ _ _ _ _ _ PassesOwn.never rfl (bd9 rfl T.z_range (@a00 _ _ _ _ _ (@a05 _ _ _ _) (@a00 _ _ _ _ _ (pv 3) (@a00 _ _ _ _ _ (pv 4) (@a01 _) (by rfl)) (by rfl)) (by rfl))) (a36 (i:=8) sc_law.nd rfl (by walk_at "o")) (@a09 _ _ _ (@am2 _ _ _ _ _ _ (ao7 T.mk_PackMachine G_PackMachine___init__ (hr.mono (by omega)) rfl T.m_PackMachine T.b_PackMachine___init__ .nil a52 (@a00 _ _ _ _ _ (@a38 _ _ _ _ _ _ _ _ _ _ _ _ _ _ _ _ G_pack (hr.mono (by omega)) rfl T.m_pack T.F_pack.kp T.b_pack .nil a52 (@a00 _ _ _ _ _ (@a49 _ _ _ _ _ _ _ (a42 K) (pv 5) (pv 8) (fun _ _=>rfl)) (@a01 _) (by rfl)) (by decide) (by rfl) (by rfl)) (@a01 _) (by rfl))) (ar5 (pv 6) (pv 8) ag5) (by rfl) (by rfl) (by rfl))) (by intro _; rfl))
    (@a02 _ _ _ _ _ (@a47 _ _ 9 _ _ _ _ sc_law.nd rfl (by walk_at "o") (ao7 T.mk_Hall G_Hall___init__ (hr.mono (by omega)) rfl T.m_Hall T.b_Hall___init__ .nil a52 (@a00 _ _ _ _ _ (pv 6) (@a01 _) (by rfl))) (by rfl) (by walk_at "o"))
    (@a02 _ _ _ _ _ (@am2 _ _ _ _ _ _ (az2 (pv 7) T.cl_Hall T.M_Hall_begin G_Hall_begin (hr.mono (by omega)) T.b_Hall_begin .nil a52) (ab6 K (n:=2) rfl (a50 (a36 (i:=10) sc_law.nd rfl (by walk_at "o")) (a50 (a36 (i:=11) sc_law.nd rfl (by walk_at "o")) (@ab5 _)))) (by rfl) (by rfl) (by rfl))
    (@a02 _ _ _ _ _ (@ai7 _ _ _ _ _ _ _ _ (@a83 _ _ _ _ _ _ _ _ (ap5 (by exact hr.units)) (az2 (pv 9) T.cl_Hall T.M_Hall_begin G_Hall_begin (hr.mono (by omega)) T.b_Hall_begin .nil a52) (@a57 _ _ _ _ _ (@a00 _ _ _ _ _ (pv 10) (@a00 _ _ _ _ _ (pv 11) (@a01 _) (by rfl)) (by rfl))) (nomark _)) (@a09 _ _ _ (@a53 _ _ _ _ (@b39 _ _ _ _))) (@ac1 _))
    (@a02 _ _ _ _ _ (@a47 _ _ 12 _ _ _ _ sc_law.nd rfl (by walk_at "o") (@a40 _ _ _ _ (@a01 _)) (by rfl) (by walk_at "o"))
    (@a02 _ _ _ _ _ (@aa3 _ _ _ _ _ _ _ _ PassesOwn.never rfl (ba2 K rfl T.z_enumerate (@a00 _ _ _ _ _ (@aj3 _ _ _ _ _ _ _ _ _ _ (ap0 K) (pv 0) (@b91 _) (@ai0 _ _ _ (@a05 _ _ _ _))) (@a01 _) (by rfl))) (ab6 K (n:=2) rfl (a50 (a36 (i:=8) sc_law.nd rfl (by walk_at "o")) (a50 (a36 (i:=13) sc_law.nd rfl (by walk_at "o")) (@ab5 _)))) (@a02 _ _ _ _ _ (@a47 _ _ 14 _ _ _ _ sc_law.nd rfl (by walk_at "o") (@a38 _ _ _ _ _ _ _ _ _ _ _ _ _ _ _ _ G__law_outer (hr.mono (by omega)) rfl T.m__law_outer T.F__law_outer.kp T.b__law_outer .nil a52 (@a00 _ _ _ _ _ (@a80 _ _ _ _ _ _ _ _ a78 (@a80 _ _ _ _ _ _ _ _ ao6 (pv 13) (@a05 _ _ _ _)) (@a80 _ _ _ _ _ _ _ _ ad6 (pv 1) (pv 8))) (@a00 _ _ _ _ _ (pv 1) (@a00 _ _ _ _ _ (pv 3) (@a01 _) (by rfl)) (by rfl)) (by rfl)) (by decide) (by rfl) (by rfl)) (by rfl) (by walk_at "o"))
     (@a02 _ _ _ _ _ (@a47 _ _ 15 _ _ _ _ sc_law.nd rfl (by walk_at "o") (ag0 (pv 7) T.cl_Hall T.M_Hall_step G_Hall_step (hr.mono (by omega)) T.b_Hall_step .nil a52 (@a00 _ _ _ _ _ (pv 11) (@a00 _ _ _ _ _ (pv 14) (@a01 _) (by rfl)) (by rfl))) (by rfl) (by walk_at "o"))
     (@a02 _ _ _ _ _ (@ai7 _ _ _ _ _ _ _ _ (@a83 _ _ _ _ _ _ _ _ (ap5 (by exact hr.units)) (ag0 (pv 9) T.cl_Hall T.M_Hall_step G_Hall_step (hr.mono (by omega)) T.b_Hall_step .nil a52 (@a00 _ _ _ _ _ (pv 11) (@a00 _ _ _ _ _ (pv 14) (@a01 _) (by rfl)) (by rfl))) (pv 15) (nomark _)) (@a09 _ _ _ (@a53 _ _ _ _ (@b39 _ _ _ _))) (@ac1 _))
     (@a02 _ _ _ _ _ (@aa1 _ _ _ _ (@ac4 _ K _ _ _ _ _ _ _ _ _ _ _ PySem.F.plainAttrs_list PySem.F.slot_list_append PySem.F.type_list_append aa4 (pv 12) (@a00 _ _ _ _ _ (@a57 _ _ _ _ _ (@a00 _ _ _ _ _ (pv 11) (@a00 _ _ _ _ _ (pv 14) (@a00 _ _ _ _ _ (pv 15) (@a01 _) (by rfl)) (by rfl)) (by rfl))) (@a01 _) (by rfl)) (by rfl) (by rfl) (by rfl) (by rfl) (by rfl) (by rfl)) (by rfl))
     (@a09 _ _ _ (@a47 _ _ 11 _ _ _ _ sc_law.nd rfl (by walk_at "o") (@a49 _ _ _ _ _ _ _ (a45 K) (pv 15) (@a05 _ _ _ _) (fun _ _=>rfl)) (by rfl) (by walk_at "o"))))))) (by intro _; rfl))
    (@a02 _ _ _ _ _ (@aa3 _ _ _ _ _ _ _ _ PassesOwn.never rfl (a60 K (c74 K (pv 12) (@bz6 _ _ _ _ _ _ bp4 (@a05 _ _ _ _)))) (ab6 K (n:=3) rfl (a50 (a36 (i:=11) sc_law.nd rfl (by walk_at "o")) (a50 (a36 (i:=14) sc_law.nd rfl (by walk_at "o")) (a50 (a36 (i:=15) sc_law.nd rfl (by walk_at "o")) (@ab5 _))))) (@a09 _ _ _ (@ai7 _ _ _ _ _ _ _ _ (@PW.pt _ _ _ (@bz0 _ _ _ _ _ _ _ (@a83 _ _ _ _ _ _ _ _ (ap5 (by exact hr.units)) (ag0 (pv 9) T.cl_Hall T.M_Hall_step G_Hall_step (hr.mono (by omega)) T.b_Hall_step .nil a52 (@a00 _ _ _ _ _ (pv 11) (@a00 _ _ _ _ _ (pv 14) (@a01 _) (by rfl)) (by rfl))) (pv 15) (nomark _)) (@bp3 _ _ _ _ (@a83 _ _ _ _ _ _ _ _ (ap5 (by exact hr.units)) (ag0 (pv 7) T.cl_Hall T.M_Hall_step G_Hall_step (hr.mono (by omega)) T.b_Hall_step .nil a52 (@a00 _ _ _ _ _ (pv 11) (@a00 _ _ _ _ _ (pv 14) (@a01 _) (by rfl)) (by rfl))) (pv 15) (nomark _))))) (@a09 _ _ _ (@a53 _ _ _ _ (@b39 _ _ _ _))) (@ac1 _))) (by intro _; rfl))
    (@a09 _ _ _ (@a53 _ _ _ _ (@b39 _ _ _ _))))))))))))))))),?_⟩
   have sl:(1000000:Nat)≤sizeLine:=le_line (Nat.le_refl _)
   walk_at "go"
   refine cc1 hS ?_
   walk_at "run"
   obtain ⟨mx,hmx,emx⟩:∃ r:Nat,r<2∧ns.sum % 2=(r:Nat):=aq2 _ (m:=2) (by decide)
   rw [emx]
   refine ⟨a,ns,0,(mx:Int),rfl,hS,by omega,by omega,by omega,fun z0 HA sA=>?_⟩
   walk_at "run"
   intro pf HB fB sB eB
   walk_at "run"
   refine ⟨pf,(mx:Int),4,rfl,⟨z0,eB⟩,by omega,by omega,fun r4 HC hr4 oC kC=>?_⟩
   walk_at "run"
   refine ⟨pf,(mx:Int),2,rfl,kC,by omega,by omega,fun r2 HD hr2 oD kD=>?_⟩
   walk_at "run"
   have fpf:=sA.free fB
   have s0D:Same H HD:=oD.new (oC.new (sA.trans sB) fpf) fpf
   rw [show (1+(r4:Int))=((1+r4:Nat):Int) by omega]
   obtain ⟨many,hmany⟩:∃ many,many=1+r4:=⟨_,rfl⟩
   rw [← hmany]
   have hm4:0<many∧many≤4:=by omega
   refine bi9 (n:=many) (le_line (by omega)) (fun i acc H'=>i≤many∧Same H H'∧∃ xs,Each (TabW H') acc xs∧xs.length=i∧∀ x∈xs,TOk x) ⟨Nat.zero_le _,s0D,[],.nil,rfl,by simp⟩ (fun i acc H' ⟨_,_,xs,he,e,_⟩=>by rw [he.len]; omega) ?_ ?_
   · rintro i acc H5 hi ⟨_,s5,xs,he,hl,hok⟩
     walk_at "run"
     rw [show (1+(0+(i:Int)))=((1+i:Nat):Int) by omega]
     refine ⟨a,ns,1+i,(mx:Int),rfl,s5.seq hS,by omega,by omega,by omega,fun z2 H6 s6=>?_⟩
     walk_at "run"
     refine ⟨z2,(mx:Int),rfl,fun v x H7 s7 hw hx=>?_⟩
     have s67:=s6.trans s7
     refine ⟨hi,s5.trans s67,xs++[x],(he.mono fun v x h=>h.same s67).snoc hw,by simp [hl],fun y hy=>?_⟩
     rcases List.mem_append.mp hy with hy | hy
     · exact hok y hy
     · rw [List.mem_singleton.mp hy]; exact hx
   rintro tvs H5 ⟨_,s5,xs,hTab,hxl,hTok⟩ ta H1 f1 s1 e1
   replace hTab:Each (TabW H1) tvs xs:=hTab.mono fun v x h=>h.same s1
   have s01:=s5.trans s1
   have tl:=hTab.len
   clear s5 s1 f1 s0D fpf kD oD oC kC eB fB sB sA
   walk_at "run"
   refine ⟨⟨_,SqL.of e1⟩,ac9 (xs:=tvs) (le_line (by omega)) (fun i acc H'=>i≤xs.length∧Same H1 H'∧∃ ms:List Addr,acc=ms.map V.ref∧Each (MS w.params t.c_TableMachine H') ms (xs.take i)) ⟨Nat.zero_le _,Same.refl _,[],rfl,.nil⟩ (fun i acc H' ⟨_,s',ms,e,he⟩=>⟨by rw [e,List.length_map,he.len,List.length_take]; omega,SqL.of (s' _ _ e1)⟩) ?_ ?_⟩
   · rintro i v acc H2 hv ⟨hi,s2,ms,rfl,he⟩
     have hi':i<xs.length:=by rw [← tl]; exact (List.getElem?_eq_some_iff.mp hv).1
     have hx:xs[i]?=some xs[i]:=List.getElem?_eq_getElem hi'
     walk_at "run"
     intro mp dxm fmp fdx hne'
     have s23:Same H2 (upd (upd H2 dxm (.own mp)) mp (.ins t.c_TableMachine dxm [])):=(Same.new fdx).updNew fmp
     have e3:upd (upd H2 dxm (.own mp)) mp (.ins t.c_TableMachine dxm []) mp=some (.ins t.c_TableMachine dxm []):=a34
     generalize upd (upd H2 dxm (.own mp)) mp (.ins t.c_TableMachine dxm [])=H3 at s23 e3
     obtain ⟨a1,b1,c1,gsx,htab⟩:=(hTab.2 i v _ hv hx).same (s2.trans s23)
     refine ⟨mp,dxm,v,a1,b1,c1,_,_,_,gsx,rfl,e3,htab,(hTok _ (List.mem_of_getElem? hx)).tab,fun d s' c' gs' H4 hM4 _ _ _ _ keep=>⟨rfl,?_⟩⟩
     have s24:Same H2 H4:=fun y o e=>keep y o (s23 y o e) (a03 e fmp)
     refine ⟨hi',s2.trans s24,ms++[mp],by simp,?_⟩
     rw [List.take_add_one,hx]
     exact (he.mono fun m x h=>h.same s24).snoc ⟨d,s',c',gs',hM4⟩
   rintro acc H2 ⟨_,s2,ms,rfl,hM⟩ pm H3 f3 s3 e3
   rw [tl,List.take_length] at hM
   have ml:=hM.len
   walk_at "run"
   intro hp dxh fhp fdx hne'
   have s34:Same H3 (upd (upd H3 dxh (.own hp)) hp (.ins t.c_Hall dxh [])):=(Same.new fdx).updNew fhp
   have e4:upd (upd H3 dxh (.own hp)) hp (.ins t.c_Hall dxh []) hp=some (.ins t.c_Hall dxh []):=a34
   generalize upd (upd H3 dxh (.own hp)) hp (.ins t.c_Hall dxh [])=H4 at s34 e4
   refine ⟨hp,pm,dxh,ms,rfl,e4,s34 _ _ e3,fun H5 keep _ hHup=>⟨rfl,?_⟩⟩
   have s35:Same H3 H5:=fun y o e=>keep y o (s34 y o e) (a03 e fhp)
   have npm:pm≠hp:=a03 e3 fhp
   have hH5:HallAt t.c_Hall (hds [pm] H5) hp ms:=HallAt.hide (fun o=>hHup pm o (by rw [s34 _ _ e3]; simp) npm) npm.symm
   have s25:=s3.trans s35
   have e35:=s35 _ _ e3
   have sHide:Same H2 (hds [pm] H5):=fun b o e=>ab4 (s25 b o e) (by simp; exact a03 e f3)
   have hM5:Each (MX w.params t.c_TableMachine t.c_PackMachine (hds [pm] H5)) ms xs:=hM.mono fun m x h=>.inl (h.same sHide)
   have e1':=s2 _ _ e1
   have hTab2:Each (TabW H2) tvs xs:=hTab.mono fun v x h=>h.same s2
   have hS2:=(s01.trans s2).seq hS
   clear hTab hM e1 e4 s3 s34 keep hHup fhp fdx s2 s01 hS e3 sHide
   walk_at "run"
   obtain ⟨c,hc,ec⟩:∃ c:Int,(c=1∨c=2)∧(1+(r2:Int))=c:=⟨1+r2,by omega,rfl⟩
   rw [ec]
   refine ⟨0,_,c,rfl,hc,⟨by omega,by omega,by omega,by omega⟩,?_⟩
   refine b68 (fun i σ H'=>But pm H5 H'∧(∃ ms':List Addr,H' pm=some (.lst (ms'.map V.ref))∧Each (MX w.params t.c_TableMachine t.c_PackMachine (hds [pm] H')) ms' xs)∧∃ y:Option V,σ=[some (.ref a),some (.int (mx:Nat)),some (.ref pf),some (.int (many:Nat)),some (.int c),some (.ref ta),some (.ref pm),some (.ref hp),y,none,none,none,none,none,none,none]) ⟨But.refl,⟨ms,e35,hM5⟩,_,rfl⟩ ?_ ?_
   · rintro i σ H6 hi ⟨bt,⟨ms',e6,hM6⟩,y,rfl⟩
     obtain ⟨k,ek,hk⟩:=bp1 hc hi
     rw [ek]
     have s26:Same H2 H6:=bt.new s25 f3
     have hk':k<xs.length:=by omega
     have hx:xs[k]?=some xs[k]:=List.getElem?_eq_getElem hk'
     obtain ⟨v,hv⟩:∃ v,tvs[k]?=some v:=⟨_,List.getElem?_eq_getElem (by omega)⟩
     have hT:=hTok _ (List.mem_of_getElem? hx)
     obtain ⟨a1,b1,c1,gsx,htab⟩:=(hTab2.2 k v _ hv hx).same s26
     generalize xs[k]=x at hx hT htab
     walk_at "run"
     refine a99 (SqL.of (s26 _ _ e1')) (a07 hv) ?_
     walk_at "run"
     refine ⟨v,a1,b1,c1,_,_,_,gsx,WM,WM.flatten,rfl,htab,hT.ztab,hT.ne,by simpa using hT.nr,by decide +kernel,c95,hT.says,fun tt a2 b2 c2 us txs kk H7 hP=>?_⟩
     walk_at "run"
     intro mp dxm fmp fdx hne2
     have s78:Same H7 (upd (upd H7 dxm (.own mp)) mp (.ins t.c_PackMachine dxm [])):=(Same.new fdx).updNew fmp
     have e8:upd (upd H7 dxm (.own mp)) mp (.ins t.c_PackMachine dxm []) mp=some (.ins t.c_PackMachine dxm []):=a34
     generalize upd (upd H7 dxm (.own mp)) mp (.ins t.c_PackMachine dxm [])=H8 at s78 e8
     refine ⟨mp,dxm,tt,a2,b2,c2,us,_,txs,kk,rfl,e8,s78 _ _ hP.e,s78 _ _ hP.ea,hP.hu.same s78,Nat.le_trans hT.ne2 (by decide),s78 _ _ hP.eb,s78 _ _ hP.ec,hP.ok,fun d tx c' sh sy H9 hA hfr keep=>⟨rfl,?_⟩⟩
     have s79:Same H7 H9:=fun y o e=>keep y o (s78 y o e) (a03 e fmp)
     have s69:=hP.same.trans s79
     have e9:=s69 _ _ e6
     have e86:=s78 _ _ (hP.same _ _ e6)
     have hA':Z.PAt w.params t.c_PackMachine (hds [pm] H9) mp d tx c' sh sy x.es txs kk:=by
      obtain ⟨dx',g1,g2,g3,g4,g5,g6⟩:=hA.ex
      have nn:∀ {y:Addr},y∈[d,tx,c',sh,sy]→y∉[pm]:=fun hy z=>by
       have:=hfr _ hy
       rw [List.mem_singleton.mp z,e86] at this
       cases this
      have nmp:mp∉[pm]:=fun z=>by rw [List.mem_singleton.mp z,hP.same _ _ e6] at fmp; cases fmp
      exact ⟨dx',ab4 g1 nmp,by2 g2 (nn (by simp)) ⟨_,e9⟩,ab4 g3 (nn (by simp)),ab4 g4 (nn (by simp)),ab4 g5 (nn (by simp)),ab4 g6 (nn (by simp))⟩
     walk_at "run"
     refine as9 e9 (j:=k) ?_ ?_
     · have:=hM6.len
       unfold ixN
       rw [if_pos (by omega),if_pos (by rw [List.length_map]; omega)]
       simp
     have sm:Same (hds [pm] H6) (hds [pm] (upd H9 pm (.lst ((ms'.map V.ref).set k (.ref mp))))):=ak0 (fun _ z=>z) fun b o hb e=>by
      rw [a08 (fun z=>hb (by simp [z]))]
      exact s69 _ _ e
     have sm9:Same (hds [pm] H9) (hds [pm] (upd H9 pm (.lst ((ms'.map V.ref).set k (.ref mp))))):=ak0 (fun _ z=>z) fun b o hb e=>by
      rw [a08 (fun z=>hb (by simp [z]))]
      exact e
     refine ⟨fun b o hb e=>by rw [a08 hb]; exact s69 _ _ (bt b o hb e),⟨ms'.set k mp,by rw [a34,List.map_set],?_⟩,_,rfl⟩
     have hset:xs.set k x=xs:=List.ext_getElem? fun j=>by
      rw [List.getElem?_set]
      by_cases h:k=j
      · subst h
        rw [if_pos rfl,if_pos hk',hx]
      · rw [if_neg h]
     rw [← hset]
     exact (hM6.mono fun m x h=>h.same sm).set k (.inr ⟨d,tx,c',sh,sy,txs,kk,hA'.same sm9,hP.ok,hP.is⟩)
   rintro σ H6 ⟨bt,⟨ms',e6,hM6⟩,y,rfl⟩
   have sh:Same (hds [pm] H5) H6:=fun b o e=>by
    obtain ⟨h1,h2⟩:=br1 e
    exact bt b o (by simpa using h2) h1
   have hH6:HallAt t.c_Hall H6 hp ms:=hH5.same sh
   have hMa:Each (MX w.params t.c_TableMachine t.c_PackMachine H6) ms xs:=hM5.mono fun m x h=>h.same sh
   have hMb:Each (MX w.params t.c_TableMachine t.c_PackMachine H6) ms' xs:=hM6.mono fun m x h=>h.same hds_same
   have hS6:=(bt.new s25 f3).seq hS2
   clear hM5 hM6 hH5 hTab2 hS2 e1' bt sh e35 s25 s35
   walk_at "run"
   intro hq dxq fhq fdq hneq
   have s67:Same H6 (upd (upd H6 dxq (.own hq)) hq (.ins t.c_Hall dxq [])):=(Same.new fdq).updNew fhq
   have e7:upd (upd H6 dxq (.own hq)) hq (.ins t.c_Hall dxq []) hq=some (.ins t.c_Hall dxq []):=a34
   generalize upd (upd H6 dxq (.own hq)) hq (.ins t.c_Hall dxq [])=H7 at s67 e7
   refine ⟨hq,pm,dxq,ms',rfl,e7,s67 _ _ e6,fun H8 keep hQ8 _=>⟨rfl,?_⟩⟩
   have s68:Same H6 H8:=fun y o e=>keep y o (s67 y o e) (a03 e fhq)
   have hH8:=hH6.same s68
   replace hMa:=hMa.mono fun m x (h:MX w.params t.c_TableMachine t.c_PackMachine H6 m x)=>h.same s68
   replace hMb:=hMb.mono fun m x (h:MX w.params t.c_TableMachine t.c_PackMachine H6 m x)=>h.same s68
   have hS8:=s68.seq hS6
   have x4:xs.length≤100:=by omega
   clear hH6 hS6 s67 e7 keep fhq fdq
   walk_at "run"
   obtain ⟨dx,k1,k2,g1,_⟩:=hH8.ex
   refine ⟨hp,dx,_,rfl,g1,b70 _ _ (by decide +kernel) (by decide +kernel),?_⟩
   walk_at "run"
   refine b37 hH8 hMa x4 hTok (fun f fs fst ls H9 s9 hF9=>?_)
   obtain ⟨stv,g91,g92,g93,g94,g95⟩:=hF9.ex
   walk_at "run"
   refine ai4 (SqT.of g91) rfl ?_
   walk_at "run"
   have hQ9:=hQ8.same s9
   obtain ⟨dxb,_,_,g1b,_⟩:=hQ9.ex
   refine ⟨hq,dxb,_,rfl,g1b,b70 _ _ (by decide +kernel) (by decide +kernel),?_⟩
   walk_at "run"
   refine b37 hQ9 (hMb.mono fun m x h=>h.same s9) x4 hTok (fun f2 fs2 fst2 ls2 H10 s10 hF10=>?_)
   obtain ⟨stv2,g01,g02,g03,g04,g05⟩:=hF10.ex
   walk_at "run"
   intro p11 H11 f11 s11 e11
   have s911:=s10.trans s11
   refine bk2 (ai6 (s11 _ _ g01) (s11 _ _ g02) (g03.mono fun l x h=>s11 _ _ h) (s11 _ _ g04) (g05.mono fun v x h=>h.tups s11.tups)) (ai6 e11 (s911 _ _ g92) (g93.mono fun l x h=>s911 _ _ h) (s911 _ _ g94) (g95.mono fun v x h=>h.tups s911.tups)) (ar3 _ _) ?_
   walk_at "run"
   intro pw H12 f12 s12 e12
   walk_at "run"
   have s811:=s9.trans s911
   have s812:=s811.trans s12
   refine bt1 (s812.seq hS8) ?_
   intro pc H13 f13 s13 e13
   rw [show cutV (ns.map V.int) none (some 40)=(ns.take 40).map V.int from c43 (k:=40)] at e13
   walk_at "run"
   have e13w:=s13 _ _ e12
   have npc:pc≠pw:=(a03 e12 f13).symm
   have hst0:H13 fst=some (.tup stv):=(s911.trans (s12.trans s13)) _ _ g94
   have hS0:Each (StdAt H13) stv (begS xs):=g95.mono fun v x h=>h.tups (s911.trans (s12.trans s13)).tups
   have tuw:∀ {H':Hp}{ws:List V},H' pw=some (.lst ws)→Tups H' (hds [pw] H'):=fun e b ys e'=>ab4 e' (by simp; exact ac8 e' e (fun z=>nomatch z))
   obtain ⟨Pv,hPv⟩:∃ Pv:Nat→St→Hp→Prop,Pv=(fun i σ H'=>i≤40∧But pw H13 H'∧(∃ wvs,H' pw=some (.lst wvs)∧wvs.length=i∧∀ v∈wvs,WayAt xs (hds [pw] H') v)∧∃ (st:Addr) (stv:List V) (S:List (Nat×List Ev)),H' st=some (.tup stv)∧Each (StdAt H') stv S∧StOk xs S ∧
    ∃ y8 y10 y13 y14 y15,σ=[some (.ref a),some (.int (mx:Nat)),some (.ref pf),some (.int (many:Nat)),some (.int c),some (.ref ta),some (.ref pm),some (.ref hp),y8,some (.ref hq),y10,some (.ref st),some (.ref pw),y13,y14,y15]):=⟨_,rfl⟩
   refine ⟨⟨_,SqL.of e13⟩,b01 (K:=K) (a:=pc) (xs:=(ns.take 40).map V.int) Pv (by rw [hPv]; exact ⟨Nat.zero_le _,But.refl,⟨[],e13w,rfl,fun v hv=>absurd hv (by simp)⟩,fst,stv,_,hst0,hS0,by0 hTok,_,_,_,_,_,rfl⟩) (fun i σ H' _ h=>by rw [hPv] at h; exact SqL.of (h.2.1 _ _ npc e13)) ?_ ?_⟩
   · intro i v σ H14 qt H15 hv hI s15 hqt
     rw [hPv] at hI
     obtain ⟨hi,bt,⟨wvs,ew,hwl,hW⟩,st,stv,S,hst,hSt,hSo,y8,y10,y13,y14,y15,rfl⟩:=hI
     rw [List.getElem?_map] at hv
     obtain ⟨cell,hcell,rfl⟩:=Option.map_eq_some_iff.mp hv
     have hi40:i<40:=by
      have:=(List.getElem?_eq_some_iff.mp hcell).1
      rw [List.length_take] at this
      omega
     have s1114:Same H11 H14:=bt.new (s12.trans s13) f12
     have s814:=s811.trans s1114
     refine ai4 (SqT.of hqt) rfl ?_
     walk_at "run"
     refine af4 (cb (by omega) (by omega)) ?_
     walk_at "run"
     refine ⟨_,(mx:Int),many,rfl,by omega,fun ou ovs os H16 s16 fou eou hO hol=>?_⟩
     walk_at "run"
     have s1416:=s15.trans s16
     have s816:=s814.trans s1416
     obtain ⟨pl,p1,p2,p3,p4⟩:=bg8 (os:=os) hTok hSo (by omega)
     have pn:pl.length≤100:=by have:=congrArg List.length p1; rw [List.length_map] at this; omega
     have hH16:=hH8.same s816
     obtain ⟨dx6,_,_,g6,_⟩:=hH16.ex
     refine ⟨hp,dx6,_,rfl,g6,b70 _ _ (by decide +kernel) (by decide +kernel),?_⟩
     walk_at "run"
     have hst16:=s1416 _ _ hst
     have hSt16:Each (StdAt H16) stv (pl.map Ln.std):=by rw [p2]; exact hSt.mono fun v x h=>h.tups s1416.tups
     have hO16:Each (fun v (e:Ev)=>e.tr.At H16 v []) ovs (pl.map (·.o)):=by rw [p3]; exact hO
     refine ah8 hH16 (by rw [p1]; exact hMa.mono fun m x h=>h.same s816) pn hst16 hSt16 eou hO16 (fun l hl=>(p4 l hl).1) (fun f fs fst ls H17 s17 hF17 nfs nls=>?_)
     walk_at "run"
     have s817:=s816.trans s17
     have hQ17:=hQ8.same s817
     obtain ⟨dx7,_,_,g7,_⟩:=hQ17.ex
     refine ⟨hq,dx7,_,rfl,g7,b70 _ _ (by decide +kernel) (by decide +kernel),?_⟩
     walk_at "run"
     refine ah8 hQ17 (by rw [p1]; exact hMb.mono fun m x h=>h.same s817) pn (s17 _ _ hst16) (hSt16.mono fun v x h=>h.tups s17.tups) (s17 _ _ eou) (hO16.mono fun v x h=>a92 h s17.tups) (fun l hl=>(p4 l hl).1) (fun f2 fs2 fst2 ls2 H18 s18 hF18 _ _=>?_)
     have hF17':=hF17.same s18
     obtain ⟨stv7,a1,a2,a3,a4,a5⟩:=hF17'.ex
     obtain ⟨stv8,b1,b2,b3,b4,b5⟩:=hF18.ex
     walk_at "run"
     refine bk2 (ai6 b1 b2 b3 b4 b5) (ai6 a1 a2 a3 a4 a5) (ar3 _ _) ?_
     walk_at "run"
     have s1418:=s1416.trans (s17.trans s18)
     have ew18:=s1418 _ _ ew
     refine ah0 (SqL.of ew18) ?_
     walk_at "run"
     intro p19 H19 f19 s19 e19
     walk_at "run"
     have s1419:=s1418.trans s19
     have ew19:=s19 _ _ ew18
     refine ab9 ew19 (by omega) ?_
     have tu:Tups H19 (upd H19 pw (.lst (wvs++[.ref p19]))):=Tups.upd ew19
     have eU:upd H19 pw (.lst (wvs++[.ref p19])) pw=some (.lst (wvs++[.ref p19])):=a34
     have kU:∀ b o,b≠pw→H19 b=some o→upd H19 pw (.lst (wvs++[.ref p19])) b=some o:=fun b o hb e=>by rw [a08 hb]; exact e
     generalize upd H19 pw (.lst (wvs++[.ref p19]))=H20 at tu eU kU
     walk_at "run"
     have a1':=tu _ _ (s19 _ _ a1)
     refine a81 (SqT.of a1') (a07 (j:=1) rfl) ?_
     rw [hPv]
     have sm:Same (hds [pw] H14) (hds [pw] H20):=ak0 (fun _ z=>z) fun b o hb e=>kU b o (by simpa using hb) (s1419 _ _ e)
     have nou:ou≠pw:=(a03 (s15 _ _ ew) fou).symm
     have hF20:FoundAt (hds [pw] H20) f fs fst ls (pl.map (·.y.1)) (outS pl):=by
      have n1:fs≠pw:=(a03 (s1416 _ _ ew) nfs).symm
      have n2:∀ l∈ls,l≠pw:=fun l hl=>(a03 (s1416 _ _ ew) (nls l hl)).symm
      exact ((hF17'.same s19).hide ew19 n1 n2).same (ak0 (fun _ z=>z) fun b o hb e=>kU b o (by simpa using hb) e)
     have t1420:Tups H14 H20:=s1419.tups.trans tu
     refine ⟨hi40,fun b o hb e=>kU b o hb (s1419 _ _ (bt b o hb e)),⟨_,eU,by simp [hwl],fun v hv=>?_⟩,fst,stv7,outS pl,tu _ _ (s19 _ _ a4),a5.mono fun v x h=>h.tups (s19.tups.trans tu),by1 p1 p4,_,_,_,_,_,rfl⟩
     rcases List.mem_append.mp hv with hv | hv
     · exact (hW v hv).same sm
     · rw [List.mem_singleton.mp hv]
       have th:=tuw eU
       exact ⟨p19,st,ou,f,fs,fst,ls,pl,stv,ovs,rfl,th _ _ (tu _ _ e19),th _ _ (t1420 _ _ hst),by rw [p2]; exact hSt.mono fun v x h=>h.tups (t1420.trans th),ab4 (kU _ _ nou ((s17.trans (s18.trans s19)) _ _ eou)) (by simpa using nou),hO16.mono fun v x h=>a92 h ((s17.trans (s18.trans s19)).tups.trans (tu.trans th)),p1,fun l hl=>(p4 l hl).1,hF20⟩
   · intro σ H14 hI
     rw [hPv] at hI
     obtain ⟨hi,bt,⟨wvs,ew,hwl,hW⟩,st,stv,S,_,_,_,y8,y10,y13,y14,y15,rfl⟩:=hI
     have s1114:Same H11 H14:=bt.new (s12.trans s13) f12
     have s814:=s811.trans s1114
     walk_at "run"
     refine ⟨rfl,pw,wvs,rfl,SqL.of ew,?_⟩
     intro pr H15 f15 s15 e15
     walk_at "run"
     refine ⟨⟨_,SqL.of e15⟩,ac6 (K:=K) (a:=pr) (xs:=wvs.reverse) (fun i σ H'=>Same H15 H'∧∃ y8 y10 y11 y13 y14 y15,σ=[some (.ref a),some (.int (mx:Nat)),some (.ref pf),some (.int (many:Nat)),some (.int c),some (.ref ta),some (.ref pm),some (.ref hp),y8,some (.ref hq),y10,y11,some (.ref pw),y13,y14,y15]) ⟨Same.refl _,_,_,_,_,_,_,rfl⟩ (fun i σ H' _ ⟨s',_⟩=>SqL.of (s' _ _ e15)) ?_ ?_⟩
     · rintro i v σ H16 hv ⟨s16,y8,y10,y11,y13,y14,y15,rfl⟩
       have s1416:=s15.trans s16
       have s816:=s814.trans s1416
       obtain ⟨tt,st,ou,f,fs,fst,ls,pl,stv,ovs,rfl,w1,w2,w3,w4,w5,w6,w7,w8⟩:=(hW v (List.mem_reverse.mp (List.mem_of_getElem? hv))).same (hds_same.trans s1416)
       have pn:pl.length≤100:=by have:=congrArg List.length w6; rw [List.length_map] at this; omega
       refine ai4 (SqT.of w1) rfl ?_
       walk_at "run"
       have hQ16:=hQ8.same s816
       obtain ⟨dx6,_,_,g6,_⟩:=hQ16.ex
       refine ⟨hq,dx6,_,rfl,g6,b70 _ _ (by decide +kernel) (by decide +kernel),?_⟩
       walk_at "run"
       refine ah8 hQ16 (by rw [w6]; exact hMb.mono fun m x h=>h.same s816) pn w2 w3 w4 w5 w7 (fun f2 fs2 fst2 ls2 H17 s17 hF17 _ _=>?_)
       obtain ⟨stv7,a1,a2,a3,a4,a5⟩:=(w8.same s17).ex
       obtain ⟨stv8,b1,b2,b3,b4,b5⟩:=hF17.ex
       walk_at "run"
       refine bk2 (ai6 b1 b2 b3 b4 b5) (ai6 a1 a2 a3 a4 a5) (ar3 _ _) ?_
       walk_at "run"
       have s817:=s816.trans s17
       have hH17:=hH8.same s817
       obtain ⟨dx7,_,_,g7,_⟩:=hH17.ex
       refine ⟨hp,dx7,_,rfl,g7,b70 _ _ (by decide +kernel) (by decide +kernel),?_⟩
       walk_at "run"
       refine ah8 hH17 (by rw [w6]; exact hMa.mono fun m x h=>h.same s817) pn (s17 _ _ w2) (w3.mono fun v x h=>h.tups s17.tups) (s17 _ _ w4) (w5.mono fun v x h=>a92 h s17.tups) w7 (fun f3 fs3 fst3 ls3 H18 s18 hF18 _ _=>?_)
       obtain ⟨stv9,c1,c2,c3,c4,c5⟩:=(w8.same (s17.trans s18)).ex
       obtain ⟨stv0,d1,d2,d3,d4,d5⟩:=hF18.ex
       walk_at "run"
       refine bk2 (ai6 d1 d2 d3 d4 d5) (ai6 c1 c2 c3 c4 c5) (ar3 _ _) ?_
       walk_at "run"
       exact ⟨s16.trans (s17.trans s18),_,_,_,_,_,_,rfl⟩
     · rintro σ H16 ⟨s16,y8,y10,y11,y13,y14,y15,rfl⟩
       walk_at "run"
       exact q _
end
theorem b79 {us:List Value}{n:Nat}(h:us.length=n+1):∃ u r,us=u::r:=by
 cases us with
 | nil=>cases h
 | cons u r=>exact ⟨u,r,rfl⟩
theorem ag3 {us:List Value}(h:us.length=1):∃ u0,us=[u0]:=by
 obtain ⟨u0,us,rfl⟩:=b79 h; replace h:=Nat.succ.inj h
 obtain rfl:=List.length_eq_zero_iff.mp h
 exact ⟨u0,rfl⟩
theorem aj1 {us:List Value}(h:us.length=2):∃ u0 u1,us=[u0,u1]:=by
 obtain ⟨u0,us,rfl⟩:=b79 h; replace h:=Nat.succ.inj h
 obtain ⟨u1,us,rfl⟩:=b79 h; replace h:=Nat.succ.inj h
 obtain rfl:=List.length_eq_zero_iff.mp h
 exact ⟨u0,u1,rfl⟩
theorem az0 {us:List Value}(h:us.length=3):∃ u0 u1 u2,us=[u0,u1,u2]:=by
 obtain ⟨u0,us,rfl⟩:=b79 h; replace h:=Nat.succ.inj h
 obtain ⟨u1,us,rfl⟩:=b79 h; replace h:=Nat.succ.inj h
 obtain ⟨u2,us,rfl⟩:=b79 h; replace h:=Nat.succ.inj h
 obtain rfl:=List.length_eq_zero_iff.mp h
 exact ⟨u0,u1,u2,rfl⟩
theorem all_mk {l:PySem.W.OpenLaw}{w:World}{K:PySem.W.Frag}{h:Heap}{mg:Str→Option Value}{fa:Addr}(X:K.In h) (G:h.Ns mainGlobals mg) (hfa:mg "law"=some (.ref fa))
 {C_Machine:Addr}(aC_Machine:PySem.W.nsIn K mainGlobals "Machine"=some (some (.ref C_Machine)))
 {C_Hall:Addr}(aC_Hall:PySem.W.nsIn K mainGlobals "Hall"=some (some (.ref C_Hall)))
 (pg_Hall:PySem.W.plainGet K C_Hall Str.empty=true) (hd_Hall:PySem.W.hasDictIn K C_Hall=true) (po_Hall:PySem.W.plainOver K C_Hall=true) (sa_Hall:PySem.W.findIn K (.ref C_Hall) "__setattr__"=some (some (.builtin "object.__setattr__"))) (mk_Hall:PySem.W.makesIn K C_Hall=true) (kc_Hall:PySem.W.keepIn K (.ref C_Hall)=true)
 (nF_Hall_lines:PySem.W.findIn K (.ref C_Hall) "lines"=some none)
 (nF_Hall_machines:PySem.W.findIn K (.ref C_Hall) "machines"=some none)
 {C_TableMachine:Addr}(aC_TableMachine:PySem.W.nsIn K mainGlobals "TableMachine"=some (some (.ref C_TableMachine)))
 (pg_TableMachine:PySem.W.plainGet K C_TableMachine Str.empty=true) (hd_TableMachine:PySem.W.hasDictIn K C_TableMachine=true) (po_TableMachine:PySem.W.plainOver K C_TableMachine=true) (sa_TableMachine:PySem.W.findIn K (.ref C_TableMachine) "__setattr__"=some (some (.builtin "object.__setattr__"))) (mk_TableMachine:PySem.W.makesIn K C_TableMachine=true) (kc_TableMachine:PySem.W.keepIn K (.ref C_TableMachine)=true)
 (nF_TableMachine_places:PySem.W.findIn K (.ref C_TableMachine) "places"=some none)
 (nF_TableMachine_rooms:PySem.W.findIn K (.ref C_TableMachine) "rooms"=some none)
 (nF_TableMachine_saying:PySem.W.findIn K (.ref C_TableMachine) "saying"=some none)
 {C_PackMachine:Addr}(aC_PackMachine:PySem.W.nsIn K mainGlobals "PackMachine"=some (some (.ref C_PackMachine)))
 (pg_PackMachine:PySem.W.plainGet K C_PackMachine Str.empty=true) (hd_PackMachine:PySem.W.hasDictIn K C_PackMachine=true) (po_PackMachine:PySem.W.plainOver K C_PackMachine=true) (sa_PackMachine:PySem.W.findIn K (.ref C_PackMachine) "__setattr__"=some (some (.builtin "object.__setattr__"))) (mk_PackMachine:PySem.W.makesIn K C_PackMachine=true) (kc_PackMachine:PySem.W.keepIn K (.ref C_PackMachine)=true)
 (nF_PackMachine_cells:PySem.W.findIn K (.ref C_PackMachine) "cells"=some none)
 (nF_PackMachine_places:PySem.W.findIn K (.ref C_PackMachine) "places"=some none)
 (nF_PackMachine_sayings:PySem.W.findIn K (.ref C_PackMachine) "sayings"=some none)
 (nF_PackMachine_shapes:PySem.W.findIn K (.ref C_PackMachine) "shapes"=some none)
 (nF_PackMachine_texts:PySem.W.findIn K (.ref C_PackMachine) "texts"=some none)
 {f0:Addr}{od0 an0:Option Addr}{sl0:Array (Option Value)}{oc0 kV0 dc0 pm0 cd0 ct0:Value}
 {f1:Addr}{od1 an1:Option Addr}{sl1:Array (Option Value)}{oc1 kV1 dc1 pm1 cd1 ct1:Value}
 {f2:Addr}{od2 an2:Option Addr}{sl2:Array (Option Value)}{oc2 kV2 dc2 pm2 cd2 ct2:Value}
 {f3:Addr}{od3 an3:Option Addr}{sl3:Array (Option Value)}{oc3 kV3 dc3 pm3 cd3 ct3:Value}
 {f4:Addr}{od4 an4:Option Addr}{sl4:Array (Option Value)}{oc4 kV4 dc4 pm4 cd4 ct4:Value}
 {f5:Addr}{od5 an5:Option Addr}{sl5:Array (Option Value)}{oc5 kV5 dc5 pm5 cd5 ct5:Value}
 {f6:Addr}{od6 an6:Option Addr}{sl6:Array (Option Value)}{oc6 kV6 dc6 pm6 cd6 ct6:Value}
 {f7:Addr}{od7 an7:Option Addr}{sl7:Array (Option Value)}{oc7 kV7 dc7 pm7 cd7 ct7:Value}
 {f8:Addr}{od8 an8:Option Addr}{sl8:Array (Option Value)}{oc8 kV8 dc8 pm8 cd8 ct8:Value}
 {f9:Addr}{od9 an9:Option Addr}{sl9:Array (Option Value)}{oc9 kV9 dc9 pm9 cd9 ct9:Value}
 {f10:Addr}{od10 an10:Option Addr}{sl10:Array (Option Value)}{oc10 kV10 dc10 pm10 cd10 ct10:Value}
 {f11:Addr}{od11 an11:Option Addr}{sl11:Array (Option Value)}{oc11 kV11 dc11 pm11 cd11 ct11:Value}
 {f12:Addr}{od12 an12:Option Addr}{sl12:Array (Option Value)}{oc12 kV12 dc12 pm12 cd12 ct12:Value}
 {f13:Addr}{od13 an13:Option Addr}{sl13:Array (Option Value)}{oc13 kV13 dc13 pm13 cd13 ct13:Value}
 {f14:Addr}{od14 an14:Option Addr}{sl14:Array (Option Value)}{oc14 kV14 dc14 pm14 cd14 ct14:Value}
 {f15:Addr}{od15 an15:Option Addr}{sl15:Array (Option Value)}{oc15 kV15 dc15 pm15 cd15 ct15:Value}
 {f16:Addr}{od16 an16:Option Addr}{sl16:Array (Option Value)}{oc16 kV16 dc16 pm16 cd16 ct16:Value}
 {f17:Addr}{od17 an17:Option Addr}{sl17:Array (Option Value)}{oc17 kV17 dc17 pm17 cd17 ct17:Value}
 {f18:Addr}{od18 an18:Option Addr}{sl18:Array (Option Value)}{oc18 kV18 dc18 pm18 cd18 ct18:Value}
 {f19:Addr}{od19 an19:Option Addr}{sl19:Array (Option Value)}{oc19 kV19 dc19 pm19 cd19 ct19:Value}
 {f20:Addr}{od20 an20:Option Addr}{sl20:Array (Option Value)}{oc20 kV20 dc20 pm20 cd20 ct20:Value}
 {f21:Addr}{od21 an21:Option Addr}{sl21:Array (Option Value)}{oc21 kV21 dc21 pm21 cd21 ct21:Value}
 {f22:Addr}{od22 an22:Option Addr}{sl22:Array (Option Value)}{oc22 kV22 dc22 pm22 cd22 ct22:Value}
 {f23:Addr}{od23 an23:Option Addr}{sl23:Array (Option Value)}{oc23 kV23 dc23 pm23 cd23 ct23:Value}
 {f24:Addr}{od24 an24:Option Addr}{sl24:Array (Option Value)}{oc24 kV24 dc24 pm24 cd24 ct24:Value}
 {f25:Addr}{od25 an25:Option Addr}{sl25:Array (Option Value)}{oc25 kV25 dc25 pm25 cd25 ct25:Value}
 {f26:Addr}{od26 an26:Option Addr}{sl26:Array (Option Value)}{oc26 kV26 dc26 pm26 cd26 ct26:Value}
 {f27:Addr}{od27 an27:Option Addr}{sl27:Array (Option Value)}{oc27 kV27 dc27 pm27 cd27 ct27:Value}
 {f28:Addr}{od28 an28:Option Addr}{sl28:Array (Option Value)}{oc28 kV28 dc28 pm28 cd28 ct28:Value}
 {f29:Addr}{od29 an29:Option Addr}{sl29:Array (Option Value)}{oc29 kV29 dc29 pm29 cd29 ct29:Value}
 {f30:Addr}{od30 an30:Option Addr}{sl30:Array (Option Value)}{oc30 kV30 dc30 pm30 cd30 ct30:Value}
 {f31:Addr}{od31 an31:Option Addr}{sl31:Array (Option Value)}{oc31 kV31 dc31 pm31 cd31 ct31:Value}
 {f32:Addr}{od32 an32:Option Addr}{sl32:Array (Option Value)}{oc32 kV32 dc32 pm32 cd32 ct32:Value}
 {f33:Addr}{od33 an33:Option Addr}{sl33:Array (Option Value)}{oc33 kV33 dc33 pm33 cd33 ct33:Value}
 (a0:PySem.W.findIn K (.ref C_Hall) "__init__"=some (some (.ref f0))) (i0:PySem.W.isFn K (.ref f0)=true) (l0:K.lookup f0=some ⟨oc0,od0,.func (PySem.W.fnOf "__init__" "Hall.__init__" (defArgs a54) (defBody a54) (defScope a54) .none kV0 dc0 pm0 an0 cd0 ct0),sl0⟩) (c0:PySem.W.codeIn K cd0 "Hall.__init__"=true) (k0:PySem.W.keepIn K (.ref f0)=true)
 (a1:PySem.W.findIn K (.ref C_Hall) "begin"=some (some (.ref f1))) (i1:PySem.W.isFn K (.ref f1)=true) (l1:K.lookup f1=some ⟨oc1,od1,.func (PySem.W.fnOf "begin" "Hall.begin" (defArgs a66) (defBody a66) (defScope a66) .none kV1 dc1 pm1 an1 cd1 ct1),sl1⟩) (c1:PySem.W.codeIn K cd1 "Hall.begin"=true) (k1:PySem.W.keepIn K (.ref f1)=true)
 (a2:PySem.W.findIn K (.ref C_Hall) "step"=some (some (.ref f2))) (i2:PySem.W.isFn K (.ref f2)=true) (l2:K.lookup f2=some ⟨oc2,od2,.func (PySem.W.fnOf "step" "Hall.step" (defArgs a84) (defBody a84) (defScope a84) .none kV2 dc2 pm2 an2 cd2 ct2),sl2⟩) (c2:PySem.W.codeIn K cd2 "Hall.step"=true) (k2:PySem.W.keepIn K (.ref f2)=true)
 (a3:PySem.W.nsIn K mainGlobals "copied"=some (some (.ref f3))) (l3:K.lookup f3=some ⟨oc3,od3,.func (PySem.W.fnOf "copied" "copied" (defArgs ab8) (defBody ab8) (defScope ab8) .none kV3 dc3 pm3 an3 cd3 ct3),sl3⟩) (c3:PySem.W.codeIn K cd3 "copied"=true) (k3:PySem.W.keepIn K (.ref f3)=true)
 (a4:PySem.W.nsIn K mainGlobals "put_behind"=some (some (.ref f4))) (l4:K.lookup f4=some ⟨oc4,od4,.func (PySem.W.fnOf "put_behind" "put_behind" (defArgs a73) (defBody a73) (defScope a73) .none kV4 dc4 pm4 an4 cd4 ct4),sl4⟩) (c4:PySem.W.codeIn K cd4 "put_behind"=true) (k4:PySem.W.keepIn K (.ref f4)=true)
 (a5:PySem.W.nsIn K mainGlobals "settled_turn"=some (some (.ref f5))) (l5:K.lookup f5=some ⟨oc5,od5,.func (PySem.W.fnOf "settled_turn" "settled_turn" (defArgs a51) (defBody a51) (defScope a51) .none kV5 dc5 pm5 an5 cd5 ct5),sl5⟩) (c5:PySem.W.codeIn K cd5 "settled_turn"=true) (k5:PySem.W.keepIn K (.ref f5)=true)
 (a6:PySem.W.nsIn K mainGlobals "counted"=some (some (.ref f6))) (l6:K.lookup f6=some ⟨oc6,od6,.func (PySem.W.fnOf "counted" "counted" (defArgs aa5) (defBody aa5) (defScope aa5) .none kV6 dc6 pm6 an6 cd6 ct6),sl6⟩) (c6:PySem.W.codeIn K cd6 "counted"=true) (k6:PySem.W.keepIn K (.ref f6)=true)
 (a7:PySem.W.nsIn K mainGlobals "pack"=some (some (.ref f7))) (l7:K.lookup f7=some ⟨oc7,od7,.func (PySem.W.fnOf "pack" "pack" (defArgs ae8) (defBody ae8) (defScope ae8) .none kV7 dc7 pm7 an7 cd7 ct7),sl7⟩) (c7:PySem.W.codeIn K cd7 "pack"=true) (k7:PySem.W.keepIn K (.ref f7)=true)
 (a8:PySem.W.nsIn K mainGlobals "sayings_of"=some (some (.ref f8))) (l8:K.lookup f8=some ⟨oc8,od8,.func (PySem.W.fnOf "sayings_of" "sayings_of" (defArgs a67) (defBody a67) (defScope a67) .none kV8 dc8 pm8 an8 cd8 ct8),sl8⟩) (c8:PySem.W.codeIn K cd8 "sayings_of"=true) (k8:PySem.W.keepIn K (.ref f8)=true)
 (a9:PySem.W.nsIn K mainGlobals "pairs_of"=some (some (.ref f9))) (l9:K.lookup f9=some ⟨oc9,od9,.func (PySem.W.fnOf "pairs_of" "pairs_of" (defArgs a88) (defBody a88) (defScope a88) .none kV9 dc9 pm9 an9 cd9 ct9),sl9⟩) (c9:PySem.W.codeIn K cd9 "pairs_of"=true) (k9:PySem.W.keepIn K (.ref f9)=true)
 (a10:PySem.W.nsIn K mainGlobals "texts_in"=some (some (.ref f10))) (l10:K.lookup f10=some ⟨oc10,od10,.func (PySem.W.fnOf "texts_in" "texts_in" (defArgs a93) (defBody a93) (defScope a93) .none kV10 dc10 pm10 an10 cd10 ct10),sl10⟩) (c10:PySem.W.codeIn K cd10 "texts_in"=true) (k10:PySem.W.keepIn K (.ref f10)=true)
 (a11:PySem.W.nsIn K mainGlobals "block"=some (some (.ref f11))) (l11:K.lookup f11=some ⟨oc11,od11,.func (PySem.W.fnOf "block" "block" (defArgs ad5) (defBody ad5) (defScope ad5) .none kV11 dc11 pm11 an11 cd11 ct11),sl11⟩) (c11:PySem.W.codeIn K cd11 "block"=true) (k11:PySem.W.keepIn K (.ref f11)=true)
 (a12:PySem.W.nsIn K mainGlobals "shape_cells"=some (some (.ref f12))) (l12:K.lookup f12=some ⟨oc12,od12,.func (PySem.W.fnOf "shape_cells" "shape_cells" (defArgs a63) (defBody a63) (defScope a63) .none kV12 dc12 pm12 an12 cd12 ct12),sl12⟩) (c12:PySem.W.codeIn K cd12 "shape_cells"=true) (k12:PySem.W.keepIn K (.ref f12)=true)
 (a13:PySem.W.nsIn K mainGlobals "common_pair"=some (some (.ref f13))) (l13:K.lookup f13=some ⟨oc13,od13,.func (PySem.W.fnOf "common_pair" "common_pair" (defArgs a58) (defBody a58) (defScope a58) .none kV13 dc13 pm13 an13 cd13 ct13),sl13⟩) (c13:PySem.W.codeIn K cd13 "common_pair"=true) (k13:PySem.W.keepIn K (.ref f13)=true)
 (a14:PySem.W.nsIn K mainGlobals "block_places"=some (some (.ref f14))) (l14:K.lookup f14=some ⟨oc14,od14,.func (PySem.W.fnOf "block_places" "block_places" (defArgs a59) (defBody a59) (defScope a59) .none kV14 dc14 pm14 an14 cd14 ct14),sl14⟩) (c14:PySem.W.codeIn K cd14 "block_places"=true) (k14:PySem.W.keepIn K (.ref f14)=true)
 (a15:PySem.W.nsIn K mainGlobals "texts_at"=some (some (.ref f15))) (l15:K.lookup f15=some ⟨oc15,od15,.func (PySem.W.fnOf "texts_at" "texts_at" (defArgs a89) (defBody a89) (defScope a89) .none kV15 dc15 pm15 an15 cd15 ct15),sl15⟩) (c15:PySem.W.codeIn K cd15 "texts_at"=true) (k15:PySem.W.keepIn K (.ref f15)=true)
 (a16:PySem.W.nsIn K mainGlobals "cells_in"=some (some (.ref f16))) (l16:K.lookup f16=some ⟨oc16,od16,.func (PySem.W.fnOf "cells_in" "cells_in" (defArgs a94) (defBody a94) (defScope a94) .none kV16 dc16 pm16 an16 cd16 ct16),sl16⟩) (c16:PySem.W.codeIn K cd16 "cells_in"=true) (k16:PySem.W.keepIn K (.ref f16)=true)
 (a17:PySem.W.nsIn K mainGlobals "others_in"=some (some (.ref f17))) (l17:K.lookup f17=some ⟨oc17,od17,.func (PySem.W.fnOf "others_in" "others_in" (defArgs a75) (defBody a75) (defScope a75) .none kV17 dc17 pm17 an17 cd17 ct17),sl17⟩) (c17:PySem.W.codeIn K cd17 "others_in"=true) (k17:PySem.W.keepIn K (.ref f17)=true)
 (a18:PySem.W.nsIn K mainGlobals "room_with"=some (some (.ref f18))) (l18:K.lookup f18=some ⟨oc18,od18,.func (PySem.W.fnOf "room_with" "room_with" (defArgs a76) (defBody a76) (defScope a76) .none kV18 dc18 pm18 an18 cd18 ct18),sl18⟩) (c18:PySem.W.codeIn K cd18 "room_with"=true) (k18:PySem.W.keepIn K (.ref f18)=true)
 (a19:PySem.W.nsIn K mainGlobals "places_by"=some (some (.ref f19))) (l19:K.lookup f19=some ⟨oc19,od19,.func (PySem.W.fnOf "places_by" "places_by" (defArgs a85) (defBody a85) (defScope a85) .none kV19 dc19 pm19 an19 cd19 ct19),sl19⟩) (c19:PySem.W.codeIn K cd19 "places_by"=true) (k19:PySem.W.keepIn K (.ref f19)=true)
 (a20:PySem.W.nsIn K mainGlobals "place_of"=some (some (.ref f20))) (l20:K.lookup f20=some ⟨oc20,od20,.func (PySem.W.fnOf "place_of" "place_of" (defArgs a95) (defBody a95) (defScope a95) .none kV20 dc20 pm20 an20 cd20 ct20),sl20⟩) (c20:PySem.W.codeIn K cd20 "place_of"=true) (k20:PySem.W.keepIn K (.ref f20)=true)
 (a21:PySem.W.findIn K (.ref C_TableMachine) "__init__"=some (some (.ref f21))) (i21:PySem.W.isFn K (.ref f21)=true) (l21:K.lookup f21=some ⟨oc21,od21,.func (PySem.W.fnOf "__init__" "TableMachine.__init__" (defArgs a35) (defBody a35) (defScope a35) .none kV21 dc21 pm21 an21 cd21 ct21),sl21⟩) (c21:PySem.W.codeIn K cd21 "TableMachine.__init__"=true) (k21:PySem.W.keepIn K (.ref f21)=true)
 (a22:PySem.W.findIn K (.ref C_TableMachine) "begin"=some (some (.ref f22))) (i22:PySem.W.isFn K (.ref f22)=true) (l22:K.lookup f22=some ⟨oc22,od22,.func (PySem.W.fnOf "begin" "TableMachine.begin" (defArgs a41) (defBody a41) (defScope a41) .none kV22 dc22 pm22 an22 cd22 ct22),sl22⟩) (c22:PySem.W.codeIn K cd22 "TableMachine.begin"=true) (k22:PySem.W.keepIn K (.ref f22)=true)
 (a23:PySem.W.findIn K (.ref C_TableMachine) "step"=some (some (.ref f23))) (i23:PySem.W.isFn K (.ref f23)=true) (l23:K.lookup f23=some ⟨oc23,od23,.func (PySem.W.fnOf "step" "TableMachine.step" (defArgs a43) (defBody a43) (defScope a43) .none kV23 dc23 pm23 an23 cd23 ct23),sl23⟩) (c23:PySem.W.codeIn K cd23 "TableMachine.step"=true) (k23:PySem.W.keepIn K (.ref f23)=true)
 (a24:PySem.W.findIn K (.ref C_PackMachine) "__init__"=some (some (.ref f24))) (i24:PySem.W.isFn K (.ref f24)=true) (l24:K.lookup f24=some ⟨oc24,od24,.func (PySem.W.fnOf "__init__" "PackMachine.__init__" (defArgs a37) (defBody a37) (defScope a37) .none kV24 dc24 pm24 an24 cd24 ct24),sl24⟩) (c24:PySem.W.codeIn K cd24 "PackMachine.__init__"=true) (k24:PySem.W.keepIn K (.ref f24)=true)
 (a25:PySem.W.findIn K (.ref C_PackMachine) "begin"=some (some (.ref f25))) (i25:PySem.W.isFn K (.ref f25)=true) (l25:K.lookup f25=some ⟨oc25,od25,.func (PySem.W.fnOf "begin" "PackMachine.begin" (defArgs a44) (defBody a44) (defScope a44) .none kV25 dc25 pm25 an25 cd25 ct25),sl25⟩) (c25:PySem.W.codeIn K cd25 "PackMachine.begin"=true) (k25:PySem.W.keepIn K (.ref f25)=true)
 (a26:PySem.W.findIn K (.ref C_PackMachine) "step"=some (some (.ref f26))) (i26:PySem.W.isFn K (.ref f26)=true) (l26:K.lookup f26=some ⟨oc26,od26,.func (PySem.W.fnOf "step" "PackMachine.step" (defArgs a48) (defBody a48) (defScope a48) .none kV26 dc26 pm26 an26 cd26 ct26),sl26⟩) (c26:PySem.W.codeIn K cd26 "PackMachine.step"=true) (k26:PySem.W.keepIn K (.ref f26)=true)
 (a27:PySem.W.findIn K (.ref C_PackMachine) "said_by"=some (some (.ref f27))) (i27:PySem.W.isFn K (.ref f27)=true) (l27:K.lookup f27=some ⟨oc27,od27,.func (PySem.W.fnOf "said_by" "PackMachine.said_by" (defArgs a39) (defBody a39) (defScope a39) .none kV27 dc27 pm27 an27 cd27 ct27),sl27⟩) (c27:PySem.W.codeIn K cd27 "PackMachine.said_by"=true) (k27:PySem.W.keepIn K (.ref f27)=true)
 (a28:PySem.W.nsIn K mainGlobals "_law_take"=some (some (.ref f28))) (l28:K.lookup f28=some ⟨oc28,od28,.func (PySem.W.fnOf "_law_take" "_law_take" (defArgs a96) (defBody a96) (defScope a96) .none kV28 dc28 pm28 an28 cd28 ct28),sl28⟩) (c28:PySem.W.codeIn K cd28 "_law_take"=true) (k28:PySem.W.keepIn K (.ref f28)=true)
 (a29:PySem.W.nsIn K mainGlobals "_law_cell"=some (some (.ref f29))) (l29:K.lookup f29=some ⟨oc29,od29,.func (PySem.W.fnOf "_law_cell" "_law_cell" (defArgs a97) (defBody a97) (defScope a97) .none kV29 dc29 pm29 an29 cd29 ct29),sl29⟩) (c29:PySem.W.codeIn K cd29 "_law_cell"=true) (k29:PySem.W.keepIn K (.ref f29)=true)
 (a30:PySem.W.nsIn K mainGlobals "_law_said"=some (some (.ref f30))) (l30:K.lookup f30=some ⟨oc30,od30,.func (PySem.W.fnOf "_law_said" "_law_said" (defArgs a98) (defBody a98) (defScope a98) .none kV30 dc30 pm30 an30 cd30 ct30),sl30⟩) (c30:PySem.W.codeIn K cd30 "_law_said"=true) (k30:PySem.W.keepIn K (.ref f30)=true)
 (a31:PySem.W.nsIn K mainGlobals "_law_table"=some (some (.ref f31))) (l31:K.lookup f31=some ⟨oc31,od31,.func (PySem.W.fnOf "_law_table" "_law_table" (defArgs a56) (defBody a56) (defScope a56) .none kV31 dc31 pm31 an31 cd31 ct31),sl31⟩) (c31:PySem.W.codeIn K cd31 "_law_table"=true) (k31:PySem.W.keepIn K (.ref f31)=true)
 (a32:PySem.W.nsIn K mainGlobals "_law_outer"=some (some (.ref f32))) (l32:K.lookup f32=some ⟨oc32,od32,.func (PySem.W.fnOf "_law_outer" "_law_outer" (defArgs a86) (defBody a86) (defScope a86) .none kV32 dc32 pm32 an32 cd32 ct32),sl32⟩) (c32:PySem.W.codeIn K cd32 "_law_outer"=true) (k32:PySem.W.keepIn K (.ref f32)=true)
 (a33:PySem.W.nsIn K mainGlobals "law"=some (some (.ref f33))) (l33:K.lookup f33=some ⟨oc33,od33,.func (PySem.W.fnOf "law" "law" (defArgs ak7) (defBody ak7) (defScope ak7) .none kV33 dc33 pm33 an33 cd33 ct33),sl33⟩) (c33:PySem.W.codeIn K cd33 "law"=true) (k33:PySem.W.keepIn K (.ref f33)=true)
 (z_enumerate:PySem.W.nsIn K mainGlobals "enumerate"=some none)
 (z_int:PySem.W.nsIn K mainGlobals "int"=some none)
 (z_len:PySem.W.nsIn K mainGlobals "len"=some none)
 (z_list:PySem.W.nsIn K mainGlobals "list"=some none)
 (z_max:PySem.W.nsIn K mainGlobals "max"=some none)
 (z_min:PySem.W.nsIn K mainGlobals "min"=some none)
 (z_range:PySem.W.nsIn K mainGlobals "range"=some none)
 (z_set:PySem.W.nsIn K mainGlobals "set"=some none)
 (z_sorted:PySem.W.nsIn K mainGlobals "sorted"=some none)
 (z_sum:PySem.W.nsIn K mainGlobals "sum"=some none)
 (z_tuple:PySem.W.nsIn K mainGlobals "tuple"=some none)
 (z_zip:PySem.W.nsIn K mainGlobals "zip"=some none)
 {u_QUIET:Value}(m_QUIET:PySem.W.nsIn K mainGlobals "QUIET"=some (some u_QUIET))
 {ad_QUIET:Addr}(r_QUIET:RelV (.ref ad_QUIET) u_QUIET)
 {u_MOST_WAITING:Value}(m_MOST_WAITING:PySem.W.nsIn K mainGlobals "MOST_WAITING"=some (some u_MOST_WAITING))
 (r_MOST_WAITING:RelV (.int 3) u_MOST_WAITING)
 {u_HEAD:Value}(m_HEAD:PySem.W.nsIn K mainGlobals "HEAD"=some (some u_HEAD))
 (r_HEAD:RelV (.int 4) u_HEAD)
 {its_QUIET:Array Value}{nn_QUIET:Nat}{od_QUIET:Option Addr}{sl_QUIET:Array (Option Value)}(l_QUIET:K.lookup ad_QUIET=some ⟨.type "tuple",od_QUIET,.seq its_QUIET nn_QUIET,sl_QUIET⟩) (h_QUIET:its_QUIET.size≤sizeLine∧Vals [.str "quiet"] its_QUIET.toList)
 : ∃ fd:FuncData,(∀ (s:Shared) (v:Value),BindsTo s fd ⟨[v],[]⟩ [("script",v)])∧∀ base:Heap,K.In base→base.Ns mainGlobals mg→FnOk l.prog w K mg base CX0 6 fa fd ["script"] (am5 K):=by
 have e:=hfa.symm.trans (PySem.W.mg_of X G a33)
 cases e
 have F0:=a61 (st:=a54) l0 c0 k0
 have b0:=F0.binds (ps:=["self","machines"]) fun _ _ _ _ _ _ us hl=>by obtain ⟨_,_,rfl⟩:=aj1 hl; rfl
 have F1:=a61 (st:=a66) l1 c1 k1
 have b1:=F1.binds (ps:=["self"]) fun _ _ _ _ _ _ us hl=>by obtain ⟨_,rfl⟩:=ag3 hl; rfl
 have F2:=a61 (st:=a84) l2 c2 k2
 have b2:=F2.binds (ps:=["self","standing","outer"]) fun _ _ _ _ _ _ us hl=>by obtain ⟨_,_,_,rfl⟩:=az0 hl; rfl
 have F3:=a61 (st:=ab8) l3 c3 k3
 have b3:=F3.binds (ps:=["told"]) fun _ _ _ _ _ _ us hl=>by obtain ⟨_,rfl⟩:=ag3 hl; rfl
 have F4:=a61 (st:=a73) l4 c4 k4
 have b4:=F4.binds (ps:=["row","event"]) fun _ _ _ _ _ _ us hl=>by obtain ⟨_,_,rfl⟩:=aj1 hl; rfl
 have F5:=a61 (st:=a51) l5 c5 k5
 have b5:=F5.binds (ps:=["told","rows"]) fun _ _ _ _ _ _ us hl=>by obtain ⟨_,_,rfl⟩:=aj1 hl; rfl
 have F6:=a61 (st:=aa5) l6 c6 k6
 have b6:=F6.binds (ps:=["things"]) fun _ _ _ _ _ _ us hl=>by obtain ⟨_,rfl⟩:=ag3 hl; rfl
 have F7:=a61 (st:=ae8) l7 c7 k7
 have b7:=F7.binds (ps:=["table"]) fun _ _ _ _ _ _ us hl=>by obtain ⟨_,rfl⟩:=ag3 hl; rfl
 have F8:=a61 (st:=a67) l8 c8 k8
 have b8:=F8.binds (ps:=["table"]) fun _ _ _ _ _ _ us hl=>by obtain ⟨_,rfl⟩:=ag3 hl; rfl
 have F9:=a61 (st:=a88) l9 c9 k9
 have b9:=F9.binds (ps:=["room","sayings"]) fun _ _ _ _ _ _ us hl=>by obtain ⟨_,_,rfl⟩:=aj1 hl; rfl
 have F10:=a61 (st:=a93) l10 c10 k10
 have b10:=F10.binds (ps:=["sayings"]) fun _ _ _ _ _ _ us hl=>by obtain ⟨_,rfl⟩:=ag3 hl; rfl
 have F11:=a61 (st:=ad5) l11 c11 k11
 have b11:=F11.binds (ps:=["cells"]) fun _ _ _ _ _ _ us hl=>by obtain ⟨_,rfl⟩:=ag3 hl; rfl
 have F12:=a61 (st:=a63) l12 c12 k12
 have b12:=F12.binds (ps:=["shape"]) fun _ _ _ _ _ _ us hl=>by obtain ⟨_,rfl⟩:=ag3 hl; rfl
 have F13:=a61 (st:=a58) l13 c13 k13
 have b13:=F13.binds (ps:=["shape"]) fun _ _ _ _ _ _ us hl=>by obtain ⟨_,rfl⟩:=ag3 hl; rfl
 have F14:=a61 (st:=a59) l14 c14 k14
 have b14:=F14.binds (ps:=["cells","place","count"]) fun _ _ _ _ _ _ us hl=>by obtain ⟨_,_,_,rfl⟩:=az0 hl; rfl
 have F15:=a61 (st:=a89) l15 c15 k15
 have b15:=F15.binds (ps:=["texts","cells","place"]) fun _ _ _ _ _ _ us hl=>by obtain ⟨_,_,_,rfl⟩:=az0 hl; rfl
 have F16:=a61 (st:=a94) l16 c16 k16
 have b16:=F16.binds (ps:=["cells","place"]) fun _ _ _ _ _ _ us hl=>by obtain ⟨_,_,rfl⟩:=aj1 hl; rfl
 have F17:=a61 (st:=a75) l17 c17 k17
 have b17:=F17.binds (ps:=["shape"]) fun _ _ _ _ _ _ us hl=>by obtain ⟨_,rfl⟩:=ag3 hl; rfl
 have F18:=a61 (st:=a76) l18 c18 k18
 have b18:=F18.binds (ps:=["room","numbers"]) fun _ _ _ _ _ _ us hl=>by obtain ⟨_,_,rfl⟩:=aj1 hl; rfl
 have F19:=a61 (st:=a85) l19 c19 k19
 have b19:=F19.binds (ps:=["events"]) fun _ _ _ _ _ _ us hl=>by obtain ⟨_,rfl⟩:=ag3 hl; rfl
 have F20:=a61 (st:=a95) l20 c20 k20
 have b20:=F20.binds (ps:=["places","event"]) fun _ _ _ _ _ _ us hl=>by obtain ⟨_,_,rfl⟩:=aj1 hl; rfl
 have F21:=a61 (st:=a35) l21 c21 k21
 have b21:=F21.binds (ps:=["self","table"]) fun _ _ _ _ _ _ us hl=>by obtain ⟨_,_,rfl⟩:=aj1 hl; rfl
 have F22:=a61 (st:=a41) l22 c22 k22
 have b22:=F22.binds (ps:=["self"]) fun _ _ _ _ _ _ us hl=>by obtain ⟨_,rfl⟩:=ag3 hl; rfl
 have F23:=a61 (st:=a43) l23 c23 k23
 have b23:=F23.binds (ps:=["self","standing","event"]) fun _ _ _ _ _ _ us hl=>by obtain ⟨_,_,_,rfl⟩:=az0 hl; rfl
 have F24:=a61 (st:=a37) l24 c24 k24
 have b24:=F24.binds (ps:=["self","pack"]) fun _ _ _ _ _ _ us hl=>by obtain ⟨_,_,rfl⟩:=aj1 hl; rfl
 have F25:=a61 (st:=a44) l25 c25 k25
 have b25:=F25.binds (ps:=["self"]) fun _ _ _ _ _ _ us hl=>by obtain ⟨_,rfl⟩:=ag3 hl; rfl
 have F26:=a61 (st:=a48) l26 c26 k26
 have b26:=F26.binds (ps:=["self","standing","event"]) fun _ _ _ _ _ _ us hl=>by obtain ⟨_,_,_,rfl⟩:=az0 hl; rfl
 have F27:=a61 (st:=a39) l27 c27 k27
 have b27:=F27.binds (ps:=["self","saying"]) fun _ _ _ _ _ _ us hl=>by obtain ⟨_,_,rfl⟩:=aj1 hl; rfl
 have F28:=a61 (st:=a96) l28 c28 k28
 have b28:=F28.binds (ps:=["state","many"]) fun _ _ _ _ _ _ us hl=>by obtain ⟨_,_,rfl⟩:=aj1 hl; rfl
 have F29:=a61 (st:=a97) l29 c29 k29
 have b29:=F29.binds (ps:=["script","k","mixed"]) fun _ _ _ _ _ _ us hl=>by obtain ⟨_,_,_,rfl⟩:=az0 hl; rfl
 have F30:=a61 (st:=a98) l30 c30 k30
 have b30:=F30.binds (ps:=["state"]) fun _ _ _ _ _ _ us hl=>by obtain ⟨_,rfl⟩:=ag3 hl; rfl
 have F31:=a61 (st:=a56) l31 c31 k31
 have b31:=F31.binds (ps:=["cell","mixed"]) fun _ _ _ _ _ _ us hl=>by obtain ⟨_,_,rfl⟩:=aj1 hl; rfl
 have F32:=a61 (st:=a86) l32 c32 k32
 have b32:=F32.binds (ps:=["cell","mixed","many"]) fun _ _ _ _ _ _ us hl=>by obtain ⟨_,_,_,rfl⟩:=az0 hl; rfl
 have F33:=a61 (st:=ak7) l33 c33 k33
 have b33:=F33.binds (ps:=["script"]) fun _ _ _ _ _ _ us hl=>by obtain ⟨_,rfl⟩:=ag3 hl; rfl
 have TT:Txt K mg ⟨_,_,_,_,_,_,_,_,_,_,_,_,_,_,_,_,_,_,_,_,_,_,_,_,_,_,_,_,_,_,_,_,_,_,_,_,_,_,_,_,_,_,_,_,_,_,_,_,_,_,_,_,_,_,_,_,_,_,_,_,_,_,_,_,_,_,_,_,C_Machine,C_Hall,C_TableMachine,C_PackMachine,u_QUIET,u_MOST_WAITING,u_HEAD,ad_QUIET⟩:=⟨F0,b0,F1,⟨a1,i1,k1⟩,b1,F2,⟨a2,i2,k2⟩,b2,F3,PySem.W.mg_of X G a3,b3,F4,PySem.W.mg_of X G a4,b4,F5,PySem.W.mg_of X G a5,b5,F6,PySem.W.mg_of X G a6,b6,F7,PySem.W.mg_of X G a7,b7,F8,PySem.W.mg_of X G a8,b8,F9,PySem.W.mg_of X G a9,b9,F10,PySem.W.mg_of X G a10,b10,F11,PySem.W.mg_of X G a11,b11,F12,PySem.W.mg_of X G a12,b12,F13,PySem.W.mg_of X G a13,b13,F14,PySem.W.mg_of X G a14,b14,F15,PySem.W.mg_of X G a15,b15,F16,PySem.W.mg_of X G a16,b16,F17,PySem.W.mg_of X G a17,b17,F18,PySem.W.mg_of X G a18,b18,F19,PySem.W.mg_of X G a19,b19,F20,PySem.W.mg_of X G a20,b20,F21,b21,F22,⟨a22,i22,k22⟩,b22,F23,⟨a23,i23,k23⟩,b23,F24,b24,F25,⟨a25,i25,k25⟩,b25,F26,⟨a26,i26,k26⟩,b26,F27,⟨a27,i27,k27⟩,b27,F28,PySem.W.mg_of X G a28,b28,F29,PySem.W.mg_of X G a29,b29,F30,PySem.W.mg_of X G a30,b30,F31,PySem.W.mg_of X G a31,b31,F32,PySem.W.mg_of X G a32,b32,F33,PySem.W.mg_of X G a33,b33,PySem.W.mg_of X G aC_Machine,PySem.W.mg_of X G aC_Hall,⟨pg_Hall,hd_Hall,po_Hall,sa_Hall⟩,⟨mk_Hall,a0,i0,kc_Hall⟩,nF_Hall_lines,nF_Hall_machines,PySem.W.mg_of X G aC_TableMachine,⟨pg_TableMachine,hd_TableMachine,po_TableMachine,sa_TableMachine⟩,⟨mk_TableMachine,a21,i21,kc_TableMachine⟩,nF_TableMachine_places,nF_TableMachine_rooms,nF_TableMachine_saying,PySem.W.mg_of X G aC_PackMachine,⟨pg_PackMachine,hd_PackMachine,po_PackMachine,sa_PackMachine⟩,⟨mk_PackMachine,a24,i24,kc_PackMachine⟩,nF_PackMachine_cells,nF_PackMachine_places,nF_PackMachine_sayings,nF_PackMachine_shapes,nF_PackMachine_texts,PySem.W.mg_none_of X G z_enumerate,PySem.W.mg_none_of X G z_int,PySem.W.mg_none_of X G z_len,PySem.W.mg_none_of X G z_list,PySem.W.mg_none_of X G z_max,PySem.W.mg_none_of X G z_min,PySem.W.mg_none_of X G z_range,PySem.W.mg_none_of X G z_set,PySem.W.mg_none_of X G z_sorted,PySem.W.mg_none_of X G z_sum,PySem.W.mg_none_of X G z_tuple,PySem.W.mg_none_of X G z_zip,PySem.W.mg_of X G m_QUIET,r_QUIET,PySem.W.mg_of X G m_MOST_WAITING,r_MOST_WAITING,PySem.W.mg_of X G m_HEAD,r_HEAD,⟨_,its_QUIET,nn_QUIET,l_QUIET,rfl,rfl,h_QUIET.1,h_QUIET.2⟩⟩
 exact ⟨_,fun s v=>.of_eq rfl,fun base _ _=>c96 TT⟩
end K86
theorem PySem.Challenge.cw_callmill_k86_whole_halls_of_other_machin_holds : PySem.Challenge.rw_callmill_k86_whole_halls_of_other_machin.Holds := by
  exact K86.head fun K hF w mg fa h KX G hmg => hF w.params _ (@K86.all_mk _ w _ h mg fa KX G hmg)
