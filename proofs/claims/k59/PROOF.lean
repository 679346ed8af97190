import PyProof.Rows.All
import Wide.All
import OpenK.KLine
import KE.KItem
import KE.KIsAll
import Wide.FinOn
import Lean
import PyProof.EqAt
import PyProof.EqKinds
import PyProof.TupleCall
import PyProof.NeKinds
import PyProof.DictUpdate
import PyProof.AttrMissHeap
import KE.KDictOf
import PyProof.TupleIter
import PyProof.WalksEnum
import PyProof.EnumMake
import PyProof.Rows.EnumRows
import PyProof.Rows.MaxTwoN
import PyProof.ZipIter
import PyProof.IsRules
import PyProof.DictRoadsH
import Wide.Seal
import PyProof.MeetsDict
import PyProof.DictIter
import PyProof.DictWalks
import KE.KDictList
import PyProof.Rows.SumAny
import PyProof.ListRange
import PyProof.AutoSeq1
import PyProof.WalkInts
import PyProof.SeqI3
import KE.KTextTable
import PyProof.MeetsStr
import PyProof.StrCalls5
import PyProof.Rows.TupDisplay
import PyProof.Rows.TupAdd
import PyProof.Rows.StrNews2
import PyProof.StrBlockI
import PyProof.DictTruth
import PyProof.Rows.SortShell
import PyProof.DictValues
import PyProof.ConsumeS
import PyProof.Draws
import PyProof.Rows.SetFrom
import PyProof.FactsAll.set_1
import KE.KDictSum
import PyProof.Rows.SortStr
import PyProof.Rows.SortWalk
import PyProof.Rows.TmSorted
import PyProof.Rows.CallKwBuiltin
import KE.KSortKey
import PySem.Challenge.RW_callmill_k59_least_rooms
set_option Elab.async false
set_option linter.all false
set_option maxRecDepth 100000
set_option maxHeartbeats 4000000
namespace L2
open PySem PySem.Spec PyProof.Rows
def gS{α:Type _}{l:List α}{i:Nat}{a:α}(h:l[i]?=some a):=List.getElem?_eq_some_iff.mp h
def gO{α β:Type _}{f:α→β}{x:Option α}{b:β}(h:x.map f=some b):=Option.map_eq_some_iff.mp h
def gE:=@List.getElem?_eq_getElem
def gM:=@List.getElem?_map
def gI:=@List.mem_of_getElem?
def gP:=@Heap.get?_push_of_some
def wB:=@wpAny_bind
def gL:=@List.length_map
def gA{α:Type _}{a:α}{s t:List α}(h:a∈s++t):=List.mem_append.mp h
def gG{α:Type _}{a b:α}(h:a∈[b]):=List.mem_singleton.mp h
abbrev Key:=Sum Int Str
def keyIs:Key→Value→Bool
 | .inl k,v=>Value.isInt k v
 | .inr x,v=>Value.isStrOf x v
def keyH (w:World):Key→Int
 | .inl k=>hashInt k
 | .inr x=>hashStr w x
theorem a80:∀ {k:Key}{v:Value},keyIs k v=true→(∃ i t,k=Sum.inl i∧v=Value.int i t)∨(∃ x t,k=Sum.inr x∧v=Value.str x t)
 | .inl i,v,h=>by
   obtain ⟨t,e⟩:=Value.isInt_shape (k:=i) (v:=v) h
   exact .inl ⟨i,t,rfl,e⟩
 | .inr x,v,h=>by
   obtain ⟨t,e⟩:=Value.isStrOf_shape (x:=x) (v:=v) h
   exact .inr ⟨x,t,rfl,e⟩
theorem b86 (i:Int) (t:Tok):keyIs (.inl i) (.int i t)=true:=by simp [keyIs,Value.isInt]
theorem b87 (x:Str) (t:Tok):keyIs (.inr x) (.str x t)=true:=by simp [keyIs,Value.isStrOf]
theorem bx8 (a b:Int):decide ((Sum.inl a:Key)=Sum.inl b)=(a == b):=by
 by_cases e:a=b
 · subst e; simp
 · have h:¬ (Sum.inl a:Key)=Sum.inl b:=fun q=>e (Sum.inl.inj q)
   rw [decide_eq_false h]
   exact (beq_eq_false_iff_ne.mpr e).symm
theorem bx9 (a b:Str):decide ((Sum.inr a:Key)=Sum.inr b)=decide (a=b):=by
 by_cases e:a=b
 · subst e; simp
 · have h:¬ (Sum.inr a:Key)=Sum.inr b:=fun q=>e (Sum.inr.inj q)
   rw [decide_eq_false h,decide_eq_false e]
theorem by0 (a:Int) (b:Str):decide ((Sum.inl a:Key)=Sum.inr b)=false:=decide_eq_false (fun q=>nomatch q)
theorem by1 (a:Str) (b:Int):decide ((Sum.inr a:Key)=Sum.inl b)=false:=decide_eq_false (fun q=>nomatch q)
def mixKind (prog:Program) (w:World):PySem.KeyKind prog w Key where
 is:=keyIs
 hash:=keyH w
 inj:=fun v a b ha hb=>by
  rcases a80 ha with ⟨i,t,rfl,rfl⟩ | ⟨x,t,rfl,rfl⟩
  · rcases a80 hb with ⟨j,u,rfl,e⟩ | ⟨y,u,rfl,e⟩
    · injection e with e1 _; rw [e1]
    · exact nomatch e
  · rcases a80 hb with ⟨j,u,rfl,e⟩ | ⟨y,u,rfl,e⟩
    · exact nomatch e
    · injection e with e1 _; rw [e1]
 byValue:=fun k v h=>by
  rcases a80 h with ⟨i,t,rfl,rfl⟩ | ⟨x,t,rfl,rfl⟩ <;> rfl
 pyHash:=fun hv h=>by
  rcases a80 hv with ⟨i,t,rfl,rfl⟩ | ⟨x,t,rfl,rfl⟩
  · exact wpAny_pyHash_int h
  · exact wpAny_pyHash_str h
 eqBool:=fun hu hv h=>by
  rcases a80 hu with ⟨i,t,rfl,rfl⟩ | ⟨x,t,rfl,rfl⟩
  · rcases a80 hv with ⟨j,u,rfl,rfl⟩ | ⟨y,u,rfl,rfl⟩
    · rw [bx8] at h; exact wpAny_eqBool_int h
    · rw [by0] at h; exact SeqAt.EqAt.int_str i t y u _ _ _ _ h
  · rcases a80 hv with ⟨j,u,rfl,rfl⟩ | ⟨y,u,rfl,rfl⟩
    · rw [by1] at h; exact SeqAt.EqAt.str_int x t j u _ _ _ _ h
    · rw [bx9] at h; exact wpAny_eqBool_str h
 «strs»:=fun k x t v h=>by
  rcases a80 h with ⟨i,u,rfl,e⟩ | ⟨y,u,rfl,e⟩
  · exact nomatch e
  · injection e with e1 _
    subst e1
    cases v <;> rfl
theorem aw2 (prog:Program) (w:World) (i:Int) (t:Tok):(mixKind prog w).is (.inl i) (.int i t)=true:=b86 i t
theorem aw3 (prog:Program) (w:World) (x:Str) (t:Tok):(mixKind prog w).is (.inr x) (.str x t)=true:=b87 x t
inductive V where
 | non | bl (b:Bool) | int (i:Int) | str (x:Str) | byt (b:Array UInt8) | flt (b:UInt64) | ref (a:Addr) | ty (n:String)
 deriving DecidableEq
def RelV:V→Value→Prop
 | .non,u=>u=Value.none
 | .bl b,u=>u=Value.bool b
 | .int i,u=>∃ t,u=Value.int i t
 | .str x,u=>∃ t,u=Value.str x t
 | .byt b,u=>∃ t,u=Value.bytes b t
 | .flt b,u=>∃ t,u=Value.float b t
 | .ref a,u=>u=Value.ref a
 | .ty n,u=>u=Value.type n
abbrev Vals:List V→List Value→Prop:=Paired RelV
theorem Vals.length {xs:List V}{us:List Value}(r:Vals xs us):xs.length=us.length:=Paired.length r
theorem Vals.get:∀ {xs:List V}{us:List Value}{i:Nat}{x:V},Vals xs us→xs[i]?=some x→∃ u,us[i]?=some u∧RelV x u
 | _,_,_,_,.nil,e=>by simp at e
 | _,_,0,_,.cons r _,e=>by simp at e; subst e; exact ⟨_,rfl,r⟩
 | _,_,i+1,x,.cons _ t,e=>by
   obtain ⟨u,h1,h2⟩:=Vals.get (i:=i) (x:=x) t (by simpa using e)
   exact ⟨u,by simpa using h1,h2⟩
theorem Vals.set {x:V}{u:Value}(r:RelV x u):∀ {xs:List V}{us:List Value}(i:Nat),Vals xs us→Vals (xs.set i x) (us.set i u)
 | _,_,_,.nil=>.nil
 | _,_,0,.cons _ t=>.cons r t
 | _,_,i+1,.cons q t=>.cons q (Vals.set r i t)
theorem Vals.append:∀ {xs ys:List V}{us ws:List Value},Vals xs us→Vals ys ws→Vals (xs++ys) (us++ws)
 | _,_,_,_,.nil,s=>s
 | _,_,_,_,.cons r t,s=>.cons r (Vals.append t s)
theorem Vals.take:∀ {xs:List V}{us:List Value}(n:Nat),Vals xs us→Vals (xs.take n) (us.take n)
 | _,_,0,_=>.nil
 | _,_,_+1,.nil=>.nil
 | _,_,n+1,.cons r t=>.cons r (Vals.take n t)
theorem Vals.drop:∀ {xs:List V}{us:List Value}(n:Nat),Vals xs us→Vals (xs.drop n) (us.drop n)
 | _,_,0,r=>r
 | _,_,_+1,.nil=>.nil
 | _,_,n+1,.cons _ t=>Vals.drop n t
def RelO:Option V→Option Value→Prop
 | some v,some u=>RelV v u
 | none,none=>True
 | _,_=>False
def KV {κ:Type}:List (κ×V)→List (κ×Value)→Prop:=Paired fun (p:κ×V) (q:κ×Value)=>p.1=q.1∧RelV p.2 q.2
def kV:Key→V
 | .inl i=>.int i
 | .inr x=>.str x
inductive HO where
 | lst (xs:List V)
 | tup (xs:List V)
 | dK (kvs:List (Key×V)) | dT (kvs:List (List Key×V))
 | set (S:Int→Bool) (n:Nat)
 | ins (C dx:Addr) (fs:List (Str×V))
 | own (x:Addr)
 | xd (fs:List (Str×V))
 | met (f x:Addr)
 | rng (lo hi:Int)
 | frz (o:Obj) (u:HO)
 | tbl (ps:Array Value)
 | ext (φ:Heap→Prop)
abbrev Hp:=Addr→Option HO
def upd (H:Hp) (a:Addr) (o:HO):Hp:=fun b=>if b=a then some o else H b
theorem a28 {H:Hp}{a:Addr}{o:HO}:upd H a o a=some o:=by unfold upd; rw [if_pos rfl]
theorem a04 {H:Hp}{a b:Addr}{o:HO}(h:b≠a):upd H a o b=H b:=by unfold upd; rw [if_neg h]
theorem bp5 {H:Hp}{a:Addr}{o u:HO}:upd (upd H a o) a u=upd H a u:=by
 funext b; unfold upd; split <;> rfl
theorem ab1 {H:Hp}{a b:Addr}{o u:HO}(h:H a=some o) (h':H b=some u) (d:o≠u):a≠b:=by
 intro e; subst e; rw [h] at h'; exact d (Option.some.inj h')
theorem a08 {H:Hp}{a b:Addr}{o:HO}(h:H a=some o) (h':H b=none):a≠b:=by
 intro e; subst e; rw [h] at h'; cases h'
section
variable (P:Program) (w:World)
def ObjOk (H:Hp) (h:Heap) (a:Addr):HO→Prop
 | .lst xs=>xs.length≤sizeLine∧∃ (its:List Value) (n:Nat),Vals xs its∧h.get? a=some { cls:=.type "list",data:=.seq its.toArray n }
 | .tup xs=>xs.length≤sizeLine∧∃ its:List Value,Vals xs its∧IsTup h a its.toArray
 | .dK kvs=>kvs.length≤sizeLine∧(a == sysModules)=false∧∃ vs,KV kvs vs∧h.DictOf (mixKind P w) a vs
 | .dT kvs=>kvs.length≤sizeLine∧(a == sysModules)=false∧∃ xs:List (List Key×Addr×Value),
  Paired (fun (p:List Key×V) (q:List Key×Addr×Value)=>p.1=q.1∧H q.2.1=some (.tup (p.1.map kV))∧RelV p.2 q.2.2) kvs xs ∧
  ∃ o es ep,h.get? a=some o∧o.ExactDict∧o.data=.dict es ep∧es.toList=xs.map (entryOfKey (tupleKind (mixKind P w)))∧(xs.map (·.1)).Nodup
 | .set S n=>h.SetOf (intKind P w) a S n
 | .ins C dx fs=>H dx=some (.own a)∧fs.length≤1000∧dx≠a∧h.get? a=some (W.instObj C dx) ∧
  ∃ mA,h.Ns1 dx mA∧(∀ f,RelO (fs.lookup f) (mA f))∧PySem.Within mA (fs.map (·.1))
 | .own _=>∃ o,h.get? a=some o
 | .xd fs=>∃ mA,h.Ns1 a mA∧∀ f,RelO (fs.lookup f) (mA f)
 | .rng lo hi=>∃ t u v,h.get? a=some { cls:=.type "range",data:=.fields #[.int lo t,.int hi u,.int 1 v] }
 | .frz o u=>h.get? a=some o∧ObjOk H h a u
 | .tbl ps=>h.get? a=some { cls:=.none,data:=.fields ps }
 | .met f x=>h.get? a=some (W.methodObj (.ref f) (.ref x))
 | .ext φ=>φ h∧(∃ o,h.get? a=some o)∧∀ h1 h2:Heap,φ h1→(∀ o,h1.get? a=some o→h2.get? a=some o)→φ h2
def HOk (H:Hp) (h:Heap):Prop:=∀ a o,H a=some o→ObjOk P w H h a o
end
section
variable {P:Program}{w:World}{H H':Hp}{h h':Heap}{a:Addr}{o:HO}
theorem ObjOk.lt (x:ObjOk P w H h a o):a<h.objs.size:=by
 cases o with
 | lst xs=>obtain ⟨_,_,_,_,e⟩:=x; exact Heap.lt_size e
 | tup xs=>obtain ⟨_,_,_,p⟩:=x; exact p.lt
 | dK kvs=>obtain ⟨_,_,_,_,o,_,_,e,_⟩:=x; exact Heap.lt_size e
 | dT kvs=>obtain ⟨_,_,_,_,o,_,_,e,_⟩:=x; exact Heap.lt_size e
 | set S n=>obtain ⟨o,_,_,_,e,_⟩:=x; exact Heap.lt_size e
 | ins C dx fs=>obtain ⟨_,_,_,e,_⟩:=x; exact Heap.lt_size e
 | own y=>obtain ⟨_,e⟩:=x; exact Heap.lt_size e
 | xd fs=>obtain ⟨_,⟨_,_,_,e,_⟩,_⟩:=x; exact Heap.lt_size e
 | rng lo hi=>obtain ⟨_,_,_,e⟩:=x; exact Heap.lt_size e
 | frz ob u=>obtain ⟨e,_⟩:=x; exact Heap.lt_size e
 | tbl ps=>exact Heap.lt_size (show h.get? a=some _ from x)
 | met f y=>exact Heap.lt_size (show h.get? a=some _ from x)
 | ext φ=>obtain ⟨_,⟨_,e⟩,_⟩:=x; exact Heap.lt_size e
theorem Paired.mapP {α β:Type}{F G:α→β→Prop}:∀ {l₁:List α}{l₂:List β},Paired F l₁ l₂→(∀ a b,F a b→G a b)→Paired G l₁ l₂
 | _,_,.nil,_=>.nil
 | _,_,.cons r t,f=>.cons (f _ _ r) (Paired.mapP t f)
theorem ObjOk.stay (x:ObjOk P w H h a o) (k:∀ b u,(b=a∨H b=some (.own a))→h.get? b=some u→h'.get? b=some u)
 (ho:∀ b,H b=some (.own a)→H' b=some (.own a)) (ht:∀ b xs,H b=some (.tup xs)→H' b=some (.tup xs)):ObjOk P w H' h' a o:=by
 induction o with
 | lst xs=>obtain ⟨z,its,n,r,e⟩:=x; exact ⟨z,its,n,r,k _ _ (.inl rfl) e⟩
 | tup xs=>obtain ⟨z,its,r,ob,e,c⟩:=x; exact ⟨z,its,r,ob,k _ _ (.inl rfl) e,c⟩
 | dK kvs=>obtain ⟨z,y,vs,r,ob,es,ep,e,c⟩:=x; exact ⟨z,y,vs,r,ob,es,ep,k _ _ (.inl rfl) e,c⟩
 | dT kvs =>
   obtain ⟨z,y,xs,r,ob,es,ep,e,c⟩:=x
   exact ⟨z,y,xs,Paired.mapP r fun p q z=>⟨z.1,ht _ _ z.2.1,z.2.2⟩,ob,es,ep,k _ _ (.inl rfl) e,c⟩
 | set S n=>obtain ⟨ob,es,ep,t,e,c⟩:=x; exact ⟨ob,es,ep,t,k _ _ (.inl rfl) e,c⟩
 | ins C dx fs =>
   obtain ⟨d,z,ne,e,mA,⟨od,es,ep,e2,c⟩,r⟩:=x
   exact ⟨ho _ d,z,ne,k _ _ (.inl rfl) e,mA,⟨od,es,ep,k _ _ (.inr d) e2,c⟩,r⟩
 | own y=>obtain ⟨ob,e⟩:=x; exact ⟨ob,k _ _ (.inl rfl) e⟩
 | xd fs=>obtain ⟨mA,⟨od,es,ep,e,c⟩,r⟩:=x; exact ⟨mA,⟨od,es,ep,k _ _ (.inl rfl) e,c⟩,r⟩
 | rng lo hi=>obtain ⟨t,u,v,e⟩:=x; exact ⟨t,u,v,k _ _ (.inl rfl) e⟩
 | frz ob u ih=>obtain ⟨e,q⟩:=x; exact ⟨k _ _ (.inl rfl) e,ih q⟩
 | tbl ps =>
   have e:h.get? a=some { cls:=.none,data:=.fields ps }:=x
   show h'.get? a=some { cls:=.none,data:=.fields ps }
   exact k a _ (.inl rfl) e
 | met f y =>
   have e:h.get? a=some (W.methodObj (.ref f) (.ref y)):=x
   show h'.get? a=some (W.methodObj (.ref f) (.ref y))
   exact k a _ (.inl rfl) e
 | ext φ=>obtain ⟨p,⟨o,e⟩,st⟩:=x; exact ⟨st _ _ p fun o q=>k _ _ (.inl rfl) q,⟨o,k _ _ (.inl rfl) e⟩,st⟩
theorem HOk.lt (x:HOk P w H h) (e:H a=some o):a<h.objs.size:=(x a o e).lt
theorem HOk.fresh (x:HOk P w H h) (e:h.objs.size≤a):H a=none:=by
 cases q:H a with
 | none=>rfl
 | some u=>exact absurd (Nat.lt_of_lt_of_le (x.lt q) e) (Nat.lt_irrefl _)
theorem HOk.kept (x:HOk P w H h) (k:∀ b u,h.get? b=some u→h'.get? b=some u):HOk P w H h':=fun a o e =>
 (x a o e).stay (fun b u _ q=>k b u q) (fun _ q=>q) fun _ _ q=>q
theorem HOk.laid (x:HOk P w H h) (k:∀ b u,h.get? b=some u→h'.get? b=some u) (hp:h.objs.size≤a) (new:ObjOk P w (upd H a o) h' a o):HOk P w (upd H a o) h':=fun b u e=>by
 have hn:=x.fresh hp
 by_cases hb:b=a
 · subst hb; rw [a28] at e; cases e; exact new
 · rw [a04 hb] at e
   exact (x b u e).stay (fun c v _ q=>k c v q) (fun c q=>by rw [a04 (a08 q hn)]; exact q) fun c xs q=>by rw [a04 (a08 q hn)]; exact q
end
def Rd (H:Hp) (a:Addr) (u:HO):Prop:=H a=some u∨∃ o,H a=some (.frz o u)
theorem Rd.ok {P:Program}{w:World}{H:Hp}{h:Heap}{a:Addr}{u:HO}(r:Rd H a u) (x:HOk P w H h):ObjOk P w H h a u:=by
 rcases r with r | ⟨o,r⟩
 · exact x a u r
 · obtain ⟨_,q⟩:=x a _ r
   exact q
def Mut:Option HO→Prop
 | some (.lst _)=>True
 | some (.dK _)=>True
 | some (.dT _)=>True
 | some (.set _ _)=>True
 | some (.ins _ _ _)=>True
 | some (.ext _)=>True
 | _=>False
section
variable {P:Program}{w:World}{H:Hp}{h h':Heap}{x e:Addr}{o':HO}
theorem HOk.write (ok:HOk P w H h) (mu:Mut (H x)) (he:e=x∨H e=some (.own x)) (k:∀ b u,b≠e→h.get? b=some u→h'.get? b=some u) (heo:∃ u,h'.get? e=some u)
 (new:ObjOk P w (upd H x o') h' x o'):HOk P w (upd H x o') h':=fun b u q=>by
 have nown:∀ c y,H c=some (.own y)→c≠x:=fun c y r z=>by subst z; rw [r] at mu; exact mu
 have ntup:∀ c xs,H c=some (.tup xs)→c≠x:=fun c xs r z=>by subst z; rw [r] at mu; exact mu
 by_cases hb:b=x
 · subst hb; rw [a28] at q; cases q; exact new
 · rw [a04 hb] at q
   by_cases hbe:b=e
   · have q':H b=some (.own x):=by
      rcases he with z | z
      · exact absurd (hbe.trans z) hb
      · rw [hbe]; exact z
     rw [q] at q'; cases q'
     obtain ⟨v,hv⟩:=heo
     exact ⟨v,by rw [hbe]; exact hv⟩
   · refine (ok b u q).stay (fun c v hc r=>k c v ?_ r) (fun c r=>by rw [a04 (nown c b r)]; exact r) fun c xs r=>by rw [a04 (ntup c xs r)]; exact r
     rcases hc with rfl | hc
     · exact hbe
     · rintro rfl
       rcases he with z | z
       · exact nown c b hc z
       · rw [hc] at z; cases z; exact hb rfl
end
structure Un (fs ex:List Addr) (H H':Hp) (h h':Heap):Prop where
 keep:∀ b o,h.get? b=some o→H b=none→b∉fs→b∉ex→h'.get? b=some o
 slot:∀ b o,h.get? b=some o→H b=none→b∈fs→b∉ex→∃ sl,h'.get? b=some { o with slots:=sl }
 free:∀ b o,h.get? b=some o→H b=none→b∉ex→H' b=none
 there:∀ b o,h.get? b=some o→b∉ex→∃ o',h'.get? b=some o'
 tups:∀ b xs,H b=some (.tup xs)→H' b=some (.tup xs)
 frzs:∀ b o u,H b=some (.frz o u)→H' b=some (.frz o u)
 tbls:∀ b ps,H b=some (.tbl ps)→∃ more,H' b=some (.tbl (ps++more))
section
variable {fs fs' ex ex':List Addr}{H H1 H2:Hp}{h h1 h2 h':Heap}{a x e:Addr}{o:HO}
theorem Un.any (u:Un fs ex H H1 h h1) {b:Addr}{ob:Obj}(q:h.get? b=some ob) (n:H b=none) (hx:b∉ex):∃ sl,h1.get? b=some { ob with slots:=sl }:=by
 by_cases hb:b∈fs
 · exact u.slot b ob q n hb hx
 · exact ⟨ob.slots,u.keep b ob q n hb hx⟩
theorem Un.kept (k:∀ b u,h.get? b=some u→h'.get? b=some u):Un fs ex H H h h' :=
 ⟨fun b ob q _ _ _=>k b ob q,fun b ob q _ _ _=>⟨ob.slots,k b ob q⟩,fun _ _ _ n _=>n,fun b ob q _=>⟨ob,k b ob q⟩,fun _ _ q=>q,fun _ _ _ q=>q,fun _ ps q=>⟨#[],by rw [q]; simp⟩⟩
theorem Un.refl:Un fs ex H H h h:=Un.kept fun _ _ q=>q
theorem Un.laid (k:∀ b u,h.get? b=some u→h'.get? b=some u) (hp:h.objs.size≤a) (hn:H a=none):Un fs ex H (upd H a o) h h' where
 keep:=fun b u q _ _ _=>k b u q
 slot:=fun b u q _ _ _=>⟨u.slots,k b u q⟩
 free:=fun b u q n _=>by rw [a04 (Nat.ne_of_lt (Nat.lt_of_lt_of_le (Heap.lt_size q) hp))]; exact n
 there:=fun b u q _=>⟨u,k b u q⟩
 tups:=fun b xs q=>by rw [a04 (a08 q hn)]; exact q
 frzs:=fun b u xs q=>by rw [a04 (a08 q hn)]; exact q
 tbls:=fun b ps q=>⟨#[],by rw [a04 (a08 q hn),q]; simp⟩
theorem Un.write (mu:Mut (H x)) (he:e=x∨H e=some (.own x)) (k:∀ b u,b≠e→h.get? b=some u→h'.get? b=some u) (heo:∃ u,h'.get? e=some u):Un fs ex H (upd H x o) h h':=by
 have hx:∀ b,H b=none→b≠x:=fun b n z=>by subst z; rw [n] at mu; exact mu
 have hb:∀ b,H b=none→b≠e:=fun b n z=>by
  subst z
  rcases he with r | r
  · exact hx b n r
  · rw [n] at r; cases r
 have hm:∀ b u,H b=some u→¬ Mut (some u)→b≠x:=fun b u q nm z=>by subst z; rw [q] at mu; exact nm mu
 refine ⟨fun b u q n _ _=>k b u (hb b n) q,fun b u q n _ _=>⟨u.slots,k b u (hb b n) q⟩,fun b u q n _=>by rw [a04 (hx b n)]; exact n,fun b u q _=>?_,
  fun b xs q=>by rw [a04 (hm b _ q fun z=>z)]; exact q,fun b u xs q=>by rw [a04 (hm b _ q fun z=>z)]; exact q,fun b ps q=>⟨#[],by rw [a04 (hm b _ q fun z=>z),q]; simp⟩⟩
 by_cases hbe:b=e
 · subst hbe; exact heo
 · exact ⟨u,k b u hbe q⟩
end
def trk (h:Heap) (H:Hp):List Addr:=(List.range h.objs.size).filter fun a=>(H a).isSome
def hidT (h:Heap) (H:Hp):Heap:=W.hideAll h (trk h H)
theorem b88 (h:Heap) (H:Hp):(hidT h H).objs.size=h.objs.size:=W.hideAll_size _ _
theorem bi3 {h:Heap}{H:Hp}{b:Addr}{o:Obj}(e:h.get? b=some o) (n:H b=none):(hidT h H).get? b=some o :=
 W.hideAll_get _ e fun hm=>by
  have q:(H b).isSome=true:=(List.mem_filter.mp hm).2
  rw [n] at q; simp at q
theorem bp6 {h:Heap}{H:Hp}{b:Addr}{o:Obj}(e:(hidT h H).get? b=some o):h.get? b=some o∧H b=none:=by
 have e':h.get? b=some o:=W.of_hideAll (trk h H) e
 refine ⟨e',?_⟩
 cases q:H b with
 | none=>rfl
 | some x =>
   have hm:b∈trk h H:=List.mem_filter.mpr ⟨List.mem_range.mpr (Heap.lt_size e'),by simp [q]⟩
   have z:(hidT h H).get? b=none:=W.hideAll_none (trk h H) hm
   rw [z] at e; cases e
def allNews (g h:Heap) (L:Addr):List (Addr×Obj):=(List.range h.objs.size).filterMap fun a=>if a=L∨(g.get? a).isSome=true then none else (h.get? a).map fun o=>(a,o)
def rest (g h:Heap) (L d:Addr):List (Addr×Obj):=(allNews g h L).filter fun p=>decide (p.1≠d)
structure Mod (K:W.Frag) (mg:Str→Option Value) (base:Heap):Prop where
 kin:K.In base
 glob:base.Ns mainGlobals mg
 blt:∃ mb,base.Ns builtinsNs mb∧∀ x:Str,x≠"__name__"→mb x=bootBuiltins x
 nolimit:base.NoLimit
structure Cx where
 prog:Program
 w:World
 K:W.Frag
 mg:Str→Option Value
 base:Heap
 A:Around
 N:List Str
 s₀:Shared
 H₀:Hp
 env:Env
 outer:List Env
 stack:List Env
 ex:List Addr
 fn:Str→Bool
 calm:Bool
 pn:List (Addr×Obj)
 xe:Value→Shared→Prop
def frs (l:List Env):List Addr:=l.filterMap (·.frame)
abbrev Cx.fs (X:Cx):List Addr:=frs X.outer
def Vis (sc:Scope) (x:Str):Prop:=sc.names.lookup x=some .local∨sc.names.lookup x=some .cell∨sc.names.lookup x=some .free
def Loc (sc:Scope) (x:Str):Prop:=sc.names.lookup x=some .local∨sc.names.lookup x=some .cell
def Look (env:Env) (h:Heap) (m:Str→Option Value) (x:Str) (u:Value):Prop :=
 (env.kindOf x=some .local∧m x=some u)∨((env.kindOf x=some .cell∨env.kindOf x=some .free)∧∃ c,env.cells.lookup x=some c∧h.IsCell c (some u))
structure Cx.Ok (X:Cx):Prop where
 mod:Mod X.K X.mg X.base
 kind:X.env.scope.kind=.function
 glob:X.env.globals=mainGlobals
 blt:X.env.builtins=builtinsNs
 above:X.s₀.heap.objs.size≤X.env.locals
 inj:∀ x y c,X.env.cells.lookup x=some c→X.env.cells.lookup y=some c→x=y
 has:∀ x,(X.env.kindOf x=some .cell∨X.env.kindOf x=some .free)→∃ c,X.env.cells.lookup x=some c
 cab:∀ x c,X.fn x=true→X.env.cells.lookup x=some c→X.s₀.heap.objs.size≤c
 hd:X.calm=true→X.A.handled=none
 frames:X.A.frames=some X.stack
 stk:X.stack=X.outer∨(X.stack=X.env::X.outer∧X.env.frame=some X.env.locals)
 exf:∀ b∈X.ex,b≠X.env.locals∧∀ x c,X.env.cells.lookup x=some c→c≠b
 bs:∀ b o,X.base.get? b=some o→X.s₀.heap.get? b=some o∧X.H₀ b=none
 bsz:X.base.objs.size≤X.s₀.heap.objs.size
 noex:∀ b o,X.base.get? b=some o→b∉X.ex
 exfs:∀ b∈X.ex,b∉X.fs
 funs:X.s₀.heap.FunFrames X.base X.outer
 frf:∀ b∈X.fs,X.H₀ b=none
structure Inv (X:Cx) (pins:List (Addr×Obj)) (σ:List (Option V)) (H:Hp) (s:Shared):Prop where
 ok:X.Ok
 os:s.os=X.s₀.os
 bare:AllBare s.gens
 base:Un X.fs X.ex X.H₀ H X.s₀.heap s.heap
 loc:∃ m,s.heap.Ns X.env.locals m∧∀ (i:Nat) (x:Str) (v:V),X.N[i]?=some x→σ[i]?=some (some v)→Vis X.env.scope x→∃ u,RelV v u∧Look X.env s.heap m x u
 cell:∀ x c,X.env.cells.lookup x=some c→∃ v,s.heap.IsCell c v
 free:H X.env.locals=none
 freeC:∀ x c,X.env.cells.lookup x=some c→H c=none
 pin:∀ p∈X.pn++pins,s.heap.get? p.1=some p.2∧H p.1=none∧p.1≠X.env.locals∧p.1∉X.fs∧∀ v,p.2.data≠.cell v
 hok:HOk X.prog X.w H s.heap
 len:σ.length=X.N.length
section
variable {X:Cx}{pins:List (Addr×Obj)}{σ:List (Option V)} {H H':Hp}{s:Shared}{h':Heap}
theorem Cx.Ok.nofr (ok:X.Ok) {b:Addr}{o:Obj}(e:X.base.get? b=some o):b∉X.fs:=fun hb=>by
 have:=(ok.funs.mem hb).1
 rw [e] at this; cases this
theorem Inv.bs (I:Inv X pins σ H s):∀ b o,X.base.get? b=some o→s.heap.get? b=some o∧H b=none:=fun b o e =>
 ⟨I.base.keep b o (I.ok.bs b o e).1 (I.ok.bs b o e).2 (I.ok.nofr e) (I.ok.noex b o e),I.base.free b o (I.ok.bs b o e).1 (I.ok.bs b o e).2 (I.ok.noex b o e)⟩
theorem Inv.bk (I:Inv X pins σ H s):∀ b o,X.base.get? b=some o→s.heap.get? b=some o:=fun b o e=>(I.bs b o e).1
theorem Inv.mod (I:Inv X pins σ H s):Mod X.K X.mg X.base:=I.ok.mod
theorem Inv.kIn (I:Inv X pins σ H s):X.K.In s.heap:=I.ok.mod.kin.keeps I.bk
theorem Inv.lt (I:Inv X pins σ H s):X.env.locals<s.heap.objs.size:=let ⟨_,hn,_⟩:=I.loc; hn.lt
theorem Inv.sz (I:Inv X pins σ H s):X.s₀.heap.objs.size≤s.heap.objs.size:=Nat.le_trans I.ok.above (Nat.le_of_lt I.lt)
theorem Inv.nofs (I:Inv X pins σ H s) {a:Addr}(h:s.heap.objs.size≤a):a∉X.fs:=fun hb=>by
 obtain ⟨_,o,ho,_⟩:=I.ok.funs.mem hb
 exact absurd (Nat.lt_of_lt_of_le (Heap.lt_size ho) (Nat.le_trans I.sz h)) (Nat.lt_irrefl _)
theorem Inv.cne (I:Inv X pins σ H s):∀ x c,X.env.cells.lookup x=some c→c≠X.env.locals:=fun x c e z=>by
 obtain ⟨v,o,ho,hd⟩:=I.cell x c e
 obtain ⟨m,⟨o',es,ep,ho',hd',_⟩,_⟩:=I.loc
 rw [z,ho'] at ho; cases ho; rw [hd'] at hd; cases hd
theorem Inv.funs (I:Inv X pins σ H s):s.heap.FunFrames X.base X.outer:=by
 have all:∀ (l:List Env),(∀ b∈frs l,b∈X.fs)→X.s₀.heap.FunFrames X.base l→s.heap.FunFrames X.base l:=by
  intro l
  induction l with
  | nil=>intro _ _; trivial
  | cons env r ih =>
    intro hs hl
    obtain ⟨hk,⟨L,o,hf,hn,ho,hd⟩,hr⟩:=hl
    have hL:L∈X.fs:=hs L (by unfold frs; rw [List.filterMap_cons,hf]; exact List.mem_cons_self)
    obtain ⟨sl,e⟩:=I.base.slot L o ho (I.ok.frf L hL) hL fun z=>I.ok.exfs L z hL
    exact ⟨hk,⟨L,_,hf,hn,e,hd⟩,ih (fun b hb=>hs b (by unfold frs; rw [List.filterMap_cons,hf]; exact List.mem_cons_of_mem _ hb)) hr⟩
 exact all X.outer (fun _ hb=>hb) I.ok.funs
theorem Inv.stack (I:Inv X pins σ H s):s.heap.FunFrames X.base X.stack:=by
 rcases I.ok.stk with e | ⟨e,hf⟩
 · rw [e]; exact I.funs
 · rw [e]
   obtain ⟨m,hn,_⟩:=I.loc
   refine .cons (by rw [I.ok.kind]; decide) hf hn ?_ I.funs
   exact Heap.get?_none_of_le (Nat.le_trans I.ok.bsz I.ok.above)
theorem Inv.stkSub (I:Inv X pins σ H s):∀ b∈frs X.stack,b∈X.env.locals::X.fs:=fun b hb=>by
 rcases I.ok.stk with e | ⟨e,hf⟩
 · rw [e] at hb; exact List.mem_cons_of_mem _ hb
 · rw [e] at hb
   unfold frs at hb
   rw [List.filterMap_cons,hf] at hb
   exact hb
theorem Inv.stkFree (I:Inv X pins σ H s):∀ b∈frs X.stack,H b=none:=fun b hb=>by
 rcases List.mem_cons.mp (I.stkSub b hb) with e | hb
 · rw [e]; exact I.free
 · obtain ⟨_,o,ho,_⟩:=I.ok.funs.mem hb
   exact I.base.free b o ho (I.ok.frf b hb) fun z=>I.ok.exfs b z hb
theorem Inv.step {g':Array GenState}{t':Nat}{d':Drawn}{ch:List Addr}(I:Inv X pins σ H s)
 (hch:∀ b∈ch,(b∈X.ex∨X.s₀.heap.objs.size≤b)∧b≠X.env.locals∧(∀ x c,X.env.cells.lookup x=some c→c≠b)∧∀ p∈X.pn++pins,p.1≠b)
 (keep:∀ b o,b≠X.env.locals→b∉X.fs→b∉ch→s.heap.get? b=some o→H b=none→h'.get? b=some o)
 (slot:∀ b o,b≠X.env.locals→b∈X.fs→b∉ch→s.heap.get? b=some o→H b=none→∃ sl,h'.get? b=some { o with slots:=sl }) (free:∀ b o,b∉ch→s.heap.get? b=some o→H b=none→H' b=none)
 (there:∀ b o,b∉ch→s.heap.get? b=some o→∃ o',h'.get? b=some o')
 (tups:∀ b xs,H b=some (.tup xs)→H' b=some (.tup xs)) (frzs:∀ b o u,H b=some (.frz o u)→H' b=some (.frz o u)) (tbls:∀ b ps,H b=some (.tbl ps)→∃ more,H' b=some (.tbl (ps++more)))
 (ns:∀ m,s.heap.Ns X.env.locals m→h'.Ns X.env.locals m) (hok:HOk X.prog X.w H' h') (hg:AllBare g') :
 Inv X pins σ H' { s with heap:=h',gens:=g',drawn:=d',toks:=t' }:=by
 have neL:∀ b o,X.s₀.heap.get? b=some o→b≠X.env.locals:=fun b o e=>Nat.ne_of_lt (Nat.lt_of_lt_of_le (Heap.lt_size e) I.ok.above)
 have neC:∀ b o,X.s₀.heap.get? b=some o→b∉X.ex→b∉ch:=fun b o e hx hb=>by
  rcases (hch b hb).1 with z | z
  · exact hx z
  · exact absurd (Nat.lt_of_lt_of_le (Heap.lt_size e) z) (Nat.lt_irrefl _)
 have cellK:∀ x c,X.env.cells.lookup x=some c→∀ v,s.heap.IsCell c v→h'.IsCell c v:=fun x c e v ⟨o,ho,hd⟩=>by
  have nch:c∉ch:=fun z=>(hch c z).2.2.1 x c e rfl
  by_cases hc:c∈X.fs
  · obtain ⟨sl,q⟩:=slot c o (I.cne x c e) hc nch ho (I.freeC x c e)
    exact ⟨_,q,hd⟩
  · exact ⟨o,keep c o (I.cne x c e) hc nch ho (I.freeC x c e),hd⟩
 refine ⟨I.ok,I.os,hg,⟨fun b o e n hb hx=>?_,fun b o e n hb hx=>?_,fun b o e n hx=>?_,fun b o e hx=>?_,fun b xs e=>tups b xs (I.base.tups b xs e),fun b o xs e=>frzs b o xs (I.base.frzs b o xs e),fun b ps e=>?_⟩,?_,fun x c e=>?_,?_,fun x c e=>?_,fun p hp=>?_,hok,I.len⟩
 · exact keep b o (neL b o e) hb (neC b o e hx) (I.base.keep b o e n hb hx) (I.base.free b o e n hx)
 · obtain ⟨sl,e1⟩:=I.base.slot b o e n hb hx
   obtain ⟨sl',e2⟩:=slot b _ (neL b o e) hb (neC b o e hx) e1 (I.base.free b o e n hx)
   exact ⟨sl',e2⟩
 · obtain ⟨o',e1⟩:=I.base.there b o e hx
   exact free b o' (neC b o e hx) e1 (I.base.free b o e n hx)
 · obtain ⟨o',e1⟩:=I.base.there b o e hx
   exact there b o' (neC b o e hx) e1
 · obtain ⟨m1,e1⟩:=I.base.tbls b ps e
   obtain ⟨m2,e2⟩:=tbls b _ e1
   exact ⟨m1++m2,by rw [e2,Array.append_assoc]⟩
 · obtain ⟨m,hn,hl⟩:=I.loc
   refine ⟨m,ns m hn,fun i x v e1 e2 e3=>?_⟩
   obtain ⟨u,r,l⟩:=hl i x v e1 e2 e3
   refine ⟨u,r,?_⟩
   rcases l with l | ⟨k,c,e,z⟩
   · exact .inl l
   · exact .inr ⟨k,c,e,cellK x c e _ z⟩
 · obtain ⟨v,z⟩:=I.cell x c e
   exact ⟨v,cellK x c e v z⟩
 · obtain ⟨m,⟨o,_,_,ho,_⟩,_⟩:=I.loc
   exact free _ o (fun z=>(hch _ z).2.1 rfl) ho I.free
 · obtain ⟨v,o,ho,hd⟩:=I.cell x c e
   exact free c o (fun z=>(hch c z).2.2.1 x c e rfl) ho (I.freeC x c e)
 · obtain ⟨e,n,ne,nf,d⟩:=I.pin p hp
   have nch:p.1∉ch:=fun z=>(hch p.1 z).2.2.2 p hp rfl
   exact ⟨keep p.1 p.2 ne nf nch e n,free p.1 p.2 nch e n,ne,nf,d⟩
theorem Inv.un {t':Nat}(I:Inv X pins σ H s) (u:Un X.fs [] H H' s.heap h') (hok:HOk X.prog X.w H' h'):Inv X pins σ H' { s with heap:=h',toks:=t' }:=by
 obtain ⟨m,⟨o,es,ep,ho,r⟩,_⟩:=id I.loc
 obtain ⟨sl,hL⟩:=u.any ho I.free (by simp)
 exact I.step (g':=s.gens) (d':=s.drawn) (ch:=[]) (fun _ z=>nomatch z) (fun b o _ hb _ e n=>u.keep b o e n hb (by simp)) (fun b o _ hb _ e n=>u.slot b o e n hb (by simp)) (fun b o _ e n=>u.free b o e n (by simp)) (fun b o _ e=>u.there b o e (by simp)) u.tups u.frzs u.tbls (fun m' hm=>by
  obtain ⟨o',es',ep',ho',r'⟩:=hm
  rw [ho] at ho'; cases ho'
  exact ⟨_,es',ep',hL,r'⟩) hok I.bare
theorem Inv.call {g':Array GenState}{t':Nat}{d':Drawn}{ch:List Addr}(I:Inv X pins σ H s) (u:Un (frs X.stack) ch H H' s.heap h') (hok:HOk X.prog X.w H' h') (hg:AllBare g')
 (hch:∀ b∈ch,(b∈X.ex∨X.s₀.heap.objs.size≤b)∧b≠X.env.locals∧(∀ x c,X.env.cells.lookup x=some c→c≠b)∧∀ p∈X.pn++pins,p.1≠b) :
 Inv X pins σ H' { s with heap:=h',gens:=g',drawn:=d',toks:=t' }:=by
 obtain ⟨m,⟨o,es,ep,ho,r⟩,_⟩:=id I.loc
 obtain ⟨sl,hL⟩:=u.any ho I.free fun z=>(hch _ z).2.1 rfl
 exact I.step (ch:=ch) hch (fun b o hL hb hc e n=>u.keep b o e n (fun z=>(List.mem_cons.mp (I.stkSub b z)).elim hL hb) hc) (fun b o _ _ hc e n=>u.any e n hc) (fun b o hc e n=>u.free b o e n hc) (fun b o hc e=>u.there b o e hc) u.tups u.frzs u.tbls (fun m' hm=>by
  obtain ⟨o',es',ep',ho',r'⟩:=hm
  rw [ho] at ho'; cases ho'
  exact ⟨_,es',ep',hL,r'⟩) hok hg
theorem Inv.turned {t':Nat}{it:Addr}(I:Inv X pins σ H s) (k:∀ b o,b≠it→s.heap.get? b=some o→h'.get? b=some o) (hn:H it=none) (hL:it≠X.env.locals)
 (h1:it∈X.ex∨X.s₀.heap.objs.size≤it) (h2:∀ x c,X.env.cells.lookup x=some c→c≠it) (h3:∀ p∈X.pn++pins,p.1≠it):Inv X pins σ H { s with heap:=h',toks:=t' }:=by
 have nit:∀ b u,H b=some u→b≠it:=fun b u e z=>by rw [z,hn] at e; cases e
 refine I.step (g':=s.gens) (d':=s.drawn) (ch:=[it]) (fun b hb=>?_) (fun b o _ _ hc e _=>k b o (fun z=>hc (by simp [z])) e) (fun b o _ _ hc e _=>⟨o.slots,k b o (fun z=>hc (by simp [z])) e⟩) (fun _ _ _ _ n=>n)
  (fun b o hc e=>⟨o,k b o (fun z=>hc (by simp [z])) e⟩) (fun _ _ e=>e) (fun _ _ _ e=>e) (fun b ps e=>⟨#[],by rw [e]; simp⟩) (fun m hm=>?_) (fun b u e=>?_) I.bare
 · have e:b=it:=by simpa using hb
   subst e
   exact ⟨h1,hL,h2,h3⟩
 · obtain ⟨o,es,ep,ho,r⟩:=hm
   exact ⟨o,es,ep,k _ o (Ne.symm hL) ho,r⟩
 · refine (I.hok b u e).stay (fun c v hc q=>k c v ?_ q) (fun _ q=>q) fun _ _ q=>q
   rcases hc with z | z
   · rw [z]; exact nit b u e
   · exact nit c _ z
theorem Inv.tok (I:Inv X pins σ H s) (t:Nat):Inv X pins σ H { s with toks:=t }:=I.un (h':=s.heap) (t':=t) Un.refl I.hok
theorem Inv.kept {t':Nat}(I:Inv X pins σ H s) (k:∀ b u,s.heap.get? b=some u→h'.get? b=some u):Inv X pins σ H { s with heap:=h',toks:=t' }:=I.un (Un.kept k) (I.hok.kept k)
theorem Inv.laid {a:Addr}{o:HO}{t':Nat}(I:Inv X pins σ H s) (k:∀ b u,s.heap.get? b=some u→h'.get? b=some u) (hp:s.heap.objs.size≤a) (new:ObjOk X.prog X.w (upd H a o) h' a o) :
 Inv X pins σ (upd H a o) { s with heap:=h',toks:=t' }:=I.un (Un.laid k hp (I.hok.fresh hp)) (I.hok.laid k hp new)
theorem Inv.write {x e:Addr}{o:HO}{t':Nat}(I:Inv X pins σ H s) (mu:Mut (H x)) (he:e=x∨H e=some (.own x)) (k:∀ b u,b≠e→s.heap.get? b=some u→h'.get? b=some u) (heo:∃ u,h'.get? e=some u)
 (new:ObjOk X.prog X.w (upd H x o) h' x o):Inv X pins σ (upd H x o) { s with heap:=h',toks:=t' }:=I.un (Un.write mu he k heo) (I.hok.write mu he k heo new)
theorem Inv.pins_of {pins':List (Addr×Obj)}(I:Inv X pins σ H s) (h:∀ p∈pins',s.heap.get? p.1=some p.2∧H p.1=none∧p.1≠X.env.locals∧p.1∉X.fs∧∀ v,p.2.data≠.cell v):Inv X pins' σ H s :=
 ⟨I.ok,I.os,I.bare,I.base,I.loc,I.cell,I.free,I.freeC,fun p hp=>(gA hp).elim (fun z=>I.pin p (List.mem_append_left _ z)) (h p),I.hok,I.len⟩
theorem az5 {N:List Str}(hN:N.Nodup) {i j:Nat}{x:Str}(a:N[i]?=some x) (b:N[j]?=some x):i=j:=by
 obtain ⟨h1,e1⟩:=gS a
 obtain ⟨h2,e2⟩:=gS b
 exact (List.getElem_inj hN).mp (e1.trans e2.symm)
theorem ar7 {M:Model}{A:Around}{E:Value→Shared→Prop}{i:Nat}{x:Str}{v:V}{u:Value}{Q:Unit→Shared→Prop}(I:Inv X pins σ H s) (hN:X.N.Nodup) (hi:X.N[i]?=some x) (hx:Loc X.env.scope x) (r:RelV v u)
 (h:∀ s',Inv X pins (σ.set i (some v)) H s'→(∃ a,Heap.SameBut a s.heap s'.heap∧(a=X.env.locals∨X.env.cells.lookup x=some a))→Q () s') (hf:X.fn x=true∨X.env.scope.names.lookup x=some .local:=by first | exact .inl rfl | exact .inr rfl | assumption):wpAny M A (storeName X.env x u) Q E s:=by
 obtain ⟨m,hn,hl⟩:=id I.loc
 have hcls:(X.env.scope.kind == .class || (X.env.scope.kind == .module && X.env.locals != X.env.globals))=false:=by rw [I.ok.kind]; rfl
 have hiσ:i<σ.length:=by rw [I.len]; exact (gS hi).1
 have cne:=I.cne
 have tracked:∀ {a:Addr}{h':Heap},(∃ o,s.heap.get? a=some o∧H a=none)→Heap.SameBut a s.heap h'→HOk X.prog X.w H h':=fun {a h'} ha hs b ob e=>by
  obtain ⟨_,_,hfree⟩:=ha
  refine (I.hok b ob e).stay (fun c w' hc q=>(hs.2 c ?_).trans q) (fun _ q=>q) fun _ _ q=>q
  rintro rfl
  rcases hc with rfl | hc
  · rw [hfree] at e; cases e
  · rw [hfree] at hc; cases hc
 rcases hx with hk | hk
 · refine wpAny_storeName_local hk hn (fun h' hn' hs=>?_) hcls
   obtain ⟨oL,_,_,hoL,_⟩:=id hn
   refine h _ ⟨I.ok,I.os,I.bare,⟨fun b o e n hb hx=>?_,fun b o e n hb hx=>?_,I.base.free,fun b o e hx=>?_,I.base.tups,I.base.frzs,I.base.tbls⟩,⟨_,hn',fun j y v' e1 e2 e3=>?_⟩,fun y c e=>?_,I.free,I.freeC,fun p hp=>?_,tracked ⟨oL,hoL,I.free⟩ hs,by simpa using I.len⟩ ⟨_,hs,.inl rfl⟩
   · exact (hs.2 b (Nat.ne_of_lt (Nat.lt_of_lt_of_le (Heap.lt_size e) I.ok.above))).trans (I.base.keep b o e n hb hx)
   · obtain ⟨sl,e1⟩:=I.base.slot b o e n hb hx
     exact ⟨sl,(hs.2 b (Nat.ne_of_lt (Nat.lt_of_lt_of_le (Heap.lt_size e) I.ok.above))).trans e1⟩
   · obtain ⟨o',e1⟩:=I.base.there b o e hx
     exact ⟨o',(hs.2 b (Nat.ne_of_lt (Nat.lt_of_lt_of_le (Heap.lt_size e) I.ok.above))).trans e1⟩
   · by_cases hj:j=i
     · subst hj
       rw [hi] at e1; cases e1
       rw [List.getElem?_set_self hiσ] at e2
       cases e2
       exact ⟨u,r,.inl ⟨hk,by simp⟩⟩
     · rw [List.getElem?_set_ne (Ne.symm hj)] at e2
       obtain ⟨u',r',q⟩:=hl j y v' e1 e2 e3
       refine ⟨u',r',?_⟩
       rcases q with ⟨k,e⟩ | ⟨k,c,e,z⟩
       · refine .inl ⟨k,?_⟩
         have:y≠x:=fun e=>hj (az5 hN e1 (e ▸ hi))
         simp [this,e]
       · exact .inr ⟨k,c,e,z.sameBut hs (cne y c e)⟩
   · obtain ⟨w',z⟩:=I.cell y c e
     exact ⟨w',z.sameBut hs (cne y c e)⟩
   · obtain ⟨e,n,ne,nf,d⟩:=I.pin p hp
     exact ⟨(hs.2 p.1 ne).trans e,n,ne,nf,d⟩
 · have hfn:X.fn x=true:=by
    rcases hf with z | z
    · exact z
    · rw [z] at hk; cases hk
   obtain ⟨c,hc⟩:=I.ok.has x (.inl hk)
   obtain ⟨w',z⟩:=I.cell x c hc
   refine wpAny_storeName_cell I.ok.kind hk hc z (fun h' hc' hs=>?_)
   obtain ⟨oc,hoc,hocd⟩:=id z
   refine h { s with heap:=h' } ⟨I.ok,I.os,I.bare,⟨fun b o e n hb hx=>?_,fun b o e n hb hx=>?_,I.base.free,fun b o e hx=>?_,I.base.tups,I.base.frzs,I.base.tbls⟩,⟨m,hn.sameBut hs (Ne.symm (cne x c hc)),fun j y v' e1 e2 e3=>?_⟩,fun y c' e=>?_,I.free,I.freeC,fun p hp=>?_,tracked ⟨oc,hoc,I.freeC x c hc⟩ hs,by simpa using I.len⟩ ⟨c,hs,.inr hc⟩
   · exact (hs.2 b (Nat.ne_of_lt (Nat.lt_of_lt_of_le (Heap.lt_size e) (I.ok.cab x c hfn hc)))).trans (I.base.keep b o e n hb hx)
   · obtain ⟨sl,e1⟩:=I.base.slot b o e n hb hx
     exact ⟨sl,(hs.2 b (Nat.ne_of_lt (Nat.lt_of_lt_of_le (Heap.lt_size e) (I.ok.cab x c hfn hc)))).trans e1⟩
   · obtain ⟨o',e1⟩:=I.base.there b o e hx
     exact ⟨o',(hs.2 b (Nat.ne_of_lt (Nat.lt_of_lt_of_le (Heap.lt_size e) (I.ok.cab x c hfn hc)))).trans e1⟩
   · by_cases hj:j=i
     · subst hj
       rw [hi] at e1; cases e1
       rw [List.getElem?_set_self hiσ] at e2
       cases e2
       exact ⟨u,r,.inr ⟨.inl hk,c,hc,hc'⟩⟩
     · rw [List.getElem?_set_ne (Ne.symm hj)] at e2
       obtain ⟨u',r',q⟩:=hl j y v' e1 e2 e3
       refine ⟨u',r',?_⟩
       rcases q with q | ⟨k,c',e,z'⟩
       · exact .inl q
       · refine .inr ⟨k,c',e,z'.sameBut hs ?_⟩
         rintro rfl
         exact hj (az5 hN e1 (I.ok.inj _ _ _ e hc ▸ hi))
   · by_cases hcc:c'=c
     · subst hcc; exact ⟨_,hc'⟩
     · obtain ⟨w2,z2⟩:=I.cell y c' e
       exact ⟨w2,z2.sameBut hs hcc⟩
   · obtain ⟨e,n,ne,nf,d⟩:=I.pin p hp
     refine ⟨(hs.2 p.1 ?_).trans e,n,ne,nf,d⟩
     intro q
     rw [q,hoc] at e
     have q':oc=p.2:=Option.some.inj e
     exact d w' (by rw [← q']; exact hocd)
theorem ao2 {M:Model}{A:Around}{E:Value→Shared→Prop}{i:Nat}{x:Str}{v:V}{u:Value}{Q:Unit→Shared→Prop}(I:Inv X pins σ H s) (hN:X.N.Nodup) (hi:X.N[i]?=some x) (hx:Loc X.env.scope x) (r:RelV v u)
 (h:∀ s',Inv X pins (σ.set i (some v)) H s'→Q () s') (hf:X.fn x=true∨X.env.scope.names.lookup x=some .local:=by first | exact .inl rfl | exact .inr rfl | assumption):wpAny M A (storeName X.env x u) Q E s :=
 ar7 I hN hi hx r (fun s' I' _=>h s' I') hf
theorem Inv.call' {s':Shared}{ch:List Addr}(I:Inv X pins σ H s) (ho:s'.os=s.os) (u:Un (frs X.stack) ch H H' s.heap s'.heap) (hok:HOk X.prog X.w H' s'.heap) (hg:AllBare s'.gens)
 (hch:∀ b∈ch,(b∈X.ex∨X.s₀.heap.objs.size≤b)∧b≠X.env.locals∧(∀ x c,X.env.cells.lookup x=some c→c≠b)∧∀ p∈X.pn++pins,p.1≠b):Inv X pins σ H' s':=by
 obtain ⟨h',g',d',t',o'⟩:=s'
 have e:o'=s.os:=ho
 subst e
 exact I.call (g':=g') (t':=t') (d':=d') u hok hg hch
end
abbrev XK:=Value→Option Addr→Hp→Prop
abbrev St:=List (Option V)
abbrev VK:=V→Hp→Prop
abbrev TE:=St→Hp→VK→Prop
abbrev TT:=St→Hp→(Bool→Hp→Prop)→Prop
abbrev TA:=St→Hp→(List V→Hp→Prop)→Prop
structure Ends where
 nx:St→Hp→Prop
 rt:VK
 bk:St→Hp→Prop:=fun _ _=>False
 ct:St→Hp→Prop:=fun _ _=>False
abbrev TS:=Ends→St→Hp→Prop
def EP (X:Cx) (pins:List (Addr×Obj)) (σ:St) (Q:VK) (u:Value) (s':Shared):Prop:=∃ v H',Inv X pins σ H' s'∧RelV v u∧Q v H'
def TP (X:Cx) (pins:List (Addr×Obj)) (σ:St) (Q:Bool→Hp→Prop) (b:Bool) (s':Shared):Prop:=∃ H',Inv X pins σ H' s'∧Q b H'
def AP (X:Cx) (pins:List (Addr×Obj)) (σ:St) (Q:List V→Hp→Prop) (us:List Value) (s':Shared):Prop:=∃ vs H',Inv X pins σ H' s'∧Vals vs us∧Q vs H'
def SP (X:Cx) (pins:List (Addr×Obj)) (D:Ends) (f:Flow) (s':Shared):Prop :=
 match f with
 | .next=>∃ σ' H',Inv X pins σ' H' s'∧D.nx σ' H'
 | .brk=>∃ σ' H',Inv X pins σ' H' s'∧D.bk σ' H'
 | .cont=>∃ σ' H',Inv X pins σ' H' s'∧D.ct σ' H'
 | .ret u=>∃ v σ' H',Inv X pins σ' H' s'∧RelV v u∧D.rt v H'
def PE (X:Cx) (e:Expr) (t:TE):Prop :=
 ∀ (pins:List (Addr×Obj)) (s:Shared) (σ:St) (H:Hp) (Q:VK),Inv X pins σ H s→t σ H Q→wpAny (model X.prog X.w) X.A (eval e X.env) (EP X pins σ Q) X.xe s
def PT (X:Cx) (e:Expr) (t:TT):Prop :=
 ∀ (pins:List (Addr×Obj)) (s:Shared) (σ:St) (H:Hp) (Q:Bool→Hp→Prop),Inv X pins σ H s→t σ H Q→wpAny (model X.prog X.w) X.A (isTrue e X.env (eval e X.env)) (TP X pins σ Q) X.xe s
def PW (X:Cx) (e:Expr) (t:TT):Prop :=
 ∀ (whole:Sem Value) (pins:List (Addr×Obj)) (s:Shared) (σ:St) (H:Hp) (Q:Bool→Hp→Prop),Inv X pins σ H s→t σ H Q→wpAny (model X.prog X.w) X.A (isTrue e X.env whole) (TP X pins σ Q) X.xe s
theorem PW.pt {X:Cx}{e:Expr}{t:TT}(h:PW X e t):PT X e t:=h _
def PA (X:Cx) (es:List Expr) (t:TA):Prop :=
 ∀ (pos:Pos) (pins:List (Addr×Obj)) (s:Shared) (σ:St) (H:Hp) (Q:List V→Hp→Prop),Inv X pins σ H s→t σ H Q→wpAny (model X.prog X.w) X.A (spliced (backTo pos (starEach es X.env))) (AP X pins σ Q) X.xe s
def PS (X:Cx) (st:Stmt) (t:TS):Prop :=
 ∀ (pins:List (Addr×Obj)) (s:Shared) (σ:St) (H:Hp) (D:Ends),Inv X pins σ H s→t D σ H→wpAny (model X.prog X.w) X.A (exec st X.env) (SP X pins D) X.xe s
def PSs (X:Cx) (st:List Stmt) (t:TS):Prop :=
 ∀ (pins:List (Addr×Obj)) (s:Shared) (σ:St) (H:Hp) (D:Ends),Inv X pins σ H s→t D σ H→wpAny (model X.prog X.w) X.A (execs st X.env) (SP X pins D) X.xe s
theorem thn {α:Type}{t:Sem α}{Q Q':α→Shared→Prop}{M:Model}{A:Around}{E:Value→Shared→Prop}{s:Shared}(h:wpAny M A t Q E s) (hQ:∀ a s,Q a s→Q' a s):wpAny M A t Q' E s:=wpAny_mono h hQ fun _ _ x=>x
section
variable {X:Cx}
def tVar (i:Nat):TE:=fun σ H Q=>∃ v,σ[i]?=some (some v)∧Q v H
def tC (v:V):TE:=fun _ H Q=>Q v H
theorem by2 {i:Nat}{x:Str}{pos:Pos}(hN:X.N[i]?=some x) (hv:Vis X.env.scope x) (hd:(x == ("__debug__":Str))=false:=by decide) (hcd:(x == ("__classdict__":Str))=false:=by decide):PE X (.Name x pos) (tVar i):=by
 intro pins s σ H Q I h
 obtain ⟨v,e,h⟩:=h
 obtain ⟨m,hn,hl⟩:=I.loc
 obtain ⟨u,r,l⟩:=hl i x v hN e hv
 have fin:EP X pins σ Q u s:=⟨v,H,I,r,h⟩
 rcases l with ⟨hk,hm⟩ | ⟨hk,c,hc,hcell⟩
 · exact wpAny_Name (wpAny_loadName_local I.ok.kind hk hn hm fin) hd
 · rcases hk with hk | hk
   · exact wpAny_Name (wpAny_loadName_cell I.ok.kind hk hc hcell fin) hd
   · exact wpAny_Name (wpAny_loadName_free I.ok.kind hk hc hcell fin hcd) hd
theorem a09 {i j pos}:PE X (.Constant (.int i) j pos) (tC (.int i)):=fun _ _ _ H _ I h=>wpAny_Constant_int ⟨.int i,H,I.tok _,⟨_,rfl⟩,h⟩
theorem aw4 {b j pos}:PE X (.Constant (.bool b) j pos) (tC (.bl b)):=fun _ _ _ H _ I h=>Constant_bool ⟨.bl b,H,I,rfl,h⟩
theorem az6 {j pos}:PE X (.Constant .none j pos) (tC .non):=fun _ _ _ H _ I h=>Constant_none ⟨.non,H,I,rfl,h⟩
theorem aa3 {x j pos}:PE X (.Constant (.str x) j pos) (tC (.str x)):=fun _ _ _ H _ I h=>Calls.Constant_str ⟨.str x,H,I.tok _,⟨_,rfl⟩,h⟩
def Gl (X:Cx) (x:Str):Prop:=X.env.kindOf x=some .globalImplicit
theorem b89 {E:Value→Shared→Prop}{pins:List (Addr×Obj)}{s:Shared}{σ:St} {H:Hp}{x:Str}{u:Value}{pos:Pos}{Q:Value→Shared→Prop}(I:Inv X pins σ H s) (hg:Gl X x) (hm:X.mg x=some u) (h:Q u s)
 (hd:(x == ("__debug__":Str))=false:=by decide):wpAny (model X.prog X.w) X.A (eval (.Name x pos) X.env) Q E s :=
 Calls.Name_function_global I.ok.kind hg (Calls.loadGlobal_global (by rw [I.ok.glob]; exact I.mod.glob.keeps I.bk) hm h) hd
theorem af8 {E:Value→Shared→Prop}{pins:List (Addr×Obj)}{s:Shared}{σ:St} {H:Hp}{x:Str}{u:Value}{pos:Pos}{Q:Value→Shared→Prop}(I:Inv X pins σ H s) (hg:Gl X x) (hm:X.mg x=none) (hv:bootBuiltins x=some u) (h:Q u s)
 (hn:x≠"__name__":=by decide) (hd:(x == ("__debug__":Str))=false:=by decide):wpAny (model X.prog X.w) X.A (eval (.Name x pos) X.env) Q E s:=by
 obtain ⟨mb,h1,h2⟩:=I.mod.blt
 exact Calls.Name_function_global I.ok.kind hg (Calls.loadGlobal_builtin (by rw [I.ok.glob]; exact I.mod.glob.keeps I.bk) hm (by rw [I.ok.blt]; exact h1.keeps I.bk) ((h2 x hn).trans hv) h) hd
theorem ao3 {x:Str}{v:V}{u:Value}{pos:Pos}(hg:Gl X x) (hm:X.mg x=none) (hv:bootBuiltins x=some u) (r:RelV v u) (hn:x≠"__name__":=by decide) (hd:(x == ("__debug__":Str))=false:=by decide):PE X (.Name x pos) (tC v) :=
 fun _ _ _ H _ I h=>af8 I hg hm hv ⟨v,H,I,r,h⟩ hn hd
variable {a b:Expr}{ta tb:TE}{pos:Pos}
def PC (X:Cx) (op:CmpOp) (a b:Expr) (t:TE):Prop :=
 ∀ (pins:List (Addr×Obj)) (s:Shared) (σ:St) (H:Hp) (Q:VK),Inv X pins σ H s→t σ H Q →
  wpAny (model X.prog X.w) X.A (eval a X.env) (fun v s₁=>wpAny (model X.prog X.w) X.A (eval b X.env) (fun u s₂=>wpAny (model X.prog X.w) X.A (compareOp op v u) (EP X pins σ Q) X.xe s₂) X.xe s₁) X.xe s
theorem nobehind (b:Expr) {op:CmpOp}(h:op≠.In) (h2:op≠.NotIn):behindInMarks op b=false:=by
 have e1:(op == CmpOp.In)=false:=by cases op <;> first | rfl | exact absurd rfl h
 have e2:(op == CmpOp.NotIn)=false:=by cases op <;> first | rfl | exact absurd rfl h2
 cases b <;> simp [behindInMarks,e1,e2]
def tB (t:TE):TT:=fun σ H Q=>t σ H fun x H1=>∃ c,x=.bl c∧Q c H1
theorem ai7 {op:CmpOp}{t:TE}(h:PC X op a b t) (h1:behindInMarks op b=false:=by first | exact nobehind _ (by decide) (by decide) | rfl):PT X (.Compare a [op] [b] pos) (tB t):=by
 intro pins s σ H Q I hw
 refine wpAny_isTrue_Compare1 (thn (h pins s σ H _ I hw) fun v s1 h1=>thn h1 fun u s2 h2=>thn h2 fun c s3 ⟨x,H1,I1,r1,q1⟩=>?_) h1
 obtain ⟨d,rfl,q⟩:=q1
 cases r1
 exact wpAny_truthy_bool ⟨H1,I1,q⟩
variable {tA tB':TT}{rest:List Expr}
def tOr (t u:TT):TT:=fun σ H Q=>t σ H fun c H1=>if c=true then Q true H1 else u σ H1 Q
def tNot (t:TT):TT:=fun σ H Q=>t σ H fun c H1=>Q (!c) H1
theorem bo2 (ha:PT X a tA):PW X (.BoolOp .Or [a] pos) tA:=by
 intro wh pins s σ H Q I h
 refine isTrue_or (thn (ha pins s σ H Q I h) fun c s1 e=>?_)
 cases c with
 | false=>exact isTrue_or_nil e
 | true=>exact e
theorem bp7 (ha:PT X a tA) (hb:PW X (.BoolOp .Or (b::rest) pos) tB'):PW X (.BoolOp .Or (a::b::rest) pos) (tOr tA tB'):=by
 intro wh pins s σ H Q I h
 refine isTrue_or (thn (ha pins s σ H _ I h) fun c s1 ⟨H1,I1,q1⟩=>?_)
 cases c with
 | true=>exact ⟨H1,I1,q1⟩
 | false=>exact hb wh pins s1 σ H1 Q I1 q1
theorem az7 (ha:PT X a tA):PT X (.UnaryOp .Not a pos) (tNot tA):=by
 intro pins s σ H Q I h
 exact isTrue_not (ha pins s σ H (fun c H1=>Q (!c) H1) I h)
def tAndV (ta tb:TE):TE:=fun σ H Q=>ta σ H fun x H1=>∃ c,x=.bl c∧if c=true then tb σ H1 Q else Q (.bl false) H1
theorem by3 {op}{t:TE}(h:PE X a t):PE X (.BoolOp op [a] pos) t:=fun pins s σ H Q I hw=>BoolOp_one (h pins s σ H Q I hw)
theorem by4 (ha:PE X a ta) (hb:PE X (.BoolOp .And (b::rest) pos) tb):PE X (.BoolOp .And (a::b::rest) pos) (tAndV ta tb):=by
 intro pins s σ H Q I h
 refine BoolOp_and (thn (ha pins s σ H _ I h) fun v s1 ⟨x,H1,I1,r1,q1⟩=>?_)
 obtain ⟨c,rfl,q1⟩:=q1
 cases r1
 refine wpAny_truthy_bool ?_
 cases c with
 | true=>exact hb pins s1 σ H1 Q I1 q1
 | false=>exact ⟨.bl false,H1,I1,rfl,q1⟩
def tIf (t:TT) (ta tb:TE):TE:=fun σ H Q=>t σ H fun c H1=>if c=true then ta σ H1 Q else tb σ H1 Q
theorem bi4 {c:Expr}(hc:PT X c tA) (ha:PE X a ta) (hb:PE X b tb):PE X (.IfExp c a b pos) (tIf tA ta tb):=by
 intro pins s σ H Q I h
 refine wpAny_IfExp (thn (hc pins s σ H _ I h) fun d s1 ⟨H1,I1,q1⟩=>?_)
 cases d with
 | true=>exact ha pins s1 σ H1 Q I1 q1
 | false=>exact hb pins s1 σ H1 Q I1 q1
end
def SqL (K:W.Frag) (H:Hp) (a:Addr) (xs:List V):Prop :=
 Rd H a (.lst xs) ∨
  ∃ (o:Obj) (its:Array Value) (n:Nat),K.lookup a=some o∧o.cls=.type "list"∧o.dict=none∧o.data=.seq its n∧its.size≤sizeLine∧Vals xs its.toList
def SqT (K:W.Frag) (H:Hp) (a:Addr) (xs:List V):Prop :=
 Rd H a (.tup xs) ∨
  ∃ (o:Obj) (its:Array Value) (n:Nat),K.lookup a=some o∧o.cls=.type "tuple"∧o.data=.seq its n∧its.size≤sizeLine∧Vals xs its.toList
def absV:Value→Option V
 | .none=>some .non
 | .bool b=>some (.bl b)
 | .int i _=>some (.int i)
 | .str x _=>some (.str x)
 | .bytes b _=>some (.byt b)
 | .float b _=>some (.flt b)
 | .ref a=>some (.ref a)
 | .type n=>some (.ty n)
 | _=>none
theorem RelV.abs {x:V}{u:Value}(r:RelV x u):absV u=some x:=by
 cases x with
 | non=>cases r; rfl
 | bl _=>cases r; rfl
 | int _=>obtain ⟨t,rfl⟩:=r; rfl
 | str _=>obtain ⟨t,rfl⟩:=r; rfl
 | byt _=>obtain ⟨t,rfl⟩:=r; rfl
 | flt _=>obtain ⟨t,rfl⟩:=r; rfl
 | ref _=>cases r; rfl
 | ty _=>cases r; rfl
theorem RelV.inj {x y:V}{u:Value}(r:RelV x u) (q:RelV y u):x=y:=Option.some.inj (r.abs.symm.trans q.abs)
theorem Vals.inj:∀ {xs ys:List V}{us:List Value},Vals xs us→Vals ys us→xs=ys
 | _,_,_,.nil,.nil=>rfl
 | _,_,_,.cons r t,.cons r' t'=>by rw [r.inj r',Vals.inj t t']
section
variable {X:Cx}{pins:List (Addr×Obj)}{σ:St} {H:Hp}{s:Shared}{a:Addr}{xs ys:List V}
theorem SqL.of {K:W.Frag}(h:H a=some (.lst xs)):SqL K H a xs:=.inl (.inl h)
theorem SqT.of {K:W.Frag}(h:H a=some (.tup xs)):SqT K H a xs:=.inl (.inl h)
theorem Inv.list (I:Inv X pins σ H s) (h:SqL X.K H a xs):∃ its:List Value,Vals xs its∧PlainL s.heap a its.toArray∧xs.length≤sizeLine:=by
 rcases h with h | ⟨o,its,n,hk,hc,hd,hs,hz,r⟩
 · obtain ⟨z,its,n,r,e⟩:=h.ok I.hok
   exact ⟨its,r,⟨_,n,e,rfl,rfl,rfl⟩,z⟩
 · refine ⟨its.toList,r,⟨o,n,I.kIn a o hk,hc,hd,by simpa using hs⟩,?_⟩
   have e:=r.length
   simp only [Array.length_toList] at e
   omega
theorem Inv.tuple (I:Inv X pins σ H s) (h:SqT X.K H a xs):∃ its:List Value,Vals xs its∧IsTup s.heap a its.toArray∧xs.length≤sizeLine:=by
 rcases h with h | ⟨o,its,n,hk,hc,hs,hz,r⟩
 · obtain ⟨z,its,r,p⟩:=h.ok I.hok
   exact ⟨its,r,p,z⟩
 · refine ⟨its.toList,r,⟨o,I.kIn a o hk,hc,n,by simpa using hs⟩,?_⟩
   have e:=r.length
   simp only [Array.length_toList] at e
   omega
theorem Inv.list_inj (I:Inv X pins σ H s) (h:SqL X.K H a xs) (h':SqL X.K H a ys):xs=ys:=by
 obtain ⟨its,r,⟨o,n,e,_,_,d⟩,_⟩:=I.list h
 obtain ⟨its',r',⟨o',n',e',_,_,d'⟩,_⟩:=I.list h'
 rw [e] at e'; cases e'
 rw [d] at d'
 injection d' with d1 _
 have:its=its':=by simpa using congrArg Array.toList d1
 subst this
 exact r.inj r'
end
abbrev Cx.wish (X:Cx) (E:Value→Shared→Prop):Cx:={ X with xe:=E }
abbrev Cx.nox (X:Cx):Cx:=X.wish fun _ _=>False
theorem Cx.Ok.wish {X:Cx}(ok:X.Ok) (E:Value→Shared→Prop):(X.wish E).Ok :=
 ⟨ok.mod,ok.kind,ok.glob,ok.blt,ok.above,ok.inj,ok.has,ok.cab,ok.hd,ok.frames,ok.stk,ok.exf,ok.bs,ok.bsz,ok.noex,ok.exfs,ok.funs,ok.frf⟩
theorem Cx.Ok.unwish {X:Cx}{E:Value→Shared→Prop}(ok:(X.wish E).Ok):X.Ok :=
 ⟨ok.mod,ok.kind,ok.glob,ok.blt,ok.above,ok.inj,ok.has,ok.cab,ok.hd,ok.frames,ok.stk,ok.exf,ok.bs,ok.bsz,ok.noex,ok.exfs,ok.funs,ok.frf⟩
section
variable {X:Cx}{pins:List (Addr×Obj)}{σ:St} {H:Hp}{s:Shared}{E:Value→Shared→Prop}
theorem Inv.wish (I:Inv X pins σ H s) (E:Value→Shared→Prop):Inv (X.wish E) pins σ H s:=⟨I.ok.wish E,I.os,I.bare,I.base,I.loc,I.cell,I.free,I.freeC,I.pin,I.hok,I.len⟩
theorem Inv.unwish (I:Inv (X.wish E) pins σ H s):Inv X pins σ H s:=⟨I.ok.unwish,I.os,I.bare,I.base,I.loc,I.cell,I.free,I.freeC,I.pin,I.hok,I.len⟩
theorem SP.unwish {D:Ends}{f:Flow}{s':Shared}(h:SP (X.wish E) pins D f s'):SP X pins D f s':=by
 cases f with
 | next=>obtain ⟨σ',H',I,q⟩:=h; exact ⟨σ',H',I.unwish,q⟩
 | brk=>obtain ⟨σ',H',I,q⟩:=h; exact ⟨σ',H',I.unwish,q⟩
 | cont=>obtain ⟨σ',H',I,q⟩:=h; exact ⟨σ',H',I.unwish,q⟩
 | ret u=>obtain ⟨v,σ',H',I,r,q⟩:=h; exact ⟨v,σ',H',I.unwish,r,q⟩
theorem PSs.nox {st:List Stmt}{t:TS}(h:PSs X.nox st t):PSs X st t:=fun pins s σ H D I hw =>
 wpAny_mono (h pins s σ H D (I.wish _) hw) (fun _ _ q=>q.unwish) fun _ _ z=>False.elim z
end
section
variable {X:Cx}{st:Stmt}{rest:List Stmt}{t u:TS}{e:Expr}{te:TE}{pos:Pos}
def tNext:TS:=fun D σ H=>D.nx σ H
def tSeq (t u:TS):TS:=fun D σ H=>t { D with nx:=u D } σ H
theorem a91:PSs X [] tNext:=fun _ _ σ H _ I h=>wpAny_execs_nil ⟨σ,H,I,h⟩
theorem a02 (h1:PS X st t) (h2:PSs X rest u):PSs X (st::rest) (tSeq t u):=by
 intro pins s σ H D I h
 refine wpAny_execs_cons (thn (h1 pins s σ H { D with nx:=u D } I h) fun f s1 q=>?_)
 cases f with
 | next =>
   obtain ⟨σ',H',I',q⟩:=q
   exact h2 pins s1 σ' H' D I' q
 | ret v=>exact q
 | brk=>exact q
 | cont=>exact q
theorem a07 (h1:PS X st t):PSs X [st] t:=by
 intro pins s σ H D I h
 refine wpAny_execs_cons (thn (h1 pins s σ H D I h) fun f s1 q=>?_)
 cases f with
 | next=>exact wpAny_execs_nil q
 | ret v=>exact q
 | brk=>exact q
 | cont=>exact q
theorem Inv.quiet {pins:List (Addr×Obj)}{σ:St} {H:Hp}{s:Shared}(I:Inv X pins σ H s):interactive X.env=false:=by simp [interactive,I.ok.kind]
def tDrop (te:TE):TS:=fun D σ H=>te σ H fun _ H1=>D.nx σ H1
theorem a60 (he:PE X e te) (hs:swapsWith e none pos.line X.env=pure false:=by rfl):PS X (.Expr e pos) (tDrop te):=by
 intro pins s σ H D I h
 exact wpAny_Expr_any (thn (he pins s σ H _ I h) fun v s1 ⟨x,H1,I1,r1,q1⟩=>⟨σ,H1,I1,q1⟩) I.quiet hs
def tRet (te:TE):TS:=fun D σ H=>te σ H D.rt
theorem a73 (he:PE X e te):PS X (.Return (some e) pos) (tRet te):=by
 intro pins s σ H D I h
 exact wpAny_Return_some (thn (he pins s σ H _ I h) fun v s1 ⟨x,H1,I1,r1,q1⟩=>⟨x,σ,H1,I1,r1,q1⟩)
def tIfS (c:TT) (t u:TS):TS:=fun D σ H=>c σ H fun b H1=>if b=true then t D σ H1 else u D σ H1
theorem ac8 {c:Expr}{a b:List Stmt}{tc:TT}(hc:PT X c tc) (ha:PSs X a t) (hb:PSs X b u):PS X (.If c a b pos) (tIfS tc t u):=by
 intro pins s σ H D I h
 refine wpAny_If (thn (hc pins s σ H _ I h) fun d s1 ⟨H1,I1,q1⟩=>?_)
 cases d with
 | true=>exact ha pins s1 σ H1 D I1 q1
 | false=>exact hb pins s1 σ H1 D I1 q1
end
abbrev TG:=V→St→Hp→(St→Hp→Prop)→Prop
abbrev TGs:=List V→St→Hp→(St→Hp→Prop)→Prop
def PG (X:Cx) (target:Expr) (t:TG):Prop :=
 ∀ (pins:List (Addr×Obj)) (s:Shared) (σ:St) (H:Hp) (v:V) (u:Value) (Q:St→Hp→Prop),Inv X pins σ H s→RelV v u→t v σ H Q →
  wpAny (model X.prog X.w) X.A (assign target X.env u) (fun _ s'=>∃ σ' H',Inv X pins σ' H' s'∧Q σ' H') X.xe s
def PGs (X:Cx) (ts:List Expr) (t:TGs):Prop :=
 ∀ (pins:List (Addr×Obj)) (s:Shared) (σ:St) (H:Hp) (vs:List V) (us:List Value) (Q:St→Hp→Prop),Inv X pins σ H s→Vals vs us→t vs σ H Q →
  wpAny (model X.prog X.w) X.A (assignInOrder ((assignEach ts X.env).map (·.2)) us) (fun _ s'=>∃ σ' H',Inv X pins σ' H' s'∧Q σ' H') X.xe s
abbrev TSet:=V→V→V→Hp→(Hp→Prop)→Prop
def PSet (X:Cx) (t:TSet):Prop :=
 ∀ (pins:List (Addr×Obj)) (s:Shared) (σ:St) (H:Hp) (o i v:V) (ov iv u:Value) (Q:Hp→Prop),Inv X pins σ H s→RelV o ov→RelV i iv→RelV v u→t o i v H Q →
  wpAny (model X.prog X.w) X.A (setItem ov iv u) (fun _ s'=>∃ H',Inv X pins σ H' s'∧Q H') X.xe s
abbrev TIp:=V→V→Hp→VK→Prop
def PIp (X:Cx) (op:Operator) (t:TIp):Prop :=
 ∀ (pins:List (Addr×Obj)) (s:Shared) (σ:St) (H:Hp) (x y:V) (v u:Value) (Q:VK),Inv X pins σ H s→RelV x v→RelV y u→t x y H Q →
  wpAny (model X.prog X.w) X.A (inplaceOp op v u) (EP X pins σ Q) X.xe s
section
variable {X:Cx}{pos:Pos}
def gName (i:Nat):TG:=fun v σ H Q=>Q (σ.set i (some v)) H
theorem a06 {i:Nat}{x:Str}(hN:X.N.Nodup) (hi:X.N[i]?=some x) (hx:Loc X.env.scope x) (hf:X.fn x=true∨X.env.scope.names.lookup x=some .local:=by first | exact .inl rfl | exact .inr rfl | assumption):PG X (.Name x pos) (gName i):=by
 intro pins s σ H v u Q I r h
 exact wpAny_assign_Name (ao2 I hN hi hx r (fun s' I'=>⟨_,H,I',h⟩) hf)
def gNil:TGs:=fun vs σ H Q=>vs=[]∧Q σ H
def gCons (t:TG) (u:TGs):TGs:=fun vs σ H Q=>∃ v r,vs=v::r∧t v σ H fun σ' H'=>u r σ' H' Q
theorem a77:PGs X [] gNil:=by
 intro pins s σ H vs us Q I r h
 obtain ⟨e,h⟩:=h
 subst e
 cases r
 exact assignInOrder_nil ⟨σ,H,I,h⟩
theorem a32 {e:Expr}{es:List Expr}{t:TG}{u:TGs}(h1:PG X e t) (h2:PGs X es u)
 (hs:(assignEach (e::es) X.env).map (·.2)=assign e X.env::(assignEach es X.env).map (·.2):=by rfl):PGs X (e::es) (gCons t u):=by
 intro pins s σ H vs us Q I r h
 obtain ⟨v,vr,e1,h⟩:=h
 subst e1
 cases r with
 | cons r rr =>
   rw [hs]
   refine assignInOrder_cons (thn (h1 pins s σ H _ _ _ I r h) fun _ s1 ⟨σ1,H1,I1,q1⟩=>?_)
   exact h2 pins s1 σ1 H1 _ _ Q I1 rr q1
def gTup (K:W.Frag) (n:Nat) (t:TGs):TG:=fun v σ H Q=>∃ a xs,v=.ref a∧SqT K H a xs∧xs.length=n∧t xs σ H Q
theorem by5 {es:List Expr}{k:Nat}{t:TGs}{n:Nat}(hc:X.calm=true) (h:PGs X es t)
 (hn:(assignEach es X.env).length=n:=by rfl) (hst:(assignEach es X.env).findIdx? (·.1)=none:=by rfl):PG X (.Tuple es k pos) (gTup X.K n t):=by
 intro pins s σ H v u Q I r hw
 obtain ⟨a,xs,e1,hq,hl,hw⟩:=hw
 subst e1
 cases r
 obtain ⟨its,rv,ht,hz⟩:=I.tuple hq
 refine assign_Tuple_tuple (I.ok.hd hc) ht (by simp [hn,←hl,rv.length]) hst fun h' hx=>?_
 have I1:Inv X pins σ H { s with heap:=h' }:=I.kept (t':=s.toks) fun b o e=>hx b o (Nat.ne_of_lt (Heap.lt_size e)) e
 exact h pins _ σ H xs _ Q I1 (by simpa using rv) hw
def gSub (to ti:TE) (t:TSet):TG:=fun v σ H Q=>to σ H fun o H1=>ti σ H1 fun i H2=>t o i v H2 fun H3=>Q σ H3
theorem al7 {o i:Expr}{to ti:TE}{t:TSet}(ho:PE X o to) (hi:PE X i ti) (hs:PSet X t)
 (ha:∀ v,assign (.Subscript o i pos) X.env v=(do
  let ov←holding [v] (eval o X.env)
  let iv←holding [v,ov] (eval i X.env)
  standAt pos
  holding [v,ov,iv] (setItem ov iv v)
  release [v,ov,iv] []):=by intro _; rfl):PG X (.Subscript o i pos) (gSub to ti t):=by
 intro pins s σ H v u Q I r h
 rw [ha]
 refine wB (wpAny_holding (thn (ho pins s σ H _ I h) fun ov s1 ⟨x,H1,I1,r1,q1⟩=>?_))
 refine wB (wpAny_holding (thn (hi pins s1 σ H1 _ I1 q1) fun iv s2 ⟨y,H2,I2,r2,q2⟩=>?_))
 refine wB (wpAny_standAt (wB (wpAny_holding (thn (hs pins s2 σ H2 x y v ov iv u _ I2 r1 r2 r q2) fun _ s3 ⟨H3,I3,q3⟩=>?_))))
 exact wpAny_release ⟨σ,H3,I3,q3⟩
def tAsg (te:TE) (g:TG):TS:=fun D σ H=>te σ H fun x H1=>g x σ H1 D.nx
theorem af9 {tg e:Expr}{te:TE}{g:TG}(he:PE X e te) (hg:PG X tg g) (hs:swapsWithSole [tg] e pos.line X.env=pure false:=by rfl) (hw:swappedStores [tg] e X.env=pure none:=by rfl)
 (h1:(assignEach [tg] X.env).map (·.2)=[assign tg X.env]:=by rfl):PS X (.Assign [tg] e pos) (tAsg te g):=by
 intro pins s σ H D I h
 refine wpAny_Assign_stores (thn (he pins s σ H _ I h) fun v s1 ⟨x,H1,I1,r1,q1⟩=>?_) hs hw
 rw [h1]
 exact thn (hg pins s1 σ H1 x v _ I1 r1 q1) fun _ s2 q=>q
theorem a35 {i:Nat}{x:Str}{e:Expr}{te:TE}{pos':Pos}(hN:X.N.Nodup) (hi:X.N[i]?=some x) (hx:Loc X.env.scope x) (he:PE X e te) (hs:swapsWith e (some (.Name x pos')) pos.line X.env=pure false:=by rfl) (hf:X.fn x=true∨X.env.scope.names.lookup x=some .local:=by first | exact .inl rfl | exact .inr rfl | assumption) :
 PS X (.Assign [.Name x pos'] e pos) (tAsg te (gName i)):=by
 intro pins s σ H D I h
 refine wpAny_Assign_Name (thn (he pins s σ H _ I h) fun v s1 ⟨y,H1,I1,r1,q1⟩=>?_) hs
 exact ao2 I1 hN hi hx r1 (fun s2 I2=>⟨_,H1,I2,q1⟩) hf
def tAug (i:Nat) (te:TE) (ti:TIp):TS:=fun D σ H=>∃ x,σ[i]?=some (some x)∧te σ H fun y H1=>ti x y H1 fun z H2=>D.nx (σ.set i (some z)) H2
theorem by6 {i:Nat}{x:Str}{e:Expr}{te:TE}{op:Operator}{ti:TIp}{pos':Pos}(hN:X.N.Nodup) (hi:X.N[i]?=some x) (hx:Loc X.env.scope x) (he:PE X e te) (ho:PIp X op ti) (hf:X.fn x=true∨X.env.scope.names.lookup x=some .local:=by first | exact .inl rfl | exact .inr rfl | assumption) :
 PS X (.AugAssign (.Name x pos') op e pos) (tAug i te ti):=by
 intro pins s σ H D I h
 obtain ⟨v,e1,h⟩:=h
 obtain ⟨m,hn,hl⟩:=I.loc
 have vis:Vis X.env.scope x:=by rcases hx with k | k; exact .inl k; exact .inr (.inl k)
 obtain ⟨u,r,l⟩:=hl i x v hi e1 vis
 refine wpAny_AugAssign_Name ?_
 have go:wpAny (model X.prog X.w) X.A (eval e X.env) (fun w s₂=>wpAny (model X.prog X.w) X.A (inplaceOp op u w) (fun r s₃=>wpAny (model X.prog X.w) X.A (storeName X.env x r) (fun _=>SP X pins D .next) X.xe s₃) X.xe s₂) X.xe s:=by
  refine thn (he pins s σ H _ I h) fun w s1 ⟨y,H1,I1,r1,q1⟩=>?_
  refine thn (ho pins s1 σ H1 v y u w _ I1 r r1 q1) fun z s2 ⟨zv,H2,I2,r2,q2⟩=>?_
  exact ao2 I2 hN hi hx r2 (fun s3 I3=>⟨_,H2,I3,q2⟩) hf
 rcases l with ⟨hk,hm⟩ | ⟨hk,c,hc,hcell⟩
 · exact wpAny_loadName_local I.ok.kind hk hn hm go
 · rcases hk with hk | hk
   · exact wpAny_loadName_cell I.ok.kind hk hc hcell go
   · rcases hx with k | k
     · have:X.env.scope.names.lookup x=some .free:=hk
       rw [k] at this; cases this
     · have:X.env.scope.names.lookup x=some .free:=hk
       rw [k] at this; cases this
def ipI (f:Int→Int→Int):TIp:=fun x y H Q=>∃ i j,x=.int i∧y=.int j∧Q (.int (f i j)) H
theorem by7:PIp X .Add (ipI fun i j=>i+j):=by
 intro pins s σ H x y v u Q I r1 r2 h
 obtain ⟨i,j,e1,e2,q⟩:=h
 subst e1; subst e2
 obtain ⟨t,rfl⟩:=r1
 obtain ⟨t',rfl⟩:=r2
 exact iadd_int ⟨.int _,H,I.tok _,⟨_,rfl⟩,q⟩
end
section
variable {X:Cx}{pos:Pos}
def tWhile (c:TT) (tb:TS):TS:=fun D σ H=>∃ W:Nat→St→Hp→Prop,(∃ m,W m σ H)∧∀ m σ H,W m σ H →
 c σ H fun b H1=>if b=true then ∃ N:St→Hp→Prop,(∀ σ' H',N σ' H'→∃ m',m'<m∧W m' σ' H')∧tb { D with nx:=N,ct:=N,bk:=D.nx } σ H1 else D.nx σ H1
theorem ag0 {c:Expr}{body:List Stmt}{tc:TT}{tb:TS}(hp:PassesOwn (model X.prog X.w) X.A X.env X.xe) (hc:PT X c tc) (hb:PSs X body tb):PS X (.While c body [] pos) (tWhile tc tb):=by
 intro pins s σ H D I h
 obtain ⟨W,⟨m0,w0⟩,turn⟩:=h
 refine wpAny_While (codeAny_whileLoop (fun n s'=>∃ σ' H',Inv X pins σ' H' s'∧W n σ' H') ?_ m0 ⟨σ,H,I,w0⟩)
 rintro n s1 ⟨σ1,H1,I1,w1⟩
 refine wpAny_passesOwn hp (thn (hc pins s1 σ1 H1 _ I1 (turn n σ1 H1 w1)) fun b s2 ⟨H2,I2,q2⟩=>?_)
 cases b with
 | true =>
   obtain ⟨N,hN,q2⟩:=q2
   rw [if_pos rfl]
   refine wpAny_passesOwn hp (thn (hb pins s2 σ1 H2 _ I2 q2) fun f s3 q3=>?_)
   cases f with
   | next =>
     obtain ⟨σ3,H3,I3,n3⟩:=q3
     obtain ⟨m',hm,w3⟩:=hN σ3 H3 n3
     exact ⟨m',hm,σ3,H3,I3,w3⟩
   | cont =>
     obtain ⟨σ3,H3,I3,n3⟩:=q3
     obtain ⟨m',hm,w3⟩:=hN σ3 H3 n3
     exact ⟨m',hm,σ3,H3,I3,w3⟩
   | brk=>exact q3
   | ret v=>exact q3
 | false =>
   rw [if_neg Bool.false_ne_true]
   exact wpAny_execs_nil ⟨σ1,H2,I2,q2⟩
end
structure It where
 go:Nat→Hp→Prop
 yld:Nat→Hp→V→Hp→Prop
 stop:Nat→Hp→Prop
def FpOk (X:Cx) (pins:List (Addr×Obj)) (H:Hp) (b:Addr):Prop :=
 H b=none∧b≠X.env.locals∧b∉X.fs∧(b∈X.ex∨X.s₀.heap.objs.size≤b)∧(∀ x c,X.env.cells.lookup x=some c→c≠b)∧∀ p∈X.pn++pins,p.1≠b
theorem Inv.fpOk {X:Cx}{pins:List (Addr×Obj)}{σ:St} {H H':Hp}{s:Shared}{b:Addr}(I:Inv X pins σ H s) (hb:s.heap.objs.size≤b) (hn:H' b=none):FpOk X pins H' b:=by
 refine ⟨hn,Nat.ne_of_gt (Nat.lt_of_lt_of_le I.lt hb),I.nofs hb,.inr (Nat.le_trans I.sz hb),fun x c e z=>?_,fun p hp z=>?_⟩
 · obtain ⟨v,q⟩:=I.cell x c e
   exact absurd (Nat.lt_of_lt_of_le q.lt (by rw [z]; exact hb)) (Nat.lt_irrefl _)
 · exact absurd (Nat.lt_of_lt_of_le (Heap.lt_size (I.pin p hp).1) (by rw [z]; exact hb)) (Nat.lt_irrefl _)
structure Turn (P:Program) (w:World) (K:W.Frag) (tg:Expr) (J:It) (fp:List Addr) (it:Addr) (tn:Nat→Heap→Prop):Prop where
 mem:it∈fp
 obj:∀ i h,tn i h→∀ b∈fp,∃ o,h.get? b=some o∧∀ v,o.data≠.cell v
 keep:∀ i h h',tn i h→(∀ b∈fp,∀ o,h.get? b=some o→h'.get? b=some o)→tn i h'
 item:∀ (X:Cx),X.prog=P→X.w=w→X.K=K→X.calm=true→∀ (i:Nat) (pins:List (Addr×Obj)) (s:Shared) (σ:St) (H:Hp) (E:Value→Shared→Prop),Inv X pins σ H s→(∀ b∈fp,FpOk X pins H b)→tn i s.heap→J.go i H →
  wpAny (model P w) X.A (pyNext (.ref it)) (fun r s1=>∃ u,r=some u ∧
   wpAny (model P w) X.A (letOwnedTupleGo tg (.ref it) u) (fun _ s2=>∃ x H',Inv X pins σ H' s2∧RelV x u∧J.yld i H x H'∧tn (i+1) s2.heap∧∀ b∈fp,H' b=none) E s1) E s
 done:∀ (X:Cx),X.prog=P→X.w=w→X.K=K→X.calm=true→∀ (i:Nat) (pins:List (Addr×Obj)) (s:Shared) (σ:St) (H:Hp) (E:Value→Shared→Prop),Inv X pins σ H s→(∀ b∈fp,FpOk X pins H b)→tn i s.heap→J.stop i H →
  wpAny (model P w) X.A (pyNext (.ref it)) (fun r s1=>r=none∧Inv X pins σ H s1) E s
 self:∀ (A:Around) (i:Nat) (s:Shared) (Q:Value→Shared→Prop) (E:Value→Shared→Prop),tn i s.heap→Q (.ref it) s→wpAny (model P w) A (pyIter (.ref it)) Q E s
abbrev TI:=St→Hp→(It→Hp→Prop)→Prop
def PIE (X:Cx) (pins:List (Addr×Obj)) (σ:St) (tg:Expr) (R:It→Hp→Prop) (itv:Value) (s2:Shared):Prop :=
 ∃ (it:Addr) (fp:List Addr) (tn:Nat→Heap→Prop) (J:It) (H':Hp),itv=.ref it∧Inv X pins σ H' s2∧Turn X.prog X.w X.K tg J fp it tn∧tn 0 s2.heap∧(∀ b∈fp,FpOk X pins H' b)∧R J H'
def PI (X:Cx) (tg iter:Expr) (wi:TI):Prop :=
 ∀ (pins:List (Addr×Obj)) (s:Shared) (σ:St) (H:Hp) (R:It→Hp→Prop),Inv X pins σ H s→wi σ H R →
  wpAny (model X.prog X.w) X.A (eval iter X.env) (fun v s1=>wpAny (model X.prog X.w) X.A (pyIter v) (PIE X pins σ tg R) X.xe s1) X.xe s
theorem bp8 {M:Model}{A:Around}{E:Value→Shared→Prop}{s:Shared}{tg:Expr}{it:Addr}{u:Value}{o:Obj}{n:String}{vs:Array Value}{Q:Unit→Shared→Prop}(ho:s.heap.get? it=some o) (hc:o.cls=.type n) (hd:o.data=.fields vs)
 (hn:["enumerate","zip","dict_itemiterator","dict_reverseitemiterator","odict_iterator","itertools.zip_longest","itertools.pairwise"].contains n=false) (hQ:Q () s):wpAny M A (letOwnedTupleGo tg (.ref it) u) Q E s:=by
 unfold letOwnedTupleGo
 cases tg <;> first
  | exact wpAny_pure hQ
  | (cases u <;> first
   | exact wpAny_pure hQ
   | (refine wB (wpAny_load ho ?_)
      rw [hc,hd]
      show wpAny M A (if (["enumerate","zip","dict_itemiterator","dict_reverseitemiterator","odict_iterator","itertools.zip_longest","itertools.pairwise"].contains n && vs[0]? == some (rawInt _))=true then _ else _) Q E s
      rw [if_neg (by intro h; rw [hn,Bool.false_and] at h; cases h)]
      exact wpAny_pure hQ))
def Itl (K:W.Frag) (a:Addr):It :=
 ⟨fun i H=>∃ xs x,SqL K H a xs∧xs[i]?=some x,fun i H x H'=>H'=H∧∀ xs,SqL K H a xs→xs[i]?=some x,fun i H=>∃ xs,SqL K H a xs∧xs.length≤i⟩
def Itr (lo:Int) (n:Nat):It:=⟨fun i _=>i<n,fun i H x H'=>H'=H∧x=.int (lo+i),fun i _=>n≤i⟩
theorem b90 {P:Program}{w:World}{K:W.Frag}{tg:Expr}(a it:Addr):Turn P w K tg (Itl K a) [it] it (fun i h=>h.IsListIter it a i) where
 mem:=by simp
 obj:=fun i h st b hb=>by
  have e:b=it:=by simpa using hb
  subst e
  obtain ⟨o,e,c,d⟩:=st
  exact ⟨o,e,fun v z=>by rw [d] at z; cases z⟩
 keep:=fun i h h' st k=>st.at fun o e=>k it (by simp) o e
 item:=by
  intro X hP hw hK hc i pins s σ H E I hf st hg
  subst hP hw hK
  obtain ⟨xs,x,hq,hx⟩:=hg
  obtain ⟨its,rv,p,hz⟩:=I.list hq
  obtain ⟨u,hu,ru⟩:=rv.get hx
  obtain ⟨f0,f1,f2,f3,f4,f5⟩:=hf it (by simp)
  refine wpAny_pyNext_list_item st p.isList (x:=u) (by simpa using hu) fun h' st' sb=>?_
  have I1:Inv X pins σ H { s with heap:=h' }:=I.turned (t':=s.toks) (fun b o hb e=>(sb.2 b hb).trans e) f0 f1 f3 f4 f5
  obtain ⟨o,e,c,d⟩:=id st'
  exact ⟨u,rfl,bp8 (s:={ s with heap:=h' }) e c d (by decide) ⟨x,H,I1,ru,⟨rfl,fun ys hy=>by rw [I.list_inj hy hq]; exact hx⟩,st',fun b hb=>(hf b hb).1⟩⟩
 done:=by
  intro X hP hw hK hc i pins s σ H E I hf st hg
  subst hP hw hK
  obtain ⟨xs,hq,hx⟩:=hg
  obtain ⟨its,rv,p,hz⟩:=I.list hq
  obtain ⟨f0,f1,f2,f3,f4,f5⟩:=hf it (by simp)
  have hl:=rv.length
  exact wpAny_pyNext_list_end (I.ok.hd hc) st p.isList (by simp; omega) fun h' eb=>⟨rfl,I.turned (t':=s.toks) (fun b o hb e=>eb b o hb e) f0 f1 f3 f4 f5⟩
 self:=fun _ _ _ _ _ st h=>wpAny_pyIter_listiter st h
theorem b56 {P:Program}{w:World}{K:W.Frag}{tg:Expr}(it:Addr) (lo:Int) (n:Nat):Turn P w K tg (Itr lo n) [it] it (fun i h=>IsRangeIter h it (lo+(i:Nat)*1) ((n:Int) - (i:Nat)) 1) where
 mem:=by simp
 obj:=fun i h st b hb=>by
  have e:b=it:=by simpa using hb
  subst e
  exact ⟨_,st,fun v z=>by
   have z':Data.fields _=Data.cell v:=z
   cases z'⟩
 keep:=fun i h h' st k=>k it (by simp) _ st
 item:=by
  intro X hP hw hK hc i pins s σ H E I hf st hg
  subst hP hw hK
  obtain ⟨f0,f1,f2,f3,f4,f5⟩:=hf it (by simp)
  have W:=Walks.range (prog:=X.prog) (w:=X.w) (I.ok.hd hc) it lo 1 n
  refine W.item i s _ _ hg st fun v h' tk hv st' kk=>?_
  obtain ⟨t,rfl⟩:=hv
  have I1:Inv X pins σ H { s with heap:=h',toks:=tk }:=I.turned (fun b o hb e=>kk b o (by simpa using hb) e) f0 f1 f3 f4 f5
  refine ⟨_,rfl,bp8 (s:={ s with heap:=h',toks:=tk }) (n:="range_iterator") st' rfl rfl (by decide) ⟨.int (lo+i),H,I1,⟨t,?_⟩,⟨rfl,rfl⟩,st',fun b hb=>(hf b hb).1⟩⟩
  rw [Int.mul_one]
 done:=by
  intro X hP hw hK hc i pins s σ H E I hf st hg
  subst hP hw hK
  obtain ⟨f0,f1,f2,f3,f4,f5⟩:=hf it (by simp)
  exact wpAny_pyNext_range_end (I.ok.hd hc) st (by have:n≤i:=hg; omega) fun h' eb=>⟨rfl,I.turned (t':=s.toks) (fun b o hb e=>eb b o hb e) f0 f1 f3 f4 f5⟩
 self:=fun _ _ _ _ _ st h=>wpAny_pyIter_rangeiter st h
section
variable {X:Cx}{tg:Expr}
def iList (K:W.Frag) (tl:TE):TI:=fun σ H R=>tl σ H fun x H1=>∃ a,x=.ref a∧(∃ xs,SqL K H1 a xs)∧R (Itl K a) H1
theorem bp9 {l:Expr}{tl:TE}(hl:PE X l tl):PI X tg l (iList X.K tl):=by
 intro pins s σ H R I h
 refine thn (hl pins s σ H _ I h) fun v s1 ⟨x,H1,I1,r1,q1⟩=>?_
 obtain ⟨a,e,⟨xs,hq⟩,q⟩:=q1
 subst e
 cases r1
 obtain ⟨its,rv,p,hz⟩:=I1.list hq
 refine wpAny_pyIter_list p.isList ?_
 refine ⟨s1.heap.objs.size,[s1.heap.objs.size],_,_,H1,rfl,I1.kept (t':=s1.toks) fun b o e=>gP _ e,b90 a _,⟨_,Heap.get?_push_size _ rfl,rfl,rfl⟩,fun b hb=>?_,q⟩
 have e:b=s1.heap.objs.size:=by simpa using hb
 subst e
 exact I1.fpOk (Nat.le_refl _) (I1.hok.fresh (Nat.le_refl _))
theorem bi5 {pins:List (Addr×Obj)}{σ:St} {H:Hp}{s:Shared}{R:It→Hp→Prop}{E:Value→Shared→Prop}{lo hi:Int}{t u v:Tok}{tk:Nat}(I:Inv X pins σ H s) (h1:-(2 ^ 62)≤lo) (h2:lo<2 ^ 62) (h3:-(2 ^ 62)≤hi) (h4:hi<2 ^ 62)
 (q:R (Itr lo (hi - lo).toNat) H):wpAny (model X.prog X.w) X.A (pyIter (.ref s.heap.objs.size)) (PIE X pins σ tg R) E { s with heap:=s.heap.push { cls:=.type "range",data:=.fields #[.int lo t,.int hi u,.int 1 v] },toks:=tk }:=by
 refine wpAny_pyIter_range (IsRange.new ..) (small_one h1 h2 h3 h4) ?_
 have I1:Inv X pins σ H { s with heap:=s.heap.push { cls:=.type "range",data:=.fields #[.int lo t,.int hi u,.int 1 v] },toks:=tk }:=I.kept fun b o e=>gP _ e
 refine ⟨(s.heap.push { cls:=.type "range",data:=.fields #[.int lo t,.int hi u,.int 1 v] }).objs.size,[(s.heap.push { cls:=.type "range",data:=.fields #[.int lo t,.int hi u,.int 1 v] }).objs.size],_,_,H,rfl,
  I1.kept (t':=tk) fun b o e=>gP _ e,b56 _ lo (hi - lo).toNat,?_,fun b hb=>?_,q⟩
 · have e1:lo+((0:Nat):Int)*1=lo:=by simp
   have e2:(((hi - lo).toNat:Nat):Int) - ((0:Nat):Int)=Builtin.Range.rangeSize lo hi 1:=by rw [rangeSize_one]; split <;> omega
   show IsRangeIter _ _ (lo+((0:Nat):Int)*1) ((((hi - lo).toNat:Nat):Int) - ((0:Nat):Int)) 1
   rw [e1,e2]
   exact Heap.get?_push_size _ rfl
 · have e:b=(s.heap.push { cls:=.type "range",data:=.fields #[.int lo t,.int hi u,.int 1 v] }).objs.size:=by simpa using hb
   subst e
   exact I1.fpOk (Nat.le_refl _) (I1.hok.fresh (Nat.le_refl _))
def by8 (ta:TA):TI:=fun σ H R=>ta σ H fun vs H1=>∃ j:Int,vs=[.int j]∧-(2 ^ 62)≤j∧j<2 ^ 62∧R (Itr 0 j.toNat) H1
theorem a94 {a:Expr}{ta:TA}{p pos:Pos}(hg:Gl X "range") (hm:X.mg "range"=none) (ha:PA X [a] ta) (hs:starEach [a] X.env=[(false,eval a X.env)]:=by rfl):PI X tg (.Call (.Name "range" p) [a] [] pos) (by8 ta):=by
 intro pins s σ H R I h
 refine Call_ (af8 I hg hm boot_range (PyProof.Rows.callWith_type1 (thn (ha pos pins s σ H _ I h) fun us s1 ⟨vs,H1,I1,r1,q1⟩=>?_) hs rfl))
 obtain ⟨j,e,q1,q2,q⟩:=q1
 subst e
 cases r1 with
 | cons r rr =>
   cases rr
   obtain ⟨t,rfl⟩:=r
   exact call_range_1 (bi5 I1 (by omega) (by omega) q1 q2 (by simpa using q))
def tFor (wi:TI) (g:TG) (tb:TS):TS:=fun D σ H=>wi σ H fun J H1=>∃ W:Nat→Nat→St→Hp→Prop,(∃ m,W 0 m σ H1)∧∀ i m σ H,W i m σ H →
 (J.stop i H∧D.nx σ H)∨(J.go i H∧∃ N:St→Hp→Prop,(∀ σ' H',N σ' H'→∃ m',m'<m∧W (i+1) m' σ' H')∧∀ x H',J.yld i H x H'→g x σ H' fun σ2 H2=>tb { D with nx:=N,ct:=N,bk:=D.nx } σ2 H2)
def pinsAt (fp:List Addr) (h:Heap):List (Addr×Obj):=fp.filterMap fun b=>(h.get? b).map fun o=>(b,o)
theorem ad8 {fp:List Addr}{h:Heap}{b:Addr}{o:Obj}(hb:b∈fp) (e:h.get? b=some o):(b,o)∈pinsAt fp h:=List.mem_filterMap.mpr ⟨b,hb,by rw [e]; rfl⟩
theorem b91 {fp:List Addr}{h:Heap}{p:Addr×Obj}(hp:p∈pinsAt fp h):p.1∈fp∧h.get? p.1=some p.2:=by
 obtain ⟨b,hb,e⟩:=List.mem_filterMap.mp hp
 cases q:h.get? b with
 | none=>rw [q] at e; cases e
 | some o =>
   rw [q] at e
   have e':(b,o)=p:=Option.some.inj e
   subst e'
   exact ⟨hb,q⟩
theorem Inv.pinned {pins:List (Addr×Obj)}{σ:St} {H:Hp}{s:Shared}{fp:List Addr}(I:Inv X pins σ H s) (hf:∀ b∈fp,FpOk X pins H b) (ho:∀ b∈fp,∃ o,s.heap.get? b=some o∧∀ v,o.data≠.cell v):Inv X (pins++pinsAt fp s.heap) σ H s :=
 I.pins_of fun p hp=>(gA hp).elim (fun z=>I.pin p (List.mem_append_right _ z)) fun z=>by
  obtain ⟨hb,e⟩:=b91 z
  obtain ⟨f0,f1,f2,_⟩:=hf p.1 hb
  obtain ⟨o,e',d⟩:=ho p.1 hb
  rw [e] at e'; cases e'
  exact ⟨e,f0,f1,f2,d⟩
theorem Inv.unpinned {pins pl:List (Addr×Obj)}{σ:St} {H:Hp}{s:Shared}(I:Inv X (pins++pl) σ H s):Inv X pins σ H s:=I.pins_of fun p hp=>I.pin p (List.mem_append_right _ (List.mem_append_left _ hp))
theorem a74 {iter:Expr}{body:List Stmt}{wi:TI}{g:TG}{tb:TS}{pos:Pos}(hp:PassesOwn (model X.prog X.w) X.A X.env X.xe) (hc:X.calm=true) (hi:PI X tg iter wi) (hg:PG X tg g) (hb:PSs X body tb)
 (hs:∀ x,foldedSetIterable iter X.env x=pure x:=by intro _; rfl):PS X (.For tg iter body [] pos) (tFor wi g tb):=by
 intro pins s σ H D I h
 refine wpAny_For (thn (hi pins s σ H _ I h) fun v s1 h1=>thn h1 fun itv s2 h2=>?_) hs
 obtain ⟨it,fp,tn,J,H2,e,I2,T,st2,f2,W,⟨m0,w0⟩,turn⟩:=h2
 subst e
 have stat:∀ {H':Hp},(∀ b∈fp,H' b=none)→∀ b∈fp,FpOk X pins H' b:=fun hn b hb=>⟨hn b hb,(f2 b hb).2⟩
 refine codeAny_forLoop_any (fun n s'=>∃ i σ' H',Inv X pins σ' H' s'∧tn i s'.heap∧(∀ b∈fp,H' b=none)∧W i n σ' H') ?_ m0 ⟨0,σ,H2,I2,st2,fun b hb=>(f2 b hb).1,w0⟩
 rintro n s3 ⟨i,σ3,H3,I3,st3,fr3,w3⟩
 rcases turn i n σ3 H3 w3 with ⟨stop,qn⟩ | ⟨go,N,hN,step⟩
 · refine wpAny_passesOwn hp (thn (T.done X rfl rfl rfl hc i pins s3 σ3 H3 X.xe I3 (stat fr3) st3 stop) fun r s4 ⟨hr,I4⟩=>?_)
   subst hr
   exact wpAny_execs_nil ⟨σ3,H3,I4,qn⟩
 · refine wpAny_passesOwn hp (thn (T.item X rfl rfl rfl hc i pins s3 σ3 H3 X.xe I3 (stat fr3) st3 go) fun r s4 ⟨u,hr,h4⟩=>?_)
   subst hr
   refine wpAny_passesOwn hp (thn h4 fun _ s5 ⟨x,H5,I5,r5,y5,st5,fr5⟩=>?_)
   have I5':=I5.pinned (stat fr5) (T.obj _ _ st5)
   refine wpAny_passesOwn hp (thn (hg _ s5 σ3 H5 x u _ I5' r5 (step x H5 y5)) fun _ s6 ⟨σ6,H6,I6,q6⟩=>?_)
   refine wpAny_passesOwn hp (thn (hb _ s6 σ6 H6 _ I6 q6) fun f s7 q7=>?_)
   have again:∀ {σ7:St} {H7:Hp},Inv X (pins++pinsAt fp s5.heap) σ7 H7 s7→N σ7 H7→∃ m,m<n∧∃ i σ' H',Inv X pins σ' H' s7∧tn i s7.heap∧(∀ b∈fp,H' b=none)∧W i m σ' H':=fun {σ7 H7} I7 n7=>by
    obtain ⟨m',hm,w7⟩:=hN σ7 H7 n7
    refine ⟨m',hm,i+1,σ7,H7,I7.unpinned,T.keep _ _ _ st5 fun b hb o e=>(I7.pin (b,o) (List.mem_append_right _ (List.mem_append_right _ (ad8 hb e)))).1,fun b hb=>?_,w7⟩
    obtain ⟨o,e,d⟩:=T.obj _ _ st5 b hb
    exact (I7.pin (b,o) (List.mem_append_right _ (List.mem_append_right _ (ad8 hb e)))).2.1
   cases f with
   | next=>obtain ⟨σ7,H7,I7,n7⟩:=q7; exact again I7 n7
   | cont=>obtain ⟨σ7,H7,I7,n7⟩:=q7; exact again I7 n7
   | brk=>obtain ⟨σ7,H7,I7,q7⟩:=q7; exact ⟨σ7,H7,I7.unpinned,q7⟩
   | ret v=>obtain ⟨x7,σ7,H7,I7,r7,q7⟩:=q7; exact ⟨x7,σ7,H7,I7.unpinned,r7,q7⟩
end
theorem a76 {K:W.Frag}{a:Addr}{xs:List V}{g:TG}{tb:TS}{D:Ends}{σ:St} {H:Hp}(Pv:Nat→St→Hp→Prop) (h0:Pv 0 σ H) (hl:∀ i σ H,i≤xs.length→Pv i σ H→SqL K H a xs)
 (hs:∀ i x σ H,xs[i]?=some x→Pv i σ H→g x σ H fun σ2 H2=>tb { D with nx:=Pv (i+1),ct:=Pv (i+1),bk:=D.nx } σ2 H2) (hd:∀ σ H,Pv xs.length σ H→D.nx σ H) :
 ∃ W:Nat→Nat→St→Hp→Prop,(∃ m,W 0 m σ H)∧∀ i m σ H,W i m σ H →
  ((Itl K a).stop i H∧D.nx σ H)∨((Itl K a).go i H∧∃ N:St→Hp→Prop,(∀ σ' H',N σ' H'→∃ m',m'<m∧W (i+1) m' σ' H')∧∀ x H',(Itl K a).yld i H x H'→g x σ H' fun σ2 H2=>tb { D with nx:=N,ct:=N,bk:=D.nx } σ2 H2):=by
 refine ⟨fun i m σ H=>m=xs.length - i∧i≤xs.length∧Pv i σ H,⟨xs.length,by simp,Nat.zero_le _,h0⟩,?_⟩
 rintro i m σ H ⟨rfl,hi,p⟩
 have q:=hl i σ H hi p
 by_cases hlt:i<xs.length
 · refine .inr ⟨⟨xs,xs[i],q,by simp [hlt]⟩,Pv (i+1),fun σ' H' p'=>⟨xs.length - (i+1),by omega,rfl,hlt,p'⟩,fun x H' y=>?_⟩
   obtain ⟨e,y⟩:=y
   subst e
   exact hs i x σ _ (y xs q) p
 · have e:i=xs.length:=by omega
   subst e
   exact .inl ⟨⟨xs,q,Nat.le_refl _⟩,hd σ H p⟩
theorem aa7 {lo:Int}{n:Nat}{g:TG}{tb:TS}{D:Ends}{σ:St} {H:Hp}(Pv:Nat→St→Hp→Prop) (h0:Pv 0 σ H)
 (hs:∀ i σ H,i<n→Pv i σ H→g (.int (lo+i)) σ H fun σ2 H2=>tb { D with nx:=Pv (i+1),ct:=Pv (i+1),bk:=D.nx } σ2 H2) (hd:∀ σ H,Pv n σ H→D.nx σ H) :
 ∃ W:Nat→Nat→St→Hp→Prop,(∃ m,W 0 m σ H)∧∀ i m σ H,W i m σ H →
  ((Itr lo n).stop i H∧D.nx σ H)∨((Itr lo n).go i H∧∃ N:St→Hp→Prop,(∀ σ' H',N σ' H'→∃ m',m'<m∧W (i+1) m' σ' H')∧∀ x H',(Itr lo n).yld i H x H'→g x σ H' fun σ2 H2=>tb { D with nx:=N,ct:=N,bk:=D.nx } σ2 H2):=by
 refine ⟨fun i m σ H=>m=n - i∧i≤n∧Pv i σ H,⟨n,by simp,Nat.zero_le _,h0⟩,?_⟩
 rintro i m σ H ⟨rfl,hi,p⟩
 by_cases hlt:i<n
 · refine .inr ⟨hlt,Pv (i+1),fun σ' H' p'=>⟨n - (i+1),by omega,rfl,hlt,p'⟩,fun x H' y=>?_⟩
   obtain ⟨e,y⟩:=y
   subst e y
   exact hs i σ _ hlt p
 · have e:i=n:=by omega
   subst e
   exact .inl ⟨Nat.le_refl _,hd σ H p⟩
abbrev R2:=V→V→Hp→VK→Prop
def OpR (X:Cx) (f:Value→Value→Sem Value) (r:R2):Prop :=
 ∀ (pins:List (Addr×Obj)) (s:Shared) (σ:St) (H:Hp) (x y:V) (v u:Value) (Q:VK),Inv X pins σ H s→RelV x v→RelV y u→r x y H Q →
  wpAny (model X.prog X.w) X.A (f v u) (EP X pins σ Q) X.xe s
def CallR (X:Cx) (f:Value) (r:List V→Hp→VK→Prop):Prop :=
 ∀ (pins:List (Addr×Obj)) (s:Shared) (σ:St) (H:Hp) (xs:List V) (us:List Value) (Q:VK),Inv X pins σ H s→Vals xs us→r xs H Q →
  wpAny (model X.prog X.w) X.A (call f us) (EP X pins σ Q) X.xe s
def TruR (X:Cx) (r:V→Hp→(Bool→Hp→Prop)→Prop):Prop :=
 ∀ (pins:List (Addr×Obj)) (s:Shared) (σ:St) (H:Hp) (x:V) (v:Value) (Q:Bool→Hp→Prop),Inv X pins σ H s→RelV x v→r x H Q →
  wpAny (model X.prog X.w) X.A (truthy v) (TP X pins σ Q) X.xe s
def tOp (r:R2) (ta tb:TE):TE:=fun σ H Q=>ta σ H fun x H1=>tb σ H1 fun y H2=>r x y H2 Q
def rI (C:Int→Int→Prop) (g:Int→Int→V):R2:=fun x y H Q=>∃ i j,x=.int i∧y=.int j∧C i j∧Q (g i j) H
def rI0 (g:Int→Int→V):R2:=fun x y H Q=>∃ i j,x=.int i∧y=.int j∧Q (g i j) H
section
variable {X:Cx}{a b c:Expr}{ta tb tc:TE}{pos:Pos}
theorem binT (ha:PE X a ta) (hb:PE X b tb) {pins:List (Addr×Obj)}{s:Shared}{σ:St} {H:Hp}{R:V→V→Hp→Prop}(I:Inv X pins σ H s)
 (h:ta σ H fun x H1=>tb σ H1 fun y H2=>R x y H2) {Q:Value→Shared→Prop}{f:Value→Value→Sem Value}
 (hf:∀ v u s2 x y H2,Inv X pins σ H2 s2→RelV x v→RelV y u→R x y H2→wpAny (model X.prog X.w) X.A (f v u) Q X.xe s2) :
 wpAny (model X.prog X.w) X.A (eval a X.env) (fun v s₁=>wpAny (model X.prog X.w) X.A (eval b X.env) (fun u s₂=>wpAny (model X.prog X.w) X.A (f v u) Q X.xe s₂) X.xe s₁) X.xe s:=by
 refine thn (ha pins s σ H _ I h) fun v s1 ⟨x,H1,I1,r1,q1⟩=>?_
 refine thn (hb pins s1 σ H1 _ I1 q1) fun u s2 ⟨y,H2,I2,r2,q2⟩=>?_
 exact hf v u s2 x y H2 I2 r1 r2 q2
theorem a90 {op:Operator}{r:R2}(ho:OpR X (binaryOp op) r) (ha:PE X a ta) (hb:PE X b tb):PE X (.BinOp a op b pos) (tOp r ta tb):=by
 intro pins s σ H Q I h
 exact wpAny_BinOp (binT ha hb I h fun v u s2 x y H2 I2 rx ry q=>ho pins s2 σ H2 x y v u Q I2 rx ry q)
theorem opI {f:Value→Value→Sem Value}{C:Int→Int→Prop}{g:Int→Int→Int}
 (rule:∀ (i j:Int) (t u:Tok) (s:Shared) (Q:Value→Shared→Prop) (E:Value→Shared→Prop),C i j→Q (.int (g i j) s.toks) { s with toks:=s.toks+1 }→wpAny (model X.prog X.w) X.A (f (.int i t) (.int j u)) Q E s) :
 OpR X f (rI C fun i j=>.int (g i j)):=by
 intro pins s σ H x y v u Q I rx ry h
 obtain ⟨i,j,rfl,rfl,hc,q⟩:=h
 obtain ⟨t,rfl⟩:=rx
 obtain ⟨t',rfl⟩:=ry
 exact rule i j t t' s _ _ hc ⟨.int (g i j),H,I.tok _,⟨_,rfl⟩,q⟩
theorem opI0 {f:Value→Value→Sem Value}{g:Int→Int→Int}
 (rule:∀ (i j:Int) (t u:Tok) (s:Shared) (Q:Value→Shared→Prop) (E:Value→Shared→Prop),Q (.int (g i j) s.toks) { s with toks:=s.toks+1 }→wpAny (model X.prog X.w) X.A (f (.int i t) (.int j u)) Q E s) :
 OpR X f (rI0 fun i j=>.int (g i j)):=by
 intro pins s σ H x y v u Q I rx ry h
 obtain ⟨i,j,rfl,rfl,q⟩:=h
 obtain ⟨t,rfl⟩:=rx
 obtain ⟨t',rfl⟩:=ry
 exact rule i j t t' s _ _ ⟨.int (g i j),H,I.tok _,⟨_,rfl⟩,q⟩
theorem opB0 {f:Value→Value→Sem Value}{g:Int→Int→Bool}
 (rule:∀ (i j:Int) (t u:Tok) (s:Shared) (Q:Value→Shared→Prop) (E:Value→Shared→Prop),Q (.bool (g i j)) s→wpAny (model X.prog X.w) X.A (f (.int i t) (.int j u)) Q E s) :
 OpR X f (rI0 fun i j=>.bl (g i j)):=by
 intro pins s σ H x y v u Q I rx ry h
 obtain ⟨i,j,rfl,rfl,q⟩:=h
 obtain ⟨t,rfl⟩:=rx
 obtain ⟨t',rfl⟩:=ry
 exact rule i j t t' s _ _ ⟨.bl (g i j),H,I,rfl,q⟩
def CDiv (i j:Int):Prop:=0<j∧j<1073741824
def CMul (i j:Int):Prop:=(-(2 ^ 64)<i∧i<2 ^ 64)∨(-(2 ^ 64)<j∧j<2 ^ 64)
theorem CMul.ok {i j:Int}(h:CMul i j):IntMulOk i j:=by
 rcases h with ⟨h1,h2⟩ | ⟨h1,h2⟩
 · exact .of_left (intBits_le_64 h1 h2)
 · exact .of_right (intBits_le_64 h1 h2)
theorem by9:OpR X (binaryOp .Add) (rI0 fun i j=>.int (i+j)):=opI0 fun _ _ _ _ _ _ _ q=>add_int q
theorem ao4:OpR X (binaryOp .FloorDiv) (rI CDiv fun i j=>.int (i / j)):=opI fun i j _ _ _ _ _ hc q=>by
 have h1:(0:Int)<j:=hc.1
 have h2:j<1073741824:=hc.2
 exact floordiv_int (by omega) (by rw [Int.fdiv_eq_ediv_of_nonneg i (by omega)]; exact q) (.inl (PyProof.noPylong_small (by omega)))
theorem aa4:OpR X (binaryOp .Mod) (rI (fun _ j=>0<j) fun i j=>.int (i % j)):=opI fun i j _ _ _ _ _ hc q=>by
 have h1:(0:Int)<j:=hc
 exact mod_int' (by omega) (by rw [Int.fmod_eq_emod_of_nonneg i (by omega)]; exact q)
end
def scal:V→V→Bool
 | .non,.non=>true | .non,.int _=>true | .int _,.non=>true | .non,.bl _=>true | .bl _,.non=>true | .non,.str _=>true | .str _,.non=>true
 | .int _,.int _=>true | .bl _,.bl _=>true | .str _,.str _=>true | .byt _,.byt _=>true
 | .int _,.str _=>true | .str _,.int _=>true | .bl _,.str _=>true | .str _,.bl _=>true
 | _,_=>false
def rEq:R2:=fun x y H Q=>scal x y=true∧Q (.bl (decide (x=y))) H
def rNe:R2:=fun x y H Q=>scal x y=true∧Q (.bl (!decide (x=y))) H
theorem b92 {i j:Int}:decide (V.int i=V.int j)=(i == j):=by
 rw [Bool.eq_iff_iff]
 simp
theorem bo3 {i j:Bool}:decide (V.bl i=V.bl j)=(i == j):=by
 rw [Bool.eq_iff_iff]
 simp
theorem b93 {i j:Str}:decide (V.str i=V.str j)=(i == j):=by
 rw [Bool.eq_iff_iff]
 simp
theorem b94 {i j:Array UInt8}:decide (V.byt i=V.byt j)=(i.toList == j.toList):=by
 rw [Bool.eq_iff_iff]
 cases i
 cases j
 simp
section
variable {X:Cx}{a b c:Expr}{ta tb tc:TE}{pos:Pos}
theorem a61 {pins:List (Addr×Obj)}{σ:St} {H:Hp}{s:Shared}{Q:VK}{k k':Bool}(I:Inv X pins σ H s) (q:Q (.bl k) H) (e:k=k'):EP X pins σ Q (.bool k') s:=by
 subst e
 exact ⟨.bl k,H,I,rfl,q⟩
theorem b95:OpR X (compareOp .Eq) rEq:=by
 intro pins s σ H x y v u Q I rx ry h
 obtain ⟨hs,q⟩:=h
 cases x with
 | non =>
   cases rx
   cases y with
   | non=>cases ry; exact PySem.EqNone.eq_none_none (a61 I q (by simp))
   | bl j=>cases ry; exact PySem.EqNone.eq_none_bool (a61 I q (by simp))
   | int j=>obtain ⟨t',rfl⟩:=ry; exact PySem.EqNone.eq_none_int (a61 I q (by simp))
   | str j=>obtain ⟨t',rfl⟩:=ry; exact PySem.EqNone.eq_none_str (a61 I q (by simp))
   | _=>exact absurd (show false=true from hs) Bool.false_ne_true
 | bl i =>
   cases rx
   cases y with
   | non=>cases ry; exact PySem.EqNone.eq_bool_none (a61 I q (by simp))
   | bl j=>cases ry; exact eq_bool (a61 I q bo3)
   | str j=>obtain ⟨t',rfl⟩:=ry; exact PySem.EqMixed.eq_bool_str (a61 I q (by simp))
   | _=>exact absurd (show false=true from hs) Bool.false_ne_true
 | int i =>
   obtain ⟨t,rfl⟩:=rx
   cases y with
   | non=>cases ry; exact PySem.EqNone.eq_int_none (a61 I q (by simp))
   | int j=>obtain ⟨t',rfl⟩:=ry; exact eq_int (a61 I q b92)
   | str j=>obtain ⟨t',rfl⟩:=ry; exact PySem.EqMixed.eq_int_str (a61 I q (by simp))
   | _=>exact absurd (show false=true from hs) Bool.false_ne_true
 | str i =>
   obtain ⟨t,rfl⟩:=rx
   cases y with
   | non=>cases ry; exact PySem.EqNone.eq_str_none (a61 I q (by simp))
   | bl j=>cases ry; exact PySem.EqMixed.eq_str_bool (a61 I q (by simp))
   | int j=>obtain ⟨t',rfl⟩:=ry; exact PySem.EqMixed.eq_str_int (a61 I q (by simp))
   | str j=>obtain ⟨t',rfl⟩:=ry; exact eq_str (a61 I q b93)
   | _=>exact absurd (show false=true from hs) Bool.false_ne_true
 | byt i =>
   obtain ⟨t,rfl⟩:=rx
   cases y with
   | byt j=>obtain ⟨t',rfl⟩:=ry; exact W.eq_bytes (a61 I q b94)
   | _=>exact absurd (show false=true from hs) Bool.false_ne_true
 | _=>cases y <;> exact absurd (show false=true from hs) Bool.false_ne_true
theorem c97:OpR X (compareOp .NotEq) rNe:=by
 intro pins s σ H x y v u Q I rx ry h
 obtain ⟨hs,q⟩:=h
 cases x with
 | non =>
   cases rx
   cases y with
   | non=>cases ry; exact PySem.EqNone.ne_none_none (a61 I q (by simp))
   | bl j=>cases ry; exact PySem.EqNone.ne_none_bool (a61 I q (by simp))
   | int j=>obtain ⟨t',rfl⟩:=ry; exact PySem.EqNone.ne_none_int (a61 I q (by simp))
   | str j=>obtain ⟨t',rfl⟩:=ry; exact PySem.EqNone.ne_none_str (a61 I q (by simp))
   | _=>exact absurd (show false=true from hs) Bool.false_ne_true
 | bl i =>
   cases rx
   cases y with
   | non=>cases ry; exact PySem.EqNone.ne_bool_none (a61 I q (by simp))
   | bl j=>cases ry; exact ne_bool (a61 I q (congrArg not bo3))
   | str j=>obtain ⟨t',rfl⟩:=ry; exact PySem.EqMixed.ne_bool_str (a61 I q (by simp))
   | _=>exact absurd (show false=true from hs) Bool.false_ne_true
 | int i =>
   obtain ⟨t,rfl⟩:=rx
   cases y with
   | non=>cases ry; exact PySem.EqNone.ne_int_none (a61 I q (by simp))
   | int j=>obtain ⟨t',rfl⟩:=ry; exact ne_int (a61 I q (congrArg not b92))
   | str j=>obtain ⟨t',rfl⟩:=ry; exact PySem.EqMixed.ne_int_str (a61 I q (by simp))
   | _=>exact absurd (show false=true from hs) Bool.false_ne_true
 | str i =>
   obtain ⟨t,rfl⟩:=rx
   cases y with
   | non=>cases ry; exact PySem.EqNone.ne_str_none (a61 I q (by simp))
   | bl j=>cases ry; exact PySem.EqMixed.ne_str_bool (a61 I q (by simp))
   | int j=>obtain ⟨t',rfl⟩:=ry; exact PySem.EqMixed.ne_str_int (a61 I q (by simp))
   | str j=>obtain ⟨t',rfl⟩:=ry; exact ne_str (a61 I q (congrArg not b93))
   | _=>exact absurd (show false=true from hs) Bool.false_ne_true
 | byt i =>
   obtain ⟨t,rfl⟩:=rx
   cases y with
   | byt j=>obtain ⟨t',rfl⟩:=ry; exact W.ne_bytes (a61 I q (congrArg not b94))
   | _=>exact absurd (show false=true from hs) Bool.false_ne_true
 | _=>cases y <;> exact absurd (show false=true from hs) Bool.false_ne_true
theorem bq0:OpR X (compareOp .Lt) (rI0 fun i j=>.bl (decide (i<j))):=opB0 fun _ _ _ _ _ _ _ q=>lt_int q
theorem bq1:OpR X (compareOp .Gt) (rI0 fun i j=>.bl (decide (j<i))):=opB0 fun _ _ _ _ _ _ _ q=>gt_int q
theorem bq2:OpR X (compareOp .IsNot) (fun x y H Q=>y=.non∧Q (.bl (!decide (x=.non))) H):=by
 intro pins s σ H x y v u Q I rx ry h
 obtain ⟨rfl,q⟩:=h
 cases ry
 refine isnot_none_gen (a61 I q ?_)
 cases x <;> first
  | (cases rx; rfl)
  | (obtain ⟨t,rfl⟩:=rx; rfl)
theorem nomark (b:Expr) {op:CmpOp}(h:op≠.In:=by decide) (h2:op≠.NotIn:=by decide):behindInMarks op b=false:=by
 have e1:(op == CmpOp.In)=false:=by cases op <;> first | rfl | exact absurd rfl h
 have e2:(op == CmpOp.NotIn)=false:=by cases op <;> first | rfl | exact absurd rfl h2
 cases b <;> simp [behindInMarks,e1,e2]
theorem ai8 {op:CmpOp}{r:R2}(ho:OpR X (compareOp op) r) (ha:PE X a ta) (hb:PE X b tb) (hm:behindInMarks op b=false):PE X (.Compare a [op] [b] pos) (tOp r ta tb):=by
 intro pins s σ H Q I h
 exact wpAny_Compare1 (binT ha hb I h fun v u s2 x y H2 I2 rx ry q=>ho pins s2 σ H2 x y v u Q I2 rx ry q) hm
def tTest (t:TE):TT:=fun σ H Q=>t σ H fun x H'=>∃ k,x=.bl k∧Q k H'
theorem a81 {op:CmpOp}{r:R2}(ho:OpR X (compareOp op) r) (ha:PE X a ta) (hb:PE X b tb) (hm:behindInMarks op b=false):PT X (.Compare a [op] [b] pos) (tTest (tOp r ta tb)):=by
 intro pins s σ H Q I h
 refine wpAny_isTrue_Compare1 (thn (ha pins s σ H _ I h) fun v s1 ⟨x,H1,I1,r1,q1⟩=>thn (hb pins s1 σ H1 _ I1 q1) fun u s2 ⟨y,H2,I2,r2,q2⟩ =>
  thn (ho pins s2 σ H2 x y v u _ I2 r1 r2 q2) fun c s3 ⟨z,H3,I3,r3,k,e,q3⟩=>?_) hm
 subst e
 cases r3
 exact wpAny_truthy_bool ⟨H3,I3,q3⟩
def TruV (K:W.Frag) (x:V) (H:Hp) (k:Bool):Prop :=
 match x with
 | .non=>k=false
 | .bl b=>k=b
 | .int i=>k=(i != 0)
 | .str y=>y.length≤sizeLine∧k=((y.length:Int) != 0)
 | .byt y=>y.size≤sizeLine∧k=((y.size:Int) != 0)
 | .ref p=>(∃ xs,SqL K H p xs∧k=!xs.isEmpty)∨(∃ xs,SqT K H p xs∧k=!xs.isEmpty)∨∃ kvs,H p=some (.dK kvs)∧k=!kvs.isEmpty
 | _=>False
theorem b57 {κ:Type} {kvs:List (κ×V)}{vs:List (κ×Value)}(r:KV kvs vs):(!vs.isEmpty)=!kvs.isEmpty:=by
 cases r <;> rfl
theorem al8 {xs:List V}{its:List Value}(r:Vals xs its):(!its.toArray.isEmpty)=!xs.isEmpty:=by
 cases r <;> simp
theorem ar8:(sizeLine:Nat)<2 ^ 63:=by rw [sizeLine_eq]; decide
theorem bz0:TruR X (fun x H Q=>∃ k,TruV X.K x H k∧Q k H):=by
 intro pins s σ H x v Q I rx h
 obtain ⟨k,e,q⟩:=h
 have hl:=ar8
 have hs:sizeLine=16777216:=sizeLine_eq
 cases x with
 | non =>
   cases rx
   have e':k=false:=e
   subst e'
   exact truthy_none ⟨H,I,q⟩
 | bl b =>
   cases rx
   have e':k=b:=e
   subst e'
   exact wpAny_truthy_bool ⟨H,I,q⟩
 | int i =>
   obtain ⟨t,rfl⟩:=rx
   have e':k=(i != 0):=e
   subst e'
   exact PySem.P.truthy_int ⟨H,I,q⟩
 | str y =>
   obtain ⟨t,rfl⟩:=rx
   obtain ⟨hy,e'⟩:y.length≤sizeLine∧k=((y.length:Int) != 0):=e
   subst e'
   exact PySem.P.truthy_str (by omega) ⟨H,I.tok _,q⟩
 | byt y =>
   obtain ⟨t,rfl⟩:=rx
   obtain ⟨hy,e'⟩:y.size≤sizeLine∧k=((y.size:Int) != 0):=e
   subst e'
   exact W.truthy_bytes (by omega) ⟨H,I.tok _,q⟩
 | ref p =>
   cases rx
   have e':(∃ xs,SqL X.K H p xs∧k=!xs.isEmpty)∨(∃ xs,SqT X.K H p xs∧k=!xs.isEmpty)∨∃ kvs,H p=some (.dK kvs)∧k=!kvs.isEmpty:=e
   rcases e' with ⟨xs,hx,e'⟩ | ⟨xs,hx,e'⟩ | ⟨kvs,hx,e'⟩
   · subst e'
     obtain ⟨its,r,pl,hz⟩:=I.list hx
     have hlen:=r.length
     exact wpAny_truthy_list pl.isList (by simp only [List.size_toArray]; omega) ⟨H,I.tok _,by rw [al8 r]; exact q⟩
   · subst e'
     obtain ⟨its,r,pl,hz⟩:=I.tuple hx
     have hlen:=r.length
     exact truthy_tuple pl (by simp only [List.size_toArray]; omega) ⟨H,I.tok _,by rw [al8 r]; exact q⟩
   · subst e'
     obtain ⟨hz,hS,vs,r,m⟩:kvs.length≤sizeLine∧(p == sysModules)=false∧∃ vs,KV kvs vs∧s.heap.DictOf (mixKind X.prog X.w) p vs:=I.hok p _ hx
     have hlen:kvs.length=vs.length:=Paired.length r
     exact wpAny_truthy_dict hS m (by omega) ⟨H,I.tok _,by rw [b57 r]; exact q⟩
 | _=>exact (show False from e).elim
theorem bi6 (ha:PE X a ta) (he:∀ whole,isTrue a X.env whole=(do let v←whole; standAt a.pos; holding [v] (truthy v))) :
 PT X a (fun σ H Q=>ta σ H fun x H'=>∃ k,TruV X.K x H' k∧Q k H'):=by
 intro pins s σ H Q I h
 exact isTrue_plain (thn (ha pins s σ H _ I h) fun v s1 ⟨x,H1,I1,r1,q1⟩=>bz0 pins s1 σ H1 x v Q I1 r1 q1) (he _)
theorem b58:OpR X (binaryOp .Add) (fun x y H Q=>∃ i j,x=.str i∧y=.str j∧i.length+j.length≤sizeLine∧Q (.str (i++j)) H):=by
 intro pins s σ H x y v u Q I rx ry h
 obtain ⟨i,j,rfl,rfl,hz,q⟩:=h
 obtain ⟨t,rfl⟩:=rx
 obtain ⟨t',rfl⟩:=ry
 exact add_str (fun t' tk=>⟨.str (i++j),H,I.tok _,⟨_,rfl⟩,q⟩) hz
theorem ai9 {x:V}{us:List Value}(r:Vals [x] us):∃ u,us=[u]∧RelV x u:=by
 cases r with
 | cons r1 r2=>cases r2; exact ⟨_,rfl,r1⟩
theorem b96 {x y:V}{us:List Value}(r:Vals [x,y] us):∃ u w',us=[u,w']∧RelV x u∧RelV y w':=by
 cases r with
 | cons r1 r2 =>
   cases r2 with
   | cons r3 r4=>cases r4; exact ⟨_,_,rfl,r1,r3⟩
theorem b97:CallR X (.type "int") (fun xs H Q=>(∃ i,xs=[.int i]∧Q (.int i) H)∨∃ k,xs=[.bl k]∧Q (.int (if k then 1 else 0)) H):=by
 intro pins s σ H xs us Q I r h
 rcases h with ⟨i,rfl,q⟩ | ⟨k,rfl,q⟩
 · obtain ⟨u,rfl,t,rfl⟩:=ai9 r
   exact call_int_int ⟨.int i,H,I,⟨_,rfl⟩,q⟩
 · obtain ⟨u,rfl,r1⟩:=ai9 r
   cases r1
   exact call_int_bool ⟨.int (if k then 1 else 0),H,I.tok _,⟨_,rfl⟩,q⟩
def LenV (K:W.Frag) (x:V) (H:Hp) (n:Nat):Prop :=
 match x with
 | .str y=>y.length≤sizeLine∧n=y.length
 | .byt y=>y.size≤sizeLine∧n=y.size
 | .ref p=>(∃ xs,SqL K H p xs∧n=xs.length)∨∃ xs,SqT K H p xs∧n=xs.length
 | _=>False
theorem bi7:CallR X (.builtin "len") (fun xs H Q=>∃ x n,xs=[x]∧LenV X.K x H n∧Q (.int n) H):=by
 intro pins s σ H xs us Q I r h
 obtain ⟨x,n,rfl,e,q⟩:=h
 obtain ⟨u,rfl,rx⟩:=ai9 r
 have hl:=ar8
 have hs:sizeLine=16777216:=sizeLine_eq
 cases x with
 | str y =>
   obtain ⟨t,rfl⟩:=rx
   obtain ⟨hy,e'⟩:y.length≤sizeLine∧n=y.length:=e
   subst e'
   exact len_str (by omega) ⟨.int _,H,I.tok _,⟨_,rfl⟩,q⟩
 | byt y =>
   obtain ⟨t,rfl⟩:=rx
   obtain ⟨hy,e'⟩:y.size≤sizeLine∧n=y.size:=e
   subst e'
   exact W.len_bytes (by omega) ⟨.int _,H,I.tok _,⟨_,rfl⟩,q⟩
 | ref p =>
   cases rx
   have e':(∃ xs,SqL X.K H p xs∧n=xs.length)∨∃ xs,SqT X.K H p xs∧n=xs.length:=e
   rcases e' with ⟨xs,hx,e'⟩ | ⟨xs,hx,e'⟩
   · subst e'
     obtain ⟨its,r',pl,hz⟩:=I.list hx
     have hlen:=r'.length
     exact Calls.call_len_list pl.isList (by simp only [List.size_toArray]; omega) ⟨.int xs.length,H,I.tok _,⟨_,by simp only [List.size_toArray]; rw [hlen]⟩,q⟩
   · subst e'
     obtain ⟨its,r',pl,hz⟩:=I.tuple hx
     have hlen:=r'.length
     exact len_tuple pl (by simp only [List.size_toArray]; omega) ⟨.int xs.length,H,I.tok _,⟨_,by simp only [List.size_toArray]; rw [hlen]⟩,q⟩
 | _=>exact (show False from e).elim
end
structure ObjM (h:Heap) (x dx C:Addr) (mA:Str→Option Value):Prop where
 obj:h.get? x=some (W.instObj C dx)
 ns:h.Ns1 dx mA
 ne:dx≠x
theorem b98 {h:Heap}{dx:Addr}{mA:Str→Option Value}(n:h.Ns1 dx mA):∃ od,h.get? dx=some od∧∀ name,W.lookIn name od=some (mA name):=by
 obtain ⟨o,es,ep,ho,hd,hk,_,hm⟩:=n
 refine ⟨o,ho,fun name=>?_⟩
 have e:=hm name
 unfold nsFind findBy at e
 rw [← Array.find?_toList] at e
 unfold W.lookIn
 rw [hd]
 dsimp only
 split
 · rename_i y q
   rw [q] at e
   exact congrArg some e
 · rename_i q
   rw [q] at e
   have a:es.toList.any (·.refKey)=false:=by
    rw [List.any_eq_false]
    intro y hy
    obtain ⟨z,t,hkey⟩:=hk y (Array.mem_toList_iff.mp hy)
    simp [DictEntry.refKey,hkey]
   have a':¬ es.toList.any (·.refKey)=true:=by rw [a]; exact Bool.false_ne_true
   rw [if_neg a']
   exact congrArg some e
theorem ObjM.look {h:Heap}{x dx C:Addr}{mA:Str→Option Value}(I:ObjM h x dx C mA):∃ od,W.InstAt h x (W.instObj C dx) C (some od)∧∀ name,W.lookIn name od=some (mA name) :=
 let ⟨od,ho,hl⟩:=b98 I.ns
 ⟨od,⟨I.obj,rfl,rfl,ho⟩,hl⟩
section
variable {prog:Program}{w:World}{A:Around}{E:Value→Shared→Prop}{s:Shared}{K:W.Frag}{x dx C f:Addr}{mA:Str→Option Value}{name:Str}{v:Value}
theorem bq3 {expr:Bool}{Q:Value→Shared→Prop}(X:K.In s.heap) (I:ObjM s.heap x dx C mA) (hg:W.plainGet K C name=true) (hh:W.hasDictIn K C=true)
 (ha:W.findIn K (.ref C) name=some none) (hv:mA name=some v) (hv':W.handedIn v=true) (h:Q v { s with toks:=s.toks+1 }) :
 wpAny (model prog w) A (getAttr (.ref x) name expr) Q E s:=by
 obtain ⟨od,J,hl⟩:=I.look
 exact W.get_value X J (W.plainGet_of hg).1 (W.findObj_own hh ha rfl (by rw [hl,hv])) hv' h
theorem bi8 {pl:Sem Bool}{Q:Value×List Value→Shared→Prop}(X:K.In s.heap) (I:ObjM s.heap x dx C mA) (hg:W.plainGet K C name=true)
 (hf:W.findIn K (.ref C) name=some (some (.ref f))) (ht:W.isFn K (.ref f)=true) (hv:mA name=none) (h:Q (.ref f,[.ref x]) s) :
 wpAny (model prog w) A (getMethod (.ref x) name pl) Q E s:=by
 obtain ⟨od,J,hl⟩:=I.look
 exact W.method_fn X J (W.plainGet_of hg).1 (W.plainGet_of hg).2 hf (beq_iff_eq.mp ht) (by show (W.lookIn name od).map (·.isSome)=some false; rw [hl,hv]; rfl) h
theorem bq4 {ns:List Str}{Q:Unit→Shared→Prop}(X:K.In s.heap) (I:ObjM s.heap x dx C mA)
 (hs:W.findIn K (.ref C) "__setattr__"=some (some (.builtin "object.__setattr__"))) (hp:W.plainOver K C=true) (ht:W.takerIn K C name=some none) (hh:W.hasDictIn K C=true)
 (hw:PySem.Within mA ns) (hsz:ns.length≤sizeLine)
 (h:∀ h',ObjM h' x dx C (fun y=>if y=name then some v else mA y)→Heap.SameBut dx s.heap h'→Q () { s with heap:=h',toks:=s.toks+2 }) :
 wpAny (model prog w) A (setAttr (.ref x) name v) Q E s:=by
 obtain ⟨od,J,hl⟩:=I.look
 refine W.set_plain X J hs (W.osa_open (s:={ s with toks:=s.toks+1 }) (r:=none) X J hp ht fun b=>?_)
 obtain ⟨cd,hc,hd'⟩:=W.any_some hh
 have hx:s.heap.get? x=some ⟨.ref C,some dx,.plain,#[]⟩:=I.obj
 refine wB (wpAny_pure (wB (wB (wpAny_loadPart hx (wB (W.Looks.here (s:={ s with toks:=s.toks+1 }) (W.looks_clsIn X hc) ?_))))))
 rw [hd']
 refine wpAny_pure (a:=some dx) (wB (wpAny_pure (wB ?_)))
 refine wpAny_nsSet1 (s:={ s with toks:=s.toks+1 }) I.ns fun h' hn2 hs2=>?_
 obtain ⟨oD,esD,epD,hoD,hdD,hcD⟩:=hn2.count (PySem.Within.cons name v hw)
 refine wB (wpAny_lookBehind hoD (by rw [hdD]; exact pastItsLine_dict (Nat.le_trans hcD (by rw [List.length_cons]; omega))) ?_)
 exact wpAny_pure (h _ ⟨(hs2.2 _ (Ne.symm I.ne)).trans I.obj,hn2,I.ne⟩ hs2)
theorem bi9 {R:Result→Shared→Prop}{vs:List Value}{kw:List (Str×Value)}(X:K.In s.heap) (hm:W.makesIn K C=true)
 (hi:W.findIn K (.ref C) "__init__"=some (some (.ref f))) (hf:W.typeIn K (.ref f)=some (.type "function"))
 (h:codeAny (model prog w) (A.under (.builtin "type.__call__" ⟨.ref C::vs,kw⟩)) (.call (.ref f) ⟨.ref (s.heap.objs.size+1)::vs,kw⟩) (W.InitBack (s.heap.objs.size+1) R)
  { s with heap:=(s.heap.push W.emptyDict).push (W.instObj C s.heap.objs.size) }) :
 codeAny (model prog w) A (.call (.ref C) ⟨vs,kw⟩) R s:=by
 obtain ⟨hh,g,d,t,os⟩:=s
 exact W.make_core (W.makes_of X hm) (W.looks_findIn X hi) (fun self=>W.bind_fn X self hf) (.inl rfl) h
end
def putF (f:Str) (v:V):List (Str×V)→List (Str×V)
 | []=>[(f,v)]
 | (g,x)::r=>if g=f then (g,v)::r else (g,x)::putF f v r
theorem a29 (f g:Str) (v:V):∀ fs:List (Str×V),(putF f v fs).lookup g=if g=f then some v else fs.lookup g
 | []=>by
   show List.lookup g [(f,v)]=_
   by_cases h:g=f
   · have hb:(g == f)=true:=beq_iff_eq.mpr h
     simp only [List.lookup,hb,if_pos h]
   · have hb:(g == f)=false:=beq_eq_false_iff_ne.mpr h
     simp only [List.lookup,hb,if_neg h]
 | (k,x)::r=>by
   have ih:=a29 f g v r
   rw [show putF f v ((k,x)::r)=(if k=f then (k,v)::r else (k,x)::putF f v r) from rfl]
   by_cases hk:k=f
   · rw [if_pos hk]
     by_cases h:g=k
     · have hb:(g == k)=true:=beq_iff_eq.mpr h
       simp only [List.lookup,hb,if_pos (h.trans hk)]
     · have hb:(g == k)=false:=beq_eq_false_iff_ne.mpr h
       simp only [List.lookup,hb,if_neg (fun e:g=f=>h (e.trans hk.symm))]
   · rw [if_neg hk]
     by_cases h:g=k
     · have hb:(g == k)=true:=beq_iff_eq.mpr h
       simp only [List.lookup,hb,if_neg (fun e:g=f=>hk (h.symm.trans e))]
     · have hb:(g == k)=false:=beq_eq_false_iff_ne.mpr h
       simp only [List.lookup,hb]
       exact ih
theorem aj0 (f:Str) (v:V):∀ fs:List (Str×V),f∈(putF f v fs).map (·.1)∧∀ g,g∈fs.map (·.1)→g∈(putF f v fs).map (·.1)
 | []=>⟨by simp [putF],fun g h=>by simp at h⟩
 | (k,x)::r=>by
   obtain ⟨i1,i2⟩:=aj0 f v r
   rw [show putF f v ((k,x)::r)=(if k=f then (k,v)::r else (k,x)::putF f v r) from rfl]
   by_cases hk:k=f
   · rw [if_pos hk]
     subst hk
     exact ⟨by simp,fun g h=>by simpa using h⟩
   · rw [if_neg hk]
     refine ⟨?_,fun g h=>?_⟩
     · rw [List.map_cons]
       exact List.mem_cons_of_mem _ i1
     · rw [List.map_cons] at h ⊢
       rcases List.mem_cons.mp h with e | e
       · exact List.mem_cons.mpr (.inl e)
       · exact List.mem_cons_of_mem _ (i2 g e)
theorem a69 (f:Str) (v:V):∀ fs:List (Str×V),(putF f v fs).length≤fs.length+1
 | []=>by simp [putF]
 | (k,x)::r=>by
   have ih:=a69 f v r
   rw [show putF f v ((k,x)::r)=(if k=f then (k,v)::r else (k,x)::putF f v r) from rfl]
   by_cases hk:k=f
   · rw [if_pos hk,List.length_cons,List.length_cons]; omega
   · rw [if_neg hk,List.length_cons,List.length_cons]; omega
theorem RelO.some_of {v:V}{o:Option Value}(r:RelO (some v) o):∃ u,o=some u∧RelV v u:=by
 cases o with
 | none=>exact (show False from r).elim
 | some u=>exact ⟨u,rfl,r⟩
theorem RelO.none_of {o:Option Value}(r:RelO none o):o=none:=by
 cases o with
 | none=>rfl
 | some u=>exact (show False from r).elim
theorem b99 {v:V}{u:Value}(r:RelV v u):W.handedIn u=true:=by
 cases v with
 | non=>cases (show u=Value.none from r); rfl
 | bl b=>cases (show u=Value.bool b from r); rfl
 | int i=>obtain ⟨t,e⟩:=(show ∃ t,u=Value.int i t from r); cases e; rfl
 | str x=>obtain ⟨t,e⟩:=(show ∃ t,u=Value.str x t from r); cases e; rfl
 | byt b=>obtain ⟨t,e⟩:=(show ∃ t,u=Value.bytes b t from r); cases e; rfl
 | flt b=>obtain ⟨t,e⟩:=(show ∃ t,u=Value.float b t from r); cases e; rfl
 | ref a=>cases (show u=Value.ref a from r); rfl
 | ty n=>cases (show u=Value.type n from r); rfl
section
variable {P:Program}{w:World}{H H':Hp}{h h':Heap}{a C dx:Addr}{fs fs':List (Str×V)}
theorem ao5 (hok:HOk P w H h) (e:H a=some (.ins C dx fs)):∃ mA,ObjM h a dx C mA∧(∀ f,RelO (fs.lookup f) (mA f))∧PySem.Within mA (fs.map (·.1))∧fs.length≤1000∧H dx=some (.own a):=by
 obtain ⟨d,z,ne,ob,mA,n,r,q⟩:=(show ObjOk P w H h a (.ins C dx fs) from hok a _ e)
 exact ⟨mA,⟨ob,n,ne⟩,r,q,z,d⟩
end
structure Cls (K:W.Frag) (C:Addr):Prop where
 pg:W.plainGet K C Str.empty=true
 hd:W.hasDictIn K C=true
 po:W.plainOver K C=true
 sa:W.findIn K (.ref C) "__setattr__"=some (some (.builtin "object.__setattr__"))
theorem Cls.get {K:W.Frag}{C:Addr}(c:Cls K C) (f:Str):W.plainGet K C f=true:=c.pg
def NoAttr (K:W.Frag) (C:Addr) (f:Str):Prop:=W.findIn K (.ref C) f=some none
theorem NoAttr.taker {K:W.Frag}{C:Addr}{f:Str}(n:NoAttr K C f):W.takerIn K C f=some none:=by
 unfold W.takerIn
 rw [show W.findIn K (.ref C) f=some none from n]
 rfl
structure Meth (K:W.Frag) (C:Addr) (m:Str) (f:Addr):Prop where
 at_:W.findIn K (.ref C) m=some (some (.ref f))
 fn:W.isFn K (.ref f)=true
 kp:W.keepIn K (.ref f)=true
section
variable {X:Cx}{pins:List (Addr×Obj)}{σ:St} {H:Hp}{s:Shared}{a C dx:Addr}{fs:List (Str×V)}{f:Str}{v:V}{A:Around}{E:Value→Shared→Prop}
theorem b59 {b:Bool}{Q:Value→Shared→Prop}(I:Inv X pins σ H s) (e:H a=some (.ins C dx fs)) (c:Cls X.K C) (n:NoAttr X.K C f) (l:fs.lookup f=some v)
 (h:∀ u s',Inv X pins σ H s'→RelV v u→Q u s'):wpAny (model X.prog X.w) A (getAttr (.ref a) f b) Q E s:=by
 obtain ⟨mA,O,r,_,_,_⟩:=ao5 I.hok e
 obtain ⟨u,hu,ru⟩:=RelO.some_of (v:=v) (o:=mA f) (by rw [← l]; exact r f)
 exact bq3 I.kIn O (c.get f) c.hd n hu (b99 ru) (h u _ (I.tok _) ru)
theorem b60 {m:Str}{g:Addr}{pl:Sem Bool}{Q:Value×List Value→Shared→Prop}(I:Inv X pins σ H s) (e:H a=some (.ins C dx fs)) (c:Cls X.K C) (k:Meth X.K C m g) (l:fs.lookup m=none)
 (h:Q (.ref g,[.ref a]) s):wpAny (model X.prog X.w) A (getMethod (.ref a) m pl) Q E s:=by
 obtain ⟨mA,O,r,_,_,_⟩:=ao5 I.hok e
 have hn:mA m=none:=RelO.none_of (by rw [← l]; exact r m)
 exact bi8 I.kIn O (c.get m) k.at_ k.fn hn h
theorem b61 {y:V}{u:Value}{Q:Unit→Shared→Prop}(I:Inv X pins σ H s) (e:H a=some (.ins C dx fs)) (c:Cls X.K C) (n:NoAttr X.K C f) (hl:fs.length<1000) (ry:RelV y u)
 (h:∀ s',Inv X pins σ (upd H a (.ins C dx (putF f y fs))) s'→Q () s'):wpAny (model X.prog X.w) A (setAttr (.ref a) f u) Q E s:=by
 obtain ⟨mA,O,r,wi,_,ho⟩:=ao5 I.hok e
 have hz:(fs.map (·.1)).length≤sizeLine:=by rw [gL,sizeLine_eq]; omega
 refine bq4 I.kIn O c.sa c.po n.taker c.hd wi hz fun h' O' sb=>h _ ?_
 have hd:∃ o,h'.get? dx=some o:=let ⟨o,_,_,e',_⟩:=O'.ns; ⟨o,e'⟩
 refine I.write (x:=a) (e:=dx) (by rw [e]; exact True.intro) (.inr ho) (fun b q hb z=>(sb.2 b hb).trans z) hd ?_
 refine ⟨by rw [a04 O.ne]; exact ho,?_,O.ne,O'.obj,_,O'.ns,fun g=>?_,fun g hg=>?_⟩
 · have:=a69 f y fs; omega
 · show RelO ((putF f y fs).lookup g) (if g=f then some u else mA g)
   rw [a29]
   by_cases q:g=f
   · rw [if_pos q,if_pos q]; exact ry
   · rw [if_neg q,if_neg q]; exact r g
 · by_cases q:g=f
   · rw [q]; exact (aj0 f y fs).1
   · refine (aj0 f y fs).2 g (wi g fun z=>hg ?_)
     show (if g=f then some u else mA g)=none
     rw [if_neg q]; exact z
theorem Inv.made (I:Inv X pins σ H s):Inv X pins σ (upd (upd H s.heap.objs.size (.own (s.heap.objs.size+1))) (s.heap.objs.size+1) (.ins C s.heap.objs.size []))
 { s with heap:=(s.heap.push W.emptyDict).push (W.instObj C s.heap.objs.size) }:=by
 have e1:(s.heap.push W.emptyDict).get? s.heap.objs.size=some W.emptyDict:=Heap.get?_push_size s.heap rfl
 have e2:((s.heap.push W.emptyDict).push (W.instObj C s.heap.objs.size)).get? (s.heap.objs.size+1)=some (W.instObj C s.heap.objs.size):=by
  have:=Heap.get?_push_size (s.heap.push W.emptyDict) (o:=W.instObj C s.heap.objs.size) rfl
  rwa [Heap.size_push] at this
 have e3:(s.heap.push W.emptyDict).Ns s.heap.objs.size (fun _=>none):=⟨W.emptyDict,#[],_,e1,rfl,(fun e he=>absurd he (by simp)),fun _=>rfl⟩
 have I1:=I.laid (a:=s.heap.objs.size) (o:=.own (s.heap.objs.size+1)) (h':=s.heap.push W.emptyDict) (t':=s.toks) (fun b u q=>gP _ q) (Nat.le_refl _) ⟨_,e1⟩
 refine I1.laid (a:=s.heap.objs.size+1) (o:=.ins C s.heap.objs.size []) (t':=s.toks) (fun b u q=>gP _ q) (Nat.le_of_eq (Heap.size_push _ _)) ?_
 have ne:s.heap.objs.size≠s.heap.objs.size+1:=Nat.ne_of_lt (Nat.lt_succ_self _)
 refine ⟨by rw [a04 ne,a28],Nat.zero_le _,ne,e2,fun _=>none,(Heap.Ns1.of_empty e3).at fun o q=>gP _ q,fun _=>True.intro,fun y hy=>absurd rfl hy⟩
theorem bq5 {prog:Program}{w:World}{env:Env}{e:Expr}{f:Str}{pos:Pos}{s:Shared}{Q:Value→Shared→Prop}(hb:attributeBase e f env (eval e env)=eval e env)
 (h:wpAny (model prog w) A (eval e env) (fun o s₁=>wpAny (model prog w) A (getAttr o f true) Q E s₁) E s):wpAny (model prog w) A (eval (.Attribute e f pos) env) Q E s :=
 Attribute_any_ h (by rw [arm_eval_Attribute,hb])
end
def tFld (K:W.Frag) (ta:TE) (f:Str):TE:=fun σ H Q=>ta σ H fun x H1=>∃ a C dx fs v,x=.ref a∧H1 a=some (.ins C dx fs)∧Cls K C∧NoAttr K C f∧fs.lookup f=some v∧Q v H1
def sFld (K:W.Frag) (ta tv:TE) (f:Str):TS:=fun D σ H=>tv σ H fun y H1=>ta σ H1 fun x H2=>∃ a C dx fs,x=.ref a∧H2 a=some (.ins C dx fs)∧Cls K C∧NoAttr K C f∧fs.length<1000 ∧
 D.nx σ (upd H2 a (.ins C dx (putF f y fs)))
section
variable {X:Cx}{o e value:Expr}{f:Str}{pos pos' tpos:Pos}{ta tv:TE}
theorem bz1 (he:PE X e ta) (hb:attributeBase e f X.env (eval e X.env)=eval e X.env):PE X (.Attribute e f pos) (tFld X.K ta f):=by
 intro pins s σ H Q I h
 refine bq5 hb (thn (he pins s σ H _ I h) fun u s1 ⟨x,H1,I1,rx,a,C,dx,fs,v,ex,ea,c,n,l,q⟩=>?_)
 subst ex
 obtain rfl:u=Value.ref a:=rx
 exact b59 I1 ea c n l fun u' s2 I2 ru=>⟨v,H1,I2,ru,q⟩
theorem bz2 (ha:PE X o ta) (hv:PE X value tv) (hs:swapsWith value (some (.Attribute o f pos')) pos.line X.env=pure false):PS X (.Assign [.Attribute o f pos'] value pos) (sFld X.K ta tv f):=by
 intro pins s σ H D I h
 refine plainObj_wpAny_Assign_Attribute (thn (hv pins s σ H _ I h) fun u s1 ⟨y,H1,I1,ry,q⟩=>thn (ha pins s1 σ H1 _ I1 q) fun ov s2 ⟨x,H2,I2,rx,a,C,dx,fs,ex,ea,c,n,l,q2⟩=>?_) hs
 subst ex
 obtain rfl:ov=Value.ref a:=rx
 exact b61 I2 ea c n l ry fun s3 I3=>⟨σ,_,I3,q2⟩
end
section
variable {X:Cx}{pins:List (Addr×Obj)}{σ:St} {H:Hp}{s:Shared}{A:Around}{E:Value→Shared→Prop}{Q:Value→Shared→Prop}{c:Value}{b:Bool}
inductive TyOf (K:W.Frag) (H:Hp):V→Value→Prop where
 | non:TyOf K H .non (.type "NoneType")
 | bl (x:Bool):TyOf K H (.bl x) (.type "bool")
 | int (i:Int):TyOf K H (.int i) (.type "int")
 | str (x:Str):TyOf K H (.str x) (.type "str")
 | flt (x:UInt64):TyOf K H (.flt x) (.type "float")
 | lst {a:Addr}{xs:List V}(e:H a=some (.lst xs)):TyOf K H (.ref a) (.type "list")
 | frz {a:Addr}{o:Obj}{xs:List V}(e:H a=some (.frz o (.lst xs))):TyOf K H (.ref a) (.type "list")
 | tup {a:Addr}{xs:List V}(e:H a=some (.tup xs)):TyOf K H (.ref a) (.type "tuple")
 | dK {a:Addr}{kvs:List (Key×V)}(e:H a=some (.dK kvs)):TyOf K H (.ref a) (.type "dict")
 | dT {a:Addr}{kvs:List (List Key×V)}(e:H a=some (.dT kvs)):TyOf K H (.ref a) (.type "dict")
 | ins {a C dx:Addr}{fs:List (Str×V)}(e:H a=some (.ins C dx fs)) (cl:Cls K C) (ha:W.findIn K (.ref C) "__class__"=some (some (.builtin "object.__class__")))
  (hn:W.specialIn K (.builtin "object.__class__") "__get__"=some (some (.builtin "getset_descriptor.__get__"))) (htk:W.takesIn K (.builtin "object.__class__")=some true)
  (hm:W.mroIn K C (.type "object")=some true):TyOf K H (.ref a) (.ref C)
theorem ba0 {x:V}{u t:Value}(I:Inv X pins σ H s) (rx:RelV x u) (ty:TyOf X.K H x t) (e:W.kitOne X.K t c=some b) (h:∀ tk,Q (.bool b) { s with toks:=tk }) :
 wpAny (model X.prog X.w) A (call (.builtin "isinstance") [u,c]) Q E s:=by
 cases ty with
 | non=>cases (show u=Value.none from rx); exact W.kia_one W.kitx_none I.kIn True.intro e (fun z=>nomatch z) h
 | bl y=>cases (show u=Value.bool y from rx); exact W.kia_one W.kitx_bool I.kIn True.intro e (fun z=>nomatch z) h
 | int i=>obtain ⟨t,q⟩:=(show ∃ t,u=Value.int i t from rx); cases q; exact W.kia_one W.kitx_int I.kIn True.intro e (fun z=>nomatch z) h
 | str y=>obtain ⟨t,q⟩:=(show ∃ t,u=Value.str y t from rx); cases q; exact W.kia_one W.kitx_str I.kIn True.intro e (fun z=>nomatch z) h
 | flt y=>obtain ⟨t,q⟩:=(show ∃ t,u=Value.float y t from rx); cases q; exact W.kia_one W.kitx_float I.kIn True.intro e (fun z=>nomatch z) h
 | @lst a xs ea =>
   cases (show u=Value.ref a from rx)
   obtain ⟨_,_,n,_,h1⟩:=(show ObjOk X.prog X.w H s.heap a (.lst xs) from I.hok a _ ea)
   exact W.kia_one W.kitx_list I.kIn ⟨_,h1,rfl⟩ e (fun z=>nomatch z) h
 | @frz a ob xs ea =>
   cases (show u=Value.ref a from rx)
   obtain ⟨_,_,_,n,_,h1⟩:=(show ObjOk X.prog X.w H s.heap a (.frz ob (.lst xs)) from I.hok a _ ea)
   exact W.kia_one W.kitx_list I.kIn ⟨_,h1,rfl⟩ e (fun z=>nomatch z) h
 | @tup a xs ea =>
   cases (show u=Value.ref a from rx)
   obtain ⟨_,_,_,p⟩:=(show ObjOk X.prog X.w H s.heap a (.tup xs) from I.hok a _ ea)
   obtain ⟨o,h1,h2,_⟩:=p
   exact W.kia_one W.kitx_tuple I.kIn ⟨o,h1,h2⟩ e (fun z=>nomatch z) h
 | @dK a kvs ea =>
   cases (show u=Value.ref a from rx)
   obtain ⟨_,_,vs,_,p⟩:=(show ObjOk X.prog X.w H s.heap a (.dK kvs) from I.hok a _ ea)
   obtain ⟨o,es,ep,h1,h2,_⟩:=p
   exact W.kia_one W.kitx_dict I.kIn ⟨o,h1,h2.1⟩ e (fun z=>nomatch z) h
 | @dT a kvs ea =>
   cases (show u=Value.ref a from rx)
   obtain ⟨_,_,xs,_,o,es,ep,h1,h2,_⟩:=(show ObjOk X.prog X.w H s.heap a (.dT kvs) from I.hok a _ ea)
   exact W.kia_one W.kitx_dict I.kIn ⟨o,h1,h2.1⟩ e (fun z=>nomatch z) h
 | @ins a C dx fs ea cl ha hn htk hm =>
   cases (show u=Value.ref a from rx)
   obtain ⟨mA,O,_⟩:=ao5 I.hok ea
   obtain ⟨od,J,_⟩:=O.look
   exact W.kia_one (W.kitx_own (cl.get _) cl.hd ha hn htk hm) I.kIn J e (fun z=>nomatch z) h
end
structure Room (k:Nat) (A:Around):Prop where
 hd:A.handled=none
 dp:A.depth+3*k+5<recursionLimit
 un:A.units+16*k+200<cLine
theorem Room.mono {j k:Nat}{A:Around}(r:Room k A) (h:j≤k):Room j A:=⟨r.hd,by have:=r.dp; omega,by have:=r.un; omega⟩
theorem Room.deeper {k:Nat}{A:Around}(r:Room (k+1) A) (env:Env):Room k (A.deeper env) :=
 ⟨r.hd,by have:=r.dp; show A.depth+1+3*k+5<_; omega,by have:=r.un; show A.units+3+16*k+200<_; omega⟩
theorem b62 {A:Around}{C:Addr}{us:List Value}{kw:List (Str×Value)}:(A.under (.builtin "type.__call__" ⟨.ref C::us,kw⟩)).depth=A.depth+1:=by
 first | rfl | simp [Around.under,Code.weight,Code.isCreation,Code.isGuard,Code.isCaller,Code.frames,Code.isFrame,guardIds]
theorem b63 {A:Around}{C:Addr}{us:List Value}{kw:List (Str×Value)}:(A.under (.builtin "type.__call__" ⟨.ref C::us,kw⟩)).units=A.units+1:=by
 first | rfl | simp [Around.under,Code.cUnits,Code.frames,Code.isFrame]
theorem Room.make {k:Nat}{A:Around}(r:Room (k+1) A) (C:Addr) (us:List Value) (kw:List (Str×Value)):Room k (A.under (.builtin "type.__call__" ⟨.ref C::us,kw⟩)) :=
 ⟨r.hd,by have:=r.dp; rw [b62]; omega,by have:=r.un; rw [b63]; omega⟩
theorem Room.depth {k:Nat}{A:Around}(r:Room k A):A.depth<recursionLimit:=by have:=r.dp; omega
theorem Room.units {k:Nat}{A:Around}(r:Room k A):A.units+64<cLine:=by have:=r.un; omega
theorem Room.units0 {k:Nat}{A:Around}(r:Room k A):A.units<cLine:=by have:=r.un; omega
def tNil:TA:=fun _ H Q=>Q [] H
def tCons (ta:TE) (tr:TA):TA:=fun σ H Q=>ta σ H fun x H1=>tr σ H1 fun xs H2=>Q (x::xs) H2
section
variable {X:Cx}{e:Expr}{es:List Expr}{te:TE}{t:TA}{pos:Pos}
theorem a01:PA X [] tNil:=fun _ _ _ _ H Q I h=>Calls.spliced_nil ⟨[],H,I,.nil,h⟩
theorem a00 (ha:PE X e te) (hr:PA X es t) (hs:starEach (e::es) X.env=(false,eval e X.env)::starEach es X.env:=by rfl):PA X (e::es) (tCons te t):=by
 intro pos pins s σ H Q I h
 rw [hs]
 show wpAny _ _ (spliced ((false,eval e X.env)::backTo pos (starEach es X.env))) _ _ s
 refine Calls.spliced_cons (thn (ha pins s σ H _ I h) fun u s1 ⟨x,H1,I1,r1,q1⟩=>?_)
 exact thn (hr pos pins s1 σ H1 _ I1 q1) fun us s2 ⟨xs,H2,I2,r2,q2⟩=>⟨x::xs,H2,I2,.cons r1 r2,q2⟩
end
abbrev Sp:=List V→Hp→VK→XK→Prop
abbrev CXT:=List Env→Hp→Shared→XK→Value→Shared→Prop
structure Env0 (P:Program) (w:World) (K:W.Frag) (mg:Str→Option Value) (base:Heap) (A:Around) (outer:List Env) (s:Shared) (H:Hp):Prop where
 frames:A.frames=some outer
 mod:Mod K mg base
 bs:∀ b o,base.get? b=some o→s.heap.get? b=some o∧H b=none
 bsz:base.objs.size≤s.heap.objs.size
 funs:s.heap.FunFrames base outer
 frf:∀ b∈frs outer,H b=none
 hok:HOk P w H s.heap
 bare:AllBare s.gens
def CE (outer:List Env) (P:Program) (w:World) (H:Hp) (s:Shared) (Q:VK) (u:Value) (s':Shared):Prop :=
 ∃ v H',s'.os=s.os∧AllBare s'.gens∧Un (frs outer) [] H H' s.heap s'.heap∧HOk P w H' s'.heap∧RelV v u∧Q v H'
def CR (CX:CXT) (outer:List Env) (P:Program) (w:World) (H:Hp) (s:Shared) (Q:VK) (E:XK) (r:Result) (s':Shared):Prop :=
 match r with
 | .ok (.ret u)=>CE outer P w H s Q u s'
 | .ok _=>False
 | .error e=>CX outer H s E e s'
structure FnOk (P:Program) (w:World) (K:W.Frag) (mg:Str→Option Value) (base:Heap) (CX:CXT) (k:Nat) (f:Addr) (fd:FuncData) (ps:List Str) (sp:Sp):Prop where
 len:∀ vs H Q E,sp vs H Q E→vs.length=ps.length
 run:∀ (A:Around) (outer:List Env) (s:Shared) (H:Hp) (args:Args) (us:List Value) (vs:List V) (Q:VK) (E:XK),Room k A→Env0 P w K mg base A outer s H→BindsTo s fd args (ps.zip us)→Vals vs us→sp vs H Q E →
  codeAny (model P w) A (.call (.ref f) args) (CR CX outer P w H s Q E) s
theorem Env0.make {P:Program}{w:World}{K:W.Frag}{mg:Str→Option Value}{base:Heap}{A:Around}{outer:List Env}{s:Shared}{H:Hp}(e:Env0 P w K mg base A outer s H) (C:Addr) (us:List Value) (kw:List (Str×Value)) :
 Env0 P w K mg base (A.under (.builtin "type.__call__" ⟨.ref C::us,kw⟩)) outer s H:=⟨by first | exact e.frames | (simpa [Around.under,Code.envs,Code.isFrame,pushEnvs] using e.frames),e.mod,e.bs,e.bsz,e.funs,e.frf,e.hok,e.bare⟩
section
variable {X:Cx}{pins:List (Addr×Obj)}{σ:St} {H:Hp}{s s':Shared}
theorem Inv.env0 (I:Inv X pins σ H s):Env0 X.prog X.w X.K X.mg X.base X.A X.stack s H :=
 ⟨I.ok.frames,I.ok.mod,I.bs,Nat.le_trans I.ok.bsz I.sz,I.stack,I.stkFree,I.hok,I.bare⟩
theorem Inv.after {Q:VK}{u:Value}(I:Inv X pins σ H s) (h:CE X.stack X.prog X.w H s Q u s'):EP X pins σ Q u s':=by
 obtain ⟨v,H',os,bare,un,hok,r,q⟩:=h
 obtain ⟨hh,g,d,t,os'⟩:=s'
 obtain rfl:os'=s.os:=os
 exact ⟨v,H',I.call (h':=hh) (g':=g) (d':=d) (t':=t) (ch:=[]) un hok bare (fun b z=>absurd z (by simp)),r,q⟩
end
def tCall (sp:Sp) (dvs:List V) (E:XK) (t:TA):TE:=fun σ H Q=>t σ H fun vs H1=>sp (vs++dvs) H1 Q E
def tMeth (C:Addr) (m:Str) (sp:Sp) (dvs:List V) (E:XK) (ta:TE) (t:TA):TE:=fun σ H Q=>ta σ H fun x H1=>∃ a dx fs,x=.ref a∧H1 a=some (.ins C dx fs)∧fs.lookup m=none ∧
 t σ H1 fun vs H2=>sp (x::(vs++dvs)) H2 Q E
def tMake (C:Addr) (sp:Sp) (dvs:List V) (E:XK) (t:TA):TE:=fun σ H Q=>t σ H fun vs H1=>∀ x dx,H1 x=none→H1 dx=none→dx≠x →
 sp (.ref x::(vs++dvs)) (upd (upd H1 dx (.own x)) x (.ins C dx [])) (fun v H2=>v=.non∧Q (.ref x) H2) E
def Binds (K:W.Frag) (fd:FuncData) (ps:List Str) (ds:List Value):Prop :=
 ∀ (s:Shared) (us:List Value),K.In s.heap→(us++ds).length=ps.length→BindsTo s fd ⟨us,[]⟩ (ps.zip (us++ds))
theorem Binds.all {K:W.Frag}{fd:FuncData}{ps:List Str}(h:∀ us:List Value,us.length=ps.length→bindArgs fd ⟨us,[]⟩=pure (ps.zip us)):Binds K fd ps []:=fun s us _ hl=>by
 rw [List.append_nil] at hl ⊢
 exact .of_eq (h us hl)
def Passes (CX:CXT) (X:Cx) (E:XK):Prop:=∀ (pins:List (Addr×Obj)) (σ:St) (H:Hp) (s:Shared) (e:Value) (s':Shared),Inv X pins σ H s→CX X.stack H s E e s'→X.xe e s'
section
variable {X:Cx}{CX:CXT}{k:Nat}{f C:Addr}{fd:FuncData}{ps:List Str}{sp:Sp}{dvs:List V}{ds:List Value}{E:XK}{x m:Str}{p pos apos:Pos}{e o:Expr}{es:List Expr}{ta:TE}{t:TA}
theorem bo4 {pins:List (Addr×Obj)}{σ:St} {H:Hp}{s:Shared}{Q:VK}{us:List Value}{vs:List V}(F:FnOk X.prog X.w X.K X.mg X.base CX k f fd ps sp) (hr:Room k X.A) (hb:Binds X.K fd ps ds) (hd:Vals dvs ds) (hx:Passes CX X E)
 (I:Inv X pins σ H s) (r:Vals vs us) (h:sp (vs++dvs) H Q E):wpAny (model X.prog X.w) X.A (call (.ref f) us) (EP X pins σ Q) X.xe s:=by
 have r2:Vals (vs++dvs) (us++ds):=r.append hd
 have hl:(us++ds).length=ps.length:=by rw [← r2.length]; exact F.len _ _ _ _ h
 refine wpAny_call (codeAny_mono (F.run X.A X.stack s H ⟨us,[]⟩ (us++ds) (vs++dvs) Q E hr I.env0 (hb s us I.kIn hl) r2 h) fun r s' hq=>?_)
 cases r with
 | error e=>exact hx pins σ H s e s' I hq
 | ok fl =>
   cases fl with
   | ret u=>exact I.after hq
   | next=>exact False.elim hq
   | brk=>exact False.elim hq
   | cont=>exact False.elim hq
theorem a41 (F:FnOk X.prog X.w X.K X.mg X.base CX k f fd ps sp) (hr:Room k X.A) (hg:Gl X x) (hm:X.mg x=some (.ref f)) (hk:W.keepIn X.K (.ref f)=true) (hb:Binds X.K fd ps ds) (hd:Vals dvs ds) (hx:Passes CX X E)
 (ha:PA X (e::es) t) (hdb:(x == ("__debug__":Str))=false:=by decide) (he:starEach (e::es) X.env=(false,eval e X.env)::starEach es X.env:=by rfl) (hpl:(backTo pos (starEach es X.env)).any (·.1)=false:=by rfl) :
 PE X (.Call (.Name x p) (e::es) [] pos) (tCall sp dvs E t):=by
 intro pins s σ H Q I h
 refine wpAny_Call_Name_kw (b89 I hg hm ?_ hdb)
 refine W.callWith_K (h₀:=X.base) I.ok.mod.kin hk (thn (ha pos pins s σ H _ I h) fun us s1 ⟨vs,H1,I1,r,q⟩=>⟨I1.kIn,?_⟩) he hpl
 exact bo4 F hr hb hd hx I1 r q
theorem ag9 {pl:Sem Bool}(he:PE X o ta) (c:Cls X.K C) (hm:Meth X.K C m f) (F:FnOk X.prog X.w X.K X.mg X.base CX k f fd ps sp) (hr:Room k X.A) (hb:Binds X.K fd ps ds) (hd:Vals dvs ds) (hx:Passes CX X E) (ha:PA X (e::es) t)
 (hst:starEach (e::es) X.env=(false,eval e X.env)::starEach es X.env:=by rfl) (hpl:(backTo pos (starEach es X.env)).any (·.1)=false:=by rfl)
 (ht:eval (.Call (.Attribute o m apos) (e::es) [] pos) X.env=(do
  let ov←eval o X.env
  standAt apos.atName
  let (f,first)←holding [ov] (getMethod ov m pl)
  callWith pos f first (backTo pos (starEach (e::es) X.env)) (backToKw pos (keywordEach [] X.env))):=by rfl) :
 PE X (.Call (.Attribute o m apos) (e::es) [] pos) (tMeth C m sp dvs E ta t):=by
 intro pins s σ H Q I h
 refine W.methodCall_KW (pl:=pl) (thn (he pins s σ H _ I h) fun u s1 ⟨x,H1,I1,rx,a,dx,fs,ex,ea,l,q⟩=>?_) ht
 subst ex
 obtain rfl:u=Value.ref a:=rx
 refine b60 I1 ea c hm l ?_
 refine W.callWith_K (first:=[.ref a]) (h₀:=X.base) I.ok.mod.kin hm.kp (thn (ha pos pins s1 σ H1 _ I1 q) fun us s2 ⟨vs,H2,I2,r,q2⟩=>⟨I2.kIn,?_⟩) hst hpl
 exact bo4 (us:=.ref a::us) (vs:=.ref a::vs) F hr hb hd hx I2 (.cons rfl r) q2
structure Mk (K:W.Frag) (C f:Addr):Prop where
 makes:W.makesIn K C=true
 init:W.findIn K (.ref C) "__init__"=some (some (.ref f))
 fn:W.isFn K (.ref f)=true
 kp:W.keepIn K (.ref C)=true
theorem bj0 {pins:List (Addr×Obj)}{σ:St} {H:Hp}{s:Shared}{Q:VK}{us:List Value}{vs:List V}(M:Mk X.K C f) (F:FnOk X.prog X.w X.K X.mg X.base CX k f fd ps sp) (hr:Room (k+1) X.A) (hb:Binds X.K fd ps ds) (hd:Vals dvs ds)
 (hx:Passes CX X E) (I:Inv X pins σ H s) (r:Vals vs us)
 (h:∀ x dx,H x=none→H dx=none→dx≠x→sp (.ref x::(vs++dvs)) (upd (upd H dx (.own x)) x (.ins C dx [])) (fun v H2=>v=.non∧Q (.ref x) H2) E) :
 wpAny (model X.prog X.w) X.A (call (.ref C) us) (EP X pins σ Q) X.xe s:=by
 have hq:=h (s.heap.objs.size+1) s.heap.objs.size (I.hok.fresh (Nat.le_succ _)) (I.hok.fresh (Nat.le_refl _)) (Nat.ne_of_lt (Nat.lt_succ_self _))
 have I2:=Inv.made (C:=C) I
 have r2:Vals (V.ref (s.heap.objs.size+1)::(vs++dvs)) (Value.ref (s.heap.objs.size+1)::(us++ds)):=.cons rfl (r.append hd)
 have hl:(Value.ref (s.heap.objs.size+1)::us++ds).length=ps.length:=by
  have e:=r2.length
  rw [F.len _ _ _ _ hq] at e
  exact e.symm
 refine wpAny_call (bi9 (f:=f) I.kIn M.makes M.init (beq_iff_eq.mp M.fn) (codeAny_mono (F.run _ X.stack _ _ ⟨Value.ref (s.heap.objs.size+1)::us,[]⟩ (Value.ref (s.heap.objs.size+1)::(us++ds)) _ _ E (hr.make C us [])
  (I2.env0.make C us []) (hb _ (Value.ref (s.heap.objs.size+1)::us) I2.kIn hl) r2 hq) fun r s' hq'=>?_))
 cases r with
 | error e=>exact hx pins σ _ _ e s' I2 hq'
 | ok fl =>
   cases fl with
   | ret u =>
     obtain ⟨v,H',I3,rv,ev,q3⟩:=I2.after hq'
     subst ev
     exact ⟨rv,⟨V.ref (s.heap.objs.size+1),H',I3,rfl,q3⟩⟩
   | next=>exact False.elim hq'
   | brk=>exact False.elim hq'
   | cont=>exact False.elim hq'
theorem bq6 (M:Mk X.K C f) (F:FnOk X.prog X.w X.K X.mg X.base CX k f fd ps sp) (hr:Room (k+1) X.A) (hg:Gl X x) (hm:X.mg x=some (.ref C)) (hb:Binds X.K fd ps ds) (hd:Vals dvs ds) (hx:Passes CX X E)
 (ha:PA X (e::es) t) (hdb:(x == ("__debug__":Str))=false:=by decide) (he:starEach (e::es) X.env=(false,eval e X.env)::starEach es X.env:=by rfl) (hpl:(backTo pos (starEach es X.env)).any (·.1)=false:=by rfl) :
 PE X (.Call (.Name x p) (e::es) [] pos) (tMake C sp dvs E t):=by
 intro pins s σ H Q I h
 refine wpAny_Call_Name_kw (b89 I hg hm ?_ hdb)
 refine W.callWith_K (h₀:=X.base) I.ok.mod.kin M.kp (thn (ha pos pins s σ H _ I h) fun us s1 ⟨vs,H1,I1,r,q⟩=>⟨I1.kIn,?_⟩) he hpl
 exact bj0 M F hr hb hd hx I1 r q
end
def PK (X:Cx) (kws:List Keyword) (t:TA):Prop :=
 ∀ (pos:Pos) (pins:List (Addr×Obj)) (s:Shared) (σ:St) (H:Hp) (Q:List V→Hp→Prop),Inv X pins σ H s→t σ H Q→wpAny (model X.prog X.w) X.A (evalAll ((backToKw pos (keywordEach kws X.env)).map (·.2))) (AP X pins σ Q) X.xe s
section
variable {X:Cx}{CX:CXT}{k:Nat}{f C:Addr}{fd:FuncData}{ps ks:List Str}{sp:Sp}{E:XK}{x m:Str}{p pos apos kpos:Pos}{e o:Expr}{es:List Expr}{kws:List Keyword}{te ta:TE}{t tk:TA}{nm:Option Str}
theorem bz3:PK X [] tNil:=fun _ _ _ _ H Q I h=>wpAny_evalAll_nil ⟨[],H,I,.nil,h⟩
theorem bq7 (ha:PE X e te) (hr:PK X kws t):PK X (⟨nm,e,kpos⟩::kws) (tCons te t):=by
 intro pos pins s σ H Q I h
 show wpAny _ _ (evalAll ((do let v←eval e X.env; standAt pos; pure v)::(backToKw pos (keywordEach kws X.env)).map (·.2))) _ _ s
 refine wpAny_evalAll_cons (wB (thn (ha pins s σ H _ I h) fun u s1 ⟨x,H1,I1,r1,q1⟩=>wB (wpAny_standAt (wpAny_pure ?_))))
 exact thn (hr pos pins s1 σ H1 _ I1 q1) fun us s2 ⟨xs,H2,I2,r2,q2⟩=>⟨x::xs,H2,I2,.cons r1 r2,q2⟩
variable {g:List Value→List Value→List Value}{gV:List V→List V→List V}
end
structure FnScope (N P:List Str) (sc:Scope):Prop where
 kind:sc.kind=.function
 co:sc.isCoroutine=false
 gen:sc.isGenerator=false
 nd:N.Nodup
 pre:N.take P.length=P
 par:∀ x∈P,sc.names.lookup x=some .local∨sc.names.lookup x=some .cell
 nofree:∀ y∈sc.names,y.2≠.free
theorem ar9 {kindOf:Str→Option NameKind}{x:Str}:∀ {binds:List (Str×Value)}{m:Str→Option Value},(∀ v,(x,v)∉binds)→bindL kindOf binds m x=m x
 | [],_,_=>rfl
 | (n,v)::r,m,h=>by
   unfold bindL
   rw [ar9 fun w hw=>h w (List.mem_cons_of_mem _ hw)]
   split
   · have:x≠n:=by rintro rfl; exact h v List.mem_cons_self
     simp [this]
   · rfl
theorem as0 {kindOf:Str→Option NameKind}{x:Str}:∀ {binds:List (Str×Value)}{m:Str→Option Value},(∀ v,(x,v)∉binds)→bindC kindOf binds m x=m x
 | [],_,_=>rfl
 | (n,v)::r,m,h=>by
   unfold bindC
   rw [as0 fun w hw=>h w (List.mem_cons_of_mem _ hw)]
   split
   · rfl
   · have:x≠n:=by rintro rfl; exact h v List.mem_cons_self
     simp [this]
theorem as1 {kindOf:Str→Option NameKind}{x:Str}{v:Value}:∀ {P:List Str}{vs:List Value}{i:Nat}{m:Str→Option Value},P.Nodup→P[i]?=some x→vs[i]?=some v→kindOf x=some .local →
 bindL kindOf (P.zip vs) m x=some v
 | [],_,_,_,_,h,_,_=>by simp at h
 | _::_,[],_,_,_,_,h,_=>by simp at h
 | p::P,w::vs,0,m,nd,h1,h2,hk=>by
   simp at h1 h2; subst h1; subst h2
   show bindL kindOf ((p,w)::P.zip vs) m p=_
   unfold bindL
   rw [ar9 fun v hv=>(List.nodup_cons.mp nd).1 (List.of_mem_zip hv).1,if_pos hk]
   simp
 | p::P,w::vs,i+1,m,nd,h1,h2,hk=>by
   show bindL kindOf ((p,w)::P.zip vs) m x=_
   unfold bindL
   exact as1 (i:=i) (List.nodup_cons.mp nd).2 (by simpa using h1) (by simpa using h2) hk
theorem as2 {kindOf:Str→Option NameKind}{x:Str}{v:Value}:∀ {P:List Str}{vs:List Value}{i:Nat}{m:Str→Option Value},P.Nodup→P[i]?=some x→vs[i]?=some v→kindOf x≠some .local →
 bindC kindOf (P.zip vs) m x=some v
 | [],_,_,_,_,h,_,_=>by simp at h
 | _::_,[],_,_,_,_,h,_=>by simp at h
 | p::P,w::vs,0,m,nd,h1,h2,hk=>by
   simp at h1 h2; subst h1; subst h2
   show bindC kindOf ((p,w)::P.zip vs) m p=_
   unfold bindC
   rw [as0 fun v hv=>(List.nodup_cons.mp nd).1 (List.of_mem_zip hv).1,if_neg hk]
   simp
 | p::P,w::vs,i+1,m,nd,h1,h2,hk=>by
   show bindC kindOf ((p,w)::P.zip vs) m x=_
   unfold bindC
   exact as2 (i:=i) (List.nodup_cons.mp nd).2 (by simpa using h1) (by simpa using h2) hk
def start (N:List Str) (vs:List V):St:=vs.map some++List.replicate (N.length - vs.length) none
def cxOf (CX:CXT) (P:Program) (w:World) (K:W.Frag) (mg:Str→Option Value) (base:Heap) (N:List Str) (qual:Str) (scope:Scope) (f:Addr) (cd:Value) (A:Around) (outer:List Env) (s:Shared) (H:Hp) (E:XK):Cx where
 prog:=P
 w:=w
 K:=K
 mg:=mg
 base:=base
 A:=A.deeper (envOfC qual scope s.heap.objs.size f cd)
 N:=N
 s₀:=s
 H₀:=H
 env:=envOfC qual scope s.heap.objs.size f cd
 outer:=outer
 stack:=envOfC qual scope s.heap.objs.size f cd::outer
 ex:=[]
 calm:=true
 fn:=fun _=>true
 pn:=[]
 xe:=fun e s'=>wpAny (model P w) (A.deeper (envOfC qual scope s.heap.objs.size f cd)) (leaving (envOfC qual scope s.heap.objs.size f cd) e) (fun _ s''=>CX outer H s E e s'') (fun e' s''=>CX outer H s E e' s'') s'
theorem az8 {sc:Scope}{n:Nat}{x:Str}(h:sc.names.lookup x=some .cell):∃ c,(cellsFrom n sc.names []).lookup x=some c:=by
 have q:=W.cellsFrom_some sc.names n [] (.inl h)
 exact Option.isSome_iff_exists.mp q
theorem ba1 {CX:CXT}{P:Program}{w:World}{K:W.Frag}{mg:Str→Option Value}{base:Heap}{N ps:List Str}{qual:Str}{scope:Scope}{f:Addr}{cd:Value}{A:Around}{outer:List Env}{s s1:Shared}{H:Hp}{E:XK}{us:List Value}{vs:List V}
 (S:FnScope N ps scope) (hd:A.handled=none) (e0:Env0 P w K mg base A outer s H) (hl:vs.length=ps.length) (r:Vals vs us)
 (x:InCallC s s.heap.objs.size (bindL (envOfC qual scope s.heap.objs.size f cd).kindOf (ps.zip us) fun _=>none) (cellsFrom (s.heap.objs.size+1) scope.names []) (bindC (envOfC qual scope s.heap.objs.size f cd).kindOf (ps.zip us) fun _=>none) s1) :
 Inv (cxOf CX P w K mg base N qual scope f cd A outer s H E) [] (start N vs) H s1:=by
 have hpl:ps.length≤N.length:=by have:=congrArg List.length S.pre; rw [List.length_take] at this; omega
 obtain ⟨h1,tk,rfl,hk⟩:=x.done
 have noA:∀ b:Addr,b∉(cxOf CX P w K mg base N qual scope f cd A outer s H E).ex:=fun b z=>absurd (show b∈([]:List Addr) from z) (by simp)
 refine ⟨⟨e0.mod,S.kind,rfl,rfl,Nat.le_refl _,fun y z c h1 h2=>?_,fun y hy=>?_,fun y c _ h=>?_,fun _=>hd,Around.frames_deeper e0.frames,.inr ⟨rfl,rfl⟩,fun b z=>absurd z (noA b),e0.bs,e0.bsz,fun b _ _=>noA b,fun b z=>absurd z (noA b),e0.funs,e0.frf⟩,
  rfl,e0.bare,Un.kept hk,⟨_,x.toInCall.ns,fun i y v h1 h2 h3=>?_⟩,fun y c h=>⟨_,x.cell y c h⟩,e0.hok.fresh (Nat.le_refl _),fun y c h=>?_,fun p hp=>absurd (show p∈([]:List (Addr×Obj)) from hp) (by simp),e0.hok.kept hk,?_⟩
 · exact name_of_addr x.apart (PySem.mem_of_lookup h1) (PySem.mem_of_lookup h2)
 · have hy:scope.names.lookup y=some .cell∨scope.names.lookup y=some .free:=hy
   rcases hy with hy | hy
   · exact az8 hy
   · exact absurd rfl (S.nofree _ (PySem.mem_of_lookup hy))
 · exact Nat.le_of_lt (x.above y c (PySem.mem_of_lookup h))
 · have hi:i<vs.length:=by
    unfold start at h2
    by_cases hi:i<vs.length
    · exact hi
    · rw [List.getElem?_append_right (by simpa using hi)] at h2
      rw [List.getElem?_replicate] at h2
      split at h2 <;> cases h2
   have ha:vs[i]?=some v:=by
    unfold start at h2
    rw [List.getElem?_append_left (by simpa using hi),gM] at h2
    cases e:vs[i]? with
    | none=>rw [e] at h2; cases h2
    | some a=>rw [e] at h2; cases h2; rfl
   obtain ⟨u,hu,rv⟩:=r.get ha
   have hp:ps[i]?=some y:=by
    rw [← S.pre,List.getElem?_take_of_lt (by omega)]; exact h1
   have ndP:ps.Nodup:=by rw [← S.pre]; exact S.nd.sublist (List.take_sublist _ _)
   refine ⟨u,rv,?_⟩
   rcases S.par y (gI hp) with k | k
   · exact .inl ⟨k,as1 ndP hp hu k⟩
   · obtain ⟨c,e⟩:=az8 (n:=s.heap.objs.size+1) k
     refine .inr ⟨.inl k,c,e,?_⟩
     have q:=x.cell y c e
     rw [as2 ndP hp hu (by show scope.names.lookup y≠_; rw [k]; decide)] at q
     exact q
 · exact e0.hok.fresh (Nat.le_of_lt (x.above y c (PySem.mem_of_lookup h)))
 · unfold start
   show _=N.length
   rw [List.length_append,gL,List.length_replicate]
   omega
theorem c98 {CX:CXT}{P:Program}{w:World}{K:W.Frag}{mg:Str→Option Value}{base:Heap}{k:Nat}{f:Addr}{name qual:Str}{params:Arguments}{body:List Stmt}{scope:Scope}{dV kV doc pm cdv ct oc:Value}{an od:Option Addr}
 {osl:Array (Option Value)}{N ps:List Str}{sp:Sp}(lk:K.lookup f=some ⟨oc,od,.func (W.fnOf name qual params body scope dV kV doc pm an cdv ct),osl⟩) (hcd:W.codeIn K cdv qual=true) (S:FnScope N ps scope)
 (len:∀ vs H Q E,sp vs H Q E→vs.length=ps.length)
 (hbody:∀ (A:Around) (outer:List Env) (s:Shared) (H:Hp) (vs:List V) (Q:VK) (E:XK),Room k (A.deeper (envOfC qual scope s.heap.objs.size f cdv))→sp vs H Q E →
  ∃ t,PSs (cxOf CX P w K mg base N qual scope f cdv A outer s H E) body t∧t { nx:=fun _ H'=>Q .non H',rt:=Q } (start N vs) H) :
 FnOk P w K mg base CX (k+1) f (W.fnOf name qual params body scope dV kV doc pm an cdv ct) ps sp:=by
 refine ⟨len,fun A outer s H args us vs Q E hr e0 hb r hsp=>?_⟩
 have hl:=len _ _ _ _ hsp
 have KX:K.In s.heap:=e0.mod.kin.keeps fun b o e=>(e0.bs b o e).1
 have lim:s.heap.NoLimit:=e0.mod.nolimit.keeps fun b o e=>(e0.bs b o e).1
 have hkind:∀ y∈ps.zip us,scope.names.lookup y.1=some .local∨(scope.names.lookup y.1=some .cell∧((cellsFrom (s.heap.objs.size+1) scope.names []).lookup y.1).isSome=true):=fun ⟨n,v⟩ hy=>by
  rcases S.par n (List.of_mem_zip hy).1 with q | q
  · exact .inl q
  · exact .inr ⟨q,W.cellsFrom_some _ _ _ (.inl q)⟩
 refine codeAny_call_function hr.depth (KX _ _ lk) rfl S.co S.gen rfl (W.codeRec_of KX hcd) (hb _ _ _ _ ?_)
 refine wpAny_newFunctionEnv_cells S.kind hkind fun env he s1 x=>?_
 subst he
 refine ⟨lim.keeps x.toInCall.keep,codeAny_func ?_⟩
 obtain ⟨t,ht,hq⟩:=hbody A outer s H vs Q E (hr.deeper _) hsp
 have I:Inv (cxOf CX P w K mg base N qual scope f cdv A outer s H E) [] (start N vs) H s1:=ba1 S hr.hd e0 hl r x
 refine wpAny_mono (ht [] s1 (start N vs) H _ I hq) (fun fl s' hs=>?_) fun e s' hs=>hs
 have fin:∀ {σ':St} {H':Hp}{v:V}{u:Value},Inv (cxOf CX P w K mg base N qual scope f cdv A outer s H E) [] σ' H' s'→RelV v u→Q v H'→CE outer P w H s Q u s' :=
  fun {σ' H' v u} J rv q=>⟨v,H',J.os,J.bare,J.base,J.hok,rv,q⟩
 cases fl with
 | ret u =>
   obtain ⟨v,σ',H',J,rv,q⟩:=hs
   exact fin J rv q
 | next =>
   obtain ⟨σ',H',J,q⟩:=hs
   exact fin (v:=V.non) (u:=Value.none) J rfl q
 | brk =>
   obtain ⟨_,_,_,q⟩:=hs
   exact False.elim q
 | cont =>
   obtain ⟨_,_,_,q⟩:=hs
   exact False.elim q
section
variable {X:Cx}{x:Str}{p pos:Pos}{e:Expr}{es:List Expr}{t:TA}{id T:String}{r:List V→Hp→VK→Prop}
def tCB (r:List V→Hp→VK→Prop) (t:TA):TE:=fun σ H Q=>t σ H fun vs H1=>r vs H1 Q
theorem a44 (hc:CallR X (.builtin id) r) (hg:Gl X x) (hm:X.mg x=none) (hv:bootBuiltins x=some (.builtin id)) (ha:PA X (e::es) t) (hn:x≠"__name__":=by decide) (hdb:(x == ("__debug__":Str))=false:=by decide)
 (he:starEach (e::es) X.env=(false,eval e X.env)::starEach es X.env:=by rfl) (hpl:(backTo pos (starEach es X.env)).any (·.1)=false:=by rfl):PE X (.Call (.Name x p) (e::es) [] pos) (tCB r t):=by
 intro pins s σ H Q I h
 refine wpAny_Call_Name_kw (af8 I hg hm hv ?_ hn hdb)
 exact PyProof.Rows.callWith_builtin1 (thn (ha pos pins s σ H _ I h) fun us s1 ⟨vs,H1,I1,r1,q1⟩=>hc pins s1 σ H1 vs us Q I1 r1 q1) he hpl
theorem a48 (hc:CallR X (.type T) r) (hg:Gl X x) (hm:X.mg x=none) (hv:bootBuiltins x=some (.type T)) (ha:PA X (e::es) t) (hn:x≠"__name__":=by decide) (hdb:(x == ("__debug__":Str))=false:=by decide)
 (he:starEach (e::es) X.env=(false,eval e X.env)::starEach es X.env:=by rfl) (hpl:(backTo pos (starEach es X.env)).any (·.1)=false:=by rfl):PE X (.Call (.Name x p) (e::es) [] pos) (tCB r t):=by
 intro pins s σ H Q I h
 refine wpAny_Call_Name_kw (af8 I hg hm hv ?_ hn hdb)
 exact PyProof.Rows.callWith_type1 (thn (ha pos pins s σ H _ I h) fun us s1 ⟨vs,H1,I1,r1,q1⟩=>hc pins s1 σ H1 vs us Q I1 r1 q1) he hpl
end
end L2
namespace HT
open PySem PyProof.Rows
section
open PySem.SeqAt
open PySem.AutoSeq1 (wpAny_loadPart')
open PySem.MeetsSeq PySem.MeetsSeq2 PySem.MeetsSeq3
end
section
variable {prog:Program}{w:World}{A:Around}{E:Value→Shared→Prop}{s:Shared}
def sIx (n d:Nat):Option Int→Nat
 | none=>d
 | some v=>if v<0 then (v+(n:Int)).toNat else min v.toNat n
theorem sIx_none (n d:Nat):sIx n d none=d:=rfl
theorem sIx_nat (n d k:Nat):sIx n d (some (k:Int))=min k n:=by
 show (if (k:Int)<0 then ((k:Int)+(n:Int)).toNat else min (k:Int).toNat n)=min k n
 rw [if_neg (by omega),Int.toNat_natCast]
end
end HT
namespace L2
open PySem PySem.Spec PyProof.Rows
abbrev TO:=St→Hp→(Option Int→Hp→Prop)→Prop
def PO (X:Cx) (e:Option Expr) (t:TO):Prop :=
 ∀ (pins:List (Addr×Obj)) (s:Shared) (σ:St) (H:Hp) (Q:Option Int→Hp→Prop),Inv X pins σ H s→t σ H Q →
  wpAny (model X.prog X.w) X.A (evalPart e X.env) (fun u s'=>∃ o H',Inv X pins σ H' s'∧IsPart u o∧Q o H') X.xe s
def tNoPart:TO:=fun _ H Q=>Q none H
def tPart (t:TE):TO:=fun σ H Q=>t σ H fun x H1=>∃ i,x=.int i∧Q (some i) H1
theorem al9 {ns:List Int}:∀ {us:List Value},Vals (ns.map V.int) us→IntsAre us ns:=by
 induction ns with
 | nil=>intro us r; rw [List.map_nil] at r; cases r; exact .nil
 | cons n ns ih =>
   intro us r
   rw [List.map_cons] at r
   cases r with
   | cons r1 r2 =>
     obtain ⟨t,e⟩:=r1
     subst e
     exact .cons n t (ih r2)
section
variable {X:Cx}{e:Expr}{te:TE}{lo hi:Option Expr}{tl th:TO}{pos p2:Pos}
theorem ba2:PO X none tNoPart:=by
 intro pins s σ H Q I h
 rw [evalPart_none]
 exact wpAny_pure ⟨none,H,I,.none,h⟩
theorem ba3 (h:PE X e te):PO X (some e) (tPart te):=by
 intro pins s σ H Q I hw
 rw [evalPart_some]
 refine thn (h pins s σ H _ I hw) fun u s1 ⟨x,H1,I1,r1,q1⟩=>?_
 obtain ⟨i,rfl,q⟩:=q1
 obtain ⟨t,rfl⟩:=r1
 exact ⟨some i,H1,I1,.int i t,q⟩
def SlR (X:Cx) (r:V→Option Int→Option Int→Hp→VK→Prop):Prop :=
 ∀ (pins:List (Addr×Obj)) (s:Shared) (σ:St) (H:Hp) (x:V) (v vl vu:Value) (lo hi:Option Int) (sl:Addr) (Q:VK),Inv X pins σ H s→RelV x v→s.heap.IsSliceOf sl vl vu .none→IsPart vl lo→IsPart vu hi→r x lo hi H Q →
  ∃ T id,typeLookup (.type T) "__getitem__"=pure (some (.builtin id))∧s.TypeIs v T∧wpAny (model X.prog X.w) X.A (getItem v (.ref sl)) (EP X pins σ Q) X.xe s
def tSl (r:V→Option Int→Option Int→Hp→VK→Prop) (te:TE) (tl th:TO):TE:=fun σ H Q=>te σ H fun x H1=>tl σ H1 fun l H2=>th σ H2 fun u H3=>r x l u H3 Q
theorem az9 {r:V→Option Int→Option Int→Hp→VK→Prop}(hr:SlR X r) (he:PE X e te) (hl:PO X lo tl) (hu:PO X hi th):PE X (.Subscript e (.Slice lo hi none p2) pos) (tSl r te tl th):=by
 intro pins s σ H Q I h
 refine Subscript_ (thn (he pins s σ H _ I h) fun v s1 ⟨x,H1,I1,r1,q1⟩=>?_)
 refine wpAny_Slice (thn (hl pins s1 σ H1 _ I1 q1) fun vl s2 ⟨l,H2,I2,pl,q2⟩=>thn (hu pins s2 σ H2 _ I2 q2) fun vu s3 ⟨u,H3,I3,pu,q3⟩=>?_)
 rw [evalPart_none]
 refine wpAny_pure ?_
 have I4:Inv X pins σ H3 { s3 with heap:=s3.heap.push { cls:=.type "slice",data:=.fields #[vl,vu,.none] } }:=I3.kept (t':=s3.toks) fun b ob q=>gP _ q
 obtain ⟨T,id,hT,ht,hg⟩:=hr pins { s3 with heap:=s3.heap.push { cls:=.type "slice",data:=.fields #[vl,vu,.none] } } σ H3 x v vl vu l u s3.heap.objs.size Q I4 r1 (Heap.IsSliceOf.new ..) pl pu q3
 show wpAny (model X.prog X.w) X.A (subscriptTail e (.Slice lo hi none p2) v (.ref s3.heap.objs.size)) (EP X pins σ Q) X.xe { s3 with heap:=s3.heap.push { cls:=.type "slice",data:=.fields #[vl,vu,.none] } }
 exact tail_any (ops:=[.ref s3.heap.objs.size,v]) ht hT hg (by with_unfolding_all rfl)
def cutV (xs:List V) (lo hi:Option Int):List V:=(xs.drop (HT.sIx xs.length 0 lo)).take (HT.sIx xs.length xs.length hi - HT.sIx xs.length 0 lo)
theorem aw5 (xs:List V) (lo hi:Option Int):(cutV xs lo hi).length≤xs.length:=by
 unfold cutV
 rw [List.length_take,List.length_drop]
 omega
end
def ixN (n:Nat) (i:Int):Option Nat:=if 0≤i then (if i<n then some i.toNat else none) else if -(n:Int)≤i then some (i+n).toNat else none
def atI {α:Type}(xs:List α) (i:Int):Option α:=(ixN xs.length i).bind fun j=>xs[j]?
theorem ba4 {n:Nat}{i:Int}{j:Nat}(h:ixN n i=some j):seqIndex? i n=some j∧j<n∧-(n:Int)≤i∧i<n:=by
 unfold ixN at h
 by_cases h0:0≤i
 · rw [if_pos h0] at h
   by_cases h1:i<n
   · rw [if_pos h1] at h
     have e:i.toNat=j:=Option.some.inj h
     exact ⟨by rw [seqIndex_of h0 h1,e],by omega,by omega,h1⟩
   · rw [if_neg h1] at h; cases h
 · rw [if_neg h0] at h
   by_cases h1:-(n:Int)≤i
   · rw [if_pos h1] at h
     have e:(i+n).toNat=j:=Option.some.inj h
     exact ⟨by rw [seqIndex_neg (by omega) h1,e],by omega,h1,by omega⟩
   · rw [if_neg h1] at h; cases h
theorem ba5 {α:Type}{xs:List α}{i:Int}{v:α}(h:atI xs i=some v):∃ j,seqIndex? i xs.length=some j∧xs[j]?=some v∧j<xs.length∧-(xs.length:Int)≤i∧i<xs.length:=by
 unfold atI at h
 cases e:ixN xs.length i with
 | none=>rw [e] at h; cases h
 | some j =>
   rw [e] at h
   obtain ⟨h1,h2,h3,h4⟩:=ba4 e
   exact ⟨j,h1,h,h2,h3,h4⟩
theorem a05 {α:Type}{xs:List α}{j:Nat}{v:α}(h:xs[j]?=some v):atI xs (j:Int)=some v:=by
 have hj:j<xs.length:=(gS h).1
 have e:ixN xs.length (j:Int)=some j:=by
  unfold ixN
  rw [if_pos (by omega),if_pos (by omega)]; simp
 unfold atI; rw [e]; exact h
def PlainIx (b:Expr):Prop:=∀ o i,subscripted b false o i=operate [o,i] (getItem o i)
def IxR (X:Cx) (r:R2):Prop :=
 ∀ (value slice:Expr) (pins:List (Addr×Obj)) (s:Shared) (σ:St) (H:Hp) (x y:V) (v u:Value) (Q:VK),Inv X pins σ H s→RelV x v→RelV y u→r x y H Q →
  subscripted slice false v u=operate [v,u] (getItem v u)→wpAny (model X.prog X.w) X.A (subscriptTail value slice v u) (EP X pins σ Q) X.xe s
def MtR (X:Cx) (id:String) (r:V→List V→Hp→VK→Prop):Prop :=
 ∀ (pins:List (Addr×Obj)) (s:Shared) (σ:St) (H:Hp) (x:V) (xs:List V) (v:Value) (us:List Value) (Q:VK),Inv X pins σ H s→RelV x v→Vals xs us→r x xs H Q →
  wpAny (model X.prog X.w) X.A (call (.builtin id) (v::us)) (EP X pins σ Q) X.xe s
section
variable {X:Cx}{a b:Expr}{ta tb:TE}{pos:Pos}
theorem a39 {r:R2}(hr:IxR X r) (ha:PE X a ta) (hb:PE X b tb) (hs:PlainIx b):PE X (.Subscript a b pos) (tOp r ta tb):=by
 intro pins s σ H Q I h
 exact Subscript_ (binT ha hb I h fun v u s2 x y H2 I2 rx ry q=>hr a b pins s2 σ H2 x y v u Q I2 rx ry q (hs _ _))
def rIxL (K:W.Frag):R2:=fun x y H Q=>∃ p xs i v,x=.ref p∧y=.int i∧SqL K H p xs∧atI xs i=some v∧Q v H
def rIxT (K:W.Frag):R2:=fun x y H Q=>∃ p xs i v,x=.ref p∧y=.int i∧SqT K H p xs∧atI xs i=some v∧Q v H
theorem bq8:IxR X (rIxL X.K):=by
 intro value slice pins s σ H x y v u Q I rx ry h hs
 obtain ⟨p,xs,i,z,rfl,rfl,hq,he,q⟩:=h
 cases rx
 obtain ⟨t,rfl⟩:=ry
 obtain ⟨its,r,pl,hz⟩:=I.list hq
 obtain ⟨j,h1,h2,h3,h4,h5⟩:=ba5 he
 obtain ⟨w,ew,rw'⟩:=r.get h2
 have hl:=r.length
 have hn:=ar8
 have fin:EP X pins σ Q w s:=⟨z,H,I,rw',q⟩
 by_cases h0:0≤i
 · have hj:i.toNat=j:=by
    rw [seqIndex_of h0 h5] at h1
    exact Option.some.inj h1
   exact item_listR pl.isList h0 (by omega) (by rw [hj]; simpa using ew) fin hs
 · have hj:(i+(its.toArray.size:Int)).toNat=j:=by
    rw [seqIndex_neg (by omega) h4] at h1
    rw [List.size_toArray,←hl]
    exact Option.some.inj h1
   exact subscriptTail_builtinR (x:=w) pl.isList.typeIs slot_list_getitem.lookup
    (wpAny_getItem_list_neg (Q:=fun r s'=>r=w∧EP X pins σ Q r s') pl.isList (by omega) (by rw [List.size_toArray] <;> omega) (by omega) (by rw [hj]; simpa using ew) ⟨rfl,fin⟩) hs
theorem bz4:IxR X (rIxT X.K):=by
 intro value slice pins s σ H x y v u Q I rx ry h hs
 obtain ⟨p,xs,i,z,rfl,rfl,hq,he,q⟩:=h
 cases rx
 obtain ⟨t,rfl⟩:=ry
 obtain ⟨its,r,pl,hz⟩:=I.tuple hq
 obtain ⟨j,h1,h2,h3,h4,h5⟩:=ba5 he
 obtain ⟨w,ew,rw'⟩:=r.get h2
 have hl:=r.length
 have hn:=ar8
 have fin:EP X pins σ Q w s:=⟨z,H,I,rw',q⟩
 exact subscriptTail_builtinR (x:=w) pl.typeIs slot_tuple_getitem.lookup
  (getItem_tuple (j:=j) (Q:=fun r s'=>r=w∧EP X pins σ Q r s') pl (by omega) (by omega) (by rw [List.size_toArray,←hl]; exact h1) (by simpa using ew) ⟨rfl,fin⟩) hs
theorem b64 (its:List Value) (n j:Nat) (u:Value):Obj.mapSeq (·.setIfInBounds j u) { cls:=.type "list",data:=.seq its.toArray n }={ cls:=.type "list",data:=.seq (its.set j u).toArray n }:=by
 simp [Obj.mapSeq]
theorem Inv.lst {pins:List (Addr×Obj)}{σ:St} {H:Hp}{s:Shared}{p:Addr}{xs:List V}(I:Inv X pins σ H s) (h:H p=some (.lst xs)) :
 ∃ (its:List Value) (n:Nat),Vals xs its∧s.heap.get? p=some { cls:=.type "list",data:=.seq its.toArray n }∧xs.length≤sizeLine:=by
 obtain ⟨z,its,n,r,e⟩:=I.hok p _ h
 exact ⟨its,n,r,e,z⟩
theorem Inv.lstUpd {pins:List (Addr×Obj)}{σ:St} {H:Hp}{s:Shared}{p:Addr}{xs ys:List V}{its its':List Value}{n n':Nat}{f:Obj→Obj}(I:Inv X pins σ H s) (h:H p=some (.lst xs))
 (ho:s.heap.get? p=some { cls:=.type "list",data:=.seq its.toArray n }) (hf:f { cls:=.type "list",data:=.seq its.toArray n }={ cls:=.type "list",data:=.seq its'.toArray n' }) (r:Vals ys its') (hz:ys.length≤sizeLine) (t:Nat) :
 Inv X pins σ (upd H p (.lst ys)) { s with heap:=s.heap.update p f,toks:=t }:=by
 have e:(s.heap.update p f).get? p=some { cls:=.type "list",data:=.seq its'.toArray n' }:=by
  rw [Heap.get?_update_self f ho (by rw [hf] <;> rfl),hf]
 refine I.write (x:=p) (e:=p) (by rw [h]; trivial) (.inl rfl) (fun b u hb q=>(Heap.get?_update_other _ _ (Ne.symm hb)).trans q) ⟨_,e⟩ ?_
 exact ⟨hz,its',n',r,e⟩
def rSetL:V→V→V→Hp→(Hp→Prop)→Prop:=fun o i v H Q=>∃ p xs k j,o=.ref p∧i=.int k∧H p=some (.lst xs)∧ixN xs.length k=some j∧Q (upd H p (.lst (xs.set j v)))
theorem ad9:PSet X rSetL:=by
 intro pins s σ H o i v ov iv u Q I ro ri rv h
 obtain ⟨p,xs,k,j,rfl,rfl,hp,hj,q⟩:=h
 cases ro
 obtain ⟨t,rfl⟩:=ri
 obtain ⟨its,n,r,ho,hz⟩:=I.lst hp
 obtain ⟨h1,h2,h3,h4⟩:=ba4 hj
 have hl:=r.length
 have hn:=ar8
 have I':Inv X pins σ (upd H p (.lst (xs.set j v))) { s with heap:=s.heap.update p (Obj.mapSeq (·.setIfInBounds j u)) } :=
  I.lstUpd hp ho (b64 its n j u) (r.set rv j) (by rw [List.length_set]; exact hz) s.toks
 by_cases h0:0≤k
 · have hk:k.toNat=j:=by
    rw [seqIndex_of h0 h4] at h1
    exact Option.some.inj h1
   exact W.ki_setAt ho h0 (by omega) (by rw [List.size_toArray,←hl]; exact h4) (by rw [hk]; exact ⟨_,I',q⟩)
 · have hk:(k+(its.toArray.size:Int)).toNat=j:=by
    rw [seqIndex_neg (by omega) h3] at h1
    rw [List.size_toArray,←hl]
    exact Option.some.inj h1
   exact W.ki_setBack ho (by omega) (by rw [List.size_toArray,←hl]; exact h3) (by omega) (by rw [hk]; exact ⟨_,I',q⟩)
theorem as3 (lo hi:Option Int) (n:Nat):(sliceBounds lo hi none n).1=((HT.sIx n 0 lo:Nat):Int)∧(sliceBounds lo hi none n).2.1=((HT.sIx n n hi:Nat):Int)∧(sliceBounds lo hi none n).2.2=1:=by
 refine ⟨?_,?_,rfl⟩
 · cases lo with
   | none=>simp [sliceBounds,HT.sIx]
   | some i =>
     simp only [sliceBounds,HT.sIx,Option.getD_none,show (1:Int) > 0 by decide,if_true]
     by_cases h:i<0
     · simp only [h,if_true] <;> omega
     · simp only [h,if_false] <;> omega
 · cases hi with
   | none=>simp [sliceBounds,HT.sIx]
   | some i =>
     simp only [sliceBounds,HT.sIx,Option.getD_none,show (1:Int) > 0 by decide,if_true]
     by_cases h:i<0
     · simp only [h,if_true] <;> omega
     · simp only [h,if_false] <;> omega
theorem ao6 (its:List Value) (lo hi:Option Int):slicePick its.toArray lo hi none=((its.drop (HT.sIx its.length 0 lo)).take (HT.sIx its.length its.length hi - HT.sIx its.length 0 lo)).toArray:=by
 obtain ⟨h1,h2,h3⟩:=as3 lo hi its.toArray.size
 unfold slicePick
 rw [h1,h2,h3]
 simp only [sliceRange_one,pick_run,List.size_toArray] <;> rfl
def rSlL (K:W.Frag):V→Option Int→Option Int→Hp→VK→Prop:=fun x lo hi H Q=>∃ a xs,x=.ref a∧SqL K H a xs∧∀ p,H p=none→Q (.ref p) (upd H p (.lst (cutV xs lo hi)))
theorem bq9:SlR X (rSlL X.K):=by
 intro pins s σ H x v vl vu lo hi sl Q I rx hs pl pu h
 obtain ⟨a,xs,rfl,hx,q⟩:=h
 cases rx
 obtain ⟨its,r,ht,hz⟩:=I.list hx
 have hlen:=r.length
 refine ⟨"list",_,slot_list_getitem.lookup,ht.isList.typeIs,?_⟩
 refine wpAny_getItem_list_slice ht.isList hs pl pu .none (by simp) ?_ (by rw [List.size_toArray] <;> omega)
 rw [ao6,←hlen]
 refine ⟨.ref s.heap.objs.size,_,I.laid (t':=s.toks) (o:=.lst (cutV xs lo hi)) (fun b ob q=>gP _ q) (Nat.le_refl _) ?_,rfl,q _ (I.hok.fresh (Nat.le_refl _))⟩
 exact ⟨Nat.le_trans (aw5 xs lo hi) hz,_,0,(r.drop (HT.sIx xs.length 0 lo)).take (HT.sIx xs.length xs.length hi - HT.sIx xs.length 0 lo),Heap.get?_push_size _ rfl⟩
theorem as4:CallR X (.type "list") (fun xs H Q=>∃ p ys,xs=[.ref p]∧(SqL X.K H p ys∨SqT X.K H p ys)∧∀ l,H l=none→Q (.ref l) (upd H l (.lst ys))):=by
 intro pins s σ H xs us Q I r h
 obtain ⟨p,ys,rfl,hq,q⟩:=h
 obtain ⟨u,rfl,rx⟩:=ai9 r
 cases rx
 have fin:∀ (its:List Value),Vals ys its→ys.length≤sizeLine→∀ (h':Heap) (c':Nat),(∀ b o',s.heap.get? b=some o'→h'.get? b=some o') →
  h'.get? s.heap.objs.size=some { cls:=.type "list",dict:=none,data:=.seq its.toArray c',slots:=#[] }→EP X pins σ Q (.ref s.heap.objs.size) { s with heap:=h' }:=fun its r' hz h' c' kp e =>
  ⟨.ref s.heap.objs.size,_,I.laid (t':=s.toks) kp (Nat.le_refl _) (show ObjOk X.prog X.w _ h' _ (.lst ys) from ⟨hz,its,c',r',e⟩),rfl,q _ (I.hok.fresh (Nat.le_refl _))⟩
 rcases hq with hq | hq
 · obtain ⟨its,r',pl,hz⟩:=I.list hq
   have hlen:=r'.length
   obtain ⟨o,ho,hc,n,hd⟩:=pl.isList
   exact call_list_seq p (.inl rfl) ho hc hd (fun h' c' kp e=>fin its r' hz h' c' kp e) (by simp only [List.size_toArray] <;> omega)
 · obtain ⟨its,r',pl,hz⟩:=I.tuple hq
   have hlen:=r'.length
   obtain ⟨o,ho,hc,n,hd⟩:=pl
   exact call_list_seq p (.inr rfl) ho hc hd (fun h' c' kp e=>fin its r' hz h' c' kp e) (by simp only [List.size_toArray] <;> omega)
theorem ao7:CallR X (.type "tuple") (fun xs H Q=>∃ p ys,xs=[.ref p]∧((SqL X.K H p ys∧∀ l,H l=none→Q (.ref l) (upd H l (.tup ys)))∨(SqT X.K H p ys∧Q (.ref p) H))):=by
 intro pins s σ H xs us Q I r h
 obtain ⟨p,ys,rfl,h⟩:=h
 obtain ⟨u,rfl,rx⟩:=ai9 r
 cases rx
 rcases h with ⟨hq,q⟩ | ⟨hq,q⟩
 · obtain ⟨its,r',pl,hz⟩:=I.list hq
   have hlen:=r'.length
   refine call_tuple_list pl.isList (fun h' kp=>?_) (by simp only [List.size_toArray] <;> omega)
   have I1:Inv X pins σ H { s with heap:=h' }:=I.kept (t':=s.toks) kp
   have I2:Inv X pins σ (upd H h'.objs.size (.tup ys)) { s with heap:=h'.push { cls:=.type "tuple",data:=.seq its.toArray } } :=
    I1.laid (t':=s.toks) (fun b o e=>gP _ e) (Nat.le_refl _) (show ObjOk X.prog X.w _ _ _ (.tup ys) from ⟨hz,its,r',IsTup.new _ _⟩)
   exact ⟨.ref h'.objs.size,_,I2,rfl,q _ (I1.hok.fresh (Nat.le_refl _))⟩
 · obtain ⟨its,r',pl,hz⟩:=I.tuple hq
   exact call_tuple_same pl ⟨.ref p,H,I,rfl,q⟩
def tyV (K:W.Frag) (T:String) (x:V) (H:Hp):Prop:=match x with
 | .str _=>T="str"
 | .int _=>T="int"
 | .ref p=>(T="list"∧∃ xs,SqL K H p xs)∨(T="tuple"∧∃ o,K.lookup p=some o∧o.cls=.type "tuple"∧o.dict=none) ∨
  (T="dict"∧((∃ kvs,H p=some (.dK kvs))∨∃ kvs,H p=some (.dT kvs)))∨(T="set"∧∃ S n,H p=some (.set S n))
 | _=>False
theorem bo5 {pins:List (Addr×Obj)}{σ:St} {H:Hp}{s:Shared}{T:String}{x:V}{v:Value}(I:Inv X pins σ H s) (r:RelV x v) (ty:tyV X.K T x H) :
 s.TypeIs v T∧∀ a,v=.ref a→∃ ob,s.heap.get? a=some ob∧ob.dict=none:=by
 cases x with
 | str z =>
   obtain ⟨t,rfl⟩:=r
   cases (show T="str" from ty)
   exact ⟨typeIs_str s z t,fun _ e=>nomatch e⟩
 | int i =>
   obtain ⟨t,rfl⟩:=r
   cases (show T="int" from ty)
   exact ⟨typeIs_int s i t,fun _ e=>nomatch e⟩
 | ref p =>
   cases r
   rcases ty with ⟨rfl,xs,hq⟩ | ⟨rfl,o,hk,hc,hd⟩ | ⟨rfl,hk⟩ | ⟨rfl,S,n,hk⟩
   · obtain ⟨its,_,pl,_⟩:=I.list hq
     refine ⟨pl.isList.typeIs,fun a e=>?_⟩
     cases e
     obtain ⟨o,n,e,c,hd,_⟩:=pl
     exact ⟨o,e,hd⟩
   · refine ⟨⟨o,I.kIn p o hk,hc⟩,fun a e=>?_⟩
     cases e
     exact ⟨o,I.kIn _ o hk,hd⟩
   · have z:∃ o,s.heap.get? p=some o∧o.ExactDict:=by
      rcases hk with ⟨kvs,hk⟩ | ⟨kvs,hk⟩
      · obtain ⟨_,_,_,_,o,_,_,e,ex,_⟩:=I.hok p _ hk
        exact ⟨o,e,ex⟩
      · obtain ⟨_,_,_,_,o,_,_,e,ex,_⟩:=I.hok p _ hk
        exact ⟨o,e,ex⟩
     obtain ⟨o,e,ex⟩:=z
     refine ⟨⟨o,e,ex.1⟩,fun a e2=>?_⟩
     cases e2
     exact ⟨o,e,ex.2.1⟩
   · obtain ⟨o,_,_,_,e,ex,_⟩:=I.hok p _ hk
     refine ⟨⟨o,e,ex.1⟩,fun a e2=>?_⟩
     cases e2
     exact ⟨o,e,ex.2.1⟩
 | _=>exact False.elim ty
def tBM0 (K:W.Frag) (T:String) (r:V→List V→Hp→VK→Prop) (to:TE):TE:=fun σ H Q=>to σ H fun x H1=>tyV K T x H1∧r x [] H1 Q
def tBM (K:W.Frag) (T:String) (r:V→List V→Hp→VK→Prop) (to:TE) (t:TA):TE:=fun σ H Q=>to σ H fun x H1=>tyV K T x H1∧t σ H1 fun xs H2=>r x xs H2 Q
variable {o e:Expr}{es:List Expr}{to:TE}{t:TA}{name:Str}{apos cpos:Pos}{T id:String}{r:V→List V→Hp→VK→Prop}
theorem bz5 (pa:PlainAttrs T) (slot:Slot T name id) (hty:typeOf (.builtin id)=pure (.type "method_descriptor")) (hm:MtR X id r) (ho:PE X o to)
 (hbase:attributeBase o name X.env (eval o X.env)=eval o X.env:=by rfl) (hline:(apos.endLine == cpos.line)=true:=by rfl):PE X (.Call (.Attribute o name apos) [] [] cpos) (tBM0 X.K T r to):=by
 intro pins s σ H Q I h
 refine wpAny_Call_method0_late hbase hline (thn (ho pins s σ H _ I h) fun v s1 ⟨x,H1,I1,r1,ty,q1⟩=>?_)
 obtain ⟨h1,h2⟩:=bo5 I1 r1 ty
 exact ⟨T,id,pa,slot,hty,h1,h2,Calls.callWith_builtin rfl (PySem.evalArgs_none (hm pins s1 σ H1 x [] v [] Q I1 r1 .nil q1))⟩
theorem c99 (pa:PlainAttrs T) (slot:Slot T name id) (hty:typeOf (.builtin id)=pure (.type "method_descriptor")) (hm:MtR X id r) (ho:PE X o to) (ha:PA X (e::es) t)
 (hbase:attributeBase o name X.env (eval o X.env)=eval o X.env:=by rfl)
 (hfew:((backTo cpos (starEach (e::es) X.env)).all (fun x=>!x.1) && (backToKw cpos (keywordEach [] X.env)).all (fun x=>x.1.isSome)
  && decide ((e::es).length+([]:List Keyword).length+(if ([]:List Keyword).isEmpty then 0 else 1)<30))=true:=by rfl)
 (hline:(apos.endLine == cpos.line)=true:=by rfl) (hs:starEach (e::es) X.env=(false,eval e X.env)::starEach es X.env:=by rfl) (hplain:(backTo cpos (starEach es X.env)).any (·.1)=false:=by rfl) :
 PE X (.Call (.Attribute o name apos) (e::es) [] cpos) (tBM X.K T r to t):=by
 intro pins s σ H Q I h
 refine wpAny_Call_method_late hbase hfew hline rfl (thn (ho pins s σ H _ I h) fun v s1 ⟨x,H1,I1,r1,ty,q1⟩=>?_)
 obtain ⟨h1,h2⟩:=bo5 I1 r1 ty
 refine ⟨T,id,pa,slot,hty,h1,h2,?_⟩
 have hA:=ha cpos pins s1 σ H1 _ I1 q1
 rw [hs] at hA ⊢
 refine Calls.callWith_builtin (by show (false || (backTo cpos (starEach es X.env)).any (·.1))=false; rw [hplain] <;> rfl) (Calls.evalArgs_plain ?_)
 exact thn hA fun us s2 ⟨vs,H2,I2,r2,q2⟩=>hm pins s2 σ H2 x vs v us Q I2 r1 r2 q2
/- xs.append(e),list.index on a module's tuple .. are MtR facts of 06m -/
end
def MtM (X:Cx) (id:String) (r:V→List V→Hp→VK→Prop):Prop :=
 ∀ (pins:List (Addr×Obj)) (s:Shared) (σ:St) (H:Hp) (x:V) (xs:List V) (v:Value) (us:List Value) (Q:VK),Inv X pins σ H s→RelV x v→Vals xs us→r x xs H Q →
  wpAny (model X.prog X.w) X.A (call (.builtin id) (v::us)) (EP X pins σ Q) X.xe s
theorem Vals.one:∀ {x:V}{us:List Value},Vals [x] us→∃ u,us=[u]∧RelV x u
 | _,_,.cons r .nil=>⟨_,rfl,r⟩
theorem Vals.zero:∀ {us:List Value},Vals [] us→us=[]
 | _,.nil=>rfl
theorem Vals.dropLast {xs:List V}{us:List Value}(h:Vals xs us):Vals xs.dropLast us.dropLast:=by
 induction h with
 | nil=>exact .nil
 | cons r t ih =>
   cases t with
   | nil=>exact .nil
   | cons q t'=>exact .cons r ih
theorem Vals.rep {xs:List V}{us:List Value}(h:Vals xs us):∀ k:Nat,Vals (List.replicate k xs).flatten (List.replicate k us).flatten
 | 0=>.nil
 | k+1=>by
   rw [List.replicate_succ,List.replicate_succ,List.flatten_cons,List.flatten_cons]
   exact Vals.append h (Vals.rep h k)
theorem b65 {α:Type}(l:List α):l.eraseIdx (l.length - 1)=l.dropLast:=by
 induction l with
 | nil=>rfl
 | cons a r ih =>
   cases r with
   | nil=>rfl
   | cons b r =>
     have e:(a::b::r).length - 1=((b::r).length - 1)+1:=by
      have h1:(a::b::r).length=r.length+2:=rfl
      have h2:(b::r).length=r.length+1:=rfl
      omega
     rw [e,List.eraseIdx_cons_succ,ih]
     all_goals rfl
theorem as5 (its:List Value):∀ (k:Nat) (acc:List Value),
 List.foldl (fun x1 x2=>x1++x2) acc.toArray (List.replicate k its.toArray)=(acc++(List.replicate k its).flatten).toArray
 | 0,acc=>by simp
 | k+1,acc=>by
   have e:acc.toArray++its.toArray=(acc++its).toArray:=by simp
   have e2:(acc++its)++(List.replicate k its).flatten=acc++(List.replicate (k+1) its).flatten:=by
    rw [List.replicate_succ,List.flatten_cons,List.append_assoc]
   rw [← e2,←as5 its k (acc++its),←e,List.replicate_succ,List.foldl_cons]
section
variable {X:Cx}{pins:List (Addr×Obj)}{σ:St} {H:Hp}{s:Shared}{l b:Addr}{xs ys zs:List V}
theorem Inv.lset {its its':List Value}{n:Nat}{f:Array Value→Array Value}{t':Nat}(I:Inv X pins σ H s) (hH:H l=some (.lst xs))
 (e:s.heap.get? l=some { cls:=.type "list",data:=.seq its.toArray n }) (hf:f its.toArray=its'.toArray) (hv:Vals ys its') (hz:ys.length≤sizeLine) :
 Inv X pins σ (upd H l (.lst ys)) { s with heap:=s.heap.update l (Obj.mapSeq f),toks:=t' }:=by
 have q:=PySem.IsL.update e f
 rw [hf] at q
 refine I.write (x:=l) (e:=l) (by rw [hH]; exact trivial) (.inl rfl) (fun b' u hb hu=>(Heap.get?_update_other s.heap (Obj.mapSeq f) (Ne.symm hb)).trans hu) ⟨_,q⟩ ?_
 exact ⟨hz,its',_,hv,q⟩
theorem Inv.lnew {its:List Value}{t':Nat}(I:Inv X pins σ H s) (hv:Vals ys its) (hz:ys.length≤sizeLine) :
 Inv X pins σ (upd H s.heap.objs.size (.lst ys)) { s with heap:=s.heap.push { cls:=.type "list",data:=.seq its.toArray },toks:=t' } :=
 I.laid (fun _ _ q=>gP _ q) (Nat.le_refl _) ⟨hz,its,0,hv,Heap.get?_push_size _ rfl⟩
theorem Inv.fresh (I:Inv X pins σ H s):H s.heap.objs.size=none:=I.hok.fresh (Nat.le_refl _)
theorem Inv.lstM (I:Inv X pins σ H s) (hH:H l=some (.lst xs)):xs.length≤sizeLine∧∃ (its:List Value) (n:Nat),Vals xs its∧xs.length=its.length∧s.heap.get? l=some { cls:=.type "list",data:=.seq its.toArray n }:=by
 obtain ⟨z,its,n,r,e⟩:=I.hok l _ hH
 exact ⟨z,its,n,r,r.length,e⟩
theorem notLongL {n:Nat}(h:n≤sizeLine):Builtin.List.listTooLong n=false:=by
 unfold Builtin.List.listTooLong
 exact decide_eq_false (by omega)
end
section
variable {X:Cx}
def rAppend:V→List V→Hp→VK→Prop:=fun x vs H Q=>∃ l xs y,x=.ref l∧vs=[y]∧H l=some (.lst xs)∧xs.length<sizeLine∧Q .non (upd H l (.lst (xs++[y])))
theorem a52:MtM X "list.append" rAppend:=by
 intro pins s σ H x vs v us Q I rx rv h
 obtain ⟨l,xs,y,rfl,rfl,hH,hz,q⟩:=h
 cases rx
 obtain ⟨u,rfl,ru⟩:=rv.one
 obtain ⟨z,its,n,r,hl,e⟩:=I.lstM hH
 refine call_meets F.slot_list_append ⟨_,e,rfl⟩ F.entry_list_append (F.args_list_append_2 _ _) (PySem.list_append l its.toArray n u (by rw [List.size_toArray]; omega)) ⟨e,?_⟩
 refine ⟨.non,_,I.lset (its':=its++[u]) hH e (by simp) (r.append (.cons ru .nil)) ?_,rfl,q⟩
 rw [List.length_append,List.length_singleton]
 omega
def rExtend:V→List V→Hp→VK→Prop:=fun x vs H Q=>∃ l b xs zs,x=.ref l∧vs=[.ref b]∧H l=some (.lst xs)∧H b=some (.lst zs)∧xs.length+zs.length≤sizeLine∧Q .non (upd H l (.lst (xs++zs)))
theorem ba6:MtM X "list.extend" rExtend:=by
 intro pins s σ H x vs v us Q I rx rv h
 obtain ⟨l,b,xs,zs,rfl,rfl,hH,hB,hz,q⟩:=h
 cases rx
 obtain ⟨u,rfl,ru⟩:=rv.one
 cases ru
 obtain ⟨z,its,n,r,hl,e⟩:=I.lstM hH
 obtain ⟨z2,its2,n2,r2,hl2,e2⟩:=I.lstM hB
 have hsz:its.toArray.size+its2.toArray.size≤sizeLine:=by rw [List.size_toArray,List.size_toArray]; omega
 have hlong:¬ (!its.toArray.isEmpty && Builtin.List.listTooLong (its.toArray.size+its2.toArray.size))=true:=by
  rw [notLongL hsz,Bool.and_false]
  exact Bool.false_ne_true
 refine call_meets F.slot_list_extend ⟨_,e,rfl⟩ F.entry_list_extend (F.args_list_extend_2 _ _)
  (AutoSeq1.list_extend_list_list_0 l its.toArray n b its2.toArray n2 hlong (by rw [List.size_toArray]; omega) (by omega)) ⟨e,e2,?_⟩
 refine ⟨.non,_,I.lset (its':=its++its2) hH e (by simp) (r.append r2) ?_,rfl,q⟩
 rw [List.length_append]
 omega
def rPop:V→List V→Hp→VK→Prop:=fun x vs H Q=>∃ l xs y,x=.ref l∧vs=[]∧H l=some (.lst xs)∧xs[xs.length - 1]?=some y∧Q y (upd H l (.lst xs.dropLast))
theorem bo6:MtM X "list.pop" rPop:=by
 intro pins s σ H x vs v us Q I rx rv h
 obtain ⟨l,xs,y,rfl,rfl,hH,hy,q⟩:=h
 cases rx
 have hus:=rv.zero
 subst hus
 obtain ⟨z,its,n,r,hl,e⟩:=I.lstM hH
 obtain ⟨u,hu,ru⟩:=r.get hy
 have hy':its.toArray[its.toArray.size - 1]?=some u:=by
  show its.toArray[its.length - 1]?=some u
  rw [← Array.getElem?_toList,←hl]
  exact hu
 refine call_meets F.slot_list_pop ⟨_,e,rfl⟩ F.entry_list_pop (F.args_list_pop_1 _) (MeetsSeq.list_pop_last l its.toArray n u hy' (by rw [List.size_toArray]; omega)) ⟨e,?_⟩
 refine ⟨y,_,I.lset (its':=its.dropLast) hH e ?_ r.dropLast ?_,ru,q⟩
 · show its.toArray.eraseIdxIfInBounds (its.toArray.size - 1)=its.dropLast.toArray
   rw [List.size_toArray,List.eraseIdxIfInBounds_toArray,b65]
 · rw [List.length_dropLast]
   omega
def rCat:R2:=fun x y H Q=>∃ l b xs zs,x=.ref l∧y=.ref b∧H l=some (.lst xs)∧H b=some (.lst zs)∧xs.length+zs.length≤sizeLine∧∀ p,H p=none→Q (.ref p) (upd H p (.lst (xs++zs)))
theorem bz6:OpR X (binaryOp .Add) rCat:=by
 intro pins s σ H x y v u Q I rx ry h
 obtain ⟨l,b,xs,zs,rfl,rfl,hH,hB,hz,q⟩:=h
 cases rx
 cases ry
 obtain ⟨z,its,n,r,hl,e⟩:=I.lstM hH
 obtain ⟨z2,its2,n2,r2,hl2,e2⟩:=I.lstM hB
 refine PySem.P.add_list e e2 ?_ (by rw [List.size_toArray,List.size_toArray]; omega)
 have ea:its.toArray++its2.toArray=(its++its2).toArray:=by simp
 rw [ea]
 exact ⟨.ref _,_,I.lnew (t':=s.toks) (r.append r2) (by rw [List.length_append]; omega),rfl,q _ I.fresh⟩
def rRep:R2:=fun x y H Q=>∃ l k xs,x=.ref l∧y=.int k∧H l=some (.lst xs)∧-(2 ^ 63)≤k∧k<2 ^ 63∧xs.length*k.toNat≤sizeLine ∧
 ∀ p,H p=none→Q (.ref p) (upd H p (.lst (List.replicate k.toNat xs).flatten))
theorem br0 {α:Type}(xs:List α) (k:Nat):(List.replicate k xs).flatten.length=k*xs.length:=by
 induction k with
 | zero=>simp
 | succ k ih=>rw [List.replicate_succ,List.flatten_cons,List.length_append,ih,Nat.succ_mul,Nat.add_comm]
theorem bz7:OpR X (binaryOp .Mult) rRep:=by
 intro pins s σ H x y v u Q I rx ry h
 obtain ⟨l,k,xs,rfl,rfl,hH,h1,h2,hz,q⟩:=h
 cases rx
 obtain ⟨t,rfl⟩:=ry
 obtain ⟨z,its,n,r,hl,e⟩:=I.lstM hH
 have hlen:its.toArray.size*k.toNat≤sizeLine:=by rw [List.size_toArray,←hl]; exact hz
 have hcap:¬ its.toArray.size*k.toNat > (2 ^ 63 - 1) / 8:=by
  have:(sizeLine:Nat)≤(2 ^ 63 - 1) / 8:=by decide
  omega
 have hfit:¬ (!Builtin.List.listFitsIndex k)=true:=by
  rw [fitsIndex_both h1 h2]
  exact Bool.false_ne_true
 have hlong:¬ Builtin.List.listTooLong (its.toArray.size*k.toNat)=true:=by
  rw [notLongL hlen]
  exact Bool.false_ne_true
 have hnew:List.foldl (fun x1 x2=>x1++x2) #[] (List.replicate (if its.toArray.isEmpty=true then 0 else k.toNat) its.toArray)=(List.replicate k.toNat its).flatten.toArray:=by
  have f0:∀ m:Nat,List.foldl (fun x1 x2=>x1++x2) #[] (List.replicate m its.toArray)=(List.replicate m its).flatten.toArray:=fun m=>by
   have:=as5 its m []
   rw [List.nil_append] at this
   exact this
  rw [f0]
  cases its with
  | nil=>simp
  | cons a r'=>rw [if_neg (by simp)]
 refine wpAny_binaryOp_repeat_ref (T:="list") (U:="int") (by decide) ⟨_,e,rfl⟩ (fun s'=>typeIs_int s' k t) noFill_list_mul F.fills_int_mul F.slot_int_rmul repeat_list F.slot_int_index.lookup
  (call_meets F.slot_int_rmul (typeIs_int s k t) F.entry_int_rmul (F.args_int_rmul_2 _ _) (int___rmul___int_list k t l its.toArray n)
   ⟨e,rfl,⟨_,e,rfl⟩,call_meets F.slot_list_mul ⟨_,e,rfl⟩ F.entry_list_mul (F.args_list_mul_2 _ _) (AutoListH.list___mul___list_int_3 l its.toArray n k t hfit hcap hlong) ⟨e,?_⟩⟩)
 rw [hnew]
 exact ⟨.ref _,_,I.lnew (t':=s.toks) (r.rep k.toNat) (by rw [br0,Nat.mul_comm]; exact hz),rfl,q _ I.fresh⟩
end
section
variable {prog:Program}{w:World}{A:Around}{E:Value→Shared→Prop}{s:Shared}
set_option maxRecDepth 100000 in
end
section
variable {X:Cx}
end
end L2
namespace Att
open PySem PySem.W PySem.Calls PyProof.Rows
theorem aj1 {P:Params}{h:Heap}:∀ (ns:List Int) (vs:List Value),WellAll P h vs (ns.map WData.int)→IntsAre vs ns:=by
 intro ns
 induction ns with
 | nil =>
   intro vs w
   rw [List.map_nil] at w
   cases w
   exact .nil
 | cons n ns ih =>
   intro vs w
   rw [List.map_cons] at w
   cases w with
   | cons a b =>
     cases a
     exact .cons _ _ (ih _ b)
theorem ba7 {l:OpenLaw}{n:Nat}(hn:l.most=some n) {P:Params}{h:Heap}{args:List WData}{vals:List Value}
 (hpre:l.row.toRowW.claim.pre args=true) (hwl:WellAll P h vals args) :
 ∃ a vs ns,vals=[Value.ref a]∧args=[WData.list (ns.map WData.int)]∧h.get? a=some { cls:=.type "list",data:=.seq vs.toArray }∧IntsAre vs ns∧ns.length≤n:=by
 have hsh:WShape.hasAll [] args [.list .int]=true:=(pre_splitW hpre).1
 have hc:l.pre.holds [] { args:=args }=true:=(pre_splitW hpre).2
 obtain ⟨d,r,rfl,h1,h2⟩:=hasAllW_cons hsh
 obtain rfl:=hasAllW_nil h2
 obtain ⟨xs,rfl,h3⟩:=hasW_list h1
 obtain ⟨ns,rfl⟩:=items_int h3
 have hlen:ns.length≤n:=by
  unfold OpenLaw.pre at hc
  have h4:(WTm.not (.lt (.lit (.int (n:Int))) (.len (.arg 0)))).holds [] { args:=[.list (ns.map .int)] }=true:=by
   have h4:=(holds_andW hc).1
   rw [hn] at h4
   exact h4
  have h5:=condW_of h4 (w_not (w_lt w_lit (w_len_list (w_arg rfl))))
  rw [List.length_map] at h5
  refine Nat.le_of_not_lt fun q=>?_
  have q':(n:Int)<((ns.length:Nat):Int):=by omega
  first
   | (rw [decide_eq_true q'] at h5; exact absurd h5 (by decide))
   | (simp at h5; omega)
 cases hwl with
 | cons w1 w2 =>
   cases w2
   cases w1 with
   | list ho hall=>exact ⟨_,_,ns,rfl,rfl,ho,aj1 ns _ hall,hlen⟩
theorem ba8 (l:OpenLaw) (args:List WData):l.row.toRowW.claim.post args (.bool true) args=true :=
 postW_of (r:=l.row.toRowW) (X:=(true == true))
  (show WShape.has [] (.bool true) .bool=true by first | rfl | decide | simp [WShape.has,WShape.arms,WShape.armsAll])
  (show (WTm.eq .res (.lit (.bool true))).value [] { args:=args,res:=some (.bool true),after:=args }=some (.bool (true == true)) from w_eq_bool (w_res rfl) w_lit) rfl
theorem attach_call {l:OpenLaw}{n:Nat}{q:Program}{loose:List Str}{XP:(Str→Option Value)→Heap→Prop}{YP:World→Heap→Prop}{d:DefRec}
 (hn:l.most=some n) (hdf:d.params.defaults=[])
 (call:∀ (w:World) (s₀ s₁:Shared) (mg mb:Str→Option Value) (fa:Addr) (o:Obj) (pm cd doc:Value) (a:Addr) (vs:List Value) (ns:List Int),
  Ground q loose [] XP w s₀ mg mb s₁.heap→YP w s₁.heap →
  s₁.heap.get? fa=some o→o.data=.func (docDef d.name d.params d.body d.scope pm cd doc)→s₁.heap.CodeRec cd d.name→mg d.name=some (.ref fa) →
  s₁.heap.get? a=some { cls:=.type "list",data:=.seq vs.toArray }→IntsAre vs ns→ns.length≤n→s₁.gens=#[] →
  codeAny (model l.prog w) callerA (.call (.ref fa) ⟨[.ref a],[]⟩) (fun r s'=>r=.ok (.ret (.bool true))∧OldK s₁.heap s'.heap∧s'.os=s₁.os∧AllBare s'.gens) s₁) :
 WalkO q loose XP YP l.row.toRowW d [] (fun f vs=>PySem.call f vs):=by
 intro w s₀ s₁ mg mb G Y fa o pm cd doc dV kV ho hd hcd hD hmg hg args vals as hpre hlay hrd hwl hlo
 obtain rfl:dV=.none:=Dflts.none hD hdf
 obtain rfl:kV=.none:=Dflts.noKw hD
 obtain ⟨a,vs,ns,rfl,rfl,hobj,hints,hlen⟩:=ba7 hn hpre hwl
 refine enter_call (codeAny_mono (call w s₀ s₁ mg mb fa o pm cd doc a vs ns G Y ho (fd_plain hd) hcd hmg hobj hints hlen hg) fun r s' hq=>?_)
 obtain ⟨rfl,h2,h3,h4⟩:=hq
 exact ⟨.inl ⟨.bool true,.bool true,[],rfl,fun _=>rfl,.bool true,ba8 l _,fun _=>⟨List.Pairwise.nil,fun _ hm=>(nomatch hm)⟩⟩,h2,h3,h4⟩
section
variable {prog:Program}{w:World}{A:Around}{E:Value→Shared→Prop}{s:Shared}{K:Frag}
end
end Att
namespace L2
open PySem PySem.Spec PyProof.Rows
theorem as6:∀ {vs:List Value}{ns:List Int},IntsAre vs ns→Vals (ns.map V.int) vs
 | _,_,.nil=>.nil
 | _,_,.cons n t h=>.cons ⟨t,rfl⟩ (as6 h)
def Only (H:Hp):Prop:=∀ b,H b=none∨∃ o xs,H b=some (.frz o (.lst xs))
theorem bj1 {P:Program}{w:World}{K:W.Frag}{mg mb:Str→Option Value}{CX:CXT}{k:Nat}{fa a:Addr}{fd:FuncData}{x:Str}{sp:Sp}{s₁:Shared}{vs:List Value}{ns:List Int}
 (KX:K.In s₁.heap) (hns:s₁.heap.Ns mainGlobals mg) (hb:s₁.heap.Ns builtinsNs mb) (hbb:∀ x:Str,x≠"__name__"→mb x=bootBuiltins x) (hlim:s₁.heap.NoLimit) (hg:s₁.gens=#[])
 (ha:s₁.heap.get? a=some { cls:=.type "list",data:=.seq vs.toArray }) (hi:IntsAre vs ns) (hl:ns.length≤sizeLine) (hr:Room k callerA)
 (F:∀ base:Heap,K.In base→base.Ns mainGlobals mg→FnOk P w K mg base CX k fa fd [x] sp) (hbind:∀ (s:Shared) (u:Value),BindsTo s fd ⟨[u],[]⟩ [(x,u)])
 (hsp:∀ H:Hp,Only H→SqL K H a (ns.map V.int)→sp [.ref a] H (fun v _=>v=.bl true) fun _ _ _=>False)
 (hCX:∀ H e s',CX [] H s₁ (fun _ _ _=>False) e s'→False) :
 codeAny (model P w) callerA (.call (.ref fa) ⟨[.ref a],[]⟩) (fun r s'=>r=.ok (.ret (.bool true))∧OldK s₁.heap s'.heap∧s'.os=s₁.os∧AllBare s'.gens) s₁:=by
 have rv:=as6 hi
 have lenV:=hi.length
 have core:∀ H:Hp,Only H→SqL K H a (ns.map V.int)→HOk P w H s₁.heap→(∀ b,H b≠none→b=a)→(H a≠none→K.lookup a=none) →
  codeAny (model P w) callerA (.call (.ref fa) ⟨[.ref a],[]⟩) (fun r s'=>r=.ok (.ret (.bool true))∧OldK s₁.heap s'.heap∧s'.os=s₁.os∧AllBare s'.gens) s₁:=by
  intro H hO hS hok hA hK
  have base_of:∀ {b:Addr}{o:Obj},s₁.heap.get? b=some o→H b=none→(hidT s₁.heap H).get? b=some o:=fun e n=>bi3 e n
  have noA:∀ {b:Addr}{o:Obj}{es:Array DictEntry}{ep:Nat},s₁.heap.get? b=some o→o.data=.dict es ep→H b=none:=fun {b o es ep} e d=>by
   cases q:H b with
   | none=>rfl
   | some u =>
     have e':b=a:=hA b (by rw [q]; simp)
     subst e'
     rw [ha] at e; cases e
     have d':Data.seq vs.toArray _=Data.dict es ep:=d
     cases d'
  have nsK:∀ {b:Addr}{m:Str→Option Value},s₁.heap.Ns b m→(hidT s₁.heap H).Ns b m:=fun {b m} ⟨o,es,ep,e,d,r⟩=>⟨o,es,ep,base_of e (noA e d),d,r⟩
  have hKb:K.In (hidT s₁.heap H):=fun b o e=>base_of (KX b o e) (by
   cases q:H b with
   | none=>rfl
   | some u =>
     have e':b=a:=hA b (by rw [q]; simp)
     subst e'
     rw [hK (by rw [q]; simp)] at e; cases e)
  have hM:Mod K mg (hidT s₁.heap H):=⟨hKb,nsK hns,⟨mb,nsK hb,hbb⟩,let ⟨mc,h1,h2⟩:=hlim; ⟨mc,nsK h1,h2⟩⟩
  have e0:Env0 P w K mg (hidT s₁.heap H) callerA [] s₁ H:=⟨rfl,hM,fun b o e=>bp6 e,Nat.le_of_eq (b88 _ _),trivial,fun b hb=>absurd (show b∈([]:List Addr) from hb) (by simp),hok,.of_eq hg⟩
  refine codeAny_mono ((F _ hKb (nsK hns)).run callerA [] s₁ H ⟨[.ref a],[]⟩ [.ref a] [.ref a] _ _ hr e0 (hbind s₁ (.ref a)) (.cons rfl .nil) (hsp H hO hS)) fun r s' h=>?_
  cases r with
  | error e=>exact (hCX H e s' h).elim
  | ok fl =>
    cases fl with
    | next=>exact False.elim h
    | brk=>exact False.elim h
    | cont=>exact False.elim h
    | ret u =>
      obtain ⟨v,H',os,bare,un,hok',r',q⟩:=h
      have q':v=.bl true:=q
      subst q'
      obtain rfl:u=Value.bool true:=r'
      refine ⟨rfl,OldK.of_keep fun b o e=>?_,os,bare⟩
      cases q:H b with
      | none=>exact un.keep b o e q (by intro z; exact absurd (show b∈([]:List Addr) from z) (by simp)) (by simp)
      | some u =>
        rcases hO b with z | ⟨ob,xs,z⟩
        · rw [q] at z; cases z
        · have z2:=un.frzs b ob _ z
          obtain ⟨e1,_⟩:=hok b _ z
          obtain ⟨e2,_⟩:=hok' b _ z2
          rw [e] at e1; cases e1
          exact e2
 cases hk:K.lookup a with
 | some o =>
   have e:=KX a o hk
   rw [ha] at e
   cases e
   refine core (fun _=>none) (fun _=>.inl rfl) (.inr ⟨_,vs.toArray,_,hk,rfl,rfl,rfl,by rw [List.size_toArray,lenV]; exact hl,by simpa using rv⟩) (fun b u z=>by have z':(none:Option HO)=some u:=z; cases z') (fun b z=>absurd rfl z) fun z=>absurd rfl z
 | none =>
   refine core (fun b=>if b=a then some (.frz { cls:=.type "list",data:=.seq vs.toArray } (.lst (ns.map V.int))) else none) (fun b=>?_) (.inl (.inr ⟨{ cls:=.type "list",data:=.seq vs.toArray },if_pos rfl⟩)) (fun b u z=>?_) (fun b z=>?_) fun _=>hk
   · by_cases hb:b=a
     · exact .inr ⟨_,_,if_pos hb⟩
     · exact .inl (if_neg hb)
   · by_cases hb:b=a
     · have z':=(if_pos hb).symm.trans z
       cases z'
       subst hb
       exact ⟨ha,by rw [gL]; exact hl,vs,_,rv,ha⟩
     · have z':=(if_neg hb).symm.trans z
       cases z'
   · by_cases hb:b=a
     · exact hb
     · exact absurd (if_neg hb) z
theorem walk_of {l:W.OpenLaw}{n k:Nat}{q:Program}{loose:List Str}{XP:(Str→Option Value)→Heap→Prop}{YP:World→Heap→Prop}{d:DefRec}{K:Params→W.Frag}{CX:World→CXT}{sp:World→Sp}{x:Str}
 (hn:l.most=some n) (hn2:n≤sizeLine) (hdf:d.params.defaults=[]) (hr:Room k callerA)
 (hY:∀ (w:World) (h:Heap),YP w h→(K w.params).In h)
 (F:∀ (w:World) (mg:Str→Option Value) (fa:Addr) (h:Heap),(K w.params).In h→h.Ns mainGlobals mg→mg d.name=some (.ref fa) →
  ∃ fd:FuncData,(∀ (s:Shared) (u:Value),BindsTo s fd ⟨[u],[]⟩ [(x,u)]) ∧
   ∀ base:Heap,(K w.params).In base→base.Ns mainGlobals mg→FnOk l.prog w (K w.params) mg base (CX w) k fa fd [x] (sp w))
 (hsp:∀ (w:World) (H:Hp) (a:Addr) (ns:List Int),ns.length≤n→Only H→SqL (K w.params) H a (ns.map V.int)→sp w [.ref a] H (fun v _=>v=.bl true) fun _ _ _=>False)
 (hCX:∀ (w:World) (H:Hp) (s:Shared) (e:Value) (s':Shared),CX w [] H s (fun _ _ _=>False) e s'→False) :
 W.WalkO q loose XP YP l.row.toRowW d [] (fun f vs=>PySem.call f vs):=by
 refine Att.attach_call hn hdf fun w s₀ s₁ mg mb fa o pm cd doc a vs ns G Y ho hd hcd hmg hobj hints hlen hg=>?_
 have KX:=hY w _ Y
 obtain ⟨fd,hb,hF⟩:=F w mg fa _ KX G.T.g hmg
 exact bj1 KX G.T.g G.T.b G.T.builtins G.T.nolimit hg hobj hints (Nat.le_trans hlen hn2) hr hF hb (fun H hO hS=>hsp w H a ns hlen hO hS) fun H e s'=>hCX w H s₁ e s'
def inClass (s:Stmt) (j:Nat):Stmt:=match s with
 | .ClassDef _ _ _ body _ _ _ _ _ _ _=>body.getD j (.Pass ⟨0,0,0,0⟩)
 | _=>.Pass ⟨0,0,0,0⟩
def defArgs (s:Stmt):Arguments:=match s with
 | .FunctionDef _ a _ _ _ _ _ _ _ _=>a
 | _=>{ posonlyargs:=[],args:=[],vararg:=none,kwonlyargs:=[],kw_defaults:=[],kwarg:=none,defaults:=[] }
def defBody (s:Stmt):List Stmt:=match s with
 | .FunctionDef _ _ b _ _ _ _ _ _ _=>b
 | _=>[]
def defScope (s:Stmt):Scope:=match s with
 | .FunctionDef _ _ _ _ _ _ sc _ _ _=>sc
 | _=>{ kind:=.function,names:=[],isGenerator:=false,isCoroutine:=false }
abbrev CX0:CXT:=fun _ _ _ _ _ _=>False
abbrev E0:XK:=fun _ _ _=>False
theorem a82 {X:Cx}:Passes CX0 X E0:=fun _ _ _ _ _ _ _ h=>h.elim
structure Fun (K:W.Frag) (x qual:Str) (st:Stmt) (f:Addr) (fd:FuncData):Prop where
 ex:∃ (oc:Value) (od:Option Addr) (kV doc pm:Value) (an:Option Addr) (cdv ct:Value) (osl:Array (Option Value)),
  fd=W.fnOf x qual (defArgs st) (defBody st) (defScope st) .none kV doc pm an cdv ct∧K.lookup f=some ⟨oc,od,.func fd,osl⟩∧W.codeIn K cdv qual=true
 kp:W.keepIn K (.ref f)=true
section
variable {P:Program}{w:World}{K:W.Frag}{mg:Str→Option Value}{base:Heap}
theorem Fun.ok {x qual:Str}{st:Stmt}{f:Addr}{fd:FuncData}{N ps:List Str}{k:Nat}{sp:Sp}(F:Fun K x qual st f fd) (S:FnScope N ps (defScope st)) (len:∀ vs H Q E,sp vs H Q E→vs.length=ps.length)
 (hbody:∀ (cdv:Value) (A:Around) (outer:List Env) (s:Shared) (H:Hp) (vs:List V) (Q:VK) (E:XK),Room k (A.deeper (envOfC qual (defScope st) s.heap.objs.size f cdv))→sp vs H Q E →
  ∃ t,PSs (cxOf CX0 P w K mg base N qual (defScope st) f cdv A outer s H E).nox (defBody st) t∧t { nx:=fun _ H'=>Q .non H',rt:=Q } (start N vs) H):FnOk P w K mg base CX0 (k+1) f fd ps sp:=by
 obtain ⟨oc,od,kV,doc,pm,an,cdv,ct,osl,rfl,lk,hcd⟩:=F.ex
 refine c98 lk hcd S len fun A outer s H vs Q E hr hsp=>?_
 obtain ⟨t,h,q⟩:=hbody cdv A outer s H vs Q E hr hsp
 exact ⟨t,h.nox,q⟩
theorem Fun.binds {x qual:Str}{st:Stmt}{f:Addr}{fd:FuncData}{ps:List Str}(F:Fun K x qual st f fd)
 (h:∀ (kV doc pm:Value) (an:Option Addr) (cdv ct:Value) (us:List Value),us.length=ps.length→bindArgs (W.fnOf x qual (defArgs st) (defBody st) (defScope st) .none kV doc pm an cdv ct) ⟨us,[]⟩=pure (ps.zip us)):Binds K fd ps []:=by
 obtain ⟨oc,od,kV,doc,pm,an,cdv,ct,osl,rfl,lk,hcd⟩:=F.ex
 exact .all (h kV doc pm an cdv ct)
theorem a75 {x qual:Str}{st:Stmt}{f:Addr}{oc:Value}{od an:Option Addr}{osl:Array (Option Value)}{kV doc pm cdv ct:Value}(l:K.lookup f=some ⟨oc,od,.func (W.fnOf x qual (defArgs st) (defBody st) (defScope st) .none kV doc pm an cdv ct),osl⟩)
 (c:W.codeIn K cdv qual=true) (k:W.keepIn K (.ref f)=true):Fun K x qual st f (W.fnOf x qual (defArgs st) (defBody st) (defScope st) .none kV doc pm an cdv ct):=⟨⟨oc,od,kV,doc,pm,an,cdv,ct,osl,rfl,l,c⟩,k⟩
end
theorem aw6 {A:Around}{k:Nat}(hr:Room k A):A.units+1<cLine:=Nat.lt_of_le_of_lt (Nat.add_le_add_left (by decide:1≤64) _) hr.units
section
variable {X:Cx}
theorem pv (i:Nat) {x:Str}{pos:Pos}(hN:X.N[i]?=some x:=by rfl) (hv:Vis X.env.scope x:=by first | exact Or.inl rfl | exact Or.inr (Or.inl rfl) | exact Or.inr (Or.inr rfl)) (hd:(x == ("__debug__":Str))=false:=by decide)
 (hcd:(x == ("__classdict__":Str))=false:=by decide):PE X (.Name x pos) (tVar i):=by2 hN hv hd hcd
end
theorem iteF {A B:Prop}(h:B):if false=true then A else B:=by
 rw [if_neg Bool.false_ne_true]
 exact h
theorem iteT {A B:Prop}(h:A):if true=true then A else B:=by
 rw [if_pos rfl]
 exact h
theorem ite2 {c A B:Prop} [Decidable c] (h1:c→A) (h2:¬ c→B):if c then A else B:=by
 by_cases h:c
 · rw [if_pos h]
   exact h1 h
 · rw [if_neg h]
   exact h2 h
def Same (H H':Hp):Prop:=∀ b o,H b=some o→H' b=some o
theorem Same.refl (H:Hp):Same H H:=fun _ _ h=>h
theorem Same.trans {H H1 H2:Hp}(a:Same H H1) (b:Same H1 H2):Same H H2:=fun c o h=>b c o (a c o h)
theorem Same.free {H H':Hp}(e:Same H H') {l:Addr}(h:H' l=Option.none):H l=Option.none:=by
 cases q:H l with
 | none=>rfl
 | some o =>
   rw [e l o q] at h
   cases h
theorem Same.seq {K:W.Frag}{H H':Hp}{a:Addr}{xs:List V}(e:Same H H') (h:SqL K H a xs):SqL K H' a xs:=by
 rcases h with (h | ⟨o,h⟩) | h
 · exact .inl (.inl (e _ _ h))
 · exact .inl (.inr ⟨o,e _ _ h⟩)
 · exact .inr h
end L2
namespace K59
open PySem L2
def top (i:Nat):Stmt:=PySem.Challenge.pw_callmill_k59_least_rooms.main.body.getD i (.Pass ⟨0,0,0,0⟩)
def view:Program:={ PySem.Challenge.pw_callmill_k59_least_rooms with main:={ PySem.Challenge.pw_callmill_k59_least_rooms.main with body:=[top 1,top 3,top 4,top 5,top 6,top 7,top 8,top 9,top 11,top 13,top 14,top 16,top 17,top 18,top 19,top 20,top 21,top 22,top 23,top 24,top 25,top 26,top 27] } }
abbrev a67:Stmt:=top 1
abbrev a50:Stmt:=top 3
abbrev a87:Stmt:=top 4
abbrev a97:Stmt:=top 5
abbrev aa5:Stmt:=top 6
abbrev a36:Stmt:=inClass (top 7) 0
abbrev a49:Stmt:=inClass (top 7) 1
abbrev a37:Stmt:=inClass (top 7) 2
abbrev a34:Stmt:=inClass (top 7) 3
abbrev a40:Stmt:=inClass (top 7) 4
abbrev a33:Stmt:=inClass (top 7) 5
abbrev a57:Stmt:=top 8
abbrev a58:Stmt:=top 9
abbrev a70:Stmt:=top 11
abbrev a38:Stmt:=top 13
abbrev a88:Stmt:=top 14
abbrev a92:Stmt:=top 16
abbrev a89:Stmt:=top 17
abbrev a93:Stmt:=top 18
abbrev a68:Stmt:=top 19
abbrev a62:Stmt:=top 20
abbrev a56:Stmt:=top 21
abbrev a51:Stmt:=top 22
abbrev a85:Stmt:=top 23
abbrev a59:Stmt:=top 24
abbrev a71:Stmt:=top 25
abbrev a63:Stmt:=top 26
abbrev ai0:Stmt:=top 27
def am0 (K:W.Frag):Sp:=fun vs H Q _=>∃ (a:Addr) (ns:List Int),vs=[.ref a]∧SqL K H a (ns.map V.int)∧ns.length≤63∧∀ H',Q (.bl true) H'
theorem walk {l:W.OpenLaw}{q:Program}{loose:List Str}{XP:(Str→Option Value)→Heap→Prop}{YP:World→Heap→Prop}{d:DefRec}{K:Params→W.Frag}(hn:l.most=some 63) (hdf:d.params.defaults=[])
 (hY:∀ (w:World) (h:Heap),YP w h→(K w.params).In h)
 (F:∀ (w:World) (mg:Str→Option Value) (fa:Addr) (h:Heap),(K w.params).In h→h.Ns mainGlobals mg→mg d.name=some (.ref fa) →
  ∃ fd:FuncData,(∀ (s:Shared) (u:Value),BindsTo s fd ⟨[u],[]⟩ [("script",u)])∧∀ base:Heap,(K w.params).In base→base.Ns mainGlobals mg→FnOk l.prog w (K w.params) mg base CX0 7 fa fd ["script"] (am0 (K w.params))) :
 W.WalkO q loose XP YP l.row.toRowW d [] (fun f vs=>PySem.call f vs) :=
 L2.walk_of (n:=63) (k:=7) (x:="script") (CX:=fun _=>CX0) (sp:=fun w=>am0 (K w.params)) hn (by decide) hdf ⟨rfl,by decide,by decide⟩ hY F (fun _ _ a ns hl _ hS=>⟨a,ns,rfl,hS,hl,fun _=>rfl⟩) fun _ _ _ _ _ z=>z
def HF (P:Params) (K:W.Frag):Prop:=∀ R:Prop,(∀
 {C_Grouping:Addr}(aC_Grouping:W.nsIn K mainGlobals "Grouping"=some (some (.ref C_Grouping)))
 (pg_Grouping:W.plainGet K C_Grouping Str.empty=true) (hd_Grouping:W.hasDictIn K C_Grouping=true) (po_Grouping:W.plainOver K C_Grouping=true) (sa_Grouping:W.findIn K (.ref C_Grouping) "__setattr__"=some (some (.builtin "object.__setattr__"))) (mk_Grouping:W.makesIn K C_Grouping=true) (kc_Grouping:W.keepIn K (.ref C_Grouping)=true)
 (nF_Grouping_groups:W.findIn K (.ref C_Grouping) "groups"=some none)
 (nF_Grouping_members:W.findIn K (.ref C_Grouping) "members"=some none)
 (nF_Grouping_sources:W.findIn K (.ref C_Grouping) "sources"=some none)
 (nF_Grouping_touched:W.findIn K (.ref C_Grouping) "touched"=some none)
 (nF_Grouping_waiting:W.findIn K (.ref C_Grouping) "waiting"=some none)
 (nF_Grouping_ways:W.findIn K (.ref C_Grouping) "ways"=some none)
 {f0:Addr}{od0 an0:Option Addr}{sl0:Array (Option Value)}{oc0 kV0 dc0 pm0 cd0 ct0:Value}
 {f1:Addr}{od1 an1:Option Addr}{sl1:Array (Option Value)}{oc1 kV1 dc1 pm1 cd1 ct1:Value}
 {f2:Addr}{od2 an2:Option Addr}{sl2:Array (Option Value)}{oc2 kV2 dc2 pm2 cd2 ct2:Value}
 {f3:Addr}{od3 an3:Option Addr}{sl3:Array (Option Value)}{oc3 kV3 dc3 pm3 cd3 ct3:Value}
 {f4:Addr}{od4 an4:Option Addr}{sl4:Array (Option Value)}{oc4 kV4 dc4 pm4 cd4 ct4:Value}
 {f5:Addr}{od5 an5:Option Addr}{sl5:Array (Option Value)}{oc5 kV5 dc5 pm5 cd5 ct5:Value}
 {f6:Addr}{od6 an6:Option Addr}{sl6:Array (Option Value)}{oc6 kV6 dc6 pm6 cd6 ct6:Value}
 {f7:Addr}{od7 an7:Option Addr}{sl7:Array (Option Value)}{oc7 kV7 dc7 pm7 cd7 ct7:Value}
 {f8:Addr}{od8 an8:Option Addr}{sl8:Array (Option Value)}{oc8 kV8 dc8 pm8 cd8 ct8:Value}
 {f9:Addr}{od9 an9:Option Addr}{sl9:Array (Option Value)}{oc9 kV9 dc9 pm9 cd9 ct9:Value}
 {f10:Addr}{od10 an10:Option Addr}{sl10:Array (Option Value)}{oc10 kV10 dc10 pm10 cd10 ct10:Value}
 {f11:Addr}{od11 an11:Option Addr}{sl11:Array (Option Value)}{oc11 kV11 dc11 pm11 cd11 ct11:Value}
 {f12:Addr}{od12 an12:Option Addr}{sl12:Array (Option Value)}{oc12 kV12 dc12 pm12 cd12 ct12:Value}
 {f13:Addr}{od13 an13:Option Addr}{sl13:Array (Option Value)}{oc13 kV13 dc13 pm13 cd13 ct13:Value}
 {f14:Addr}{od14 an14:Option Addr}{sl14:Array (Option Value)}{oc14 kV14 dc14 pm14 cd14 ct14:Value}
 {f15:Addr}{od15 an15:Option Addr}{sl15:Array (Option Value)}{oc15 kV15 dc15 pm15 cd15 ct15:Value}
 {f16:Addr}{od16 an16:Option Addr}{sl16:Array (Option Value)}{oc16 kV16 dc16 pm16 cd16 ct16:Value}
 {f17:Addr}{od17 an17:Option Addr}{sl17:Array (Option Value)}{oc17 kV17 dc17 pm17 cd17 ct17:Value}
 {f18:Addr}{od18 an18:Option Addr}{sl18:Array (Option Value)}{oc18 kV18 dc18 pm18 cd18 ct18:Value}
 {f19:Addr}{od19 an19:Option Addr}{sl19:Array (Option Value)}{oc19 kV19 dc19 pm19 cd19 ct19:Value}
 {f20:Addr}{od20 an20:Option Addr}{sl20:Array (Option Value)}{oc20 kV20 dc20 pm20 cd20 ct20:Value}
 {f21:Addr}{od21 an21:Option Addr}{sl21:Array (Option Value)}{oc21 kV21 dc21 pm21 cd21 ct21:Value}
 {f22:Addr}{od22 an22:Option Addr}{sl22:Array (Option Value)}{oc22 kV22 dc22 pm22 cd22 ct22:Value}
 {f23:Addr}{od23 an23:Option Addr}{sl23:Array (Option Value)}{oc23 kV23 dc23 pm23 cd23 ct23:Value}
 {f24:Addr}{od24 an24:Option Addr}{sl24:Array (Option Value)}{oc24 kV24 dc24 pm24 cd24 ct24:Value}
 {f25:Addr}{od25 an25:Option Addr}{sl25:Array (Option Value)}{oc25 kV25 dc25 pm25 cd25 ct25:Value}
 {f26:Addr}{od26 an26:Option Addr}{sl26:Array (Option Value)}{oc26 kV26 dc26 pm26 cd26 ct26:Value}
 {f27:Addr}{od27 an27:Option Addr}{sl27:Array (Option Value)}{oc27 kV27 dc27 pm27 cd27 ct27:Value}
 (a0:W.nsIn K mainGlobals "found_from"=some (some (.ref f0))) (l0:K.lookup f0=some ⟨oc0,od0,.func (W.fnOf "found_from" "found_from" (defArgs a67) (defBody a67) (defScope a67) .none kV0 dc0 pm0 an0 cd0 ct0),sl0⟩) (c0:W.codeIn K cd0 "found_from"=true) (k0:W.keepIn K (.ref f0)=true)
 (a1:W.nsIn K mainGlobals "put_together"=some (some (.ref f1))) (l1:K.lookup f1=some ⟨oc1,od1,.func (W.fnOf "put_together" "put_together" (defArgs a50) (defBody a50) (defScope a50) .none kV1 dc1 pm1 an1 cd1 ct1),sl1⟩) (c1:W.codeIn K cd1 "put_together"=true) (k1:W.keepIn K (.ref f1)=true)
 (a2:W.nsIn K mainGlobals "numbered"=some (some (.ref f2))) (l2:K.lookup f2=some ⟨oc2,od2,.func (W.fnOf "numbered" "numbered" (defArgs a87) (defBody a87) (defScope a87) .none kV2 dc2 pm2 an2 cd2 ct2),sl2⟩) (c2:W.codeIn K cd2 "numbered"=true) (k2:W.keepIn K (.ref f2)=true)
 (a3:W.nsIn K mainGlobals "counted"=some (some (.ref f3))) (l3:K.lookup f3=some ⟨oc3,od3,.func (W.fnOf "counted" "counted" (defArgs a97) (defBody a97) (defScope a97) .none kV3 dc3 pm3 an3 cd3 ct3),sl3⟩) (c3:W.codeIn K cd3 "counted"=true) (k3:W.keepIn K (.ref f3)=true)
 (a4:W.nsIn K mainGlobals "firsts"=some (some (.ref f4))) (l4:K.lookup f4=some ⟨oc4,od4,.func (W.fnOf "firsts" "firsts" (defArgs aa5) (defBody aa5) (defScope aa5) .none kV4 dc4 pm4 an4 cd4 ct4),sl4⟩) (c4:W.codeIn K cd4 "firsts"=true) (k4:W.keepIn K (.ref f4)=true)
 (a5:W.findIn K (.ref C_Grouping) "__init__"=some (some (.ref f5))) (i5:W.isFn K (.ref f5)=true) (l5:K.lookup f5=some ⟨oc5,od5,.func (W.fnOf "__init__" "Grouping.__init__" (defArgs a36) (defBody a36) (defScope a36) .none kV5 dc5 pm5 an5 cd5 ct5),sl5⟩) (c5:W.codeIn K cd5 "Grouping.__init__"=true) (k5:W.keepIn K (.ref f5)=true)
 (a6:W.findIn K (.ref C_Grouping) "part"=some (some (.ref f6))) (i6:W.isFn K (.ref f6)=true) (l6:K.lookup f6=some ⟨oc6,od6,.func (W.fnOf "part" "Grouping.part" (defArgs a49) (defBody a49) (defScope a49) .none kV6 dc6 pm6 an6 cd6 ct6),sl6⟩) (c6:W.codeIn K cd6 "Grouping.part"=true) (k6:W.keepIn K (.ref f6)=true)
 (a7:W.findIn K (.ref C_Grouping) "parts_of"=some (some (.ref f7))) (i7:W.isFn K (.ref f7)=true) (l7:K.lookup f7=some ⟨oc7,od7,.func (W.fnOf "parts_of" "Grouping.parts_of" (defArgs a37) (defBody a37) (defScope a37) .none kV7 dc7 pm7 an7 cd7 ct7),sl7⟩) (c7:W.codeIn K cd7 "Grouping.parts_of"=true) (k7:W.keepIn K (.ref f7)=true)
 (a8:W.findIn K (.ref C_Grouping) "led_groups"=some (some (.ref f8))) (i8:W.isFn K (.ref f8)=true) (l8:K.lookup f8=some ⟨oc8,od8,.func (W.fnOf "led_groups" "Grouping.led_groups" (defArgs a34) (defBody a34) (defScope a34) .none kV8 dc8 pm8 an8 cd8 ct8),sl8⟩) (c8:W.codeIn K cd8 "Grouping.led_groups"=true) (k8:W.keepIn K (.ref f8)=true)
 (a9:W.findIn K (.ref C_Grouping) "regroup"=some (some (.ref f9))) (i9:W.isFn K (.ref f9)=true) (l9:K.lookup f9=some ⟨oc9,od9,.func (W.fnOf "regroup" "Grouping.regroup" (defArgs a40) (defBody a40) (defScope a40) .none kV9 dc9 pm9 an9 cd9 ct9),sl9⟩) (c9:W.codeIn K cd9 "Grouping.regroup"=true) (k9:W.keepIn K (.ref f9)=true)
 (a10:W.findIn K (.ref C_Grouping) "touch_sources"=some (some (.ref f10))) (i10:W.isFn K (.ref f10)=true) (l10:K.lookup f10=some ⟨oc10,od10,.func (W.fnOf "touch_sources" "Grouping.touch_sources" (defArgs a33) (defBody a33) (defScope a33) .none kV10 dc10 pm10 an10 cd10 ct10),sl10⟩) (c10:W.codeIn K cd10 "Grouping.touch_sources"=true) (k10:W.keepIn K (.ref f10)=true)
 (a11:W.nsIn K mainGlobals "sources_of"=some (some (.ref f11))) (l11:K.lookup f11=some ⟨oc11,od11,.func (W.fnOf "sources_of" "sources_of" (defArgs a57) (defBody a57) (defScope a57) .none kV11 dc11 pm11 an11 cd11 ct11),sl11⟩) (c11:W.codeIn K cd11 "sources_of"=true) (k11:W.keepIn K (.ref f11)=true)
 (a12:W.nsIn K mainGlobals "members_of"=some (some (.ref f12))) (l12:K.lookup f12=some ⟨oc12,od12,.func (W.fnOf "members_of" "members_of" (defArgs a58) (defBody a58) (defScope a58) .none kV12 dc12 pm12 an12 cd12 ct12),sl12⟩) (c12:W.codeIn K cd12 "members_of"=true) (k12:W.keepIn K (.ref f12)=true)
 (a13:W.nsIn K mainGlobals "room_with"=some (some (.ref f13))) (l13:K.lookup f13=some ⟨oc13,od13,.func (W.fnOf "room_with" "room_with" (defArgs a70) (defBody a70) (defScope a70) .none kV13 dc13 pm13 an13 cd13 ct13),sl13⟩) (c13:W.codeIn K cd13 "room_with"=true) (k13:W.keepIn K (.ref f13)=true)
 (a14:W.nsIn K mainGlobals "least_table"=some (some (.ref f14))) (l14:K.lookup f14=some ⟨oc14,od14,.func (W.fnOf "least_table" "least_table" (defArgs a38) (defBody a38) (defScope a38) .none kV14 dc14 pm14 an14 cd14 ct14),sl14⟩) (c14:W.codeIn K cd14 "least_table"=true) (k14:W.keepIn K (.ref f14)=true)
 (a15:W.nsIn K mainGlobals "label_of"=some (some (.ref f15))) (l15:K.lookup f15=some ⟨oc15,od15,.func (W.fnOf "label_of" "label_of" (defArgs a88) (defBody a88) (defScope a88) .none kV15 dc15 pm15 an15 cd15 ct15),sl15⟩) (c15:W.codeIn K cd15 "label_of"=true) (k15:W.keepIn K (.ref f15)=true)
 (a16:W.nsIn K mainGlobals "_law_next"=some (some (.ref f16))) (l16:K.lookup f16=some ⟨oc16,od16,.func (W.fnOf "_law_next" "_law_next" (defArgs a92) (defBody a92) (defScope a92) .none kV16 dc16 pm16 an16 cd16 ct16),sl16⟩) (c16:W.codeIn K cd16 "_law_next"=true) (k16:W.keepIn K (.ref f16)=true)
 (a17:W.nsIn K mainGlobals "_law_deck"=some (some (.ref f17))) (l17:K.lookup f17=some ⟨oc17,od17,.func (W.fnOf "_law_deck" "_law_deck" (defArgs a89) (defBody a89) (defScope a89) .none kV17 dc17 pm17 an17 cd17 ct17),sl17⟩) (c17:W.codeIn K cd17 "_law_deck"=true) (k17:W.keepIn K (.ref f17)=true)
 (a18:W.nsIn K mainGlobals "_law_said"=some (some (.ref f18))) (l18:K.lookup f18=some ⟨oc18,od18,.func (W.fnOf "_law_said" "_law_said" (defArgs a93) (defBody a93) (defScope a93) .none kV18 dc18 pm18 an18 cd18 ct18),sl18⟩) (c18:W.codeIn K cd18 "_law_said"=true) (k18:W.keepIn K (.ref f18)=true)
 (a19:W.nsIn K mainGlobals "_law_events"=some (some (.ref f19))) (l19:K.lookup f19=some ⟨oc19,od19,.func (W.fnOf "_law_events" "_law_events" (defArgs a68) (defBody a68) (defScope a68) .none kV19 dc19 pm19 an19 cd19 ct19),sl19⟩) (c19:W.codeIn K cd19 "_law_events"=true) (k19:W.keepIn K (.ref f19)=true)
 (a20:W.nsIn K mainGlobals "_law_table"=some (some (.ref f20))) (l20:K.lookup f20=some ⟨oc20,od20,.func (W.fnOf "_law_table" "_law_table" (defArgs a62) (defBody a62) (defScope a62) .none kV20 dc20 pm20 an20 cd20 ct20),sl20⟩) (c20:W.codeIn K cd20 "_law_table"=true) (k20:W.keepIn K (.ref f20)=true)
 (a21:W.nsIn K mainGlobals "_law_lengths"=some (some (.ref f21))) (l21:K.lookup f21=some ⟨oc21,od21,.func (W.fnOf "_law_lengths" "_law_lengths" (defArgs a56) (defBody a56) (defScope a56) .none kV21 dc21 pm21 an21 cd21 ct21),sl21⟩) (c21:W.codeIn K cd21 "_law_lengths"=true) (k21:W.keepIn K (.ref f21)=true)
 (a22:W.nsIn K mainGlobals "_law_shortest"=some (some (.ref f22))) (l22:K.lookup f22=some ⟨oc22,od22,.func (W.fnOf "_law_shortest" "_law_shortest" (defArgs a51) (defBody a51) (defScope a51) .none kV22 dc22 pm22 an22 cd22 ct22),sl22⟩) (c22:W.codeIn K cd22 "_law_shortest"=true) (k22:W.keepIn K (.ref f22)=true)
 (a23:W.nsIn K mainGlobals "_law_due"=some (some (.ref f23))) (l23:K.lookup f23=some ⟨oc23,od23,.func (W.fnOf "_law_due" "_law_due" (defArgs a85) (defBody a85) (defScope a85) .none kV23 dc23 pm23 an23 cd23 ct23),sl23⟩) (c23:W.codeIn K cd23 "_law_due"=true) (k23:W.keepIn K (.ref f23)=true)
 (a24:W.nsIn K mainGlobals "_law_copied"=some (some (.ref f24))) (l24:K.lookup f24=some ⟨oc24,od24,.func (W.fnOf "_law_copied" "_law_copied" (defArgs a59) (defBody a59) (defScope a59) .none kV24 dc24 pm24 an24 cd24 ct24),sl24⟩) (c24:W.codeIn K cd24 "_law_copied"=true) (k24:W.keepIn K (.ref f24)=true)
 (a25:W.nsIn K mainGlobals "_law_lists"=some (some (.ref f25))) (l25:K.lookup f25=some ⟨oc25,od25,.func (W.fnOf "_law_lists" "_law_lists" (defArgs a71) (defBody a71) (defScope a71) .none kV25 dc25 pm25 an25 cd25 ct25),sl25⟩) (c25:W.codeIn K cd25 "_law_lists"=true) (k25:W.keepIn K (.ref f25)=true)
 (a26:W.nsIn K mainGlobals "_law_plain"=some (some (.ref f26))) (l26:K.lookup f26=some ⟨oc26,od26,.func (W.fnOf "_law_plain" "_law_plain" (defArgs a63) (defBody a63) (defScope a63) .none kV26 dc26 pm26 an26 cd26 ct26),sl26⟩) (c26:W.codeIn K cd26 "_law_plain"=true) (k26:W.keepIn K (.ref f26)=true)
 (a27:W.nsIn K mainGlobals "law"=some (some (.ref f27))) (l27:K.lookup f27=some ⟨oc27,od27,.func (W.fnOf "law" "law" (defArgs ai0) (defBody ai0) (defScope ai0) .none kV27 dc27 pm27 an27 cd27 ct27),sl27⟩) (c27:W.codeIn K cd27 "law"=true) (k27:W.keepIn K (.ref f27)=true)
 (z_bool:W.nsIn K mainGlobals "bool"=some none)
 (z_dict:W.nsIn K mainGlobals "dict"=some none)
 (z_enumerate:W.nsIn K mainGlobals "enumerate"=some none)
 (z_int:W.nsIn K mainGlobals "int"=some none)
 (z_isinstance:W.nsIn K mainGlobals "isinstance"=some none)
 (z_len:W.nsIn K mainGlobals "len"=some none)
 (z_list:W.nsIn K mainGlobals "list"=some none)
 (z_max:W.nsIn K mainGlobals "max"=some none)
 (z_min:W.nsIn K mainGlobals "min"=some none)
 (z_range:W.nsIn K mainGlobals "range"=some none)
 (z_sorted:W.nsIn K mainGlobals "sorted"=some none)
 (z_sum:W.nsIn K mainGlobals "sum"=some none)
 (z_tuple:W.nsIn K mainGlobals "tuple"=some none)
 (z_zip:W.nsIn K mainGlobals "zip"=some none),R)→R
theorem walk2 {l:W.OpenLaw}{q:Program}{loose:List Str}{XP:(Str→Option Value)→Heap→Prop}{YP:World→Heap→Prop}{d:DefRec}{K:Params→W.Frag}(hn:l.most=some 63) (hdf:d.params.defaults=[]) (hd:d.name="law") (hl:l=PySem.Challenge.rw_callmill_k59_least_rooms) (hY:∀ (w:World) (h:Heap),YP w h→(K w.params).In h) (hF:∀ P,HF P (K P)) (G:∀ K:Params→W.Frag,(∀ P,HF P (K P))→(∀ (w:World) (mg:Str→Option Value) (fa:Addr) (h:Heap),(K w.params).In h→h.Ns mainGlobals mg→mg "law"=some (.ref fa)→∃ fd:FuncData,(∀ (s:Shared) (u:Value),BindsTo s fd ⟨[u],[]⟩ [("script",u)])∧∀ base:Heap,(K w.params).In base→base.Ns mainGlobals mg→FnOk PySem.Challenge.rw_callmill_k59_least_rooms.prog w (K w.params) mg base CX0 7 fa fd ["script"] (am0 (K w.params)))):W.WalkO q loose XP YP l.row.toRowW d [] (fun f vs=>PySem.call f vs):=walk hn hdf hY (by rw [hd,hl]; exact G K hF)
section
open PySem PySem.W PyProof.Rows
local macro_rules | `(tactic| o_head $H) => `(tactic| refine holds_open (q := K59.view) (loose := []) (Xt := fun s => xlAt K59.view [] s && recOk (RowW.records _) s) (XP := XL K59.view []) (Yf := Hook.obs $H) (Ya := Hook.val $H) (YP := Hook.says $H) (N := 8000) ?hl (Hook.of $H) (Hook.keeps $H) (fun s e => xl_of s (Bool.and_eq_true_iff.mp e).1) XL.keeps (by rfl) (by rfl) (by rfl) (fun s e => recFacts_of (Bool.and_eq_true_iff.mp e).2) (by rfl) (by first | assumption | decide +kernel) (by decide +kernel) ⟨rfl, rfl, rfl, rfl, rfl, by decide +kernel⟩ ?hw ?hc)
set_option maxRecDepth 100000 in
set_option maxHeartbeats 0 in
theorem head (G:∀ K:Params→W.Frag,(∀ P,HF P (K P))→(∀ (w:World) (mg:Str→Option Value) (fa:Addr) (h:Heap),(K w.params).In h→h.Ns mainGlobals mg→mg "law"=some (.ref fa)→∃ fd:FuncData,(∀ (s:Shared) (u:Value),BindsTo s fd ⟨[u],[]⟩ [("script",u)])∧∀ base:Heap,(K w.params).In base→base.Ns mainGlobals mg→FnOk PySem.Challenge.rw_callmill_k59_least_rooms.prog w (K w.params) mg base CX0 7 fa fd ["script"] (am0 (K w.params)))):PySem.Challenge.rw_callmill_k59_least_rooms.Holds:=by
 w_on; o_law; k_head; (case hw=>w_witness2); (case hl=>intro w; kernel_rfl)
 k_fill
 refine K59.walk2 (l:=PySem.Challenge.rw_callmill_k59_least_rooms) rfl rfl rfl rfl (fun w h Y=>W.kIn_of Y) ?facts G
 case facts =>
  intro P R kk
  refine' kk ?aC_Grouping ?pg_Grouping ?hd_Grouping ?po_Grouping ?sa_Grouping ?mk_Grouping ?kc_Grouping ?nF_Grouping_groups ?nF_Grouping_members ?nF_Grouping_sources ?nF_Grouping_touched ?nF_Grouping_waiting ?nF_Grouping_ways ?a0 ?l0 ?c0 ?k0 ?a1 ?l1 ?c1 ?k1 ?a2 ?l2 ?c2 ?k2 ?a3 ?l3 ?c3 ?k3 ?a4 ?l4 ?c4 ?k4 ?a5 ?i5 ?l5 ?c5 ?k5 ?a6 ?i6 ?l6 ?c6 ?k6 ?a7 ?i7 ?l7 ?c7 ?k7 ?a8 ?i8 ?l8 ?c8 ?k8 ?a9 ?i9 ?l9 ?c9 ?k9 ?a10 ?i10 ?l10 ?c10 ?k10 ?a11 ?l11 ?c11 ?k11 ?a12 ?l12 ?c12 ?k12 ?a13 ?l13 ?c13 ?k13 ?a14 ?l14 ?c14 ?k14 ?a15 ?l15 ?c15 ?k15 ?a16 ?l16 ?c16 ?k16 ?a17 ?l17 ?c17 ?k17 ?a18 ?l18 ?c18 ?k18 ?a19 ?l19 ?c19 ?k19 ?a20 ?l20 ?c20 ?k20 ?a21 ?l21 ?c21 ?k21 ?a22 ?l22 ?c22 ?k22 ?a23 ?l23 ?c23 ?k23 ?a24 ?l24 ?c24 ?k24 ?a25 ?l25 ?c25 ?k25 ?a26 ?l26 ?c26 ?k26 ?a27 ?l27 ?c27 ?k27 ?z_bool ?z_dict ?z_enumerate ?z_int ?z_isinstance ?z_len ?z_list ?z_max ?z_min ?z_range ?z_sorted ?z_sum ?z_tuple ?z_zip
  (case aC_Grouping=>k_is)
  (case pg_Grouping=>k_is)
  (case hd_Grouping=>k_is)
  (case po_Grouping=>k_is)
  (case sa_Grouping=>k_is)
  (case mk_Grouping=>k_is)
  (case kc_Grouping=>k_is)
  (case nF_Grouping_groups=>k_is)
  (case nF_Grouping_members=>k_is)
  (case nF_Grouping_sources=>k_is)
  (case nF_Grouping_touched=>k_is)
  (case nF_Grouping_waiting=>k_is)
  (case nF_Grouping_ways=>k_is)
  (case a0=>k_is)
  (case l0=>k_is)
  (case c0=>k_is)
  (case k0=>k_is)
  (case a1=>k_is)
  (case l1=>k_is)
  (case c1=>k_is)
  (case k1=>k_is)
  (case a2=>k_is)
  (case l2=>k_is)
  (case c2=>k_is)
  (case k2=>k_is)
  (case a3=>k_is)
  (case l3=>k_is)
  (case c3=>k_is)
  (case k3=>k_is)
  (case a4=>k_is)
  (case l4=>k_is)
  (case c4=>k_is)
  (case k4=>k_is)
  (case a5=>k_is)
  (case i5=>k_is)
  (case l5=>k_is)
  (case c5=>k_is)
  (case k5=>k_is)
  (case a6=>k_is)
  (case i6=>k_is)
  (case l6=>k_is)
  (case c6=>k_is)
  (case k6=>k_is)
  (case a7=>k_is)
  (case i7=>k_is)
  (case l7=>k_is)
  (case c7=>k_is)
  (case k7=>k_is)
  (case a8=>k_is)
  (case i8=>k_is)
  (case l8=>k_is)
  (case c8=>k_is)
  (case k8=>k_is)
  (case a9=>k_is)
  (case i9=>k_is)
  (case l9=>k_is)
  (case c9=>k_is)
  (case k9=>k_is)
  (case a10=>k_is)
  (case i10=>k_is)
  (case l10=>k_is)
  (case c10=>k_is)
  (case k10=>k_is)
  (case a11=>k_is)
  (case l11=>k_is)
  (case c11=>k_is)
  (case k11=>k_is)
  (case a12=>k_is)
  (case l12=>k_is)
  (case c12=>k_is)
  (case k12=>k_is)
  (case a13=>k_is)
  (case l13=>k_is)
  (case c13=>k_is)
  (case k13=>k_is)
  (case a14=>k_is)
  (case l14=>k_is)
  (case c14=>k_is)
  (case k14=>k_is)
  (case a15=>k_is)
  (case l15=>k_is)
  (case c15=>k_is)
  (case k15=>k_is)
  (case a16=>k_is)
  (case l16=>k_is)
  (case c16=>k_is)
  (case k16=>k_is)
  (case a17=>k_is)
  (case l17=>k_is)
  (case c17=>k_is)
  (case k17=>k_is)
  (case a18=>k_is)
  (case l18=>k_is)
  (case c18=>k_is)
  (case k18=>k_is)
  (case a19=>k_is)
  (case l19=>k_is)
  (case c19=>k_is)
  (case k19=>k_is)
  (case a20=>k_is)
  (case l20=>k_is)
  (case c20=>k_is)
  (case k20=>k_is)
  (case a21=>k_is)
  (case l21=>k_is)
  (case c21=>k_is)
  (case k21=>k_is)
  (case a22=>k_is)
  (case l22=>k_is)
  (case c22=>k_is)
  (case k22=>k_is)
  (case a23=>k_is)
  (case l23=>k_is)
  (case c23=>k_is)
  (case k23=>k_is)
  (case a24=>k_is)
  (case l24=>k_is)
  (case c24=>k_is)
  (case k24=>k_is)
  (case a25=>k_is)
  (case l25=>k_is)
  (case c25=>k_is)
  (case k25=>k_is)
  (case a26=>k_is)
  (case l26=>k_is)
  (case c26=>k_is)
  (case k26=>k_is)
  (case a27=>k_is)
  (case l27=>k_is)
  (case c27=>k_is)
  (case k27=>k_is)
  (case z_bool=>k_is)
  (case z_dict=>k_is)
  (case z_enumerate=>k_is)
  (case z_int=>k_is)
  (case z_isinstance=>k_is)
  (case z_len=>k_is)
  (case z_list=>k_is)
  (case z_max=>k_is)
  (case z_min=>k_is)
  (case z_range=>k_is)
  (case z_sorted=>k_is)
  (case z_sum=>k_is)
  (case z_tuple=>k_is)
  (case z_zip=>k_is)
end
end K59
namespace L2
open PySem PySem.Spec PyProof.Rows
section
variable {κ:Type} [DecidableEq κ]
def valV (kvs:List (κ×V)) (k:κ):Option V:=(kvs.find? fun kv=>decide (kv.1=k)).map (·.2)
def putK (kvs:List (κ×V)) (k:κ) (v:V):List (κ×V) :=
 if (kvs.any fun kv=>decide (kv.1=k))=true then kvs.map (fun kv=>if kv.1=k then (kv.1,v) else kv) else kvs++[(k,v)]
theorem b00 {k:κ}:valV ([]:List (κ×V)) k=none:=rfl
theorem a83 {p:κ×V}{r:List (κ×V)}{k:κ}(e:p.1=k):valV (p::r) k=some p.2:=by simp [valV,List.find?_cons,e]
theorem a84 {p:κ×V}{r:List (κ×V)}{k:κ}(e:¬ p.1=k):valV (p::r) k=valV r k:=by simp [valV,List.find?_cons,e]
theorem ab3 (k:κ):∀ kvs:List (κ×V),(kvs.any fun kv=>decide (kv.1=k))=(valV kvs k).isSome
 | []=>rfl
 | p::r=>by
   rw [List.any_cons]
   by_cases e:p.1=k
   · simp only [a83 e,decide_eq_true e,Bool.true_or,Option.isSome_some]
   · rw [a84 e,decide_eq_false e,Bool.false_or]; exact ab3 k r
theorem b01 (k j:κ) (y:V):∀ kvs:List (κ×V),valV (kvs.map fun kv=>if kv.1=k then (kv.1,y) else kv) j=(valV kvs j).map fun x=>if j=k then y else x
 | []=>rfl
 | p::r=>by
   have ih:=b01 k j y r
   rw [List.map_cons]
   by_cases h:p.1=k
   · rw [if_pos h]
     by_cases e:p.1=j
     · rw [a83 (p:=(p.1,y)) e,a83 e,Option.map_some,if_pos (e.symm.trans h)]
     · rw [a84 (p:=(p.1,y)) e,a84 e,ih]
   · rw [if_neg h]
     by_cases e:p.1=j
     · rw [a83 (p:=p) e,a83 e,Option.map_some,if_neg (fun z=>h (e.trans z))]
     · rw [a84 (p:=p) e,a84 e,ih]
theorem as7 (k j:κ) (y:V):∀ kvs:List (κ×V),valV kvs k=none→valV (kvs++[(k,y)]) j=if j=k then some y else valV kvs j
 | [],_=>by
   by_cases e:k=j
   · rw [if_pos e.symm]; exact a83 (p:=(k,y)) e
   · rw [if_neg (fun z=>e z.symm)]; exact a84 (p:=(k,y)) e
 | p::r,hn=>by
   rw [List.cons_append]
   have hk:¬ p.1=k:=fun z=>by rw [a83 z] at hn; cases hn
   rw [a84 hk] at hn
   have ih:=as7 k j y r hn
   by_cases e:p.1=j
   · rw [a83 e,a83 e,if_neg (fun z=>hk (e.trans z))]
   · rw [a84 e,a84 e,ih]
theorem ao8 (kvs:List (κ×V)) (k j:κ) (y:V):valV (putK kvs k y) j=if j=k then some y else valV kvs j:=by
 unfold putK
 by_cases a:(kvs.any fun kv=>decide (kv.1=k))=true
 · rw [if_pos a,b01]
   rw [ab3] at a
   by_cases e:j=k
   · obtain ⟨x,hx⟩:=Option.isSome_iff_exists.mp a
     rw [if_pos e,e,hx,Option.map_some,if_pos rfl]
   · rw [if_neg e]
     cases valV kvs j with
     | none=>rfl
     | some x=>rw [Option.map_some,if_neg e]
 · rw [if_neg a]
   refine as7 k j y kvs ?_
   rw [ab3] at a
   cases q:valV kvs k with
   | none=>rfl
   | some x=>rw [q] at a; exact (a rfl).elim
theorem ac3 (kvs:List (κ×V)) (k:κ) (v:V):(putK kvs k v).length≤kvs.length+1:=by
 unfold putK
 split
 · rw [gL]; omega
 · rw [List.length_append,List.length_cons,List.length_nil]; omega
theorem bj2 {kvs:List (κ×V)}{k:κ}(v:V) (h:valV kvs k=none):putK kvs k v=kvs++[(k,v)]:=by
 unfold putK
 rw [ab3,h]
 exact if_neg (by decide)
theorem RelO.isSome_eq {o:Option V}{u:Option Value}(r:RelO o u):o.isSome=u.isSome:=by
 cases o with
 | none=>cases u with
   | none=>rfl
   | some _=>exact (show False from r).elim
 | some _=>cases u with
   | none=>exact (show False from r).elim
   | some _=>rfl
theorem KV.val {kvs:List (κ×V)}{vs:List (κ×Value)}(r:KV kvs vs) (k:κ):RelO (valV kvs k) (valueAt vs k):=by
 unfold KV at r
 induction r with
 | nil=>exact True.intro
 | @cons p q ps qs h t ih =>
   obtain ⟨h1,h2⟩:=h
   by_cases e:p.1=k
   · have e':q.1=k:=h1.symm.trans e
     have b:valueAt (q::qs) k=some q.2:=by simp [valueAt,List.find?_cons,e']
     rw [a83 e,b]; exact h2
   · have e':¬ q.1=k:=fun z=>e (h1.trans z)
     have b:valueAt (q::qs) k=valueAt qs k:=by simp [valueAt,List.find?_cons,e']
     rw [a84 e,b]; exact ih
theorem KV.any {kvs:List (κ×V)}{vs:List (κ×Value)}(r:KV kvs vs) (k:κ):(kvs.any fun kv=>decide (kv.1=k))=vs.any fun kv=>decide (kv.1=k):=by
 unfold KV at r
 induction r with
 | nil=>rfl
 | cons h t ih=>rw [List.any_cons,List.any_cons,ih,h.1]
theorem KV.repl {kvs:List (κ×V)}{vs:List (κ×Value)}(r:KV kvs vs) (k:κ) {y:V}{u:Value}(ry:RelV y u) :
 KV (kvs.map fun kv=>if kv.1=k then (kv.1,y) else kv) (vs.map fun kv=>if kv.1=k then (kv.1,u) else kv):=by
 unfold KV at r ⊢
 induction r with
 | nil=>exact .nil
 | @cons p q ps qs h t ih =>
   rw [List.map_cons,List.map_cons]
   refine .cons ?_ ih
   obtain ⟨h1,h2⟩:=h
   by_cases e:p.1=k
   · rw [if_pos e,if_pos (h1.symm.trans e)]; exact ⟨h1,ry⟩
   · rw [if_neg e,if_neg (fun z=>e (h1.trans z))]; exact ⟨h1,h2⟩
theorem KV.put {kvs:List (κ×V)}{vs:List (κ×Value)}(r:KV kvs vs) (k:κ) {y:V}{u:Value}(ry:RelV y u):KV (putK kvs k y) (stored vs k u):=by
 unfold putK stored
 rw [r.any k]
 by_cases e:(vs.any fun kv=>decide (kv.1=k))=true
 · rw [if_pos e,if_pos e]; exact r.repl k ry
 · rw [if_neg e,if_neg e]; exact Paired.snoc r ⟨rfl,ry⟩
theorem KV.keys {kvs:List (κ×V)}{vs:List (κ×Value)}(r:KV kvs vs):kvs.map (·.1)=vs.map (·.1):=by
 unfold KV at r
 induction r with
 | nil=>rfl
 | cons h t ih=>rw [List.map_cons,List.map_cons,ih,h.1]
theorem KV.length {kvs:List (κ×V)}{vs:List (κ×Value)}(r:KV kvs vs):kvs.length=vs.length:=Paired.length r
end
theorem aw7 {P:Program}{w:World}{k:Key}{u:Value}(r:RelV (kV k) u):(mixKind P w).is k u=true:=by
 cases k with
 | inl i=>obtain ⟨t,e⟩:=(show ∃ t,u=Value.int i t from r); subst e; exact aw2 P w i t
 | inr x=>obtain ⟨t,e⟩:=(show ∃ t,u=Value.str x t from r); subst e; exact aw3 P w x t
theorem as8 {P:Program}{w:World}:∀ {ks:List Key}{us:List Value},Vals (ks.map kV) us→ItemsAre (mixKind P w) ks us
 | [],_,r=>by rw [List.map_nil] at r; cases r; exact .nil
 | k::ks,_,r=>by
   rw [List.map_cons] at r
   cases r with
   | cons h t=>exact .cons (aw7 h) (as8 t)
abbrev KT (H:Hp):List (List Key×V)→List (List Key×Addr×Value)→Prop:=Paired fun p q=>p.1=q.1∧H q.2.1=some (.tup (p.1.map kV))∧RelV p.2 q.2.2
theorem KT.val {H:Hp}{kvs:List (List Key×V)}{xs:List (List Key×Addr×Value)}(r:KT H kvs xs) (k:List Key):RelO (valV kvs k) ((atKey xs k).map (·.2)):=by
 induction r with
 | nil=>exact True.intro
 | @cons p q ps qs h t ih =>
   obtain ⟨h1,_,h2⟩:=h
   by_cases e:p.1=k
   · have e':q.1=k:=h1.symm.trans e
     have b:atKey (q::qs) k=some q.2:=by simp [atKey,List.find?_cons,e']
     rw [a83 e,b]; exact h2
   · have e':¬ q.1=k:=fun z=>e (h1.trans z)
     have b:atKey (q::qs) k=atKey qs k:=by simp [atKey,List.find?_cons,e']
     rw [a84 e,b]; exact ih
theorem KT.repl {H:Hp}{kvs:List (List Key×V)}{xs:List (List Key×Addr×Value)}(r:KT H kvs xs) (k:List Key) {y:V}{u:Value}(ry:RelV y u) :
 KT H (kvs.map fun kv=>if kv.1=k then (kv.1,y) else kv) (xs.map (putAt k u)):=by
 induction r with
 | nil=>exact .nil
 | @cons p q ps qs h t ih =>
   rw [List.map_cons,List.map_cons]
   refine .cons ?_ ih
   obtain ⟨h1,h2,h3⟩:=h
   unfold putAt
   by_cases e:p.1=k
   · rw [if_pos e,if_pos (h1.symm.trans e)]; exact ⟨h1,h2,ry⟩
   · rw [if_neg e,if_neg (fun z=>e (h1.trans z))]; exact ⟨h1,h2,h3⟩
theorem KT.put {H:Hp}{kvs:List (List Key×V)}{xs:List (List Key×Addr×Value)}(r:KT H kvs xs) (k:List Key) {b:Addr}{y:V}{u:Value}(hb:H b=some (.tup (k.map kV))) (ry:RelV y u) :
 KT H (putK kvs k y) (storedH xs k b u):=by
 have e:(kvs.any fun kv=>decide (kv.1=k))=(atKey xs k).isSome:=by
  rw [ab3,(r.val k).isSome_eq,Option.isSome_map]
 unfold putK storedH
 rw [e]
 by_cases q:(atKey xs k).isSome=true
 · rw [if_pos q,if_pos q]; exact r.repl k ry
 · rw [if_neg q,if_neg q]; exact Paired.snoc r ⟨rfl,hb,ry⟩
theorem KT.keeps {H H':Hp}{kvs:List (List Key×V)}{xs:List (List Key×Addr×Value)}(r:KT H kvs xs) (ht:∀ b ys,H b=some (.tup ys)→H' b=some (.tup ys)):KT H' kvs xs :=
 Paired.mapP r fun _ _ z=>⟨z.1,ht _ _ z.2.1,z.2.2⟩
section
variable {P:Program}{w:World}{H:Hp}{h:Heap}{a:Addr}
theorem bz8 {u:HO}(ok:HOk P w H h) (e:Rd H a u):ObjOk P w H h a u:=e.ok ok
theorem b66 {kvs:List (Key×V)}(ok:HOk P w H h) (e:Rd H a (.dK kvs)):kvs.length≤sizeLine∧(a == sysModules)=false∧∃ vs,KV kvs vs∧h.DictOf (mixKind P w) a vs :=
 show ObjOk P w H h a (.dK kvs) from bz8 ok e
theorem br1 {kvs:List (Key×V)}(ok:HOk P w H h) (e:H a=some (.dK kvs)):kvs.length≤sizeLine∧(a == sysModules)=false∧∃ vs,KV kvs vs∧h.DictOf (mixKind P w) a vs:=b66 ok (.inl e)
theorem as9 {ks:List Key}(ok:HOk P w H h) (e:H a=some (.tup (ks.map kV))):(tupleKind (mixKind P w)).is h ks a:=by
 obtain ⟨_,its,r,o,h1,h2,n,h3⟩:=(show ObjOk P w H h a (.tup (ks.map kV)) from ok a _ e)
 exact ⟨o,its.toArray,n,h1,h2,h3,by simpa using as8 r⟩
theorem ba9 {kvs:List (List Key×V)}(ok:HOk P w H h) (e:Rd H a (.dT kvs)):kvs.length≤sizeLine∧(a == sysModules)=false ∧
 ∃ xs,KT H kvs xs∧h.DictOfH (tupleKind (mixKind P w)) a xs:=by
 obtain ⟨z,y,xs,r,o,es,ep,h1,h2,h3,h4,h5⟩:=(show ObjOk P w H h a (.dT kvs) from bz8 ok e)
 refine ⟨z,y,xs,r,o,es,ep,h1,h2,h3,h4,fun x hx=>?_,h5⟩
 have all:∀ {l:List (List Key×V)}{m:List (List Key×Addr×Value)},KT H l m→∀ x∈m,(tupleKind (mixKind P w)).is h x.1 x.2.1:=by
  intro l m q
  induction q with
  | nil=>intro x hx; exact nomatch hx
  | @cons p q ps qs hq t ih =>
    intro x hx
    rcases List.mem_cons.mp hx with e | hx
    · subst e
      exact as9 ok (by rw [← hq.1]; exact hq.2.1)
    · exact ih x hx
 exact all r x hx
theorem ca0 {kvs:List (List Key×V)}(ok:HOk P w H h) (e:H a=some (.dT kvs)):kvs.length≤sizeLine∧(a == sysModules)=false ∧
 ∃ xs,KT H kvs xs∧h.DictOfH (tupleKind (mixKind P w)) a xs:=ba9 ok (.inl e)
end
def DGet (H:Hp) (a:Addr) (y:V) (r:Option V):Prop :=
 (∃ kvs k,Rd H a (.dK kvs)∧y=kV k∧r=valV kvs k)∨∃ kvs k b,Rd H a (.dT kvs)∧y=.ref b∧H b=some (.tup (k.map kV))∧r=valV kvs k
def DPut (H:Hp) (a:Addr) (y v:V) (H':Hp):Prop :=
 (∃ kvs k,H a=some (.dK kvs)∧y=kV k∧kvs.length<sizeLine∧H'=upd H a (.dK (putK kvs k v))) ∨
 ∃ kvs k b,H a=some (.dT kvs)∧y=.ref b∧H b=some (.tup (k.map kV))∧kvs.length<sizeLine∧H'=upd H a (.dT (putK kvs k v))
theorem DGet.k {H:Hp}{a:Addr}{kvs:List (Key×V)}{k:Key}(e:H a=some (.dK kvs)):DGet H a (kV k) (valV kvs k):=.inl ⟨kvs,k,.inl e,rfl,rfl⟩
theorem DPut.k {H:Hp}{a:Addr}{kvs:List (Key×V)}{k:Key}{v:V}(e:H a=some (.dK kvs)) (hl:kvs.length<sizeLine):DPut H a (kV k) v (upd H a (.dK (putK kvs k v))):=.inl ⟨kvs,k,e,rfl,hl,rfl⟩
section
variable {X:Cx}{pins:List (Addr×Obj)}{σ:St} {H:Hp}{s:Shared}{a:Addr}{y v:V}{u r:Value}{o:Option V}{A:Around}{E:Value→Shared→Prop}
theorem Inv.big (I:Inv X pins σ H s):sysModules<s.heap.objs.size:=by
 have h:mainGlobals<s.heap.objs.size:=(I.mod.glob.keeps I.bk).lt
 exact Nat.lt_trans (by decide) h
theorem bb0 {Q:Value→Shared→Prop}(hu:A.units+1<cLine) (I:Inv X pins σ H s) (g:DGet H a y (some v)) (ry:RelV y u) (h:∀ w' s',Inv X pins σ H s'→RelV v w'→Q w' s') :
 wpAny (model X.prog X.w) A (getItem (.ref a) u) Q E s:=by
 rcases g with ⟨kvs,k,e,ey,l⟩ | ⟨kvs,k,b,e,ey,eb,l⟩
 · subst ey
   obtain ⟨z,hd,vs,rel,dd⟩:=b66 I.hok e
   obtain ⟨w',hw,rw'⟩:=RelO.some_of (v:=v) (o:=valueAt vs k) (by rw [l]; exact rel.val k)
   exact wpAny_getItem_of (aw7 ry) dd.mapOf hw (h w' _ (I.tok _) rw')
 · subst ey
   cases (show u=Value.ref b from ry)
   obtain ⟨z,hd,xs,rel,dd⟩:=ba9 I.hok e
   obtain ⟨w',hw,rw'⟩:=RelO.some_of (v:=v) (o:=(atKey xs k).map (·.2)) (by rw [l]; exact rel.val k)
   obtain ⟨p,hp,hp2⟩:=gO hw
   refine wpAny_getItem_heap (tupleKind_room_in1 hu) (as9 I.hok eb) dd hp ?_
   rw [hp2]
   exact h w' _ (I.tok _) rw'
theorem d_in {Q:Value→Shared→Prop}(hu:A.units+1<cLine) (I:Inv X pins σ H s) (g:DGet H a y o) (ry:RelV y u) (h:∀ s',Inv X pins σ H s'→Q (.bool o.isSome) s') :
 wpAny (model X.prog X.w) A (compareOp .In u (.ref a)) Q E s:=by
 rcases g with ⟨kvs,k,e,ey,l⟩ | ⟨kvs,k,b,e,ey,eb,l⟩
 · subst ey
   obtain ⟨z,hd,vs,rel,dd⟩:=b66 I.hok e
   refine wpAny_in_of (aw7 ry) hd dd.mapOf ?_
   rw [← (rel.val k).isSome_eq,←l]
   exact h _ (I.tok _)
 · subst ey
   cases (show u=Value.ref b from ry)
   obtain ⟨z,hd,xs,rel,dd⟩:=ba9 I.hok e
   refine wpAny_in_heap (tupleKind_room_in1 hu) (as9 I.hok eb) hd dd ?_
   have q:=(rel.val k).isSome_eq
   rw [Option.isSome_map] at q
   rw [← q,←l]
   exact h _ (I.tok _)
theorem br2 {Q:Value→Shared→Prop}(hu:A.units+1<cLine) (I:Inv X pins σ H s) (g:DGet H a y o) (ry:RelV y u) (h:∀ s',Inv X pins σ H s'→Q (.bool (!o.isSome)) s') :
 wpAny (model X.prog X.w) A (compareOp .NotIn u (.ref a)) Q E s:=by
 rcases g with ⟨kvs,k,e,ey,l⟩ | ⟨kvs,k,b,e,ey,eb,l⟩
 · subst ey
   obtain ⟨z,hd,vs,rel,dd⟩:=b66 I.hok e
   refine wpAny_notIn_of (aw7 ry) hd dd.mapOf ?_
   rw [← (rel.val k).isSome_eq,←l]
   exact h _ (I.tok _)
 · subst ey
   cases (show u=Value.ref b from ry)
   obtain ⟨z,hd,xs,rel,dd⟩:=ba9 I.hok e
   refine wpAny_notIn_heap (tupleKind_room_in1 hu) (as9 I.hok eb) hd dd ?_
   have q:=(rel.val k).isSome_eq
   rw [Option.isSome_map] at q
   rw [← q,←l]
   exact h _ (I.tok _)
theorem af1 {h':Heap}{t':Nat}{ob:HO}(I:Inv X pins σ H s) (mu:Mut (H a)) (hs:Heap.SameBut a s.heap h') (he:∃ q,h'.get? a=some q) (new:ObjOk X.prog X.w (upd H a ob) h' a ob) :
 Inv X pins σ (upd H a ob) { s with heap:=h',toks:=t' } :=
 I.write (x:=a) (e:=a) mu (.inl rfl) (fun b q hb z=>(hs.2 b hb).trans z) he new
theorem bb1 {P:Program}{w:World}{H':Hp}{h':Heap}{kvs:List (Key×V)}{vs:List (Key×Value)}(z:kvs.length≤sizeLine) (hd:(a == sysModules)=false) (rel:KV kvs vs) (dd:h'.DictOf (mixKind P w) a vs) :
 ObjOk P w H' h' a (.dK kvs):=⟨z,hd,vs,rel,dd⟩
theorem bb2 {H':Hp}{Q:Unit→Shared→Prop}(hu:A.units+1<cLine) (I:Inv X pins σ H s) (g:DPut H a y v H') (ry:RelV y u) (rv:RelV v r) (h:∀ s',Inv X pins σ H' s'→Q () s') :
 wpAny (model X.prog X.w) A (setItem (.ref a) u r) Q E s:=by
 rcases g with ⟨kvs,k,e,ey,l,eH⟩ | ⟨kvs,k,b,e,ey,eb,l,eH⟩
 · subst ey eH
   obtain ⟨z,hd,vs,rel,dd⟩:=br1 I.hok e
   have hz:vs.length≤sizeLine:=by rw [← rel.length]; exact z
   have hl:(putK kvs k v).length≤sizeLine:=by have:=ac3 kvs k v; omega
   refine wpAny_setItem_pairs (hsz:=hz) (aw7 ry) dd fun h' dd' hs=>h _ ?_
   have he:∃ q,h'.get? a=some q:=let ⟨q,_,_,hq,_⟩:=dd'; ⟨q,hq⟩
   exact af1 I (by rw [e]; exact True.intro) hs he (bb1 hl hd (rel.put k rv) dd')
 · subst ey eH
   cases (show u=Value.ref b from ry)
   obtain ⟨z,hd,xs,rel,dd⟩:=ca0 I.hok e
   have hz:xs.length≤sizeLine:=by rw [← Paired.length rel]; exact z
   have hl:(putK kvs k v).length≤sizeLine:=by have:=ac3 kvs k v; omega
   refine wpAny_setItem_heap (hsz:=hz) (tupleKind_room_in1 hu) (as9 I.hok eb) dd fun h' dd' hs=>h _ ?_
   obtain ⟨q,es,ep,hq,h2,h3,h4,_,h5⟩:=dd'
   refine af1 I (by rw [e]; exact True.intro) hs ⟨q,hq⟩ ⟨hl,hd,_,(rel.put k eb rv).keeps fun c ys ec=>?_,q,es,ep,hq,h2,h3,h4,h5⟩
   rw [a04 (ab1 ec e (fun z=>nomatch z))]
   exact ec
end
section
variable {X:Cx}{pins:List (Addr×Obj)}{σ:St} {H:Hp}{s:Shared}{a:Addr}{kvs:List (Key×V)}{k:Key}{u:Value}{A:Around}{E:Value→Shared→Prop}
theorem ca1 {Q:Value→Shared→Prop}(I:Inv X pins σ H s) (e:Rd H a (.dK kvs)) (h:∀ t s',Inv X pins σ H s'→Q (.int kvs.length t) s'):wpAny (model X.prog X.w) A (call (.builtin "len") [.ref a]) Q E s:=by
 obtain ⟨z,hd,vs,rel,dd⟩:=b66 I.hok e
 refine call_len_dict hd dd (by rw [← rel.length]; rw [sizeLine_eq] at z; omega) ?_
 rw [← rel.length]
 exact h _ _ (I.tok _)
end
def NoSl (i:Expr):Prop:=∀ ov iv,subscripted i false ov iv=operate [ov,iv] (getItem ov iv)
theorem aw8 {prog:Program}{w:World}{A:Around}{E:Value→Shared→Prop}{s:Shared}{env:Env}{value slice:Expr}{pos:Pos}{T id:String}{Q:Value→Shared→Prop}
 (hl:typeLookup (.type T) "__getitem__"=pure (some (.builtin id))) (hs:NoSl slice)
 (h:wpAny (model prog w) A (eval value env) (fun o s₁=>wpAny (model prog w) A (eval slice env) (fun i s₂=>s₂.TypeIs o T∧wpAny (model prog w) A (getItem o i) Q E s₂) E s₁) E s) :
 wpAny (model prog w) A (eval (.Subscript value slice pos) env) Q E s:=by
 refine Subscript_ (wpAny_mono h (fun o s₁ h₁=>wpAny_mono h₁ (fun i s₂ h₂=>?_) fun _ _ x=>x) fun _ _ x=>x)
 obtain ⟨hT,h₂⟩:=h₂
 unfold subscriptTail
 refine wB ?_
 rw [getitemInPython_of_ne hT.not_modules]
 refine wB (wpAny_specialOf hT hl ?_)
 have fin:wpAny (model prog w) A (subscripted slice false o i) (fun r s₃=>wpAny (model prog w) A (letTemporaryGo value o r >>= fun _=>pure r) Q E s₃) E s₂:=by
  rw [hs o i]
  exact wpAny_operating (wpAny_mono h₂ (fun r s₃ h₃=>wB (wpAny_letTemporaryGo (wpAny_pure h₃))) fun _ _ x=>x)
 first
  | exact wpAny_pure (wB fin)
  | exact wB (wpAny_pure (wB fin))
  | exact wB fin
theorem aw9 {X:Cx}{pins:List (Addr×Obj)}{σ:St} {H:Hp}{s:Shared}{a:Addr}{y:V}{o:Option V}(I:Inv X pins σ H s) (g:DGet H a y o):s.TypeIs (.ref a) "dict":=by
 rcases g with ⟨kvs,k,e,_,_⟩ | ⟨kvs,k,b,e,_,_,_⟩
 · obtain ⟨_,_,vs,_,dd⟩:=b66 I.hok e
   exact dd.typeIs
 · obtain ⟨_,_,xs,_,dd⟩:=ba9 I.hok e
   exact dd.typeIs
def tDGet (td ty:TE):TE:=fun σ H Q=>td σ H fun x H1=>ty σ H1 fun y H2=>∃ a v,x=.ref a∧DGet H2 a y (some v)∧Q v H2
def tDIn (ty td:TE):TE:=fun σ H Q=>ty σ H fun y H1=>td σ H1 fun x H2=>∃ a o,x=.ref a∧DGet H2 a y o∧Q (.bl o.isSome) H2
def tDNotIn (ty td:TE):TE:=fun σ H Q=>ty σ H fun y H1=>td σ H1 fun x H2=>∃ a o,x=.ref a∧DGet H2 a y o∧Q (.bl (!o.isSome)) H2
def sDPut (td ty tv:TE):TS:=fun D σ H=>tv σ H fun v H1=>td σ H1 fun x H2=>ty σ H2 fun y H3=>∃ a H4,x=.ref a∧DPut H3 a y v H4∧D.nx σ H4
section
variable {X:Cx}{o i e value:Expr}{pos pos' tpos:Pos}{td ty tv:TE}
theorem bb3 (hu:X.A.units+1<cLine) (ho:PE X o td) (hi:PE X i ty) (hs:NoSl i):PE X (.Subscript o i pos) (tDGet td ty):=by
 intro pins s σ H Q I h
 refine aw8 PySem.F.slot_dict_getitem.lookup hs (thn (ho pins s σ H _ I h) fun u s1 ⟨x,H1,I1,rx,q1⟩=>thn (hi pins s1 σ H1 _ I1 q1) fun iv s2 ⟨y,H2,I2,ry,a,v,ex,g,q2⟩=>?_)
 subst ex
 obtain rfl:u=Value.ref a:=rx
 exact ⟨aw9 I2 g,bb0 hu I2 g ry fun w' s3 I3 rw'=>⟨v,H2,I3,rw',q2⟩⟩
theorem bz9 (hu:X.A.units+1<cLine) (hi:PE X i ty) (ho:PE X o td):PC X .In i o (tDIn ty td):=by
 intro pins s σ H Q I h
 refine thn (hi pins s σ H _ I h) fun iv s1 ⟨y,H1,I1,ry,q1⟩=>thn (ho pins s1 σ H1 _ I1 q1) fun u s2 ⟨x,H2,I2,rx,a,ov,ex,g,q2⟩=>?_
 subst ex
 obtain rfl:u=Value.ref a:=rx
 exact d_in hu I2 g ry fun s3 I3=>⟨.bl ov.isSome,H2,I3,rfl,q2⟩
theorem at0 (hu:X.A.units+1<cLine) (hi:PE X i ty) (ho:PE X o td):PC X .NotIn i o (tDNotIn ty td):=by
 intro pins s σ H Q I h
 refine thn (hi pins s σ H _ I h) fun iv s1 ⟨y,H1,I1,ry,q1⟩=>thn (ho pins s1 σ H1 _ I1 q1) fun u s2 ⟨x,H2,I2,rx,a,ov,ex,g,q2⟩=>?_
 subst ex
 obtain rfl:u=Value.ref a:=rx
 exact br2 hu I2 g ry fun s3 I3=>⟨.bl (!ov.isSome),H2,I3,rfl,q2⟩
theorem bb4 (hu:X.A.units+1<cLine) (ho:PE X o td) (hi:PE X i ty) (hv:PE X value tv) (hs:swapsWith value (some (.Subscript o i pos')) pos.line X.env=pure false) :
 PS X (.Assign [.Subscript o i pos'] value pos) (sDPut td ty tv):=by
 intro pins s σ H D I h
 refine wpAny_Assign_Subscript (thn (hv pins s σ H _ I h) fun r s1 ⟨v,H1,I1,rv,q1⟩=>thn (ho pins s1 σ H1 _ I1 q1) fun u s2 ⟨x,H2,I2,rx,q2⟩=>thn (hi pins s2 σ H2 _ I2 q2) fun iv s3 ⟨y,H3,I3,ry,a,H4,ex,g,q3⟩=>?_) hs
 subst ex
 obtain rfl:u=Value.ref a:=rx
 exact bb2 hu I3 g ry rv fun s4 I4=>⟨σ,H4,I4,q3⟩
end
theorem b02 {P:Program}{w:World}{H:Hp}(h:Heap) (hb:sysModules<h.objs.size):ObjOk P w H (h.push { cls:=.type "dict",data:=.dict #[] }) h.objs.size (.dK []) :=
 ⟨Nat.zero_le _,beq_eq_false_iff_ne.mpr (Ne.symm (Nat.ne_of_lt hb)),[],.nil,Heap.DictOf.new h⟩
def tDNewK:TE:=fun _ H Q=>∀ p,H p=none→Q (.ref p) (upd H p (.dK []))
section
variable {X:Cx}{pos:Pos}
theorem bj3:PE X (.Dict [] [] pos) tDNewK:=fun pins s σ H Q I h =>
 wpAny_Dict_empty ⟨.ref s.heap.objs.size,_,I.laid (a:=s.heap.objs.size) (o:=.dK []) (t':=s.toks) (fun _ _ q=>gP _ q) (Nat.le_refl _) (b02 s.heap I.big),rfl,h _ (I.hok.fresh (Nat.le_refl _))⟩
end
def tPairs:List (TE×TE)→St→Hp→(List (V×V)→Hp→Prop)→Prop
 | [],_,H,Q=>Q [] H
 | (tk,tv)::r,σ,H,Q=>tk σ H fun x H1=>tv σ H1 fun y H2=>tPairs r σ H2 fun ps H3=>Q ((x,y)::ps) H3
abbrev VV:List (V×V)→List (Value×Value)→Prop:=Paired fun p q=>RelV p.1 q.1∧RelV p.2 q.2
def PPs (X:Cx) (pos:Pos) (keys:List (Option Expr)) (values:List Expr) (trs:List (TE×TE)):Prop :=
 ∀ (pins:List (Addr×Obj)) (s:Shared) (σ:St) (H:Hp) (Q:List (V×V)→Hp→Prop),Inv X pins σ H s→tPairs trs σ H Q →
  wpAny (model X.prog X.w) X.A (evalPairs (pairTrees keys values X.env pos)) (fun vs s'=>∃ ps H',Inv X pins σ H' s'∧VV ps vs∧Q ps H') X.xe s
theorem br3 {X:Cx}{pos:Pos}:PPs X pos [] [] []:=fun pins s σ H Q I h=>pairTrees_nil_walk ⟨[],H,I,.nil,h⟩
theorem bj4 {X:Cx}{pos:Pos}{k v:Expr}{ks:List (Option Expr)}{vs:List Expr}{tk tv:TE}{trs:List (TE×TE)}(hk:PE X k tk) (hv:PE X v tv) (hr:PPs X pos ks vs trs) :
 PPs X pos (some k::ks) (v::vs) ((tk,tv)::trs):=fun pins s σ H Q I h =>
 pairTrees_cons_walk (thn (hk pins s σ H _ I h) fun u s1 ⟨x,H1,I1,rx,q1⟩=>thn (hv pins s1 σ H1 _ I1 q1) fun w2 s2 ⟨y,H2,I2,ry,q2⟩ =>
  thn (hr pins s2 σ H2 _ I2 q2) fun ws s3 ⟨ps,H3,I3,rel,q3⟩=>⟨(x,y)::ps,H3,I3,.cons ⟨rx,ry⟩ rel,q3⟩)
def mergeK (kvs more:List (Key×V)):List (Key×V):=more.foldl (fun acc kv=>putK acc kv.1 kv.2) kvs
theorem KV.merge:∀ {more:List (Key×V)}{rs:List (Key×Value)}{kvs:List (Key×V)}{vs:List (Key×Value)},KV more rs→KV kvs vs→KV (mergeK kvs more) (merged vs rs):=by
 intro more rs kvs vs r
 unfold KV at r
 induction r generalizing kvs vs with
 | nil=>intro q; exact q
 | @cons p q ps qs h t ih =>
   intro r0
   have e:KV (putK kvs p.1 p.2) (stored vs q.1 q.2):=by
    have:=r0.put p.1 h.2
    rw [← h.1]; exact this
   exact ih e
theorem ac4:∀ (more kvs:List (Key×V)),(mergeK kvs more).length≤kvs.length+more.length
 | [],kvs=>by show kvs.length≤kvs.length+0; omega
 | p::r,kvs=>by
   have h1:=ac4 r (putK kvs p.1 p.2)
   have h2:=ac3 kvs p.1 p.2
   show (mergeK (putK kvs p.1 p.2) r).length≤_
   rw [List.length_cons]; omega
theorem am1 {P:Program}{w:World}:∀ {kvs:List (Key×V)}{ws:List (Value×Value)},VV (kvs.map fun kv=>(kV kv.1,kv.2)) ws→∃ rs,Carries (mixKind P w) ws rs∧KV kvs rs
 | [],_,r=>by rw [List.map_nil] at r; cases r; exact ⟨[],True.intro,.nil⟩
 | p::kvs,_,r=>by
   rw [List.map_cons] at r
   cases r with
   | @cons a b as bs h t =>
     obtain ⟨rs,c,q⟩:=am1 (P:=P) (w:=w) t
     obtain ⟨b1,b2⟩:=b
     exact ⟨(p.1,b2)::rs,⟨aw7 h.1,rfl,c⟩,.cons ⟨rfl,h.2⟩ q⟩
def tDisp (trs:List (TE×TE)):TE:=fun σ H Q=>∀ p,H p=none→tPairs trs σ (upd H p (.dK [])) fun ps H2=>H2 p=some (.dK [])∧∃ kvs:List (Key×V),ps=kvs.map (fun kv=>(kV kv.1,kv.2))∧kvs.length≤15∧Q (.ref p) (upd H2 p (.dK (mergeK [] kvs)))
theorem br4 {X:Cx}{pos:Pos}{keys:List (Option Expr)}{values:List Expr}{trs:List (TE×TE)}(h:PPs X pos keys values trs) (hall:keys.all (·.isSome)=true) (hl:keys.length=values.length) (h0:keys≠[])
 (h15:keys.length≤15):PE X (.Dict keys values pos) (tDisp trs):=by
 intro pins s σ H Q I q
 have hn:=I.hok.fresh (Nat.le_refl s.heap.objs.size)
 have I1:=I.laid (a:=s.heap.objs.size) (o:=.dK []) (h':=s.heap.push { cls:=.type "dict",data:=.dict #[] }) (t':=s.toks) (fun _ _ q=>gP _ q) (Nat.le_refl _) (b02 s.heap I.big)
 refine wpAny_Dict_walk (knd:=mixKind X.prog X.w) hall hl h0 h15 (thn (h pins _ σ _ _ I1 (q _ hn)) fun ws s2 ⟨ps,H2,I2,rel,e,kvs,ep,lk,q2⟩=>?_)
 subst ep
 obtain ⟨rs,c,rk⟩:=am1 (P:=X.prog) (w:=X.w) rel
 obtain ⟨z,hd,vs0,r0,dd⟩:=br1 I2.hok e
 cases r0
 refine ⟨rs,c,dd,fun h' dd' hs=>⟨.ref s.heap.objs.size,_,?_,rfl,q2⟩⟩
 have hz:(mergeK [] kvs).length≤sizeLine:=by
  have h1:=ac4 kvs []
  rw [List.length_nil] at h1
  rw [sizeLine_eq]; omega
 have he:∃ q,h'.get? s.heap.objs.size=some q:=let ⟨q,_,_,hq,_⟩:=dd'; ⟨q,hq⟩
 exact af1 I2 (by rw [e]; exact True.intro) hs he (bb1 hz hd (rk.merge .nil) dd')
structure M2 (X:Cx) (o:Expr) (m:Str) (apos:Pos) (e f:Expr) (cpos:Pos):Prop where
 base:attributeBase o m X.env (eval o X.env)=eval o X.env
 few:((backTo cpos (starEach [e,f] X.env)).all (fun x=>!x.1) && (backToKw cpos (keywordEach [] X.env)).all (fun x=>x.1.isSome)
  && decide (([e,f]:List Expr).length+([]:List Keyword).length+(if ([]:List Keyword).isEmpty then 0 else 1)<30))=true
 line:(apos.endLine == cpos.line)=true
 trees:backTo cpos (starEach [e,f] X.env)=[(false,eval e X.env),(false,eval f X.env)]
section
variable {X:Cx}{pins:List (Addr×Obj)}{σ:St} {H:Hp}{s:Shared}{a:Addr}{y d:V}{u r:Value}{o:Option V}{A:Around}{E:Value→Shared→Prop}
end
section
variable {X:Cx}{o e f:Expr}{apos cpos:Pos}{td ty tx:TE}
end
section
variable {X:Cx}{pins:List (Addr×Obj)}{σ:St} {H:Hp}{s:Shared}{a:Addr}{kvs:List (Key×V)}{A:Around}{E:Value→Shared→Prop}
end
section
variable {X:Cx}{pins:List (Addr×Obj)}{σ:St} {H:Hp}{s:Shared}{a:Addr}{y:V}{u:Value}{A:Around}{E:Value→Shared→Prop}
end
section
variable {κ:Type} [DecidableEq κ]
theorem b03 {kvs:List (κ×V)}{k:κ}(h:valV kvs k=none):¬ k∈kvs.map (·.1):=by
 intro m
 obtain ⟨p,hp,e⟩:=List.mem_map.mp m
 have q:(kvs.any fun kv=>decide (kv.1=k))=true:=List.any_eq_true.mpr ⟨p,hp,decide_eq_true e⟩
 rw [ab3,h] at q
 exact absurd q (by simp)
theorem br5 {kvs:List (κ×V)}{k:κ}{v:V}(h:valV kvs k=some v):k∈kvs.map (·.1):=by
 have q:(kvs.any fun kv=>decide (kv.1=k))=true:=by
  rw [ab3,h]
  all_goals rfl
 obtain ⟨p,hp,e⟩:=List.any_eq_true.mp q
 exact List.mem_map.mpr ⟨p,hp,of_decide_eq_true e⟩
theorem aa8:∀ {l:List κ}{k:κ},l.Nodup→¬ k∈l→(l++[k]).Nodup
 | [],k,_,_=>by simp
 | a::r,k,h,hk=>by
   obtain ⟨h1,h2⟩:=List.nodup_cons.mp h
   show (a::(r++[k])).Nodup
   refine List.nodup_cons.mpr ⟨fun m=>?_,aa8 h2 fun m=>hk (List.mem_cons.mpr (Or.inr m))⟩
   rcases gA m with q | q
   · exact h1 q
   · exact hk (List.mem_cons.mpr (Or.inl (gG q).symm))
end
def cxC (X:Cx) (N:List Str) (scope:Scope) (cl:List (Str×Addr)) (C:Addr) (s0:Shared) (H0:Hp) (ex:List Addr):Cx :=
 { X with N:=N,s₀:=s0,H₀:=H0,env:=compEnvC scope cl C X.env,outer:=X.stack,stack:=X.stack,ex:=ex,fn:=fun _=>false,pn:=[],xe:=fun _ _=>False }
theorem am2 {env : Env} (has : ∀ x, (env.kindOf x = some .cell ∨ env.kindOf x = some .free) → ∃ c, env.cells.lookup x = some c) {scope : Scope}
    (hf : ∀ y ∈ scope.names, y.2 = .free → env.kindOf y.1 = some .cell ∨ env.kindOf y.1 = some .free) :
    ∃ cl, closureFor scope env = pure cl ∧ (∀ x c, cl.lookup x = some c → env.cells.lookup x = some c) ∧ (∀ y ∈ scope.names, y.2 = .free → ∃ c, cl.lookup y.1 = some c) := by
  have gen : ∀ (names : List (Str × NameKind)) (cs : List (Str × Addr)), (∀ y ∈ names, y.2 = .free → env.kindOf y.1 = some .cell ∨ env.kindOf y.1 = some .free) →
      (∀ x c, cs.lookup x = some c → env.cells.lookup x = some c) →
      ∃ cl, (forIn (m := Sem) names cs fun p r => do
          match p with
          | (name, kind) => if kind == .free then do let c ← cellOf env name; pure (ForInStep.yield ((name, c) :: r)) else pure (ForInStep.yield r)) = pure cl ∧
        (∀ x c, cl.lookup x = some c → env.cells.lookup x = some c) ∧ (∀ x c, cs.lookup x = some c → ∃ c, cl.lookup x = some c) ∧ (∀ y ∈ names, y.2 = .free → ∃ c, cl.lookup y.1 = some c) := by
    intro names
    induction names with
    | nil => intro cs _ h; exact ⟨cs, rfl, h, fun x c e => ⟨c, e⟩, fun y hy => nomatch hy⟩
    | cons p r ih =>
      intro cs hp h
      obtain ⟨n, k⟩ := p
      by_cases hk : k = .free
      · subst hk
        obtain ⟨c, hc⟩ := has n (hp (n, .free) List.mem_cons_self rfl)
        have h' : ∀ x d, ((n, c) :: cs).lookup x = some d → env.cells.lookup x = some d := by
          intro x d e
          rw [List.lookup_cons] at e
          cases hx : x == n with
          | true =>
            rw [hx] at e
            have : x = n := by simpa using hx
            cases e; rw [this]; exact hc
          | false => rw [hx] at e; exact h x d e
        obtain ⟨cl, e1, e2, e3, e4⟩ := ih ((n, c) :: cs) (fun y hy => hp y (List.mem_cons_of_mem _ hy)) h'
        have hn : ∃ d, cl.lookup n = some d := e3 n c (by simp [List.lookup_cons])
        refine ⟨cl, ?_, e2, fun x d e => ?_, fun y hy hyk => ?_⟩
        · rw [List.forIn_cons]
          have : cellOf env n = pure c := by unfold cellOf; rw [hc]
          simp only [beq_self_eq_true, if_true, this]
          exact e1
        · by_cases hx : x = n
          · subst hx; exact hn
          · exact e3 x d (by rw [List.lookup_cons]; have : (x == n) = false := by simpa using hx
                             rw [this]; exact e)
        · rcases List.mem_cons.mp hy with rfl | hy
          · exact hn
          · exact e4 y hy hyk
      · obtain ⟨cl, e1, e2, e3, e4⟩ := ih cs (fun y hy => hp y (List.mem_cons_of_mem _ hy)) h
        refine ⟨cl, ?_, e2, e3, fun y hy hyk => ?_⟩
        · rw [List.forIn_cons]
          have : (k == NameKind.free) = false := by simpa using hk
          simp only [this]
          exact e1
        · rcases List.mem_cons.mp hy with rfl | hy
          · exact absurd hyk hk
          · exact e4 y hy hyk
  obtain ⟨cl, e1, e2, _, e4⟩ := gen scope.names [] hf (fun x c e => nomatch e)
  refine ⟨cl, ?_, e2, e4⟩
  unfold closureFor
  simp only []
  exact congrArg (· >>= fun cs => pure cs) e1 |>.trans rfl
theorem at1 {scope:Scope}{env:Env}{x:Str}{k:NameKind}(h:(relabel scope env).names.lookup x=some k) (hk:k=.cell∨k=.free) (nc:∀ y∈scope.names,y.2≠.cell):∃ y∈scope.names,y.1=x∧y.2=.free:=by
 have gen:∀ names:List (Str×NameKind),(names.map fun (n,k)=>if (k == NameKind.free && env.scope.kind == .function && env.kindOf n == some .cell) then (n,NameKind.cell) else (n,k)).lookup x=some k→(∀ y∈names,y.2≠.cell) →
  ∃ y∈names,y.1=x∧y.2=.free:=by
  intro names
  induction names with
  | nil=>intro h _; cases h
  | cons p r ih =>
    obtain ⟨n,j⟩:=p
    intro h nc
    rw [List.map_cons,List.lookup_cons] at h
    have e1:(if (j == NameKind.free && env.scope.kind == .function && env.kindOf n == some .cell)=true then (n,NameKind.cell) else (n,j)).1=n:=by split <;> rfl
    dsimp only at h
    rw [e1] at h
    cases hx:x == n with
    | false =>
      rw [hx] at h
      obtain ⟨y,hy,q⟩:=ih h fun y hy=>nc y (List.mem_cons_of_mem _ hy)
      exact ⟨y,List.mem_cons_of_mem _ hy,q⟩
    | true =>
      rw [hx] at h
      have ex:x=n:=by simpa using hx
      have hj:j=.free:=by
       by_cases hc:(j == NameKind.free && env.scope.kind == .function && env.kindOf n == some .cell)=true
       · have:=(Bool.and_eq_true _ _).mp ((Bool.and_eq_true _ _).mp hc).1
         simpa using this.1
       · rw [if_neg hc] at h
         cases h
         rcases hk with z | z
         · exact absurd z (nc (n,j) List.mem_cons_self)
         · exact z
      exact ⟨(n,j),List.mem_cons_self,ex.symm,hj⟩
 exact gen scope.names h nc
section
variable {X:Cx}{pins:List (Addr×Obj)}{σ:St} {H:Hp}{s:Shared}{N:List Str}{scope:Scope}{cl:List (Str×Addr)}{C:Addr}{ex:List Addr}
theorem c00 (I:Inv X pins σ H s) (hC:s.heap.objs.size≤C) (hkind:scope.kind=.function) (nc:∀ y∈scope.names,y.2≠.cell)
 (hcl:∀ x c,cl.lookup x=some c→X.env.cells.lookup x=some c) (hcf:∀ y∈scope.names,y.2=.free→∃ c,cl.lookup y.1=some c)
 (hex:∀ b∈ex,FpOk X pins H b) (hexl:∀ b∈ex,b<s.heap.objs.size):(cxC X N scope cl C s H ex).Ok where
 mod:=I.ok.mod
 kind:=hkind
 glob:=I.ok.glob
 blt:=I.ok.blt
 above:=hC
 inj:=fun x y c h1 h2=>I.ok.inj x y c (hcl x c h1) (hcl y c h2)
 has:=fun x hx=>by
  have hx':∃ k,(relabel scope X.env).names.lookup x=some k∧(k=.cell∨k=.free):=by
   rcases hx with h | h
   · exact ⟨_,h,.inl rfl⟩
   · exact ⟨_,h,.inr rfl⟩
  obtain ⟨k,h,hk⟩:=hx'
  obtain ⟨y,hy,e1,e2⟩:=at1 h hk nc
  rw [← e1]
  exact hcf y hy e2
 cab:=fun x c h=>by cases h
 hd:=I.ok.hd
 frames:=I.ok.frames
 stk:=.inl rfl
 exf:=fun b hb=>⟨Nat.ne_of_lt (Nat.lt_of_lt_of_le (hexl b hb) hC),fun x c e=>(hex b hb).2.2.2.2.1 x c (hcl x c e)⟩
 bs:=I.bs
 bsz:=Nat.le_trans I.ok.bsz I.sz
 noex:=fun b o e hb=>by
  rcases (hex b hb).2.2.2.1 with z | z
  · exact I.ok.noex b o e z
  · have h1:=Heap.lt_size e
    have h2:=I.ok.bsz
    exact absurd (Nat.lt_of_lt_of_le h1 (Nat.le_trans h2 z)) (Nat.lt_irrefl _)
 exfs:=fun b hb z=>by
  have h1:=I.stkSub b z
  rcases List.mem_cons.mp h1 with z | z
  · exact (hex b hb).2.1 z
  · exact (hex b hb).2.2.1 z
 funs:=I.stack
 frf:=I.stkFree
def capV (caps:List Nat) (σ:St):St:=caps.map fun j=>(σ[j]?).join
def cSt (n:Nat) (caps:List Nat) (σ:St):St:=List.replicate n none++capV caps σ
theorem br6 {caps:List Nat}{Nt Nf:List Str}{s1:Shared}{m:Str→Option Value}(I:Inv X pins σ H s) (ok:(cxC X (Nt++Nf) scope cl C s H ex).Ok)
 (hcl:∀ x c,cl.lookup x=some c→X.env.cells.lookup x=some c)
 (hcap:caps.map (fun j=>X.N[j]?)=Nf.map some)
 (hvis:∀ x∈Nf,scope.names.lookup x=some .free) (hXv:∀ x∈Nf,X.env.kindOf x=some .cell∨X.env.kindOf x=some .free) (hcf:∀ x∈Nf,∃ c,cl.lookup x=some c)
 (hos:s1.os=s.os) (hgens:s1.gens=s.gens) (hk:∀ b o,s.heap.get? b=some o→s1.heap.get? b=some o) (hns:s1.heap.Ns C m) (hC:s.heap.objs.size≤C) :
 Inv (cxC X (Nt++Nf) scope cl C s H ex) [] (cSt Nt.length caps σ) H s1:=by
 have hlen:caps.length=Nf.length:=by
  have:=congrArg List.length hcap
  simpa using this
 refine ⟨ok,hos,by rw [hgens]; exact I.bare,Un.kept hk,⟨m,hns,fun i x v h1 h2 h3=>?_⟩,fun x c e=>?_,I.hok.fresh hC,fun x c e=>I.freeC x c (hcl x c e),fun p hp=>absurd (show p∈([]:List (Addr×Obj)) from hp) (by simp),I.hok.kept hk,?_⟩
 · -- a captured name
   have hi:Nt.length≤i:=by
    refine Nat.le_of_not_lt fun q=>?_
    unfold cSt at h2
    rw [List.getElem?_append_left (by simpa using q),List.getElem?_replicate] at h2
    split at h2 <;> cases h2
   have h1':Nf[i - Nt.length]?=some x:=by
    have:(Nt++Nf)[i]?=some x:=h1
    rwa [List.getElem?_append_right hi] at this
   unfold cSt at h2
   rw [List.getElem?_append_right (by simpa using hi)] at h2
   have e0:i - (List.replicate Nt.length (none:Option V)).length=i - Nt.length:=by simp
   rw [e0] at h2
   generalize hj:i - Nt.length=j at h1' h2
   unfold capV at h2
   rw [gM] at h2
   cases hc:caps[j]? with
   | none=>rw [hc] at h2; cases h2
   | some jj =>
     rw [hc] at h2
     have h2':(σ[jj]?).join=some v:=Option.some.inj h2
     have h2'':σ[jj]?=some (some v):=by
      cases q:σ[jj]? with
      | none=>rw [q] at h2'; cases h2'
      | some z=>rw [q] at h2'; cases z with
        | none=>cases h2'
        | some z'=>cases h2'; rfl
     have hN:X.N[jj]?=some x:=by
      have q:=congrArg (fun l=>l[j]?) hcap
      simp only [gM,hc,h1',Option.map_some] at q
      exact Option.some.inj q
     have hx:x∈Nf:=gI h1'
     have hXk:=hXv x hx
     obtain ⟨mX,_,hl⟩:=I.loc
     obtain ⟨u,ru,lk⟩:=hl jj x v hN h2'' (by
      rcases hXk with z | z
      · exact .inr (.inl z)
      · exact .inr (.inr z))
     refine ⟨u,ru,.inr ?_⟩
     rcases lk with ⟨z,_⟩ | ⟨_,c,hc1,hcell⟩
     · rcases hXk with y | y <;> (rw [z] at y; cases y)
     · obtain ⟨c',hc'⟩:=hcf x hx
       have e:=hcl x c' hc'
       rw [hc1] at e; cases e
       refine ⟨?_,c,hc',?_⟩
       · rcases h3 with z | z | z
         · -- not a local of the block
           exfalso
           have hfree:=hvis x hx
           have z':(relabel scope X.env).names.lookup x=some .local:=z
           have gen:∀ names:List (Str×NameKind),names.lookup x=some .free→(names.map fun (n,k)=>if (k == NameKind.free && X.env.scope.kind == .function && X.env.kindOf n == some .cell) then (n,NameKind.cell) else (n,k)).lookup x≠some .local:=by
            intro names
            induction names with
            | nil=>intro h; cases h
            | cons p r ih =>
              obtain ⟨n,k⟩:=p
              intro h
              rw [List.map_cons,List.lookup_cons]
              rw [List.lookup_cons] at h
              have e1:(if (k == NameKind.free && X.env.scope.kind == .function && X.env.kindOf n == some .cell)=true then (n,NameKind.cell) else (n,k)).1=n:=by split <;> rfl
              dsimp only
              rw [e1]
              cases hx:x == n with
              | false=>rw [hx] at h; exact ih h
              | true =>
                rw [hx] at h
                cases h
                show some (if _ then (n,NameKind.cell) else (n,NameKind.free)).2≠some .local
                split <;> (intro q; cases q)
           exact gen scope.names hfree z'
         · exact .inl z
         · exact .inr z
       · obtain ⟨o,eo,d⟩:=hcell
         exact ⟨o,hk _ _ eo,d⟩
 · obtain ⟨v,q⟩:=I.cell x c (hcl x c e)
   obtain ⟨o,eo,d⟩:=q
   exact ⟨v,o,hk _ _ eo,d⟩
 · show (cSt Nt.length caps σ).length=(Nt++Nf).length
   unfold cSt capV
   simp [hlen]
end
abbrev askIfs (ifs:List Expr) (env:Env):Sem Bool:=forIn ifs true fun c r=>if r=true then do let ok←isTrue c env (eval c env); pure (ForInStep.yield ok) else pure (ForInStep.yield r)
abbrev NoX:Value→Shared→Prop:=fun _ _=>False
theorem at3 {P:Program}{w:World}{B:Around}{R:Result→Shared→Prop}{s:Shared}{y tg l:Expr}{cs:List Expr}{sc:Scope}{ps:Pos}{iv av:Value}{en:Env}(G:Nat→Shared→Prop)
 (one:∀ n s,G n s→wpAny (model P w) B (pyNext iv) (fun r s1=>match r with
  | none=>R (.ok .next) s1
  | some v=>wpAny (model P w) B (letOwnedTupleGo tg iv v) (fun _ s1=>wpAny (model P w) B (assign tg en v) (fun _ s2=>wpAny (model P w) B (askIfs cs en) (fun k s3 =>
   if k=true then wpAny (model P w) B (eval y en) (fun x s4=>wpAny (model P w) B (call (.builtin "list.append") [av,x]) (fun _ s5=>∃ m,m<n∧G m s5) NoX s4) NoX s3
   else ∃ m,m<n∧G m s3) NoX s2) NoX s1) NoX s1) NoX s) (n:Nat) (h:G n s) :
 codeAny (model P w) B (.compLoop (.ListComp y [⟨tg,l,cs,0⟩] sc ps) 0 iv av en) R s:=by
 refine codeAny_loop rfl G (fun n s hG=>?_) n h
 show wpAny _ B ((compTurn (.ListComp y [⟨tg,l,cs,0⟩] sc ps) 0 iv av en).onRaise (fun x=>do noteFrame x en; theTreesLotGoes x)) _ _ s
 refine wpAny_noted ?_
 rw [compTurn_list]
 refine wB (wpAny_standAt (wB (wpAny_mono (one n s hG) (fun r s1 h1=>?_) fun _ _ z=>z.elim)))
 cases r with
 | none=>exact wpAny_pure h1
 | some v =>
   refine wB (wpAny_mono h1 (fun _ s1' h1'=>?_) fun _ _ z=>z.elim)
   refine wB (wpAny_mono h1' (fun _ s2 h2=>wB (wpAny_mono h2 (fun k s3 h3=>?_) fun _ _ z=>z.elim)) fun _ _ z=>z.elim)
   cases k with
   | false=>exact wpAny_pure ⟨rfl,h3⟩
   | true=>exact wB (wB (wpAny_mono h3 (fun x s4 h4=>wB (wpAny_mono h4 (fun _ s5 h5=>wpAny_pure (wpAny_pure ⟨rfl,h5⟩)) fun _ _ z=>z.elim)) fun _ _ z=>z.elim))
def PTs (X:Cx) (ifs:List Expr) (t:TT):Prop :=
 ∀ (pins:List (Addr×Obj)) (s:Shared) (σ:St) (H:Hp) (Q:Bool→Hp→Prop),Inv X pins σ H s→t σ H Q →
  wpAny (model X.prog X.w) X.A (askIfs ifs X.env) (TP X pins σ Q) X.xe s
def tNoIf:TT:=fun _ H Q=>Q true H
theorem a55 {X:Cx}:PTs X [] tNoIf:=fun pins s σ H Q I h=>wpAny_tests_nil ⟨H,I,h⟩
theorem aj2 {X:Cx}{c:Expr}{t:TT}(h:PT X c t):PTs X [c] t:=fun pins s σ H Q I q=>wpAny_tests_one (h pins s σ H Q I q)
section
variable {X:Cx}{pins:List (Addr×Obj)}{σ:St} {H:Hp}{s:Shared}
theorem Inv.adopt {D:Addr}{o:HO}(I:Inv X pins σ H s) (hD:H D=none) (h1:X.s₀.heap.objs.size≤D) (h2:D≠X.env.locals) (h3:∀ x c,X.env.cells.lookup x=some c→c≠D) (h4:∀ p∈X.pn++pins,p.1≠D)
 (new:ObjOk X.prog X.w (upd H D o) s.heap D o):Inv X pins σ (upd H D o) s:=by
 have old:∀ {b:Addr}{q:Obj},X.s₀.heap.get? b=some q→b≠D:=fun e=>Nat.ne_of_lt (Nat.lt_of_lt_of_le (Heap.lt_size e) h1)
 refine ⟨I.ok,I.os,I.bare,⟨I.base.keep,I.base.slot,fun b q e n hx=>by rw [a04 (old e)]; exact I.base.free b q e n hx,I.base.there,fun b xs e=>?_,fun b q u e=>?_,fun b ps e=>?_⟩,I.loc,I.cell,by rw [a04 (Ne.symm h2)]; exact I.free,fun x c e=>by rw [a04 (h3 x c e)]; exact I.freeC x c e,fun p hp=>?_,fun b u e=>?_,I.len⟩
 · have e':=I.base.tups b xs e
   rw [a04 (a08 e' hD)]; exact e'
 · have e':=I.base.frzs b q u e
   rw [a04 (a08 e' hD)]; exact e'
 · obtain ⟨more,e'⟩:=I.base.tbls b ps e
   exact ⟨more,by rw [a04 (a08 e' hD)]; exact e'⟩
 · obtain ⟨a1,a2,a3,a4,a5⟩:=I.pin p hp
   exact ⟨a1,by rw [a04 (h4 p hp)]; exact a2,a3,a4,a5⟩
 · by_cases hb:b=D
   · subst hb; rw [a28] at e; cases e; exact new
   · rw [a04 hb] at e
     exact (I.hok b u e).stay (fun c v _ q=>q) (fun c q=>by rw [a04 (a08 q hD)]; exact q) fun c xs q=>by rw [a04 (a08 q hD)]; exact q
def tLC (wi:TI) (g:TG) (tt:TT) (te:TE) (n:Nat) (caps:List Nat):TE:=fun σ H Q=>wi σ H fun J H1=>∃ W:Nat→Nat→List V→St→Hp→Prop,(∃ m,W 0 m [] (cSt n caps σ) H1)∧∀ i m acc σ' H',W i m acc σ' H' →
 (J.stop i H'∧∀ l,H' l=none→Q (.ref l) (upd H' l (.lst acc))) ∨
 (J.go i H'∧acc.length<sizeLine∧∃ N:List V→St→Hp→Prop,(∀ ac σ2 H2,N ac σ2 H2→∃ m',m'<m∧W (i+1) m' ac σ2 H2)∧∀ x H2,J.yld i H' x H2→g x σ' H2 fun σ3 H3=>tt σ3 H3 fun b H4=>if b=true then te σ3 H4 fun y H5=>N (acc++[y]) σ3 H5 else N acc σ3 H4)
structure CompOk (X:Cx) (scope:Scope) (Nt Nf:List Str) (caps:List Nat):Prop where
 kind:scope.kind=.function
 nc:∀ y∈scope.names,y.2≠.cell
 nm:∀ y∈scope.names,y.2=.local→scope.names.lookup y.1=some .local
 fr:∀ y∈scope.names,y.2=.free→X.env.kindOf y.1=some .cell∨X.env.kindOf y.1=some .free
 cap:caps.map (fun j=>X.N[j]?)=Nf.map some
 vis:∀ x∈Nf,scope.names.lookup x=some .free
theorem am3 {tg iter elt:Expr}{ifs:List Expr}{scope:Scope}{pos:Pos}{g:TG}{tt:TT}{te:TE}{Nt Nf:List Str}{caps:List Nat}{cl:List (Str×Addr)}{it:Addr}{fp:List Addr}{tn:Nat→Heap→Prop}{J:It}{Q:VK}{E:Value→Shared→Prop}
 {RR:Value→Addr→Result→Shared→Prop}
 (hc:X.calm=true) (S:CompOk X scope Nt Nf caps)
 (hg:∀ cl C s0 H0 ex,PG (cxC X (Nt++Nf) scope cl C s0 H0 ex) tg g)
 (ht:∀ cl C s0 H0 ex,PTs (cxC X (Nt++Nf) scope cl C s0 H0 ex) ifs tt)
 (he:∀ cl C s0 H0 ex,PE (cxC X (Nt++Nf) scope cl C s0 H0 ex) elt te)
 (hcl:∀ x c,cl.lookup x=some c→X.env.cells.lookup x=some c) (hcf:∀ y∈scope.names,y.2=.free→∃ c,cl.lookup y.1=some c)
 (I:Inv X pins σ H s) (T:Turn X.prog X.w X.K tg J fp it tn) (st:tn 0 s.heap) (hfp:∀ b∈fp,FpOk X pins H b)
 (hW:∃ W:Nat→Nat→List V→St→Hp→Prop,(∃ m,W 0 m [] (cSt Nt.length caps σ) H)∧∀ i m acc σ' H',W i m acc σ' H' →
  (J.stop i H'∧∀ l,H' l=none→Q (.ref l) (upd H' l (.lst acc))) ∨
  (J.go i H'∧acc.length<sizeLine∧∃ N:List V→St→Hp→Prop,(∀ ac σ2 H2,N ac σ2 H2→∃ m',m'<m∧W (i+1) m' ac σ2 H2)∧∀ x H2,J.yld i H' x H2→g x σ' H2 fun σ3 H3=>tt σ3 H3 fun b H4=>if b=true then te σ3 H4 fun y H5=>N (acc++[y]) σ3 H5 else N acc σ3 H4))
 (fin:∀ D C m s' H',Inv X pins σ H' s'→Q (.ref D) H'→s'.heap.Ns C m→H' C=none→C≠X.env.locals→X.s₀.heap.objs.size≤C→(∀ x c,X.env.cells.lookup x=some c→c≠C)→(∀ p∈X.pn++pins,p.1≠C)→RR (.ref D) C (.ok .next) s') :
 wpAny (model X.prog X.w) X.A (newList []) (fun acc s₃=>wpAny (model X.prog X.w) X.A (newFunctionEnv scope X.env.globals cl [] X.env.qual none .none (some X.env)) (fun cenv s₄ =>
  codeAny (model X.prog X.w) X.A (.compStart (.ListComp elt [⟨tg,iter,ifs,0⟩] scope pos) 0 (.ref it) acc { cenv with scope:=relabel scope X.env }) (RR acc cenv.locals) s₄) E s₃) E s:=by
 obtain ⟨W,⟨m0,w0⟩,turn⟩:=hW
 refine wpAny_newObj_type (wpAny_newFunctionEnv S.nc (by intro y hy; simp at hy) (fun h₁ hns₁ hsb₁=>?_) S.kind)
 dsimp only at hns₁ hsb₁ ⊢
 generalize hH2:s.heap.push { cls:=.type "list",dict:=none,data:=.seq ([]:List Value).toArray }=P2 at hns₁ hsb₁ ⊢
 have hCs:P2.objs.size=s.heap.objs.size+1:=by rw [← hH2,Heap.size_push]
 have hDC:s.heap.objs.size≠P2.objs.size:=by rw [hCs]; exact Nat.ne_of_lt (Nat.lt_succ_self _)
 have hCle:s.heap.objs.size≤P2.objs.size:=by rw [hCs]; exact Nat.le_succ _
 have below:∀ b,b<s.heap.objs.size→b≠P2.objs.size:=fun b hb=>by rw [hCs]; exact Nat.ne_of_lt (Nat.lt_succ_of_lt hb)
 have old:∀ b o,s.heap.get? b=some o→h₁.get? b=some o:=fun b o e=>hsb₁.extBut b o (below b (Heap.lt_size e)) (gP _ (hH2 ▸ gP _ e))
 have hacc:h₁.PlainList s.heap.objs.size #[]:=⟨_,hsb₁.extBut _ _ hDC (gP _ (hH2 ▸ Heap.get?_push_size _ rfl))⟩
 have fpl:∀ b∈fp,b<s.heap.objs.size:=fun b hb=>by
  obtain ⟨o,e,_⟩:=T.obj _ _ st b hb
  exact Heap.lt_size e
 have st₁:tn 0 h₁:=T.keep _ _ _ st fun b _ o e=>old b o e
 generalize hCe:P2.objs.size=C at hns₁ hsb₁ hDC hCle below ⊢
 generalize hDe:s.heap.objs.size=D at hacc hDC hCle ⊢
 have hDl:X.env.locals<D:=by rw [← hDe]; exact I.lt
 have hDs:X.s₀.heap.objs.size≤D:=by rw [← hDe]; exact I.sz
 have hcD:∀ x c,X.env.cells.lookup x=some c→c<D:=fun x c e=>by
  obtain ⟨v,q⟩:=I.cell x c e
  rw [← hDe]; exact q.lt
 have hpD:∀ p∈X.pn++pins,p.1<D:=fun p hp=>by rw [← hDe]; exact Heap.lt_size (I.pin p hp).1
 let Y:Cx:=cxC X (Nt++Nf) scope cl C s H fp
 have okY:Y.Ok:=c00 I (by rw [hDe]; exact hCle) S.kind S.nc hcl hcf hfp fpl
 have hfsY:∀ b,b∈Y.fs→b<D:=fun b hb=>by
  rcases List.mem_cons.mp (I.stkSub b hb) with z | z
  · rw [z]; exact hDl
  · refine Nat.lt_of_lt_of_le ?_ hDs
    have:=(I.ok.funs.mem z)
    refine Nat.lt_of_not_le fun q=>?_
    exact absurd z (fun z=>by
     have:=I.nofs (a:=b)
     by_cases hb2:s.heap.objs.size≤b
     · exact this hb2 z
     · obtain ⟨_,o,e,_⟩:=I.ok.funs.mem z
       exact absurd (Heap.lt_size e) (Nat.not_lt.mpr q))
 have loop:∀ s₃:Shared,s₃={ s with heap:=h₁,toks:=s.toks+([]:List (Str×Value)).length } →
  codeAny (model X.prog X.w) X.A (.compLoop (.ListComp elt [⟨tg,iter,ifs,0⟩] scope pos) 0 (.ref it) (.ref D) Y.env) (RR (.ref D) C) s₃:=by
  rintro s₃ rfl
  have I0:Inv Y [] (cSt Nt.length caps σ) H { s with heap:=h₁,toks:=s.toks+([]:List (Str×Value)).length } :=
   br6 I okY hcl S.cap S.vis (fun x hx=>S.fr (x,.free) (PySem.mem_of_lookup (S.vis x hx)) rfl) (fun x hx=>hcf (x,.free) (PySem.mem_of_lookup (S.vis x hx)) rfl) rfl rfl old hns₁ (by rw [hDe]; exact hCle)
  have fpY:∀ {H':Hp},(∀ b∈fp,H' b=none)→∀ b∈fp,FpOk Y [] H' b:=fun hn b hb =>
   ⟨hn b hb,Nat.ne_of_lt (Nat.lt_of_lt_of_le (fpl b hb) (by rw [hDe]; exact hCle)),okY.exfs b hb,.inl hb,fun x c e=>(hfp b hb).2.2.2.2.1 x c (hcl x c e),fun p hp=>absurd (show p∈([]:List (Addr×Obj)) from hp) (by simp)⟩
  have fpD:∀ b∈fp,b≠D:=fun b hb=>Nat.ne_of_lt (by rw [← hDe]; exact fpl b hb)
  refine at3 (fun n s'=>∃ i acc its σ' H',Inv Y [] σ' H' s'∧tn i s'.heap∧(∀ b∈fp,H' b=none)∧s'.heap.PlainList D its∧H' D=none∧Vals acc its.toList∧acc.length≤sizeLine∧W i n acc σ' H') ?_ m0
   ⟨0,[],#[],cSt Nt.length caps σ,H,I0,st₁,fun b hb=>(hfp b hb).1,hacc,by rw [← hDe]; exact I.hok.fresh (Nat.le_refl _),.nil,Nat.zero_le _,w0⟩
  rintro n s3 ⟨i,acc,its,σ3,H3,I3,st3,fr3,⟨nd,e3⟩,hD3,rv3,hl3,w3⟩
  have cD:C≠D:=Ne.symm hDC
  have pinOk:∀ {H':Hp}{s':Shared}{o:Obj},s'.heap.get? D=some o→H' D=none→(∀ v,o.data≠.cell v)→s'.heap.get? D=some o∧H' D=none∧D≠Y.env.locals∧D∉Y.fs∧∀ v,o.data≠.cell v:=fun e n d =>
   ⟨e,n,hDC,fun z=>absurd (hfsY D z) (Nat.lt_irrefl _),d⟩
  have I3':Inv Y [(D,{ cls:=.type "list",data:=.seq its nd })] σ3 H3 s3:=I3.pins_of fun p hp=>by
   obtain rfl:p=(D,({ cls:=.type "list",data:=.seq its nd }:Obj)):=gG hp
   exact pinOk e3 hD3 (fun v z=>by cases z)
  have fpY':∀ {H':Hp},(∀ b∈fp,H' b=none)→∀ b∈fp,FpOk Y [(D,{ cls:=.type "list",data:=.seq its nd })] H' b:=fun hn b hb=>by
   obtain ⟨a1,a2,a3,a4,a5,_⟩:=fpY hn b hb
   refine ⟨a1,a2,a3,a4,a5,fun p hp=>?_⟩
   obtain rfl:p=(D,({ cls:=.type "list",data:=.seq its nd }:Obj)):=gG hp
   exact Ne.symm (fpD b hb)
  rcases turn i n acc σ3 H3 w3 with ⟨stop,qn⟩ | ⟨go,hlt,N,hN,step⟩
  · refine thn (T.done Y rfl rfl rfl hc i _ s3 σ3 H3 _ I3' (fpY' fr3) st3 stop) fun r s4 ⟨hr,I4⟩=>?_
    subst hr
    have e4:=(I4.pin (D,{ cls:=.type "list",data:=.seq its nd }) (List.mem_append_right _ List.mem_cons_self)).1
    have IX:Inv X pins σ H3 s4:=I.call' (ch:=fp) I4.os I4.base I4.hok I4.bare fun b hb=>by
     obtain ⟨_,a2,_,a4,a5,a6⟩:=hfp b hb
     exact ⟨a4,a2,a5,a6⟩
    have IA:=IX.adopt (o:=.lst acc) hD3 hDs (Nat.ne_of_gt hDl) (fun x c e=>Nat.ne_of_lt (hcD x c e)) (fun p hp=>Nat.ne_of_lt (hpD p hp)) ⟨hl3,its.toList,nd,rv3,e4⟩
    obtain ⟨m,nsC,_⟩:=I4.loc
    refine fin D C m s4 _ IA (qn D hD3) nsC (by rw [a04 cD]; exact I4.free) ?_ ?_ ?_ ?_
    · exact Nat.ne_of_gt (Nat.lt_of_lt_of_le hDl hCle)
    · exact Nat.le_trans hDs hCle
    · exact fun x c e=>Nat.ne_of_lt (Nat.lt_of_lt_of_le (hcD x c e) hCle)
    · exact fun p hp=>Nat.ne_of_lt (Nat.lt_of_lt_of_le (hpD p hp) hCle)
  · refine thn (T.item Y rfl rfl rfl hc i _ s3 σ3 H3 _ I3' (fpY' fr3) st3 go) fun r s4 ⟨u,hr,h4⟩=>?_
    subst hr
    refine thn h4 fun _ s5 ⟨x,H5,I5,r5,y5,st5,fr5⟩=>?_
    have I5':=I5.pinned (fpY' fr5) (T.obj _ _ st5)
    refine thn (hg cl C s H fp _ s5 σ3 H5 x u _ I5' r5 (step x H5 y5)) fun _ s6 ⟨σ6,H6,I6,q6⟩=>?_
    refine thn (ht cl C s H fp _ s6 σ6 H6 _ I6 q6) fun b s7 ⟨H7,I7,q7⟩=>?_
    have back:∀ {σ':St} {H':Hp}{s':Shared},Inv Y ([(D,{ cls:=.type "list",data:=.seq its nd })]++pinsAt fp s5.heap) σ' H' s' →
     s'.heap.get? D=some { cls:=.type "list",data:=.seq its nd }∧H' D=none∧tn (i+1) s'.heap∧∀ b∈fp,H' b=none:=fun {σ' H' s'} J7=>by
     have hd:=J7.pin (D,{ cls:=.type "list",data:=.seq its nd }) (List.mem_append_right _ (List.mem_append_left _ List.mem_cons_self))
     refine ⟨hd.1,hd.2.1,T.keep _ _ _ st5 fun b hb o e=>(J7.pin (b,o) (List.mem_append_right _ (List.mem_append_right _ (ad8 hb e)))).1,fun b hb=>?_⟩
     obtain ⟨o,e,d⟩:=T.obj _ _ st5 b hb
     exact (J7.pin (b,o) (List.mem_append_right _ (List.mem_append_right _ (ad8 hb e)))).2.1
    cases b with
    | false =>
      rw [if_neg Bool.false_ne_true]
      rw [if_neg Bool.false_ne_true] at q7
      obtain ⟨m',hm,w7⟩:=hN _ _ _ q7
      obtain ⟨b1,b2,b3,b4⟩:=back I7
      exact ⟨m',hm,i+1,acc,its,σ6,H7,I7.pins_of (fun p hp=>nomatch hp),b3,b4,⟨nd,b1⟩,b2,rv3,hl3,w7⟩
    | true =>
      rw [if_pos rfl]
      rw [if_pos rfl] at q7
      refine thn (he cl C s H fp _ s7 σ6 H7 _ I7 q7) fun u8 s8 ⟨y,H8,I8,r8,n8⟩=>?_
      obtain ⟨m',hm,w8⟩:=hN _ _ _ n8
      obtain ⟨b1,b2,b3,b4⟩:=back I8
      have hsz:its.size≤sizeLine:=by
       have h1:=rv3.length
       have h2:its.toList.length=its.size:=by simp
       omega
      refine wpAny_list_append_plain (hsz:=hsz) ⟨nd,b1⟩ fun h' pl' sb'=>?_
      have I8':Inv Y [] σ6 H8 s8:=I8.pins_of (fun p hp=>nomatch hp)
      refine ⟨m',hm,i+1,acc++[y],its.push u8,σ6,H8,I8'.turned (t':=s8.toks) (fun b o hb e=>(sb'.2 b hb).trans e) b2 hDC (.inr (by show s.heap.objs.size≤D; rw [hDe]; exact Nat.le_refl _)) (fun x c e=>Nat.ne_of_lt (hcD x c (hcl x c e))) (fun p hp=>absurd (show p∈([]:List (Addr×Obj)) from hp) (by simp)),?_,b4,pl',b2,?_,?_,w8⟩
      · exact T.keep _ _ _ b3 fun b hb o e=>(sb'.2 b (fpD b hb)).trans e
      · rw [Array.toList_push]
        exact rv3.append (.cons r8 .nil)
      · rw [List.length_append,List.length_singleton]
        omega
 exact codeAny_compStart_list (loop _ rfl) (T.self _ _ _ _ _ st₁ (loop _ rfl))
theorem ab7 {tg iter elt:Expr}{ifs:List Expr}{scope:Scope}{pos:Pos}{wi:TI}{g:TG}{tt:TT}{te:TE}{Nt Nf:List Str}{caps:List Nat}(hc:X.calm=true) (S:CompOk X scope Nt Nf caps) (hi:PI X tg iter wi)
 (hg:∀ cl C s0 H0 ex,PG (cxC X (Nt++Nf) scope cl C s0 H0 ex) tg g)
 (ht:∀ cl C s0 H0 ex,PTs (cxC X (Nt++Nf) scope cl C s0 H0 ex) ifs tt)
 (he:∀ cl C s0 H0 ex,PE (cxC X (Nt++Nf) scope cl C s0 H0 ex) elt te)
 (hs:∀ x,foldedSetIterable iter X.env x=pure x:=by intro _; rfl):PE X (.ListComp elt [⟨tg,iter,ifs,0⟩] scope pos) (tLC wi g tt te Nt.length caps):=by
 intro pins s σ H Q I h
 obtain ⟨cl,hclos,hcl,hcf⟩:=am2 I.ok.has S.fr
 rw [eval_ListComp]
 refine wpAny_comprehension_free (use:=none) rfl hs hclos S.kind S.nm (thn (hi pins s σ H _ I h) fun v s1 h1=>thn h1 fun itv s2 h2=>?_)
 obtain ⟨it,fp,tn,J,H2,e,I2,T,st2,f2,hW⟩:=h2
 subst e
 refine am3 (RR:=fun acc C=>compPost (model X.prog X.w) X.A X.xe none (EP X pins σ Q) acc C) (Q:=Q) hc S hg ht he hcl hcf I2 T st2 f2 hW ?_
 intro D C m s' H' I' q nsC hCn hCl hCs hCc hCp
 exact ⟨m,nsC,fun h' sb=>⟨.ref D,H',I'.turned (t':=s'.toks) (fun b o hb e=>(sb.2 b hb).trans e) hCn hCl (.inr hCs) hCc hCp,rfl,q⟩⟩
theorem ao9 {tg iter elt:Expr}{ifs:List Expr}{scope:Scope}{pos spos py:Pos}{y:Str}{i:Nat}{wi:TI}{g:TG}{tt:TT}{te:TE}{Nt Nf:List Str}{caps:List Nat}(hc:X.calm=true) (S:CompOk X scope Nt Nf caps) (hi:PI X tg iter wi)
 (hg:∀ cl C s0 H0 ex,PG (cxC X (Nt++Nf) scope cl C s0 H0 ex) tg g)
 (ht:∀ cl C s0 H0 ex,PTs (cxC X (Nt++Nf) scope cl C s0 H0 ex) ifs tt)
 (he:∀ cl C s0 H0 ex,PE (cxC X (Nt++Nf) scope cl C s0 H0 ex) elt te)
 (hN:X.N.Nodup) (hy:X.N[i]?=some y) (hx:Loc X.env.scope y)
 (hsw:swapsWith (.ListComp elt [⟨tg,iter,ifs,0⟩] scope pos) (some (.Name y py)) spos.line X.env=pure true)
 (hf:X.fn y=true∨X.env.scope.names.lookup y=some .local:=by first | exact .inl rfl | exact .inr rfl | assumption)
 (hs:∀ x,foldedSetIterable iter X.env x=pure x:=by intro _; rfl):PS X (.Assign [.Name y py] (.ListComp elt [⟨tg,iter,ifs,0⟩] scope pos) spos) (tAsg (tLC wi g tt te Nt.length caps) (gName i)):=by
 intro pins s σ H D I h
 obtain ⟨cl,hclos,hcl,hcf⟩:=am2 I.ok.has S.fr
 rw [exec_Assign_Name_used _ _ _ _ hsw]
 refine wB (wpAny_standAt (wB ?_))
 show wpAny _ X.A (do let _←comprehension (.ListComp elt [⟨tg,iter,ifs,0⟩] scope pos) scope X.env _ (newList []) false (eval iter X.env) (some (assign (.Name y py) X.env))) _ _ s
 refine wB (wpAny_mono (wpAny_comprehension_free (use:=some (assign (.Name y py) X.env)) (Q:=fun _ s'=>SP X pins D .next s') rfl hs hclos S.kind S.nm
  (thn (hi pins s σ H _ I h) fun v s1 h1=>thn h1 fun itv s2 h2=>?_)) (fun _ s' hq=>wpAny_pure (wpAny_pure hq)) fun _ _ e=>e)
 obtain ⟨it,fp,tn,J,H2,e,I2,T,st2,f2,hW⟩:=h2
 subst e
 refine am3 (RR:=fun acc C=>compPost (model X.prog X.w) X.A X.xe (some (assign (.Name y py) X.env)) (fun _ s'=>SP X pins D .next s') acc C) (Q:=fun x H1=>gName i x σ H1 D.nx) hc S hg ht he hcl hcf I2 T st2 f2 hW ?_
 intro l C m s' H' I' q nsC hCn hCl hCs hCc hCp
 show wpAny _ X.A (assign (.Name y py) X.env (.ref l)) _ _ _
 refine wpAny_assign_Name (ar7 (v:=.ref l) I' hN hy hx rfl (fun s'' I'' ⟨a,sb,ha⟩=>?_) hf)
 have haC:C≠a:=by
  rcases ha with z | z
  · rw [z]; exact hCl
  · exact fun e=>hCc y a z e.symm
 refine ⟨m,nsC.sameBut sb haC,fun h' sb'=>⟨_,H',I''.turned (t':=s''.toks) (fun b o hb e=>(sb'.2 b hb).trans e) hCn hCl (.inr hCs) hCc hCp,q⟩⟩
end
section
variable {X:Cx}{tg:Expr}
end
section
variable {X:Cx}
def strsV (ys:List Str):List V:=ys.map V.str
def CBig (i j:Int):Prop:=(i.natAbs<2 ^ 4096∧j.natAbs<2 ^ 4096)∨CMul i j
theorem bb5 {i:Int}{n:Nat}(h:i.natAbs<2 ^ n):Builtin.Int.intBits i≤n:=by
 unfold Builtin.Int.intBits
 split
 · exact Nat.zero_le _
 · rename_i h0
   have h1:i.natAbs≠0:=by simpa using h0
   have:=(Nat.log2_lt h1).mpr h
   omega
theorem CBig.ok {i j:Int}(h:CBig i j):IntMulOk i j:=by
 rcases h with ⟨h1,h2⟩ | h
 · exact IntMulOk.of_bits (Nat.le_trans (bb5 h1) (by decide)) (Nat.le_trans (bb5 h2) (by decide))
 · exact h.ok
theorem c01:OpR X (binaryOp .Mult) (rI CBig fun i j=>.int (i*j)):=opI fun _ _ _ _ _ _ _ hc q=>mul_int q hc.ok
theorem bj5:CallR X (.builtin "isinstance") (fun xs H Q=>∃ x n t b,xs=[x,.ty n]∧TyOf X.K H x t∧W.kitOne X.K t (.type n)=some b∧Q (.bl b) H):=by
 intro pins s σ H xs us Q I r h
 obtain ⟨x,n,t,b,rfl,ty,e,q⟩:=h
 obtain ⟨u,w',rfl,rx,ry⟩:=b96 r
 cases (show w'=Value.type n from ry)
 exact ba0 I rx ty e fun tk=>⟨.bl b,H,I.tok _,rfl,q⟩
def rEqS (K:W.Frag) (neg:Bool):R2:=fun x y H Q=>∃ l b ys zs,x=.ref l∧y=.ref b∧SqL K H l (strsV ys)∧SqL K H b (strsV zs)∧Q (.bl (if neg then !decide (ys=zs) else decide (ys=zs))) H
theorem ax0:∀ {ys:List Str}{us:List Value},Vals (strsV ys) us→∀ (i:Nat) (h:i<us.length),∃ y t,ys[i]?=some y∧us[i]=.str y t
 | [],_,r,i,h=>by cases r; simp at h
 | y::ys,_,r,i,h=>by
   cases r with
   | cons r1 r2 =>
     cases i with
     | zero =>
       obtain ⟨t,rfl⟩:=r1
       exact ⟨y,t,rfl,rfl⟩
     | succ i=>exact ax0 (ys:=ys) r2 i (by simpa using h)
theorem bb6:∀ (ys zs:List Str),ys.length=zs.length→((List.range ys.length).all fun i=>decide (ys[i]?=zs[i]?))=decide (ys=zs):=by
 intro ys zs hl
 rw [Bool.eq_iff_iff,List.all_eq_true,decide_eq_true_iff]
 constructor
 · intro h
   refine List.ext_getElem? fun i=>?_
   by_cases hi:i<ys.length
   · exact of_decide_eq_true (h i (List.mem_range.mpr hi))
   · rw [List.getElem?_eq_none (by omega),List.getElem?_eq_none (by omega)]
 · intro h i _
   subst h
   simp
end
section
variable {X:Cx}{e:Expr}{te:TE}{pos:Pos}
end
abbrev New (H:Hp) (o:HO) (Q:VK):Prop:=∀ p H',H p=none→Same H H'→H' p=some o→Q (.ref p) H'
theorem Same.new {H:Hp}{p:Addr}{o:HO}(h:H p=none):Same H (upd H p o):=fun b u e=>by rw [a04 (a08 e h)]; exact e
theorem New.to {H:Hp}{Q:VK}{o:HO}(h:New H o Q):∀ p,H p=none→Q (.ref p) (upd H p o):=fun p hp=>h p _ hp (Same.new hp) a28
section
variable {X:Cx}{es:List Expr}{t:TA}{pos:Pos}
def tLstN (t:TA):TE:=fun σ H Q=>t σ H fun xs H1=>xs.length≤sizeLine∧New H1 (.lst xs) Q
def tTupN (t:TA):TE:=fun σ H Q=>t σ H fun xs H1=>xs.length≤sizeLine∧New H1 (.tup xs) Q
theorem a46 {x1}(h:PA X es t):PE X (.Tuple es x1 pos) (tTupN t):=by
 intro pins s σ H Q I hq
 refine wpAny_Tuple_spliced (thn (h pos pins s σ H _ I hq) fun us s1 ⟨xs,H1,I1,r,z,q⟩=>⟨by rw [← r.length]; exact z,?_⟩)
 refine ⟨.ref s1.heap.objs.size,upd H1 s1.heap.objs.size (.tup xs),I1.laid (t':=s1.toks) (fun b u e=>gP _ e) (Nat.le_refl _) ?_,rfl,New.to q _ (I1.hok.fresh (Nat.le_refl _))⟩
 exact ⟨z,us,r,⟨_,Heap.get?_push_size _ rfl,rfl,_,rfl⟩⟩
theorem a42 (h:PA X es t):PE X (.List es pos) (tLstN t):=by
 intro pins s σ H Q I hq
 refine wpAny_List_spliced (thn (h pos pins s σ H _ I hq) fun us s1 ⟨xs,H1,I1,r,z,q⟩=>⟨by rw [← r.length]; exact z,?_⟩)
 refine ⟨.ref s1.heap.objs.size,upd H1 s1.heap.objs.size (.lst xs),I1.laid (t':=s1.toks) (fun b u e=>gP _ e) (Nat.le_refl _) ?_,rfl,New.to q _ (I1.hok.fresh (Nat.le_refl _))⟩
 exact ⟨z,us,0,r,Heap.get?_push_size _ rfl⟩
def rSlN (K:W.Frag):V→Option Int→Option Int→Hp→VK→Prop:=fun x lo hi H Q=>∃ a xs,x=.ref a∧SqL K H a xs∧New H (.lst (cutV xs lo hi)) Q
theorem bj6:SlR X (rSlN X.K):=by
 intro pins s σ H x v vl vu lo hi sl Q I rx hs pl pu h
 obtain ⟨a,xs,e,h1,h2⟩:=h
 exact bq9 pins s σ H x v vl vu lo hi sl Q I rx hs pl pu ⟨a,xs,e,h1,New.to h2⟩
theorem b67:CallR X (.type "list") (fun xs H Q=>∃ p ys,xs=[.ref p]∧(SqL X.K H p ys∨SqT X.K H p ys)∧New H (.lst ys) Q):=by
 intro pins s σ H xs us Q I r h
 obtain ⟨p,ys,e,h1,h2⟩:=h
 exact as4 pins s σ H xs us Q I r ⟨p,ys,e,h1,New.to h2⟩
theorem ax1:CallR X (.type "tuple") (fun xs H Q=>∃ p ys,xs=[.ref p]∧SqL X.K H p ys∧New H (.tup ys) Q):=by
 intro pins s σ H xs us Q I r h
 obtain ⟨p,ys,e,h1,h2⟩:=h
 exact ao7 pins s σ H xs us Q I r ⟨p,ys,e,.inl ⟨h1,New.to h2⟩⟩
end
def rIsi (K:W.Frag):List V→Hp→VK→Prop:=fun xs H Q=>∃ x n t b,xs=[x,.ty n]∧TyOf K H x t∧W.kitOne K t (.type n)=some b∧Q (.bl b) H
def tTru (K:W.Frag) (ta:TE):TT:=fun σ H Q=>ta σ H fun x H'=>∃ k,TruV K x H' k∧Q k H'
def rLen (K:W.Frag):List V→Hp→VK→Prop:=fun xs H Q=>∃ x n,xs=[x]∧LenV K x H n∧Q (.int n) H
def rToInt:List V→Hp→VK→Prop:=fun xs H Q=>(∃ i,xs=[.int i]∧Q (.int i) H)∨∃ k,xs=[.bl k]∧Q (.int (if k then 1 else 0)) H
def rListN (K:W.Frag):List V→Hp→VK→Prop:=fun xs H Q=>∃ p ys,xs=[.ref p]∧(SqL K H p ys∨SqT K H p ys)∧New H (.lst ys) Q
def rTupleN (K:W.Frag):List V→Hp→VK→Prop:=fun xs H Q=>∃ p ys,xs=[.ref p]∧SqL K H p ys∧New H (.tup ys) Q
section
variable {X:Cx}{a:Expr}{ta:TE}
theorem c02:CallR X (.builtin "isinstance") (rIsi X.K):=bj5
theorem c03 (ha:PE X a ta) (he:∀ whole,isTrue a X.env whole=(do let v←whole; standAt a.pos; holding [v] (truthy v))):PT X a (tTru X.K ta):=bi6 ha he
theorem c04:CallR X (.builtin "len") (rLen X.K):=bi7
theorem c05:CallR X (.type "int") rToInt:=b97
theorem br7:CallR X (.type "list") (rListN X.K):=b67
theorem bj7:CallR X (.type "tuple") (rTupleN X.K):=ax1
end
def rPlus:R2:=fun x y H Q=>match x,y with
 | .int i,.int j=>Q (.int (i+j)) H
 | .str i,.str j=>i.length+j.length≤sizeLine∧Q (.str (i++j)) H
 | .ref l,.ref b=>∃ xs zs,H l=some (.lst xs)∧H b=some (.lst zs)∧xs.length+zs.length≤sizeLine∧New H (.lst (xs++zs)) Q
 | _,_=>False
def rTimes:R2:=fun x y H Q=>match x,y with
 | .int i,.int j=>CBig i j∧Q (.int (i*j)) H
 | .str z,.int n=>MulOk z n∧Q (.str (Txt.mul z n)) H
 | _,_=>False
def rStr:List V→Hp→VK→Prop:=fun xs H Q=>match xs with
 | [.int i]=>i.natAbs.log2<1920∧Q (.str (toString i)) H
 | [.str z]=>Q (.str z) H
 | _=>False
section
variable {X:Cx}
theorem aa2:OpR X (binaryOp .Add) rPlus:=by
 intro pins s σ H x y v u Q I rx ry h
 cases x with
 | int i=>cases y with
   | int j=>exact by9 pins s σ H _ _ v u Q I rx ry ⟨i,j,rfl,rfl,h⟩
   | _=>exact (show False from h).elim
 | str i=>cases y with
   | str j=>exact b58 pins s σ H _ _ v u Q I rx ry ⟨i,j,rfl,rfl,h⟩
   | _=>exact (show False from h).elim
 | ref l=>cases y with
   | ref b =>
     obtain ⟨xs,zs,h1,h2,h3,h4⟩:=h
     exact bz6 pins s σ H _ _ v u Q I rx ry ⟨l,b,xs,zs,rfl,rfl,h1,h2,h3,New.to h4⟩
   | _=>exact (show False from h).elim
 | _=>exact (show False from h).elim
theorem ai2:OpR X (binaryOp .Mult) rTimes:=by
 intro pins s σ H x y v u Q I rx ry h
 cases x with
 | int i=>cases y with
   | int j=>exact c01 pins s σ H _ _ v u Q I rx ry ⟨i,j,rfl,rfl,h⟩
   | _=>exact (show False from h).elim
 | str z=>cases y with
   | int n =>
     obtain ⟨t,rfl⟩:=rx
     obtain ⟨t',rfl⟩:=ry
     exact SB.mul h.1 fun t2 k=>⟨.str _,H,I.tok _,⟨_,rfl⟩,h.2⟩
   | _=>exact (show False from h).elim
 | _=>exact (show False from h).elim
theorem a47 {scope sc:Scope}{Nt Nf:List Str}{caps:List Nat}(hsc:X.env.scope=sc) (kind:scope.kind=.function) (nc:∀ y∈scope.names,y.2≠.cell) (nm:∀ y∈scope.names,y.2=.local→scope.names.lookup y.1=some .local)
 (fr:∀ y∈scope.names,y.2=.free→sc.names.lookup y.1=some .cell∨sc.names.lookup y.1=some .free) (cap:caps.map (fun j=>X.N[j]?)=Nf.map some) (vis:∀ x∈Nf,scope.names.lookup x=some .free):CompOk X scope Nt Nf caps :=
 ⟨kind,nc,nm,fun y hy h=>by show X.env.scope.names.lookup y.1=_∨X.env.scope.names.lookup y.1=_; rw [hsc]; exact fr y hy h,cap,vis⟩
abbrev LcEnd (J:It) (te:TE) (tt:TT) (caps:List Nat) (σ:St) (H:Hp) (Q:VK):Prop:=∃ W:Nat→Nat→List V→St→Hp→Prop,(∃ m,W 0 m [] (cSt 1 caps σ) H)∧∀ i m acc σ' H',W i m acc σ' H' →
 (J.stop i H'∧∀ l,H' l=none→Q (.ref l) (upd H' l (.lst acc))) ∨
 (J.go i H'∧acc.length<sizeLine∧∃ N:List V→St→Hp→Prop,(∀ ac σ2 H2,N ac σ2 H2→∃ m',m'<m∧W (i+1) m' ac σ2 H2)∧∀ x H2,J.yld i H' x H2→gName 0 x σ' H2 fun σ3 H3=>tt σ3 H3 fun b H4=>if b=true then te σ3 H4 fun y H5=>N (acc++[y]) σ3 H5 else N acc σ3 H4)
theorem bo7 {J:It}{te:TE}{tt:TT}{caps:List Nat}{σ:St} {H:Hp}{Q:VK}(n:Nat) (hz:n≤sizeLine) (Pv:Nat→List V→Hp→Prop) (h0:Pv 0 [] H) (hl:∀ i acc H,Pv i acc H→acc.length≤i)
 (hgo:∀ i acc H,i<n→Pv i acc H→J.go i H) (hst:∀ acc H,Pv n acc H→J.stop n H)
 (hs:∀ i x acc H H2,i<n→Pv i acc H→J.yld i H x H2→tt (some x::capV caps σ) H2 fun b H4=>if b=true then te (some x::capV caps σ) H4 fun y H5=>Pv (i+1) (acc++[y]) H5 else Pv (i+1) acc H4)
 (hd:∀ acc H,Pv n acc H→New H (.lst acc) Q):LcEnd J te tt caps σ H Q:=by
 refine ⟨fun i m acc σ' H=>m=n - i∧i≤n∧(∃ v,σ'=v::capV caps σ)∧Pv i acc H,⟨n,by simp,Nat.zero_le _,⟨none,rfl⟩,h0⟩,?_⟩
 rintro i m acc σ' H' ⟨rfl,hi,⟨v,rfl⟩,p⟩
 by_cases hlt:i<n
 · refine .inr ⟨hgo i acc H' hlt p,?_,fun ac σ2 H2=>(∃ v,σ2=v::capV caps σ)∧Pv (i+1) ac H2,fun ac σ2 H2 ⟨e,p'⟩=>⟨n - (i+1),by omega,rfl,hlt,e,p'⟩,fun x H2 y=>?_⟩
   · have:=hl i acc H' p
     omega
   · have eN:∀ ac H5,((∃ u,some x::capV caps σ=u::capV caps σ)∧Pv (i+1) ac H5)=Pv (i+1) ac H5:=fun ac H5=>propext ⟨And.right,fun p=>⟨⟨_,rfl⟩,p⟩⟩
     show tt (some x::capV caps σ) H2 fun b H4=>if b=true then te (some x::capV caps σ) H4 fun y H5=>((∃ u,some x::capV caps σ=u::capV caps σ)∧Pv (i+1) (acc++[y]) H5) else ((∃ u,some x::capV caps σ=u::capV caps σ)∧Pv (i+1) acc H4)
     simp only [eN]
     exact hs i x acc H' H2 hlt p y
 · have e:i=n:=by omega
   subst e
   exact .inl ⟨hst acc H' p,New.to (hd acc H' p)⟩
theorem br8 {K:W.Frag}{a:Addr}{xs:List V}{te:TE}{tt:TT}{caps:List Nat}{σ:St} {H:Hp}{Q:VK}(hz:xs.length≤sizeLine) (Pv:Nat→List V→Hp→Prop) (h0:Pv 0 [] H) (hl:∀ i acc H,Pv i acc H→acc.length≤i∧SqL K H a xs)
 (hs:∀ i x acc H,xs[i]?=some x→Pv i acc H→tt (some x::capV caps σ) H fun b H4=>if b=true then te (some x::capV caps σ) H4 fun y H5=>Pv (i+1) (acc++[y]) H5 else Pv (i+1) acc H4)
 (hd:∀ acc H,Pv xs.length acc H→New H (.lst acc) Q):LcEnd (Itl K a) te tt caps σ H Q:=by
 refine bo7 xs.length hz Pv h0 (fun i acc H p=>(hl i acc H p).1) (fun i acc H hi p=>⟨xs,xs[i],(hl i acc H p).2,by simp [hi]⟩) (fun acc H p=>⟨xs,(hl _ acc H p).2,Nat.le_refl _⟩) ?_ hd
 rintro i x acc H1 H2 hi p ⟨rfl,y⟩
 exact hs i x acc _ (y xs (hl i acc _ p).2) p
theorem bj8 {lo:Int}{n:Nat}{te:TE}{tt:TT}{caps:List Nat}{σ:St} {H:Hp}{Q:VK}(hz:n≤sizeLine) (Pv:Nat→List V→Hp→Prop) (h0:Pv 0 [] H) (hl:∀ i acc H,Pv i acc H→acc.length≤i)
 (hs:∀ i acc H,i<n→Pv i acc H→tt (some (.int (lo+i))::capV caps σ) H fun b H4=>if b=true then te (some (.int (lo+i))::capV caps σ) H4 fun y H5=>Pv (i+1) (acc++[y]) H5 else Pv (i+1) acc H4)
 (hd:∀ acc H,Pv n acc H→New H (.lst acc) Q):LcEnd (Itr lo n) te tt caps σ H Q:=by
 refine bo7 n hz Pv h0 hl (fun i acc H hi p=>hi) (fun acc H p=>Nat.le_refl _) ?_ hd
 rintro i x acc H1 H2 hi p ⟨rfl,rfl⟩
 exact hs i acc _ hi p
end
end L2
namespace L2
open PySem
theorem ex_some_and {α:Type}{a:α}{p:α→Prop}:(∃ v,some (some a)=some (some v)∧p v)↔p a:=⟨fun ⟨_,e,h⟩=>by cases e; exact h,fun h=>⟨a,rfl,h⟩⟩
def ForEnd (J:It) (g:TG) (tb:TS) (D:Ends) (σ:St) (H1:Hp):Prop:=∃ W:Nat→Nat→St→Hp→Prop,(∃ m,W 0 m σ H1)∧∀ i m σ H,W i m σ H →
 (J.stop i H∧D.nx σ H)∨(J.go i H∧∃ N:St→Hp→Prop,(∀ σ' H',N σ' H'→∃ m',m'<m∧W (i+1) m' σ' H')∧∀ x H',J.yld i H x H'→g x σ H' fun σ2 H2=>tb { D with nx:=N,ct:=N,bk:=D.nx } σ2 H2)
def CompEnd (J:It) (g:TG) (tt:TT) (te:TE) (n:Nat) (caps:List Nat) (σ:St) (H:Hp) (Q:VK):Prop:=∃ W:Nat→Nat→List V→St→Hp→Prop,(∃ m,W 0 m [] (cSt n caps σ) H)∧∀ i m acc σ' H',W i m acc σ' H' →
 (J.stop i H'∧∀ l,H' l=none→Q (.ref l) (upd H' l (.lst acc))) ∨
 (J.go i H'∧acc.length<sizeLine∧∃ N:List V→St→Hp→Prop,(∀ ac σ2 H2,N ac σ2 H2→∃ m',m'<m∧W (i+1) m' ac σ2 H2)∧∀ x H2,J.yld i H' x H2→g x σ' H2 fun σ3 H3=>tt σ3 H3 fun b H4=>if b=true then te σ3 H4 fun y H5=>N (acc++[y]) σ3 H5 else N acc σ3 H4)
section
variable {K:W.Frag}{a:Addr}{xs:List V}{te:TE}{tt:TT}{caps:List Nat}{σ:St} {H:Hp}{Q:VK}{z:Str}{lo:Int}{n:Nat}
theorem a78 (hz:xs.length≤sizeLine) (Pv:Nat→List V→Hp→Prop) (h0:Pv 0 [] H) (hl:∀ i acc H,Pv i acc H→acc.length≤i∧SqL K H a xs)
 (hs:∀ i x acc H,xs[i]?=some x→Pv i acc H→tt (some x::capV caps σ) H fun b H4=>if b=true then te (some x::capV caps σ) H4 fun y H5=>Pv (i+1) (acc++[y]) H5 else Pv (i+1) acc H4)
 (hd:∀ acc H,Pv xs.length acc H→New H (.lst acc) Q):CompEnd (Itl K a) (gName 0) tt te 1 caps σ H Q:=br8 hz Pv h0 hl hs hd
theorem ap0 (hz:n≤sizeLine) (Pv:Nat→List V→Hp→Prop) (h0:Pv 0 [] H) (hl:∀ i acc H,Pv i acc H→acc.length≤i)
 (hs:∀ i acc H,i<n→Pv i acc H→tt (some (.int (lo+i))::capV caps σ) H fun b H4=>if b=true then te (some (.int (lo+i))::capV caps σ) H4 fun y H5=>Pv (i+1) (acc++[y]) H5 else Pv (i+1) acc H4)
 (hd:∀ acc H,Pv n acc H→New H (.lst acc) Q):CompEnd (Itr lo n) (gName 0) tt te 1 caps σ H Q:=bj8 hz Pv h0 hl hs hd
end
theorem cxOf_K {CX:CXT}{P:Program}{w:World}{K:W.Frag}{mg:Str→Option Value}{base:Heap}{N:List Str}{qual:Str}{scope:Scope}{f:Addr}{cd:Value}{A:Around}{outer:List Env}{s:Shared}{H:Hp}{E:XK} :
 (cxOf CX P w K mg base N qual scope f cd A outer s H E).K=K:=rfl
theorem cxC_K {X:Cx}{N:List Str}{scope:Scope}{cl:List (Str×Addr)}{C:Addr}{s0:Shared}{H0:Hp}{ex:List Addr}:(cxC X N scope cl C s0 H0 ex).K=X.K:=rfl
section
variable {X:Cx}
theorem a30 (K:W.Frag) (hK:X.K=K:=by rfl):IxR X (rIxL K):=hK ▸ bq8
theorem a43 (K:W.Frag) (hK:X.K=K:=by rfl):IxR X (rIxT K):=hK ▸ bz4
theorem b04 (K:W.Frag) (hK:X.K=K:=by rfl):SlR X (rSlN K):=hK ▸ bj6
theorem ap1 (K:W.Frag) (hK:X.K=K:=by rfl):CallR X (.builtin "isinstance") (rIsi K):=hK ▸ c02
theorem a95 (K:W.Frag) (hK:X.K=K:=by rfl):CallR X (.builtin "len") (rLen K):=hK ▸ c04
theorem ab4 (K:W.Frag) (hK:X.K=K:=by rfl):CallR X (.type "list") (rListN K):=hK ▸ br7
theorem aj3 (K:W.Frag) (hK:X.K=K:=by rfl):CallR X (.type "tuple") (rTupleN K):=hK ▸ bj7
theorem ah0 (K:W.Frag) {a:Expr}{ta:TE}(ha:PE X a ta) (he:∀ whole,isTrue a X.env whole=(do let v←whole; standAt a.pos; holding [v] (truthy v))) (hK:X.K=K:=by rfl):PT X a (tTru K ta):=hK ▸ c03 ha he
theorem a31 (K:W.Frag) {tg l:Expr}{tl:TE}(hl:PE X l tl) (hK:X.K=K:=by rfl):PI X tg l (iList K tl):=hK ▸ bp9 hl
theorem a79 (K:W.Frag) {pos:Pos}{es:List Expr}{k:Nat}{t:TGs}{n:Nat}(hc:X.calm=true) (h:PGs X es t) (hn:(assignEach es X.env).length=n:=by rfl) (hst:(assignEach es X.env).findIdx? (·.1)=none:=by rfl) (hK:X.K=K:=by rfl) :
 PG X (.Tuple es k pos) (gTup K n t):=hK ▸ by5 hc h hn hst
theorem bb7 (K:W.Frag) {o:Expr}{to:TE}{name:Str}{apos cpos:Pos}{T id:String}{r:V→List V→Hp→VK→Prop}(pa:PlainAttrs T) (slot:Slot T name id) (hty:typeOf (.builtin id)=pure (.type "method_descriptor")) (hm:MtR X id r) (ho:PE X o to)
 (hbase:attributeBase o name X.env (eval o X.env)=eval o X.env:=by rfl) (hline:(apos.endLine == cpos.line)=true:=by rfl) (hK:X.K=K:=by rfl):PE X (.Call (.Attribute o name apos) [] [] cpos) (tBM0 K T r to):=hK ▸ bz5 pa slot hty hm ho hbase hline
theorem a99 (K:W.Frag) {o e:Expr}{es:List Expr}{to:TE}{t:TA}{name:Str}{apos cpos:Pos}{T id:String}{r:V→List V→Hp→VK→Prop}(pa:PlainAttrs T) (slot:Slot T name id) (hty:typeOf (.builtin id)=pure (.type "method_descriptor")) (hm:MtR X id r) (ho:PE X o to) (ha:PA X (e::es) t)
 (hbase:attributeBase o name X.env (eval o X.env)=eval o X.env:=by rfl)
 (hfew:((backTo cpos (starEach (e::es) X.env)).all (fun x=>!x.1) && (backToKw cpos (keywordEach [] X.env)).all (fun x=>x.1.isSome) && decide ((e::es).length+([]:List Keyword).length+(if ([]:List Keyword).isEmpty then 0 else 1)<30))=true:=by rfl)
 (hline:(apos.endLine == cpos.line)=true:=by rfl) (hs:starEach (e::es) X.env=(false,eval e X.env)::starEach es X.env:=by rfl) (hplain:(backTo cpos (starEach es X.env)).any (·.1)=false:=by rfl) (hK:X.K=K:=by rfl) :
 PE X (.Call (.Attribute o name apos) (e::es) [] cpos) (tBM K T r to t):=hK ▸ c99 pa slot hty hm ho ha hbase hfew hline hs hplain
end
theorem aa0:bootBuiltins "len"=some (.builtin "len"):=by decide +kernel
theorem aa6:bootBuiltins "isinstance"=some (.builtin "isinstance"):=by decide +kernel
theorem bb8:bootBuiltins "sorted"=some (.builtin "sorted"):=by decide +kernel
theorem c06:bootBuiltins "sum"=some (.builtin "sum"):=by decide +kernel
theorem bo8:bootBuiltins "min"=some (.builtin "min"):=by decide +kernel
theorem c07:bootBuiltins "max"=some (.builtin "max"):=by decide +kernel
theorem c08:bootBuiltins "int"=some (.type "int"):=by decide +kernel
theorem ax2:bootBuiltins "bool"=some (.type "bool"):=by decide +kernel
theorem aa9:bootBuiltins "list"=some (.type "list"):=by decide +kernel
theorem ai3:bootBuiltins "tuple"=some (.type "tuple"):=by decide +kernel
theorem ax3:bootBuiltins "dict"=some (.type "dict"):=by decide +kernel
theorem bj9:bootBuiltins "range"=some (.type "range"):=by decide +kernel
end L2
local macro_rules | `(tactic| walk_at "rd") => `(tactic| simp only [L2.tCB, L2.tCons, L2.tNil, L2.tVar, L2.rStr, L2.tNoIf, L2.capV, List.map_nil, List.getElem?_cons_zero, L2.ex_some_and, if_true])
namespace L2
open PySem
theorem le_line {n:Nat}(h:n≤1000000):n≤sizeLine:=Nat.le_trans h (by decide)
theorem bo9 {ns:List Int}{k:Nat}:cutV (ns.map V.int) none (some (k:Int))=(ns.take k).map V.int:=by
 unfold cutV
 rw [HT.sIx_none,HT.sIx_nat,List.drop_zero,Nat.sub_zero,gL,List.map_take]
 by_cases h:k≤ns.length
 · rw [Nat.min_eq_left h]
 · rw [Nat.min_eq_right (by omega),List.take_of_length_le (by simp),List.take_of_length_le (by simp; omega)]
theorem nox_K {X:Cx}:X.nox.K=X.K:=rfl
theorem wish_K {X:Cx}{E:Value→Shared→Prop}:(X.wish E).K=X.K:=rfl
section
variable {σ:St} {H:Hp}{Q:VK}{D:Ends}{nn bb cc:St→Hp→Prop}{rr:VK}{t u:TS}{ta tb tc te:TE}{tA tB:TT}{g:TG}{QT:Bool→Hp→Prop}{QA:List V→Hp→Prop}{QS:St→Hp→Prop}
theorem ca2 (h:t ⟨u ⟨nn,rr,bb,cc⟩,rr,bb,cc⟩ σ H):tSeq t u ⟨nn,rr,bb,cc⟩ σ H:=h
theorem ca3 (h:te σ H fun x H1=>g x σ H1 nn):tAsg te g ⟨nn,rr,bb,cc⟩ σ H:=h
theorem i_name {i:Nat}{v:V}(h:QS (σ.set i (some v)) H):gName i v σ H QS:=h
theorem i_var {i:Nat}{v:V}(e:σ[i]?=some (some v)) (h:Q v H):tVar i σ H Q:=⟨v,e,h⟩
theorem i_c {v:V}(h:Q v H):tC v σ H Q:=h
theorem i_op {r:R2}(h:ta σ H fun x H1=>tb σ H1 fun y H2=>r x y H2 Q):tOp r ta tb σ H Q:=h
theorem i_rI {C:Int→Int→Prop}{f:Int→Int→V}{i j:Int}(c:C i j) (h:Q (f i j) H):rI C f (.int i) (.int j) H Q:=⟨i,j,rfl,rfl,c,h⟩
theorem ca4 {f:Int→Int→V}{i j:Int}(h:Q (f i j) H):rI0 f (.int i) (.int j) H Q:=⟨i,j,rfl,rfl,h⟩
theorem br9 {i j:Int}(h:Q (.int (i+j)) H):rPlus (.int i) (.int j) H Q:=h
theorem bs0 {l b:Addr}{xs zs:List V}(h1:H l=some (.lst xs)) (h2:H b=some (.lst zs)) (z:xs.length+zs.length≤sizeLine) (h:New H (.lst (xs++zs)) Q):rPlus (.ref l) (.ref b) H Q:=⟨xs,zs,h1,h2,z,h⟩
theorem ai4 {i j:Int}(c:CBig i j) (h:Q (.int (i*j)) H):rTimes (.int i) (.int j) H Q:=⟨c,h⟩
theorem decI (i j:Int):decide (V.int i=V.int j)=decide (i=j):=by rw [Bool.eq_iff_iff]; simp
theorem decS (i j:Str):decide (V.str i=V.str j)=decide (i=j):=by rw [Bool.eq_iff_iff]; simp
theorem decB (i j:Bool):decide (V.bl i=V.bl j)=decide (i=j):=by rw [Bool.eq_iff_iff]; simp
theorem ca5 {i j:Int}(h:Q (.bl (decide (i=j))) H):rEq (.int i) (.int j) H Q:=⟨rfl,by rw [decI]; exact h⟩
theorem ca6 {i j:Str}(h:Q (.bl (decide (i=j))) H):rEq (.str i) (.str j) H Q:=⟨rfl,by rw [decS]; exact h⟩
theorem ca7 {i j:Bool}(h:Q (.bl (!decide (i=j))) H):rNe (.bl i) (.bl j) H Q:=⟨rfl,by rw [decB]; exact h⟩
theorem c09 (h:te σ H fun x H'=>∃ k,x=.bl k∧QT k H'):tTest te σ H QT:=h
theorem i_bl {k:Bool}{p:Bool→Prop}(h:p k):∃ j,V.bl k=V.bl j∧p j:=⟨k,rfl,h⟩
theorem ca8 (h:tA σ H fun b H1=>if b=true then t D σ H1 else u D σ H1):tIfS tA t u D σ H:=h
theorem i_if (h:tA σ H fun b H1=>if b=true then ta σ H1 Q else tb σ H1 Q):tIf tA ta tb σ H Q:=h
theorem ca9 (h:te σ H rr):tRet te ⟨nn,rr,bb,cc⟩ σ H:=h
theorem c28 (h:nn σ H):tNext ⟨nn,rr,bb,cc⟩ σ H:=h
theorem c29 (h:te σ H fun _ H1=>nn σ H1):tDrop te ⟨nn,rr,bb,cc⟩ σ H:=h
theorem c30 {tr:TA}(h:te σ H fun x H1=>tr σ H1 fun xs H2=>QA (x::xs) H2):tCons te tr σ H QA:=h
theorem cb0 (h:QA [] H):tNil σ H QA:=h
theorem i_cb {r:List V→Hp→VK→Prop}{ts:TA}(h:ts σ H fun vs H1=>r vs H1 Q):tCB r ts σ H Q:=h
theorem c31 {sp:Sp}{dvs:List V}{E:XK}{ts:TA}(h:ts σ H fun vs H1=>sp (vs++dvs) H1 Q E):tCall sp dvs E ts σ H Q:=h
theorem cb1 {ts:TA}(h:ts σ H fun xs H1=>xs.length≤sizeLine∧New H1 (.lst xs) Q):tLstN ts σ H Q:=h
theorem cb2 {ts:TA}(h:ts σ H fun xs H1=>xs.length≤sizeLine∧New H1 (.tup xs) Q):tTupN ts σ H Q:=h
theorem c32 {n:Nat}{P:Prop}(h:n≤sizeLine) (p:P):n≤sizeLine∧P:=⟨h,p⟩
theorem i_rgA {j:Int}{P:Prop}(h:-(2 ^ 62)≤j) (h':j<2 ^ 62) (p:P):-(2 ^ 62)≤j∧j<2 ^ 62∧P:=⟨h,h',p⟩
theorem c33 (h:QT true H):tNoIf σ H QT:=h
theorem cb3 (h:tA σ H fun c H1=>QT (!c) H1):tNot tA σ H QT:=h
theorem i_or (h:tA σ H fun c H1=>if c=true then QT true H1 else tB σ H1 QT):tOr tA tB σ H QT:=h
theorem c34 (h:ta σ H fun x H1=>∃ c,x=.bl c∧if c=true then tb σ H1 Q else Q (.bl false) H1):tAndV ta tb σ H Q:=h
theorem cb4 {wi:TI}(h:wi σ H fun J H1=>ForEnd J g t D σ H1):tFor wi g t D σ H:=h
theorem i_lc {wi:TI}{n:Nat}{caps:List Nat}(h:wi σ H fun J H1=>CompEnd J g tA te n caps σ H1 Q):tLC wi g tA te n caps σ H Q:=h
theorem c35 {R:It→Hp→Prop}{ts:TA}(h:ts σ H fun vs H1=>∃ j:Int,vs=[.int j]∧-(2 ^ 62)≤j∧j<2 ^ 62∧R (Itr 0 j.toNat) H1):by8 ts σ H R:=h
theorem bs1 {K:W.Frag}{R:It→Hp→Prop}(h:te σ H fun x H1=>∃ a,x=.ref a∧(∃ xs,SqL K H1 a xs)∧R (Itl K a) H1):iList K te σ H R:=h
theorem cb5 {j:Int}{p:Int→Prop}(h:p j):∃ i:Int,[V.int j]=[V.int i]∧p i:=⟨j,rfl,h⟩
theorem cb6 {a:Addr}{p:Addr→Prop}(h:p a):∃ b,V.ref a=V.ref b∧p b:=⟨a,rfl,h⟩
theorem i_bm {K:W.Frag}{T:String}{r:V→List V→Hp→VK→Prop}{to:TE}{ts:TA}(h:to σ H fun x H1=>tyV K T x H1∧ts σ H1 fun xs H2=>r x xs H2 Q):tBM K T r to ts σ H Q:=h
theorem cb7 {K:W.Frag}{T:String}{r:V→List V→Hp→VK→Prop}{to:TE}(h:to σ H fun x H1=>tyV K T x H1∧r x [] H1 Q):tBM0 K T r to σ H Q:=h
theorem a65 {K:W.Frag}{p:Addr}{xs:List V}{i:Int}{v:V}(h1:SqL K H p xs) (h2:atI xs i=some v) (h:Q v H):rIxL K (.ref p) (.int i) H Q:=⟨p,xs,i,v,rfl,rfl,h1,h2,h⟩
theorem a96 {K:W.Frag}{p:Addr}{xs:List V}{i:Int}{v:V}(h1:SqT K H p xs) (h2:atI xs i=some v) (h:Q v H):rIxT K (.ref p) (.int i) H Q:=⟨p,xs,i,v,rfl,rfl,h1,h2,h⟩
theorem i_sl {r:V→Option Int→Option Int→Hp→VK→Prop}{tl th:TO}(h:te σ H fun x H1=>tl σ H1 fun l H2=>th σ H2 fun u H3=>r x l u H3 Q):tSl r te tl th σ H Q:=h
theorem bk0 {QO:Option Int→Hp→Prop}(h:QO none H):tNoPart σ H QO:=h
theorem c36 {QO:Option Int→Hp→Prop}(h:te σ H fun x H1=>∃ i,x=.int i∧QO (some i) H1):tPart te σ H QO:=h
theorem cb8 {i:Int}{p:Int→Prop}(h:p i):∃ j,V.int i=V.int j∧p j:=⟨i,rfl,h⟩
theorem c37 {K:W.Frag}{a:Addr}{xs:List V}{lo hi:Option Int}(h1:SqL K H a xs) (h:New H (.lst (cutV xs lo hi)) Q):rSlN K (.ref a) lo hi H Q:=⟨a,xs,rfl,h1,h⟩
theorem ax4 {A B:Prop}(h:A):if true=true then A else B:=iteT h
theorem ax5 {A B:Prop}(h:B):if false=true then A else B:=iteF h
theorem c38 {A B:Prop}(h:B):if (!true)=true then A else B:=iteF h
theorem c39 {c A B:Prop} [Decidable c] (hc:c) (h:A):if decide c=true then A else B:=by rw [decide_eq_true hc]; exact iteT h
theorem c40 {c A B:Prop} [Decidable c] (hc:¬ c) (h:B):if decide c=true then A else B:=by rw [decide_eq_false hc]; exact iteF h
theorem at5 {c A B:Prop} [Decidable c] (hc:¬ c) (h:A):if (!decide c)=true then A else B:=by rw [decide_eq_false hc]; exact iteT h
theorem at6 {c A B:Prop} [Decidable c] (hc:c) (h:B):if (!decide c)=true then A else B:=by rw [decide_eq_true hc]; exact iteF h
theorem ae9 {K:W.Frag}{n:Nat}{ts:TGs}{a:Addr}{xs:List V}(h1:SqT K H a xs) (h2:xs.length=n) (h:ts xs σ H QS):gTup K n ts (.ref a) σ H QS:=⟨a,xs,rfl,h1,h2,h⟩
theorem c41 (h:QS σ H):gNil [] σ H QS:=⟨rfl,h⟩
theorem bs2 {gt:TG}{us:TGs}{v:V}{r:List V}(h:gt v σ H fun σ' H'=>us r σ' H' QS):gCons gt us (v::r) σ H QS:=⟨v,r,rfl,h⟩
theorem c42 {K:W.Frag}{z:Bool}(h:Q (.bl true) H):rIsi K [V.bl z,V.ty "bool"] H Q:=⟨_,_,_,true,rfl,.bl z,rfl,h⟩
theorem bb9 {K:W.Frag}{z:Int}(h:Q (.bl false) H):rIsi K [V.int z,V.ty "bool"] H Q:=⟨_,_,_,false,rfl,.int z,by rfl,h⟩
theorem cb9 {K:W.Frag}(h:te σ H fun x H'=>∃ k,TruV K x H' k∧QT k H'):tTru K te σ H QT:=h
theorem c43 {K:W.Frag}{k:Bool}{p:Bool→Prop}(h:p k):∃ j,TruV K (.bl k) H j∧p j:=⟨k,rfl,h⟩
theorem ab0 {K:W.Frag}{p:Addr}{xs:List V}(h1:SqL K H p xs) (h:Q (.int xs.length) H):rLen K [V.ref p] H Q:=⟨_,_,rfl,.inl ⟨xs,h1,rfl⟩,h⟩
theorem c44 {k:Bool}(h:Q (.int (if k then 1 else 0)) H):rToInt [V.bl k] H Q:=.inr ⟨k,rfl,h⟩
theorem ad1 {K:W.Frag}{p:Addr}{ys:List V}(h1:SqL K H p ys) (h:New H (.lst ys) Q):rListN K [.ref p] H Q:=⟨p,ys,rfl,.inl h1,h⟩
theorem ap2 {K:W.Frag}{p:Addr}{ys:List V}(h1:SqL K H p ys) (h:New H (.tup ys) Q):rTupleN K [.ref p] H Q:=⟨p,ys,rfl,h1,h⟩
end
end L2
namespace L2
open PySem PySem.Spec PyProof.Rows
section
variable {X:Cx}
end
theorem ae0 {K:W.Frag}{a:Addr}{xs:List V}{te:TE}{tt:TT}{caps:List Nat}{σ:St} {H:Hp}{Q:VK}(hz:xs.length≤sizeLine) (Pv:Nat→List V→Hp→Prop) (h0:Pv 0 [] H) (hl:∀ i acc H,Pv i acc H→acc.length≤i∧SqL K H a xs)
 (hs:∀ i x acc H,xs[i]?=some x→Pv i acc H→∃ p u v,x=.ref p∧SqT K H p [u,v]∧tt (some u::some v::capV caps σ) H fun b H4=>if b=true then te (some u::some v::capV caps σ) H4 fun y H5=>Pv (i+1) (acc++[y]) H5 else Pv (i+1) acc H4)
 (hd:∀ acc H,Pv xs.length acc H→New H (.lst acc) Q):CompEnd (Itl K a) (gTup K 2 (gCons (gName 0) (gCons (gName 1) gNil))) tt te 2 caps σ H Q:=by
 refine ⟨fun i m acc σ' H=>m=xs.length - i∧i≤xs.length∧(∃ u v,σ'=u::v::capV caps σ)∧Pv i acc H,⟨xs.length,by simp,Nat.zero_le _,⟨none,none,rfl⟩,h0⟩,?_⟩
 rintro i m acc σ' H' ⟨rfl,hi,⟨u0,v0,rfl⟩,p⟩
 obtain ⟨hl1,hq⟩:=hl i acc H' p
 by_cases hlt:i<xs.length
 · refine .inr ⟨⟨xs,xs[i],hq,by simp [hlt]⟩,by omega,fun ac σ2 H2=>(∃ u v,σ2=u::v::capV caps σ)∧Pv (i+1) ac H2,fun ac σ2 H2 ⟨e,p'⟩=>⟨xs.length - (i+1),by omega,rfl,hlt,e,p'⟩,fun x H2 y=>?_⟩
   obtain ⟨e,y⟩:=y
   subst e
   obtain ⟨q,u,v,rfl,hT,hst⟩:=hs i x acc _ (y xs hq) p
   have eN:∀ ac H5,((∃ u1 v1,some u::some v::capV caps σ=u1::v1::capV caps σ)∧Pv (i+1) ac H5)=Pv (i+1) ac H5:=fun ac H5=>propext ⟨And.right,fun p=>⟨⟨_,_,rfl⟩,p⟩⟩
   refine ⟨q,[u,v],rfl,hT,rfl,u,[v],rfl,v,[],rfl,rfl,?_⟩
   show tt (some u::some v::capV caps σ) _ fun b H4=>if b=true then te (some u::some v::capV caps σ) H4 fun y H5=>((∃ u1 v1,some u::some v::capV caps σ=u1::v1::capV caps σ)∧Pv (i+1) (acc++[y]) H5) else ((∃ u1 v1,some u::some v::capV caps σ=u1::v1::capV caps σ)∧Pv (i+1) acc H4)
   simp only [eN]
   exact hst
 · have e:i=xs.length:=by omega
   subst e
   exact .inl ⟨⟨xs,hq,Nat.le_refl _⟩,New.to (hd acc H' p)⟩
section
variable {σ:St} {H:Hp}{Q:VK}
theorem a64 {l:Addr}{xs:List V}{y:V}(h1:H l=some (.lst xs)) (hz:xs.length<sizeLine) (h:Q .non (upd H l (.lst (xs++[y])))):rAppend (.ref l) [y] H Q:=⟨l,xs,y,rfl,rfl,h1,hz,h⟩
theorem c45 {l:Addr}{xs:List V}{y:V}(h1:H l=some (.lst (xs++[y]))) (h:Q y (upd H l (.lst xs))):rPop (.ref l) [] H Q:=⟨l,xs++[y],y,rfl,rfl,h1,by simp,by simpa using h⟩
theorem ab2 {K:W.Frag}{l:Addr}{xs:List V}{P:Prop}(h1:SqL K H l xs) (h:P):tyV K "list" (.ref l) H∧P:=⟨.inl ⟨rfl,xs,h1⟩,h⟩
end
def Tups (H H':Hp):Prop:=∀ b xs,H b=some (.tup xs)→H' b=some (.tup xs)
theorem Same.tups {H H':Hp}(s:Same H H'):Tups H H':=fun b xs h=>s b _ h
theorem Tups.trans {H H1 H2:Hp}(a:Tups H H1) (b:Tups H1 H2):Tups H H2:=fun c xs h=>b c xs (a c xs h)
theorem Tups.upd {H:Hp}{l:Addr}{xs:List V}{o:HO}(h:H l=some (.lst xs)):Tups H (upd H l o):=fun b ys e=>by rw [a04 (ab1 e h (fun z=>nomatch z))]; exact e
end L2
namespace L2
open PySem
theorem Same.updNew {H H1:Hp}{l:Addr}{o:HO}(s:Same H H1) (h:H l=none):Same H (upd H1 l o):=fun b u e=>by rw [a04 (a08 e h)]; exact s b u e
inductive Ex where
 | num (i:Int)
 | box (n:Str)
 | two (k:Bool) (a b:Ex)
end L2
namespace L2
open PySem PySem.Spec PyProof.Rows
inductive Cd where
 | cmp (k:Bool) (a b:Ex)
 | nt (c:Cd)
 | both (c d:Cd)
def jl (c:Nat):List (List Nat)→List Nat
 | []=>[]
 | [x]=>x
 | x::y::r=>x++c::jl c (y::r)
end L2
namespace L2
open PySem
inductive Th where
 | ex (e:Ex)
 | cd (c:Cd)
theorem c46 {σ:St} {H:Hp}{Q:VK}{td ty:TE}(h:td σ H fun x H1=>ty σ H1 fun y H2=>∃ a v,x=.ref a∧DGet H2 a y (some v)∧Q v H2):tDGet td ty σ H Q:=h
end L2
namespace L2
open PySem PySem.Spec PyProof.Rows
theorem bs3 {X:Cx}(K:W.Frag) (hu:X.A.units<cLine) (hK:X.K=K:=by rfl):OpR X (compareOp .NotEq) (rEqS K true):=by
 subst hK
 intro pins s σ H x y v u Q I rx ry h
 obtain ⟨l,b,ys,zs,rfl,rfl,h1,h2,q⟩:=h
 cases rx
 cases ry
 obtain ⟨is1,r1,p1,_⟩:=I.list h1
 obtain ⟨is2,r2,p2,_⟩:=I.list h2
 have e1:ys.length=is1.length:=by have:=r1.length; simpa [strsV] using this
 have e2:zs.length=is2.length:=by have:=r2.length; simpa [strsV] using this
 by_cases hl:ys.length=zs.length
 · have:=SeqAt.RcNeAt.lists (A:=X.A) (s:=s) (e:=fun i=>decide (ys[i]?=zs[i]?)) p1.isList p2.isList (by simp; omega) hu (fun j h1 h2=>by
    obtain ⟨y,t,ey,eu⟩:=ax0 r1 j (by simpa using h1)
    obtain ⟨z,t',ez,ew⟩:=ax0 r2 j (by simpa using h2)
    have:decide (ys[j]?=zs[j]?)=(y == z):=by rw [ey,ez,Bool.eq_iff_iff]; simp
    rw [this]
    have g1:is1.toArray[j]=.str y t:=by simpa using eu
    have g2:is2.toArray[j]=.str z t':=by simpa using ew
    rw [g1,g2]
    exact SeqAt.EqAt.str_str y t z t')
   rw [show is1.toArray.size=ys.length by simp [e1],bb6 ys zs hl] at this
   exact this _ _ _ _ ⟨.bl _,H,I,rfl,q⟩
 · have hne:ys≠zs:=fun e=>hl (by rw [e])
   rw [decide_eq_false hne] at q
   exact SeqAt.RcNeAt.lists_lengths p1.isList p2.isList (by simp; omega) hu _ _ _ _ ⟨.bl _,H,I,rfl,q⟩
theorem cc0 {K:W.Frag}{H:Hp}{Q:VK}{l b:Addr}{ys zs:List Str}(h1:SqL K H l (strsV ys)) (h2:SqL K H b (strsV zs)) (h:Q (.bl (!decide (ys=zs))) H):rEqS K true (.ref l) (.ref b) H Q:=⟨l,b,ys,zs,rfl,rfl,h1,h2,h⟩
end L2
namespace L2
open PySem
inductive Tr where
 | non
 | int (i:Int)
 | str (s:Str)
 | tup (xs:List Tr)
 | lst (xs:List Tr)
mutual
def Tr.At (H:Hp):Tr→V→List Addr→Prop
 | .non,v,fs=>v=.non∧fs=[]
 | .int i,v,fs=>v=.int i∧fs=[]
 | .str s,v,fs=>v=.str s∧fs=[]
 | .tup xs,v,fs=>∃ a vs,v=.ref a∧H a=some (.tup vs)∧Tr.Ats H xs vs fs
 | .lst xs,v,fs=>∃ a vs gs,v=.ref a∧H a=some (.lst vs)∧Tr.Ats H xs vs gs∧fs=a::gs
def Tr.Ats (H:Hp):List Tr→List V→List Addr→Prop
 | [],vs,fs=>vs=[]∧fs=[]
 | x::xs,vs,fs=>∃ v ws f g,vs=v::ws∧fs=f++g∧Tr.At H x v f∧Tr.Ats H xs ws g
end
def Keep (fs:List Addr) (H H':Hp):Prop:=Tups H H'∧∀ a∈fs,∀ xs,H a=some (.lst xs)→H' a=some (.lst xs)
theorem Same.keep {H H':Hp}(s:Same H H') (fs:List Addr):Keep fs H H':=⟨s.tups,fun a _ xs h=>s a _ h⟩
theorem Keep.sub {fs gs:List Addr}{H H':Hp}(k:Keep fs H H') (h:∀ a∈gs,a∈fs):Keep gs H H':=⟨k.1,fun a m=>k.2 a (h a m)⟩
mutual
theorem Tr.At.mono {H H':Hp}:∀ {x:Tr}{v:V}{fs:List Addr},x.At H v fs→Keep fs H H'→x.At H' v fs
 | .non,_,_,h,_=>by simpa only [Tr.At] using h
 | .int _,_,_,h,_=>by simpa only [Tr.At] using h
 | .str _,_,_,h,_=>by simpa only [Tr.At] using h
 | .tup xs,v,fs,h,k=>by
   simp only [Tr.At] at h ⊢
   obtain ⟨a,vs,e,g,r⟩:=h
   exact ⟨a,vs,e,k.1 _ _ g,Tr.Ats.mono r k⟩
 | .lst xs,v,fs,h,k=>by
   simp only [Tr.At] at h ⊢
   obtain ⟨a,vs,gs,e,g,r,rfl⟩:=h
   exact ⟨a,vs,gs,e,k.2 _ (by simp) _ g,Tr.Ats.mono r (k.sub fun b m=>by simp [m]),rfl⟩
theorem Tr.Ats.mono {H H':Hp}:∀ {xs:List Tr}{vs:List V}{fs:List Addr},Tr.Ats H xs vs fs→Keep fs H H'→Tr.Ats H' xs vs fs
 | [],_,_,h,_=>by simpa only [Tr.Ats] using h
 | x::xs,vs,fs,h,k=>by
   simp only [Tr.Ats] at h ⊢
   obtain ⟨v,ws,f,g,e,rfl,a,b⟩:=h
   exact ⟨v,ws,f,g,e,rfl,Tr.At.mono a (k.sub fun c m=>by simp [m]),Tr.Ats.mono b (k.sub fun c m=>by simp [m])⟩
end
theorem Tr.Ats.len {H:Hp}:∀ {xs:List Tr}{vs:List V}{fs:List Addr},Tr.Ats H xs vs fs→vs.length=xs.length
 | [],vs,fs,h=>by
   simp only [Tr.Ats] at h
   obtain ⟨rfl,rfl⟩:=h
   rfl
 | y::xs,vs,fs,h=>by
   simp only [Tr.Ats] at h
   obtain ⟨w,ws,f,g,rfl,rfl,b,c⟩:=h
   simp [c.len]
end L2
namespace L2
open PySem PySem.Spec PyProof.Rows
mutual
def Tr.h:Tr→Nat
 | .non=>0
 | .int _=>0
 | .str _=>0
 | .tup xs=>Tr.hs xs+1
 | .lst xs=>Tr.hs xs+1
def Tr.hs:List Tr→Nat
 | []=>0
 | x::xs=>max x.h (Tr.hs xs)
end
theorem b05 (n:Nat):((List.range n).all fun _=>true)=true:=by simp
theorem a53 (A:Around):A.in1.units=A.units+1:=rfl
section
variable {X:Cx}{pins:List (Addr×Obj)}{σ:St} {H:Hp}{s:Shared}
mutual
theorem Tr.eqAt (I:Inv X pins σ H s):∀ {t:Tr}{A:Around}{v w:V}{fs gs:List Addr}{u z:Value},t.At H v fs→t.At H w gs→RelV v u→RelV w z→A.units+t.h<cLine→SeqAt.EqAt A s u z true
 | .non,A,v,w,fs,gs,u,z,h1,h2,r1,r2,hu=>by
   simp only [Tr.At] at h1 h2
   obtain ⟨rfl,-⟩:=h1
   obtain ⟨rfl,-⟩:=h2
   cases r1
   cases r2
   exact SeqAt.EqAt.same _
 | .int i,A,v,w,fs,gs,u,z,h1,h2,r1,r2,hu=>by
   simp only [Tr.At] at h1 h2
   obtain ⟨rfl,-⟩:=h1
   obtain ⟨rfl,-⟩:=h2
   obtain ⟨t1,rfl⟩:=r1
   obtain ⟨t2,rfl⟩:=r2
   have:=SeqAt.EqAt.int_int (A:=A) (s:=s) i t1 i t2
   simpa using this
 | .str i,A,v,w,fs,gs,u,z,h1,h2,r1,r2,hu=>by
   simp only [Tr.At] at h1 h2
   obtain ⟨rfl,-⟩:=h1
   obtain ⟨rfl,-⟩:=h2
   obtain ⟨t1,rfl⟩:=r1
   obtain ⟨t2,rfl⟩:=r2
   have:=SeqAt.EqAt.str_str (A:=A) (s:=s) i t1 i t2
   simpa using this
 | .tup xs,A,v,w,fs,gs,u,z,h1,h2,r1,r2,hu=>by
   simp only [Tr.At] at h1 h2
   obtain ⟨a,vs,rfl,e1,c1⟩:=h1
   obtain ⟨b,ws,rfl,e2,c2⟩:=h2
   cases r1
   cases r2
   by_cases hab:a=b
   · subst hab
     exact SeqAt.EqAt.same _
   refine SeqAt.EqAt.of_refs hab ?_
   obtain ⟨is1,q1,p1,_⟩:=I.tuple (SqT.of e1)
   obtain ⟨is2,q2,p2,_⟩:=I.tuple (SqT.of e2)
   simp only [Tr.h] at hu
   have hl:is1.length=is2.length:=by rw [← q1.length,←q2.length,c1.len,c2.len]
   have:=SeqAt.RcAt.tuples (A:=A) (s:=s) (e:=fun _=>true) p1 p2 (by omega) (fun j h1 h2=>by
    have:=Tr.eqAts I (A:=A.in1) c1 c2 q1 q2 (by rw [a53]; omega) j (by simpa using h1) (by simpa using h2)
    simpa using this)
   simpa [hl,b05] using this
 | .lst xs,A,v,w,fs,gs,u,z,h1,h2,r1,r2,hu=>by
   simp only [Tr.At] at h1 h2
   obtain ⟨a,vs,_,rfl,e1,c1,_⟩:=h1
   obtain ⟨b,ws,_,rfl,e2,c2,_⟩:=h2
   cases r1
   cases r2
   by_cases hab:a=b
   · subst hab
     exact SeqAt.EqAt.same _
   refine SeqAt.EqAt.of_refs hab ?_
   obtain ⟨is1,q1,p1,_⟩:=I.list (SqL.of e1)
   obtain ⟨is2,q2,p2,_⟩:=I.list (SqL.of e2)
   simp only [Tr.h] at hu
   have hl:is1.length=is2.length:=by rw [← q1.length,←q2.length,c1.len,c2.len]
   have:=SeqAt.RcAt.lists (A:=A) (s:=s) (e:=fun _=>true) p1.isList p2.isList (by simpa using hl) (by omega) (fun j h1 h2=>by
    have:=Tr.eqAts I (A:=A.in1) c1 c2 q1 q2 (by rw [a53]; omega) j (by simpa using h1) (by simpa using h2)
    simpa using this)
   simpa [b05] using this
theorem Tr.eqAts (I:Inv X pins σ H s):∀ {ts:List Tr}{A:Around}{vs ws:List V}{fs gs:List Addr}{us zs:List Value},Tr.Ats H ts vs fs→Tr.Ats H ts ws gs→Vals vs us→Vals ws zs→A.units+Tr.hs ts<cLine →
 ∀ (j:Nat) (h1:j<us.length) (h2:j<zs.length),SeqAt.EqAt A s us[j] zs[j] true
 | [],A,vs,ws,fs,gs,us,zs,c1,c2,q1,q2,hu,j,h1,h2=>by
   simp only [Tr.Ats] at c1
   obtain ⟨rfl,-⟩:=c1
   cases q1
   exact absurd h1 (by simp)
 | t::ts,A,vs,ws,fs,gs,us,zs,c1,c2,q1,q2,hu,j,h1,h2=>by
   simp only [Tr.Ats] at c1 c2
   obtain ⟨v,vs,f,g,rfl,rfl,a1,b1⟩:=c1
   obtain ⟨w,ws,f',g',rfl,rfl,a2,b2⟩:=c2
   cases q1 with
   | cons r1 q1 =>
   cases q2 with
   | cons r2 q2 =>
   simp only [Tr.hs] at hu
   cases j with
   | zero=>exact Tr.eqAt I a1 a2 r1 r2 (by omega)
   | succ j=>exact Tr.eqAts I b1 b2 q1 q2 (by omega) j (by simpa using h1) (by simpa using h2)
end
end
section
variable {prog:Program}{w:World}{A:Around}{E:Value→Shared→Prop}
end
section
variable {X:Cx}{pos:Pos}
end
theorem b06 {H:Hp}{Q:VK}{l b:Addr}{xs zs:List V}(h1:H l=some (.lst xs)) (h2:H b=some (.lst zs)) (hz:xs.length+zs.length≤sizeLine) (h:Q .non (upd H l (.lst (xs++zs)))):rExtend (.ref l) [.ref b] H Q:=⟨l,b,xs,zs,rfl,rfl,h1,h2,hz,h⟩
end L2
namespace L2
open PySem
section
variable {H:Hp}{v:V}{fs:List Addr}
end
section
variable {H:Hp}{v:V}{fs:List Addr}
end
end L2
namespace L2
open PySem PySem.Spec PyProof.Rows
section
variable {X:Cx}
end
theorem b07 {H:Hp}:∀ ns:List Int,Tr.Ats H (ns.map Tr.int) (ns.map V.int) []
 | []=>by simp [Tr.Ats]
 | n::ns=>by
   simp only [List.map_cons,Tr.Ats]
   exact ⟨_,_,[],[],rfl,rfl,by simp [Tr.At],b07 ns⟩
theorem ax6:∀ ns:List Int,Tr.hs (ns.map Tr.int)=0
 | []=>by simp [Tr.hs]
 | n::ns=>by simp [Tr.hs,Tr.h,ax6 ns]
end L2
namespace L2
def keptP (ws:List (Option Nat)) (n:Nat):List Nat:=(List.range n).filter fun i=>decide (ws[i]?=some none)
def kept (ws:List (Option Nat)):List Nat:=keptP ws ws.length
end L2
namespace L2
open PySem
section
variable {prog:Program}{w:World}{K:Type} [DecidableEq K] {knd:KeyKind prog w K}{A:Around}{E:Value→Shared→Prop}{s:Shared}
theorem ag1:plainId "dict.update.loop"=true:=by decide +kernel
theorem at8:entryFor table "dict.update.loop"=some Builtin.«dict.update.loop»:=entryFor_of_fast (by kernel_rfl)
theorem bc0:typeLookup (.type "list") "keys"=pure none:=am_miss_of_fast (by decide +kernel)
theorem getAttr?_miss_list {a:Addr}{o:Obj}{xs:Array Value}{k:Nat}{name:Str}{Q:Option Value→Shared→Prop}
 (hx:s.heap.get? a=some o) (hc:o.cls=.type "list") (hdat:o.data=.seq xs k) (hd:o.dict=none) (hmiss:typeLookup (.type "list") name=pure none) (hname:(["__module__","__name__","__qualname__","__doc__","__annotations__"]:List Str).contains name=false) (hA:A.handled=none)
 (h:∀ h' tk,(∀ b o,s.heap.get? b=some o→h'.get? b=some o)→Q none { s with heap:=h',toks:=tk }) (hsz:name.length+100≤sizeLine:=by size_fits) :
 wpAny (model prog w) A (getAttr? (.ref a) name) Q E s:=by
 obtain ⟨c,dct,dat,sl⟩:=o
 simp only at hc hdat hd
 subst hc hdat hd
 obtain ⟨hp,g,d,tk,os⟩:=s
 have hT:∀ tk',(⟨hp,g,d,tk',os⟩:Shared).TypeIs (.ref a) "list":=fun _=>⟨_,hx,rfl⟩
 have f1:=sub_AttributeError
 have f3:=F.slot_list_getattribute.lookup
 have f4:=F.slot_list_getattribute.bind (.ref a)
 have f5:=am_list_getattr_none
 unfold getAttr? getAttrBy? getAttrBy
 repeat (any_goals (first | assumption | exact hT _ | ((with_reducible show wpAny _ _ (call (Value.builtin "list.__getattribute__") _ _) _ _ _); refine call_meets F.slot_list_getattribute (hT _) am_entry_list_getattribute (F.args_list_getattribute_2 _ _) (meets_getattribute_miss_list a xs k sl name _ hmiss hname hsz) ⟨hx,hA,fun h' tk' e hx'=>?_⟩) | wp_step))
 obtain ⟨t',u',he⟩:=hx'.there
 show wpAny _ _ (getattributeRaised _ _ _ _ _ _ _) _ _ _
 unfold getattributeRaised
 repeat (any_goals (first | assumption | wp_step))
 exact h _ _ hx'.keeps
end
section
variable {prog:Program}{w:World}{K:Type} [DecidableEq K] {knd:KeyKind prog w K}{A:Around}{E:Value→Shared→Prop}{s:Shared}
def PairsAt (knd:KeyKind prog w K) (h:Heap) (items:Array Value) (ps:List (K×Value)) (no:List Addr):Prop :=
 ps.length=items.size∧∀ (j:Nat) (x:Value),items[j]?=some x→∃ T k key v,x=.ref T∧T∉no∧h.IsTuple T #[key,v]∧knd.is k key=true∧ps[j]?=some (k,v)
theorem PairsAt.mono {h h':Heap}{items:Array Value}{ps:List (K×Value)}{no:List Addr}(p:PairsAt knd h items ps no) (k:∀ b o,b∉no→h.get? b=some o→h'.get? b=some o):PairsAt knd h' items ps no :=
 ⟨p.1,fun j x e=>by
  obtain ⟨T,k1,key,v,h1,h2,⟨o,h3,h3'⟩,h4,h5⟩:=p.2 j x e
  exact ⟨T,k1,key,v,h1,h2,⟨o,k T o h2 h3,h3'⟩,h4,h5⟩⟩
theorem ax7 {R:Result→Shared→Prop}{d it l:Addr}{items:Array Value}{ps:List (K×Value)}{res:Value}(hdi:d≠it) (hli:l≠it) (hld:l≠d) (hA:A.handled=none) :
 ∀ (n i:Nat) (s:Shared) (kvs:List (K×Value)),items.size - i=n→i≤items.size→s.heap.IsListIter it l i→s.heap.IsList l items→s.heap.DictOf knd d kvs→kvs.length+n≤sizeLine→PairsAt knd s.heap items ps [d,it] →
 (∀ h' tk,h'.DictOf knd d (merged kvs (ps.drop i))→(∀ b o,b≠d→b≠it→s.heap.get? b=some o→h'.get? b=some o)→R (.ok (.ret res)) { s with heap:=h',toks:=tk }) →
 codeAny (model prog w) A (.builtin "dict.update.loop" ⟨[.ref d,.ref it,rawInt i,res],[]⟩) R s:=by
 intro n
 induction n with
 | zero =>
   intro i s kvs hn hi hit hl hd hz hp hR
   have e:i=items.size:=by omega
   subst e
   refine codeAny_builtin at8 ?_
   rw [Around.under_plainId ag1 _]
   show wpAny _ A.in1 (pyNext (.ref it) >>= _) _ _ s
   refine wB (wpAny_pyNext_list_end (by exact hA) hit hl (Array.getElem?_eq_none (Nat.le_refl _)) fun h' hx=>?_)
   show wpAny _ _ (Builtin.Dict.addKeywords d [] >>= _) _ _ _
   refine wB (wpAny_pure (wpAny_pure ?_))
   refine hR h' s.toks ?_ fun b o _ h2 e=>hx b o h2 e
   rw [List.drop_of_length_le (Nat.le_of_eq hp.1)]
   exact hd.extBut hx hdi
 | succ n ih =>
   intro i s kvs hn hi hit hl hd hz hp hR
   have hlt:i<items.size:=by omega
   obtain ⟨T,k,key,v,e1,e2,hT,hk,hv⟩:=hp.2 i items[i] (by simp [hlt])
   refine codeAny_builtin at8 ?_
   rw [Around.under_plainId ag1 _]
   show wpAny _ A.in1 (pyNext (.ref it) >>= _) _ _ s
   refine wB (wpAny_pyNext_list_item hit hl (x:=items[i]) (by simp [hlt]) fun h1 hit1 hs1=>?_)
   rw [e1]
   have hTd:T≠d:=fun z=>e2 (by simp [z])
   have hTi:T≠it:=fun z=>e2 (by simp [z])
   obtain ⟨oT,hoT,cT,nT,dT⟩:=hT
   have hoT1:h1.get? T=some oT:=(hs1.2 T hTi).trans hoT
   have tT:({ s with heap:=h1 }:Shared).TypeIs (.ref T) "tuple":=⟨oT,hoT1,cT⟩
   show wpAny _ _ (holding [Value.ref T] _ >>= _) _ _ _
   refine wB (wpAny_holding ?_)
   refine wB (wpAny_tryCatch ?_)
   unfold Builtin.Dict.pairItems
   refine wB (wpAny_typeOf tT ?_)
   rw [if_pos (by decide)]
   refine wB (wpAny_seqItems hoT1 dT (wpAny_pure ?_))
   show wpAny _ _ (holding [key,v] (dictSet d key v)) _ _ _
   refine wpAny_holding ?_
   have hd1:h1.DictOf knd d kvs:=hd.sameBut hs1 hdi
   refine wpAny_dictSet_pairs (hsz:=by omega) hk hd1 fun h2 hd2 hs2=>?_
   refine wpAny_pure ⟨plainId_quiet ag1 _,?_⟩
   have kp:∀ b o,b≠d→b≠it→s.heap.get? b=some o→h2.get? b=some o:=fun b o hb1 hb2 e=>(hs2.2 b hb1).trans ((hs1.2 b hb2).trans e)
   have hit2:h2.IsListIter it l (i+1):=let ⟨o,e,r⟩:=hit1; ⟨o,(hs2.2 it (Ne.symm hdi)).trans e,r⟩
   have hl2:h2.IsList l items:=let ⟨o,e,r⟩:=hl; ⟨o,kp l o hld hli e,r⟩
   have:=ih (i+1) { s with heap:=h2,toks:=s.toks+1 } (stored kvs k v) (by omega) (by omega) hit2 hl2 hd2 (by have:=stored_length_le kvs k v; omega) (hp.mono fun b o hb e=>kp b o (fun z=>hb (by simp [z])) (fun z=>hb (by simp [z])) e) (fun h' tk hd' kp'=>?_)
   · exact this
   · refine hR h' tk ?_ fun b o h3 h4 e=>kp' b o h3 h4 (kp b o h3 h4 e)
     have hdr:ps.drop i=(k,v)::ps.drop (i+1):=by
      obtain ⟨hj,ej⟩:=gS hv
      rw [List.drop_eq_getElem_cons hj,ej]
     rw [hdr]
     exact hd'
theorem aj4 {l:Addr}{o:Obj}{items:Array Value}{n:Nat}{ps:List (K×Value)}{Q:Value→Shared→Prop}(ho:s.heap.get? l=some o) (hc:o.cls=.type "list") (hd:o.dict=none) (hdat:o.data=.seq items n)
 (hA:A.handled=none) (hp:PairsAt knd s.heap items ps []) (hz:items.size≤sizeLine)
 (h:∀ h' tk,h'.DictOf knd s.heap.objs.size (merged [] ps)→(∀ b o,s.heap.get? b=some o→h'.get? b=some o)→Q (.ref s.heap.objs.size) { s with heap:=h',toks:=tk }) :
 wpAny (model prog w) A (call (.type "dict") [.ref l]) Q E s:=by
 refine callType_codes (Q₁:=fun obj s₁=>obj=.ref s.heap.objs.size∧s₁={ s with heap:=s.heap.push { cls:=.type "dict",data:=.dict #[] } }) F.kt_called_dict (F.kt_typeCall_dict_1 _) F.entry_dict_init (kt_code_dict_new _ ⟨rfl,rfl⟩) ?_
 rintro obj s₁ ⟨rfl,rfl⟩
 have hnew:(s.heap.push { cls:=.type "dict",data:=.dict #[] }).DictOf knd s.heap.objs.size []:=Heap.DictOf.new s.heap
 have hlt:=Heap.lt_size ho
 have ho':(s.heap.push { cls:=.type "dict",data:=.dict #[] }).get? l=some o:=gP _ ho
 refine ⟨hnew.typeIs,F.args_dict_init_2 _ _,?_⟩
 unfold Builtin.«dict.__init__»
 refine wB ?_
 unfold Builtin.Dict.selfAndRest
 refine wB (wpAny_notOrdered_dict hnew.typeIs ?_)
 show wpAny _ _ (pure (s.heap.objs.size,[Value.ref l])) _ _ _
 refine wpAny_pure ?_
 show wpAny _ _ (Builtin.Dict.updateFrom "dict.__init__" s.heap.objs.size (.ref l) [] .none) _ _ _
 unfold Builtin.Dict.updateFrom
 refine wB (wpAny_typeOf (T:="list") ⟨o,ho',hc⟩ ?_)
 rw [if_pos (by decide)]
 refine wB (getAttr?_miss_list ho' hc hdat hd bc0 (by decide) (by exact hA) fun h1 tk1 k1=>?_)
 show wpAny _ _ (rule _ >>= _) _ _ _
 refine wB (wpAny_rule ?_)
 have k0:∀ b q,s.heap.get? b=some q→h1.get? b=some q:=fun b q e=>k1 b q (gP _ e)
 have hl1:h1.IsList l items:=⟨o,k0 l o ho,hc,n,hdat⟩
 refine wB (wpAny_pyIter_list hl1 (wpAny_pure ⟨plainId_quiet ag1 _,?_⟩))
 have hd1:h1.DictOf knd s.heap.objs.size []:=by
  obtain ⟨q,es,ep,e1,e2,e3⟩:=hnew
  exact ⟨q,es,ep,k1 _ _ e1,e2,e3⟩
 have hds:s.heap.objs.size<h1.objs.size:=by
  obtain ⟨q,es,ep,e1,_⟩:=hd1
  exact Heap.lt_size e1
 have hl1s:l<h1.objs.size:=Heap.lt_size (k0 l o ho)
 refine ax7 (knd:=knd) (items:=items) (ps:=ps) (d:=s.heap.objs.size) (it:=h1.objs.size) (l:=l) (Nat.ne_of_lt hds) (Nat.ne_of_lt hl1s) (Nat.ne_of_lt hlt) (by exact hA) items.size 0 _ [] (by omega) (Nat.zero_le _) ⟨_,Heap.get?_push_size _ rfl,rfl,rfl⟩ (hl1.push _) (hd1.push _) (by simpa using hz) ⟨hp.1,fun j x e=>?_⟩ fun h' tk hd' kp=>?_
 · obtain ⟨T,k,key,v,e1,_,⟨oT,e2,e3⟩,e4,e5⟩:=hp.2 j x e
   refine ⟨T,k,key,v,e1,?_,⟨oT,gP _ (k0 _ _ e2),e3⟩,e4,e5⟩
   have h1:=Heap.lt_size e2
   have h2:=Heap.lt_size (k0 _ _ e2)
   simp only [List.mem_cons,List.not_mem_nil,or_false,not_or]
   exact ⟨Nat.ne_of_lt h1,Nat.ne_of_lt h2⟩
 · exact ⟨rfl,h h' tk hd' fun b q e=>kp b q (Nat.ne_of_lt (Heap.lt_size e)) (Nat.ne_of_lt (Heap.lt_size (k0 _ _ e))) (gP _ (k0 b q e))⟩
end
end L2
namespace L2
open PySem PySem.Spec PyProof.Rows
section
variable {X:Cx}{pins:List (Addr×Obj)}{σ:St} {H:Hp}{s:Shared}
theorem Inv.turnedL {t':Nat}{h':Heap}{ch:List Addr}(I:Inv X pins σ H s) (k:∀ b o,b∉ch→s.heap.get? b=some o→h'.get? b=some o) (hf:∀ b∈ch,FpOk X pins H b):Inv X pins σ H { s with heap:=h',toks:=t' }:=by
 have nit:∀ b u,H b=some u→b∉ch:=fun b u e z=>by rw [(hf b z).1] at e; cases e
 refine I.step (g':=s.gens) (d':=s.drawn) (ch:=ch) (fun b hb=>⟨(hf b hb).2.2.2.1,(hf b hb).2.1,(hf b hb).2.2.2.2.1,(hf b hb).2.2.2.2.2⟩) (fun b o _ _ hc e _=>k b o hc e) (fun b o _ _ hc e _=>⟨o.slots,k b o hc e⟩) (fun _ _ _ _ n=>n)
  (fun b o hc e=>⟨o,k b o hc e⟩) (fun _ _ e=>e) (fun _ _ _ e=>e) (fun b ps e=>⟨#[],by rw [e]; simp⟩) (fun m hm=>?_) (fun b u e=>?_) I.bare
 · obtain ⟨o,es,ep,ho,r⟩:=hm
   exact ⟨o,es,ep,k _ o (fun z=>(hf _ z).2.1 rfl) ho,r⟩
 · refine (I.hok b u e).stay (fun c v hc q=>k c v ?_ q) (fun _ q=>q) fun _ _ q=>q
   rcases hc with z | z
   · rw [z]; exact nit b u e
   · exact nit c _ z
end
def Ite (K:W.Frag) (a:Addr):It :=
 ⟨fun i H=>∃ xs x,SqL K H a xs∧xs[i]?=some x,fun i H v H'=>∃ p y,v=.ref p∧H p=none∧Same H H'∧H' p=some (.tup [.int (i:Nat),y])∧∀ xs,SqL K H a xs→xs[i]?=some y,fun i H=>∃ xs,SqL K H a xs∧xs.length≤i⟩
theorem bc1 {P:Program}{w:World}{K:W.Frag}{elts:List Expr}{x1:Nat}{pos:Pos}(a e it:Addr) (hne:e≠it) :
 Turn P w K (.Tuple elts x1 pos) (Ite K a) [e,it] e (fun i h=>(∃ old,IsEnum h e it (i:Nat) old)∧h.IsListIter it a i) where
 mem:=by simp
 obj:=fun i h st b hb=>by
  obtain ⟨⟨old,he⟩,o,e2,c,d⟩:=st
  rcases (by simpa using hb:b=e∨b=it) with rfl | rfl
  · exact ⟨_,he,fun v z=>by cases z⟩
  · exact ⟨o,e2,fun v z=>by rw [d] at z; cases z⟩
 keep:=fun i h h' st k=>⟨let ⟨old,he⟩:=st.1; ⟨old,k e (by simp) _ he⟩,st.2.at fun o x=>k it (by simp) o x⟩
 item:=by
  intro X hP hw hK hc i pins s σ H E I hf st hg
  subst hP hw hK
  obtain ⟨xs,x,hq,hx⟩:=hg
  obtain ⟨its,rv,p,hz⟩:=I.list hq
  obtain ⟨u,hu,ru⟩:=rv.get hx
  obtain ⟨⟨old,he⟩,hit⟩:=st
  have helt:e<s.heap.objs.size:=Heap.lt_size he
  have hilt:it<s.heap.objs.size:=by obtain ⟨_,q,_⟩:=hit; exact Heap.lt_size q
  refine wpAny_pyNext_enum_item he hit p.isList (x:=u) (by simpa using hu) hne fun h' ho hit' hT hsz hk=>?_
  have fr:H s.heap.objs.size=none:=I.hok.fresh (Nat.le_refl _)
  have I1:Inv X pins σ H { s with heap:=h',toks:=s.toks+1 }:=I.turnedL (ch:=[e,it]) (fun b o hb q=>hk b o (fun z=>hb (by simp [z])) (fun z=>hb (by simp [z])) q) hf
  have I2:Inv X pins σ (upd H s.heap.objs.size (.tup [.int (i:Nat),x])) { s with heap:=h',toks:=s.toks+1 }:=I1.adopt (o:=.tup [.int (i:Nat),x]) fr I.sz (Nat.ne_of_gt I.lt) (fun y c ec z=>by
   obtain ⟨v,q⟩:=I.cell y c ec
   exact absurd q.lt (by rw [z]; exact Nat.lt_irrefl _)) (fun q hq z=>absurd (Heap.lt_size (I.pin q hq).1) (by rw [z]; exact Nat.lt_irrefl _))
   ⟨le_line (by simp),[.int (i:Nat) s.toks,u],.cons ⟨_,rfl⟩ (.cons ru .nil),⟨_,hT,rfl,_,rfl⟩⟩
  have ne:∀ b∈[e,it],b≠s.heap.objs.size:=fun b hb=>by
   rcases (by simpa using hb:b=e∨b=it) with rfl | rfl
   · exact Nat.ne_of_lt helt
   · exact Nat.ne_of_lt hilt
  have hf2:∀ b∈[e,it],FpOk X pins (upd H s.heap.objs.size (.tup [.int (i:Nat),x])) b:=fun b hb=>⟨by rw [a04 (ne b hb)]; exact (hf b hb).1,(hf b hb).2⟩
  refine ⟨_,rfl,wpAny_letOwnedTupleGo_enum ho fun h2 he2 hs2=>⟨.ref s.heap.objs.size,_,I2.turnedL (t':=s.toks+1) (ch:=[e]) (fun b o hb q=>(hs2.2 b (fun z=>hb (by simp [z]))).trans q) (fun b hb=>hf2 b (by simp at hb; simp [hb])),rfl,⟨s.heap.objs.size,x,rfl,fr,Same.new fr,a28,fun ys hy=>by rw [I.list_inj hy hq]; exact hx⟩,⟨⟨_,by simpa using he2⟩,hit'.at fun o q=>(hs2.2 it (Ne.symm hne)).trans q⟩,fun b hb=>(hf2 b hb).1⟩⟩
 done:=by
  intro X hP hw hK hc i pins s σ H E I hf st hg
  subst hP hw hK
  obtain ⟨xs,hq,hx⟩:=hg
  obtain ⟨its,rv,p,hz⟩:=I.list hq
  obtain ⟨⟨old,he⟩,hit⟩:=st
  have hl:=rv.length
  exact wpAny_pyNext_enum_end (I.ok.hd hc) he hit p.isList (by simp; omega) fun h' eb=>⟨rfl,I.turnedL (t':=s.toks) (ch:=[it]) (fun b o hb q=>eb b o (fun z=>hb (by simp [z])) q) (fun b hb=>hf b (by simp at hb; simp [hb]))⟩
 self:=fun A i s Q E st h=>let ⟨old,he⟩:=st.1; wpAny_pyIter_enum he h
section
variable {X:Cx}{elts:List Expr}{x1:Nat}{tpos:Pos}
def iEnum (K:W.Frag) (ta:TA):TI:=fun σ H R=>ta σ H fun vs H1=>∃ a,vs=[.ref a]∧(∃ xs,SqL K H1 a xs)∧R (Ite K a) H1
theorem ap3 (K:W.Frag) {a:Expr}{ta:TA}{p pos:Pos}(hg:Gl X "enumerate") (hm:X.mg "enumerate"=none) (ha:PA X [a] ta) (hs:starEach [a] X.env=[(false,eval a X.env)]:=by rfl) (hK:X.K=K:=by rfl):PI X (.Tuple elts x1 tpos) (.Call (.Name "enumerate" p) [a] [] pos) (iEnum K ta):=by
 subst hK
 intro pins s σ H R I h
 refine Call_ (af8 I hg hm boot_enumerate (PyProof.Rows.callWith_type1 (thn (ha pos pins s σ H _ I h) fun us s1 ⟨vs,H1,I1,r1,q1⟩=>?_) hs rfl))
 obtain ⟨l,e,⟨xs,hq⟩,q⟩:=q1
 subst e
 obtain ⟨u,rfl,ru⟩:=ai9 r1
 cases ru
 obtain ⟨its,rv,pl,hz⟩:=I1.list hq
 refine call_enumerate_list pl.isList fun h' he hit hsz hk=>?_
 refine wpAny_pyIter_enum he ?_
 refine ⟨s1.heap.objs.size+1,[s1.heap.objs.size+1,s1.heap.objs.size],_,_,H1,rfl,I1.kept (t':=s1.toks) hk,bc1 l _ _ (Nat.succ_ne_self _),⟨⟨_,he⟩,hit⟩,fun b hb=>?_,q⟩
 have hb':s1.heap.objs.size≤b:=by
  rcases (by simpa using hb:b=s1.heap.objs.size+1∨b=s1.heap.objs.size) with rfl | rfl <;> omega
 exact I1.fpOk hb' (I1.hok.fresh hb')
theorem c47 {K:W.Frag}{σ:St} {H:Hp}{R:It→Hp→Prop}{ts:TA}(h:ts σ H fun vs H1=>∃ a,vs=[.ref a]∧(∃ xs,SqL K H1 a xs)∧R (Ite K a) H1):iEnum K ts σ H R:=h
theorem c48 {a:Addr}{p:Addr→Prop}(h:p a):∃ b,[V.ref a]=[V.ref b]∧p b:=⟨a,rfl,h⟩
theorem bs4 {K:W.Frag}{a:Addr}{xs:List V}{te:TE}{tt:TT}{caps:List Nat}{σ:St} {H:Hp}{Q:VK}(hz:xs.length≤sizeLine) (Pv:Nat→List V→Hp→Prop) (h0:Pv 0 [] H) (hl:∀ i acc H,Pv i acc H→acc.length≤i∧SqL K H a xs)
 (hs:∀ i x acc H H2,xs[i]?=some x→Pv i acc H→Same H H2→tt (some (.int (i:Nat))::some x::capV caps σ) H2 fun b H4=>if b=true then te (some (.int (i:Nat))::some x::capV caps σ) H4 fun y H5=>Pv (i+1) (acc++[y]) H5 else Pv (i+1) acc H4)
 (hd:∀ acc H,Pv xs.length acc H→New H (.lst acc) Q):CompEnd (Ite K a) (gTup K 2 (gCons (gName 0) (gCons (gName 1) gNil))) tt te 2 caps σ H Q:=by
 refine ⟨fun i m acc σ' H=>m=xs.length - i∧i≤xs.length∧(∃ u v,σ'=u::v::capV caps σ)∧Pv i acc H,⟨xs.length,by simp,Nat.zero_le _,⟨none,none,rfl⟩,h0⟩,?_⟩
 rintro i m acc σ' H' ⟨rfl,hi,⟨u0,v0,rfl⟩,p⟩
 obtain ⟨hl1,hq⟩:=hl i acc H' p
 by_cases hlt:i<xs.length
 · refine .inr ⟨⟨xs,xs[i],hq,by simp [hlt]⟩,by omega,fun ac σ2 H2=>(∃ u v,σ2=u::v::capV caps σ)∧Pv (i+1) ac H2,fun ac σ2 H2 ⟨e,p'⟩=>⟨xs.length - (i+1),by omega,rfl,hlt,e,p'⟩,fun x H2 y=>?_⟩
   obtain ⟨q,z,rfl,hn,sm,hT,hy⟩:=y
   have hst:=hs i z acc H' H2 (hy xs hq) p sm
   have eN:∀ ac H5,((∃ u1 v1,some (V.int (i:Nat))::some z::capV caps σ=u1::v1::capV caps σ)∧Pv (i+1) ac H5)=Pv (i+1) ac H5:=fun ac H5=>propext ⟨And.right,fun p=>⟨⟨_,_,rfl⟩,p⟩⟩
   refine ⟨q,[.int (i:Nat),z],rfl,SqT.of hT,rfl,.int (i:Nat),[z],rfl,z,[],rfl,rfl,?_⟩
   show tt (some (.int (i:Nat))::some z::capV caps σ) _ fun b H4=>if b=true then te (some (.int (i:Nat))::some z::capV caps σ) H4 fun y H5=>((∃ u1 v1,some (V.int (i:Nat))::some z::capV caps σ=u1::v1::capV caps σ)∧Pv (i+1) (acc++[y]) H5) else ((∃ u1 v1,some (V.int (i:Nat))::some z::capV caps σ=u1::v1::capV caps σ)∧Pv (i+1) acc H4)
   simp only [eN]
   exact hst
 · have e:i=xs.length:=by omega
   subst e
   exact .inl ⟨⟨xs,hq,Nat.le_refl _⟩,New.to (hd acc H' p)⟩
end
inductive PrK (H:Hp):List V→List (Key×V)→Prop
 | nil:PrK H [] []
 | cons {p:Addr}{k:Key}{v:V}{vs:List V}{kvs:List (Key×V)}:H p=some (.tup [kV k,v])→PrK H vs kvs→PrK H (.ref p::vs) ((k,v)::kvs)
theorem PrK.mono {H H':Hp}(t:Tups H H') {vs:List V}{kvs:List (Key×V)}(h:PrK H vs kvs):PrK H' vs kvs:=by
 induction h with
 | nil=>exact .nil
 | cons e _ ih=>exact .cons (t _ _ e) ih
theorem PrK.snoc {H:Hp}{vs:List V}{kvs:List (Key×V)}{p:Addr}{k:Key}{v:V}(h:PrK H vs kvs) (e:H p=some (.tup [kV k,v])):PrK H (vs++[.ref p]) (kvs++[(k,v)]):=by
 induction h with
 | nil=>exact .cons e .nil
 | cons e' _ ih=>exact .cons e' ih
def rDictP (K:W.Frag):List V→Hp→VK→Prop:=fun xs H Q=>∃ l vs kvs,xs=[.ref l]∧SqL K H l vs∧PrK H vs kvs∧New H (.dK (mergeK [] kvs)) Q
section
variable {X:Cx}
theorem PrK.at_ {pins:List (Addr×Obj)}{σ:St} {H:Hp}{s:Shared}(I:Inv X pins σ H s):∀ {vs:List V}{kvs:List (Key×V)}{us:List Value},PrK H vs kvs→Vals vs us →
 ∃ ps:List (Key×Value),KV kvs ps∧ps.length=us.length∧∀ (j:Nat) (x:Value),us[j]?=some x→∃ T k key v,x=.ref T∧T∉([]:List Addr)∧s.heap.IsTuple T #[key,v]∧(mixKind X.prog X.w).is k key=true∧ps[j]?=some (k,v)
 | _,_,_,.nil,r=>by
   cases r
   exact ⟨[],.nil,rfl,fun j x e=>by simp at e⟩
 | _,_,_,.cons (p:=p) (k:=k) (v:=v) e h,r=>by
   cases r with
   | cons r1 r2 =>
     cases r1
     obtain ⟨ps,h1,h2,h3⟩:=PrK.at_ I h r2
     obtain ⟨its,q1,q2,_⟩:=I.tuple (SqT.of e)
     obtain ⟨u1,u2,rfl,ra,rb⟩:=b96 q1
     refine ⟨(k,u2)::ps,.cons ⟨rfl,rb⟩ h1,by simp [h2],fun j x ej=>?_⟩
     cases j with
     | zero =>
       simp at ej
       subst ej
       exact ⟨p,k,u1,u2,rfl,by simp,q2,aw7 ra,rfl⟩
     | succ j=>exact h3 j x (by simpa using ej)
theorem b08 (K:W.Frag) (hh:X.calm=true:=by rfl) (hK:X.K=K:=by rfl):CallR X (.type "dict") (rDictP K):=by
 subst hK
 intro pins s σ H xs us Q I r h
 obtain ⟨l,vs,kvs,rfl,hq,hp,q⟩:=h
 obtain ⟨u,rfl,ru⟩:=ai9 r
 cases ru
 obtain ⟨its,rv,⟨o,n,e1,e2,e3,e4⟩,hz⟩:=I.list hq
 obtain ⟨ps,k1,k2,k3⟩:=PrK.at_ I hp rv
 have hl:=rv.length
 refine aj4 (knd:=mixKind X.prog X.w) e1 e2 e3 e4 (I.ok.hd hh) ⟨by simpa using k2,fun j x e=>k3 j x (by simpa using e)⟩ (by simpa using hl ▸ hz) fun h' tk hd kk=>?_
 have hz2:(mergeK [] kvs).length≤sizeLine:=by
  have h1:=ac4 kvs []
  have h2:kvs.length=ps.length:=k1.length
  simp only [List.length_nil] at h1
  omega
 refine ⟨.ref s.heap.objs.size,upd H s.heap.objs.size (.dK (mergeK [] kvs)),I.laid (t':=tk) kk (Nat.le_refl _) (bb1 hz2 (beq_eq_false_iff_ne.mpr (Ne.symm (Nat.ne_of_lt I.big))) (k1.merge .nil) hd),rfl,New.to q _ (I.hok.fresh (Nat.le_refl _))⟩
theorem bc2 {K:W.Frag}{H:Hp}{Q:VK}{l:Addr}{vs:List V}{kvs:List (Key×V)}(h1:SqL K H l vs) (h2:PrK H vs kvs) (h:New H (.dK (mergeK [] kvs)) Q):rDictP K [.ref l] H Q:=⟨l,vs,kvs,rfl,h1,h2,h⟩
def c49:List V→Hp→VK→Prop:=fun xs H Q=>∃ a b:Int,xs=[.int a,.int b]∧Q (.int (min a b)) H
theorem b68 (hh:X.calm=true:=by rfl):CallR X (.builtin "min") c49:=by
 intro pins s σ H xs us Q I r h
 obtain ⟨a,b,rfl,q⟩:=h
 obtain ⟨u,v,rfl,⟨t1,rfl⟩,⟨t2,rfl⟩⟩:=b96 r
 refine min_two_ints (I.ok.hd hh) fun h' tk hk=>?_
 have I1:Inv X pins σ H { s with heap:=h',toks:=tk }:=I.kept hk
 by_cases c:b<a
 · rw [if_pos c]
   exact ⟨.int b,H,I1,⟨_,rfl⟩,by rw [show min a b=b by omega] at q; exact q⟩
 · rw [if_neg c]
   exact ⟨.int a,H,I1,⟨_,rfl⟩,by rw [show min a b=a by omega] at q; exact q⟩
theorem c50 {H:Hp}{Q:VK}{a b:Int}(h:Q (.int (min a b)) H):c49 [.int a,.int b] H Q:=⟨a,b,rfl,h⟩
def rNotN:R2:=fun x y H Q=>y=.non∧Q (.bl (!decide (x=.non))) H
theorem bk1:OpR X (compareOp .IsNot) rNotN:=bq2
theorem c51 {x:V}{H:Hp}{Q:VK}(h:Q (.bl (!decide (x=.non))) H):rNotN x .non H Q:=⟨rfl,h⟩
theorem c52 {K:W.Frag}{H:Hp}{Q:VK}{a:Addr}{xs:List V}(e:H a=some (.tup xs)) (h:Q (.bl true) H):rIsi K [V.ref a,V.ty "tuple"] H Q:=⟨_,_,_,true,rfl,.tup e,rfl,h⟩
theorem c53 {to ti:TE}{t:TSet}{v:V}{σ:St} {H:Hp}{Q:St→Hp→Prop}(h:to σ H fun o H1=>ti σ H1 fun i H2=>t o i v H2 fun H3=>Q σ H3):gSub to ti t v σ H Q:=h
theorem am4 {H:Hp}{Q:Hp→Prop}{p:Addr}{xs:List V}{k:Int}{j:Nat}{v:V}(h1:H p=some (.lst xs)) (h2:ixN xs.length k=some j) (h:Q (upd H p (.lst (xs.set j v)))):rSetL (.ref p) (.int k) v H Q:=⟨p,xs,k,j,rfl,rfl,h1,h2,h⟩
def tSeqC (t u:TS):TS:=fun D σ H=>∃ R:St→Hp→Prop,t { D with nx:=R } σ H∧∀ σ' H',R σ' H'→u D σ' H'
theorem ad2 {st:Stmt}{rest:List Stmt}{t u:TS}(h1:PS X st t) (h2:PSs X rest u):PSs X (st::rest) (tSeqC t u):=by
 intro pins s σ H D I h
 obtain ⟨R,ha,hb⟩:=h
 refine wpAny_execs_cons (thn (h1 pins s σ H _ I ha) fun f s1 q=>?_)
 cases f with
 | next=>obtain ⟨σ1,H1,I1,q1⟩:=q; exact h2 pins s1 σ1 H1 D I1 (hb σ1 H1 q1)
 | brk=>exact q
 | cont=>exact q
 | ret v=>exact q
theorem at9 {t u:TS}{nn bb cc:St→Hp→Prop}{rr:VK}{σ:St} {H:Hp}(R:St→Hp→Prop) (h1:t ⟨R,rr,bb,cc⟩ σ H) (h2:∀ σ' H',R σ' H'→u ⟨nn,rr,bb,cc⟩ σ' H'):tSeqC t u ⟨nn,rr,bb,cc⟩ σ H:=⟨R,h1,h2⟩
theorem aj5 {c:TT}{tb:TS}{nn bb cc:St→Hp→Prop}{rr:VK}{σ:St} {H:Hp}(W:Nat→St→Hp→Prop) (m:Nat) (h0:W m σ H)
 (hs:∀ m σ H,W m σ H→c σ H fun b H1=>if b=true then ∃ N:St→Hp→Prop,(∀ σ' H',N σ' H'→∃ m',m'<m∧W m' σ' H')∧tb ⟨N,rr,nn,N⟩ σ H1 else nn σ H1):tWhile c tb ⟨nn,rr,bb,cc⟩ σ H:=⟨W,⟨m,h0⟩,hs⟩
end
end L2
namespace L2
open PySem
section
variable {H:Hp}{x:Tr}{xs:List Tr}{v:V}{vs ws:List V}
theorem ats_cons0:Tr.Ats H (x::xs) vs []↔∃ v ws,vs=v::ws∧x.At H v []∧Tr.Ats H xs ws []:=by
 simp only [Tr.Ats]
 constructor
 · rintro ⟨v,ws,f,g,h1,h2,h3,h4⟩
   obtain ⟨rfl,rfl⟩:=List.append_eq_nil_iff.mp h2.symm
   exact ⟨v,ws,h1,h3,h4⟩
 · rintro ⟨v,ws,h1,h3,h4⟩
   exact ⟨v,ws,[],[],h1,rfl,h3,h4⟩
theorem at_tup0:(Tr.tup xs).At H v []↔∃ a vs,v=.ref a∧H a=some (.tup vs)∧Tr.Ats H xs vs []:=by simp only [Tr.At]
theorem at_int0 {i:Int}:(Tr.int i).At H v []↔v=.int i:=by simp [Tr.At]
end
section
variable {H:Hp}{v:V}{a:Addr}
theorem bp0 {i:Int}:(Tr.int i).At H (.int i) []:=at_int0.mpr rfl
end
def natsV (l:List Nat):List V:=l.map fun k=>V.int (k:Nat)
theorem a03 (l:List Nat):(natsV l).length=l.length:=by simp [natsV]
theorem ag2 {l:List Nat}{k:Nat}(h:k<l.length):atI (natsV l) (k:Nat)=some (.int (l.getD k 0:Nat)):=a05 (by simp [natsV,h])
theorem a66 (l:List Nat) (k:Nat):natsV l++[V.int (k:Nat)]=natsV (l++[k]):=by simp [natsV]
def natsT (l:List Nat):List Tr:=l.map fun k=>Tr.int (k:Nat)
theorem b09 {H:Hp}:∀ l:List Nat,Tr.Ats H (natsT l) (natsV l) []
 | []=>by simp [natsT,natsV,Tr.Ats]
 | k::l=>ats_cons0.mpr ⟨_,_,rfl,bp0,b09 l⟩
theorem bc3:∀ l:List Nat,Tr.hs (natsT l)=0
 | []=>by simp [natsT,Tr.hs]
 | k::l=>by
   have:=bc3 l
   simp only [natsT,List.map_cons,Tr.hs,Tr.h] at this ⊢
   omega
def wayV:Option Nat→V
 | none=>.non
 | some k=>.int (k:Nat)
def waysV (ws:List (Option Nat)):List V:=ws.map wayV
end L2
namespace L2
open PySem PySem.Spec PyProof.Rows
def tDNewN:TE:=fun _ H Q=>New H (.dK []) Q
theorem b28 {X:Cx}{pos:Pos}:PE X (.Dict [] [] pos) tDNewN:=fun pins s σ H Q I h=>bj3 pins s σ H Q I (New.to h)
section
variable {σ:St} {H:Hp}{Q:VK}{QT:Bool→Hp→Prop}{td ty tv te:TE}{nn bb cc:St→Hp→Prop}{rr:VK}
theorem c54 (h:New H (.dK []) Q):tDNewN σ H Q:=h
theorem i_tB (h:te σ H fun x H1=>∃ c,x=.bl c∧QT c H1):tB te σ H QT:=h
theorem cc1 (h:ty σ H fun y H1=>td σ H1 fun x H2=>∃ a o,x=.ref a∧DGet H2 a y o∧Q (.bl o.isSome) H2):tDIn ty td σ H Q:=h
theorem bk2 (h:ty σ H fun y H1=>td σ H1 fun x H2=>∃ a o,x=.ref a∧DGet H2 a y o∧Q (.bl (!o.isSome)) H2):tDNotIn ty td σ H Q:=h
theorem c55 (h:tv σ H fun v H1=>td σ H1 fun x H2=>ty σ H2 fun y H3=>∃ a H4,x=.ref a∧DPut H3 a y v H4∧nn σ H4):sDPut td ty tv ⟨nn,rr,bb,cc⟩ σ H:=h
theorem bc4 {d:Addr}{kvs:List (Key×V)}{o:HO}(h:H d=some (.dK kvs)):Tups H (upd H d o):=fun b ys e=>by rw [a04 (ab1 e h (fun z=>nomatch z))]; exact e
end
end L2
namespace L2
def addAll (row:List Nat) (ks:List Nat):List Nat:=ks.foldl (fun r k=>if k∈r then r else r++[k]) row
theorem aa1 (row ks:List Nat) (k:Nat):addAll row (ks++[k])=if k∈addAll row ks then addAll row ks else addAll row ks++[k]:=by
 unfold addAll
 rw [List.foldl_append]
 rfl
theorem aj6 {n:Nat}{row:List Nat}(hn:row.Nodup) (hl:∀ k∈row,k<n):∀ (ks:List Nat),(∀ k∈ks,k<n)→(∃ t,addAll row ks=row++t)∧(addAll row ks).Nodup∧(∀ k∈addAll row ks,k<n)∧∀ k∈ks,k∈addAll row ks:=by
 have gen:∀ (m:Nat) (ks:List Nat),ks.length=m→(∀ k∈ks,k<n)→(∃ t,addAll row ks=row++t)∧(addAll row ks).Nodup∧(∀ k∈addAll row ks,k<n)∧∀ k∈ks,k∈addAll row ks:=by
  intro m
  induction m with
  | zero =>
    intro ks hk _
    rw [List.length_eq_zero_iff] at hk
    subst hk
    exact ⟨⟨[],by simp [addAll]⟩,hn,hl,by simp⟩
  | succ m ih =>
    intro ks hk hlt
    obtain ⟨ls,k,rfl⟩:∃ l k,ks=l++[k]:=⟨ks.dropLast,ks.getLast (by intro z; rw [z] at hk; simp at hk),(List.dropLast_concat_getLast _).symm⟩
    obtain ⟨⟨t,h1⟩,h2,h3,h4⟩:=ih ls (by simpa using hk) (fun x hx=>hlt x (by simp [hx]))
    rw [aa1]
    by_cases hk:k∈addAll row ls
    · rw [if_pos hk]
      refine ⟨⟨t,h1⟩,h2,h3,fun x hx=>?_⟩
      rcases gA hx with hx | hx
      · exact h4 x hx
      · rw [gG hx]; exact hk
    · rw [if_neg hk]
      refine ⟨⟨t++[k],by rw [h1,List.append_assoc]⟩,?_,?_,?_⟩
      · rw [List.nodup_append]
        refine ⟨h2,by simp,fun a ha b hb=>?_⟩
        rw [gG hb]
        exact fun z=>hk (z ▸ ha)
      · intro x hx
        rcases gA hx with hx | hx
        · exact h3 x hx
        · rw [gG hx]; exact hlt k (by simp)
      · intro x hx
        rcases gA hx with hx | hx
        · exact List.mem_append_left _ (h4 x hx)
        · rw [gG hx]; simp
 exact fun ks=>gen ks.length ks rfl
theorem pigeon:∀ (n:Nat) (l:List Nat),l.Nodup→(∀ k∈l,k<n)→l.length≤n
 | 0,l,_,h=>by
   cases l with
   | nil=>simp
   | cons a l=>exact absurd (h a (by simp)) (Nat.not_lt_zero _)
 | n+1,l,hn,h=>by
   by_cases hm:n∈l
   · have h1:=List.length_erase_of_mem hm
     have h2:=pigeon n (l.erase n) (hn.erase n) (fun k hk=>by
      have h3:=hn.mem_erase_iff.mp hk
      have:=h k h3.2
      have:=h3.1
      omega)
     have:0<l.length:=List.length_pos_of_mem hm
     omega
   · have:=pigeon n l hn (fun k hk=>by
      have h1:=h k hk
      have:k≠n:=fun z=>hm (z ▸ hk)
      omega)
     omega
def bfs (nx:Nat→List Nat):Nat→Nat→List Nat→List Nat
 | 0,_,row=>row
 | fuel+1,p,row=>match row[p]? with
   | none=>row
   | some k=>bfs nx fuel (p+1) (addAll row (nx k))
structure Bf (nx:Nat→List Nat) (n p:Nat) (row:List Nat):Prop where
 nd:row.Nodup
 lt:∀ k∈row,k<n
 le:p≤row.length
 cl:∀ (i k:Nat),i<p→row[i]?=some k→∀ j∈nx k,j∈row
theorem Bf.step {nx:Nat→List Nat}{n p k:Nat}{row:List Nat}(h:Bf nx n p row) (e:row[p]?=some k) (hx:∀ j∈nx k,j<n):Bf nx n (p+1) (addAll row (nx k)):=by
 obtain ⟨⟨t,h1⟩,h2,h3,h4⟩:=aj6 h.nd h.lt (nx k) hx
 have hp:=(gS e).1
 refine ⟨h2,h3,by rw [h1,List.length_append]; omega,fun i k' hi ek j hj=>?_⟩
 have hi':i<row.length:=by omega
 rw [h1,List.getElem?_append_left hi'] at ek
 by_cases hip:i<p
 · rw [h1]; exact List.mem_append_left _ (h.cl i k' hip ek j hj)
 · have:i=p:=by omega
   subst this
   rw [e] at ek
   cases ek
   exact h4 j hj
theorem Bf.few {nx:Nat→List Nat}{n p:Nat}{row:List Nat}(h:Bf nx n p row):row.length≤n:=pigeon n row h.nd h.lt
theorem Bf.end_ {nx:Nat→List Nat}{n:Nat}(hx:∀ k,k<n→∀ j∈nx k,j<n):∀ (fuel p:Nat) (row:List Nat),Bf nx n p row→n+1≤fuel+p→Bf nx n (bfs nx fuel p row).length (bfs nx fuel p row)
 | 0,p,row,h,hf=>absurd (Nat.le_trans h.le h.few) (by omega)
 | fuel+1,p,row,h,hf=>by
   unfold bfs
   cases e:row[p]? with
   | none =>
     have:p=row.length:=by
      have:=List.getElem?_eq_none_iff.mp e
      have:=h.le
      omega
     rw [this] at h
     exact h
   | some k=>exact Bf.end_ hx fuel (p+1) _ (h.step e (hx k (h.lt k (gI e)))) (by omega)
theorem bc5 {nx:Nat→List Nat}{fuel p k:Nat}{row:List Nat}(e:row[p]?=some k):bfs nx (fuel+1) p row=bfs nx fuel (p+1) (addAll row (nx k)):=by
 conv=>lhs; unfold bfs
 rw [e]
theorem ap4 {nx:Nat→List Nat}{fuel p:Nat}{row:List Nat}(e:row.length≤p):bfs nx fuel p row=row:=by
 cases fuel with
 | zero=>rfl
 | succ fuel =>
   unfold bfs
   rw [List.getElem?_eq_none e]
theorem bs5 {row:List Nat}{k:Nat}(h:k∈row):row[row.idxOf k]?=some k:=by
 have h1:=List.idxOf_lt_length_of_mem h
 rw [gE h1]
 simp
theorem c56 {row:List Nat}(hn:row.Nodup) {i k:Nat}(e:row[i]?=some k):row.idxOf k=i:=by
 have hm:k∈row:=gI e
 have h1:=bs5 hm
 obtain ⟨a1,b1⟩:=gS e
 obtain ⟨a2,b2⟩:=gS h1
 have:=List.nodup_iff_pairwise_ne.mp hn
 rw [List.pairwise_iff_getElem] at this
 rcases Nat.lt_trichotomy (row.idxOf k) i with h | h | h
 · exact absurd (b2.trans b1.symm) (this _ _ a2 a1 h)
 · exact h
 · exact absurd (b1.trans b2.symm) (this _ _ a1 a2 h)
end L2
namespace L2
open PySem PySem.Spec PyProof.Rows
section
variable {X:Cx}{σ:St} {H:Hp}{Q:VK}{QT:Bool→Hp→Prop}{td ty tv te:TE}{nn bb cc:St→Hp→Prop}{rr:VK}
theorem bs6 {i:Nat}{k:Key}{y:V}(e:σ[i]?=some (some (kV k))) (h:New H (.dK [(k,y)]) Q):tDisp [(tVar i,tC y)] σ H Q:=fun p hp=>⟨kV k,e,a28,[(k,y)],rfl,by simp,by rw [bp5]; exact New.to h p hp⟩
theorem c57 {i:Nat}{a c:Int}{f:Int→Int→Int}(e:σ[i]?=some (some (.int a))) (h:nn (σ.set i (some (.int (f a c)))) H):tAug i (tC (.int c)) (ipI f) ⟨nn,rr,bb,cc⟩ σ H:=⟨_,e,a,c,rfl,rfl,h⟩
def rRepN:R2:=fun x y H Q=>∃ l k xs,x=.ref l∧y=.int k∧H l=some (.lst xs)∧-(2 ^ 63)≤k∧k<2 ^ 63∧xs.length*k.toNat≤sizeLine∧New H (.lst (List.replicate k.toNat xs).flatten) Q
theorem bk3:OpR X (binaryOp .Mult) rRepN:=by
 intro pins s σ H x y v u Q I rx ry h
 obtain ⟨l,k,xs,e1,e2,h1,h2,h3,h4,h5⟩:=h
 exact bz7 pins s σ H x y v u Q I rx ry ⟨l,k,xs,e1,e2,h1,h2,h3,h4,New.to h5⟩
theorem b29:∀ k:Nat,(List.replicate k [V.non]).flatten=waysV (List.replicate k none)
 | 0=>rfl
 | k+1=>by
   have:=b29 k
   rw [List.replicate_succ,List.flatten_cons,this,List.replicate_succ]
   rfl
theorem bc6 {l:Addr}{k:Nat}(h1:H l=some (.lst [.non])) (hk:k≤1000) (h:New H (.lst (waysV (List.replicate k none))) Q):rRepN (.ref l) (.int (k:Nat)) H Q :=
 ⟨l,k,[.non],rfl,rfl,h1,by omega,by omega,le_line (by simp; omega),by rw [Int.toNat_natCast,b29]; exact h⟩
def SetI (H:Hp) (d:Addr) (row:List Nat):Prop:=∃ kvs,H d=some (.dK kvs)∧kvs.length≤row.length∧∀ k:Nat,(valV kvs (Sum.inl (k:Int))).isSome=decide (k∈row)
theorem ax8 {d:Addr}{row:List Nat}{k:Nat}{p:Bool→Prop}(h1:SetI H d row) (h:p (!decide (k∈row))):∃ a o,V.ref d=.ref a∧DGet H a (.int (k:Nat)) o∧∃ c,V.bl (!o.isSome)=.bl c∧p c:=by
 obtain ⟨kvs,h2,_,h3⟩:=h1
 exact ⟨d,_,rfl,.inl ⟨kvs,Sum.inl (k:Int),.inl h2,rfl,rfl⟩,_,rfl,by rw [h3]; exact h⟩
theorem SetI.put {d:Addr}{row:List Nat}{k:Nat}{v:V}(h:SetI H d row) (hz:row.length<1000000):∃ H4,DPut H d (.int (k:Nat)) v H4∧SetI H4 d (row++[k])∧∃ o,H4=upd H d (.dK o):=by
 obtain ⟨kvs,h2,h3,h4⟩:=h
 refine ⟨_,.inl ⟨kvs,Sum.inl (k:Int),h2,rfl,Nat.lt_of_lt_of_le (show kvs.length<1000000 by omega) (le_line (Nat.le_refl _)),rfl⟩,⟨putK kvs (Sum.inl (k:Int)) v,a28,?_,fun s=>?_⟩,_,rfl⟩
 · have:=ac3 kvs (Sum.inl (k:Int)) v
   simp only [List.length_append,List.length_cons,List.length_nil]
   omega
 · rw [ao8]
   by_cases e:s=k
   · subst e
     rw [if_pos rfl]
     simp
   · rw [if_neg (fun z=>e (by have:=Sum.inl.inj z; omega)),h4]
     simp [e]
theorem bk4 {d:Addr}{k:Nat}{v:V}(h:H d=some (.dK [(Sum.inl (k:Int),v)])):SetI H d [k]:=⟨_,h,Nat.le_refl _,fun s=>by
 by_cases e:s=k
 · subst e
   rw [a83 rfl]
   simp
 · rw [a84 (fun z=>e (by have:=Sum.inl.inj z; omega)),b00]
   simp [e]⟩
end
def Itz (K:W.Frag) (a b:Addr):It :=
 ⟨fun i H=>∃ xs ys x y,SqL K H a xs∧SqL K H b ys∧xs[i]?=some x∧ys[i]?=some y,fun i H v H'=>∃ p x y,v=.ref p∧H p=none∧Same H H'∧H' p=some (.tup [x,y])∧(∀ xs,SqL K H a xs→xs[i]?=some x)∧∀ ys,SqL K H b ys→ys[i]?=some y,fun i H=>∃ xs ys,SqL K H a xs∧SqL K H b ys∧(xs.length≤i∨ys.length≤i)⟩
theorem bk5 {P:Program}{w:World}{K:W.Frag}{elts:List Expr}{x1:Nat}{pos:Pos}(a b z TI TO i1 i2:Addr) (D:ZipApart z TI TO i1 i2 a b) :
 Turn P w K (.Tuple elts x1 pos) (Itz K a b) [z,TI,TO,i1,i2] z (fun i h=>IsZip h z TI TO .none∧IsPair h TI (.ref i1) (.ref i2)∧(∃ a b,IsPair h TO a b)∧h.IsListIter i1 a i∧h.IsListIter i2 b i) where
 mem:=by simp
 obj:=fun i h st c hc=>by
  obtain ⟨hz,hTI,⟨a,b,hTO⟩,⟨o1,h1,_,d1⟩,o2,h2,_,d2⟩:=st
  rcases (by simpa using hc:c=z∨c=TI∨c=TO∨c=i1∨c=i2) with rfl | rfl | rfl | rfl | rfl
  · exact ⟨_,hz,fun v q=>by cases q⟩
  · exact ⟨_,hTI,fun v q=>by cases q⟩
  · exact ⟨_,hTO,fun v q=>by cases q⟩
  · exact ⟨_,h1,fun v q=>by rw [d1] at q; cases q⟩
  · exact ⟨_,h2,fun v q=>by rw [d2] at q; cases q⟩
 keep:=fun i h h' st k=>by
  obtain ⟨hz,hTI,⟨a,b,hTO⟩,h1,h2⟩:=st
  exact ⟨k z (by simp) _ hz,k TI (by simp) _ hTI,⟨a,b,k TO (by simp) _ hTO⟩,h1.at fun o x=>k i1 (by simp) o x,h2.at fun o x=>k i2 (by simp) o x⟩
 item:=by
  intro X hP hw hK hc i pins s σ H E I hf st hg
  subst hP hw hK
  obtain ⟨xs,ys,x,y,hqa,hqb,hx,hy⟩:=hg
  obtain ⟨it1,rv1,p1,hz1⟩:=I.list hqa
  obtain ⟨it2,rv2,p2,hz2⟩:=I.list hqb
  obtain ⟨u1,hu1,ru1⟩:=rv1.get hx
  obtain ⟨u2,hu2,ru2⟩:=rv2.get hy
  obtain ⟨hz,hTI,⟨a',b',hTO⟩,h1,h2⟩:=st
  have fr:H s.heap.objs.size=none:=I.hok.fresh (Nat.le_refl _)
  have lt:∀ c∈[z,TI,TO,i1,i2],c<s.heap.objs.size:=fun c hc=>by
   obtain ⟨o1,e1,_⟩:=h1
   obtain ⟨o2,e2,_⟩:=h2
   rcases (by simpa using hc:c=z∨c=TI∨c=TO∨c=i1∨c=i2) with rfl | rfl | rfl | rfl | rfl
   · exact Heap.lt_size hz
   · exact Heap.lt_size hTI
   · exact Heap.lt_size hTO
   · exact Heap.lt_size e1
   · exact Heap.lt_size e2
  refine wpAny_pyNext_zip_item D hz hTI hTO h1 h2 p1.isList p2.isList (x:=u1) (y:=u2) (by simpa using hu1) (by simpa using hu2) fun h' a1 a2 a3 a4 a5 a6 hk=>?_
  have I1:Inv X pins σ H { s with heap:=h' }:=I.turnedL (t':=s.toks) (ch:=[z,TI,TO,i1,i2]) (fun c o hc q=>hk c o (fun e=>hc (by simp [e])) (fun e=>hc (by simp [e])) (fun e=>hc (by simp [e])) (fun e=>hc (by simp [e])) q) hf
  have I2:Inv X pins σ (upd H s.heap.objs.size (.tup [x,y])) { s with heap:=h' }:=I1.adopt (o:=.tup [x,y]) fr I.sz (Nat.ne_of_gt I.lt) (fun n c ec e=>by
   obtain ⟨v,q⟩:=I.cell n c ec
   exact absurd q.lt (by rw [e]; exact Nat.lt_irrefl _)) (fun q hq e=>absurd (Heap.lt_size (I.pin q hq).1) (by rw [e]; exact Nat.lt_irrefl _))
   ⟨le_line (by simp),[u1,u2],.cons ru1 (.cons ru2 .nil),⟨_,a5,rfl,_,rfl⟩⟩
  have hf2:∀ c∈[z,TI,TO,i1,i2],FpOk X pins (upd H s.heap.objs.size (.tup [x,y])) c:=fun c hc=>⟨by rw [a04 (Nat.ne_of_lt (lt c hc))]; exact (hf c hc).1,(hf c hc).2⟩
  refine ⟨_,rfl,wpAny_letOwnedTupleGo_zip a1 fun h2' hz' hs'=>⟨.ref s.heap.objs.size,_,I2.turnedL (t':=s.toks) (ch:=[z]) (fun c o hc q=>(hs'.2 c (fun e=>hc (by simp [e]))).trans q) (fun c hc=>hf2 c (by simp at hc; simp [hc])),rfl,⟨s.heap.objs.size,x,y,rfl,fr,Same.new fr,a28,fun q hq=>by rw [I.list_inj hq hqa]; exact hx,fun q hq=>by rw [I.list_inj hq hqb]; exact hy⟩,⟨hz',hs'.extBut _ _ D.TIz (hk _ _ D.TIz D.TITO D.TIi1 D.TIi2 hTI),⟨_,_,hs'.extBut _ _ D.TOz a2⟩,a3.extBut hs'.extBut D.i1z,a4.extBut hs'.extBut D.i2z⟩,fun c hc=>(hf2 c hc).1⟩⟩
 done:=by
  intro X hP hw hK hc i pins s σ H E I hf st hg
  subst hP hw hK
  obtain ⟨xs,ys,hqa,hqb,hx⟩:=hg
  obtain ⟨it1,rv1,p1,hz1⟩:=I.list hqa
  obtain ⟨it2,rv2,p2,hz2⟩:=I.list hqb
  obtain ⟨hz,hTI,⟨a',b',hTO⟩,h1,h2⟩:=st
  have l1:=rv1.length
  have l2:=rv2.length
  exact wpAny_pyNext_zip_end (I.ok.hd hc) D hz hTI hTO h1 h2 p1.isList p2.isList (hx.elim (fun e=>.inl (by simp; omega)) fun e=>.inr (by simp; omega)) fun h' hk=>⟨rfl,I.turnedL (t':=s.toks) (ch:=[z,TI,TO,i1,i2]) (fun c o hc q=>hk c o (fun e=>hc (by simp [e])) (fun e=>hc (by simp [e])) (fun e=>hc (by simp [e])) (fun e=>hc (by simp [e])) q) hf⟩
 self:=fun A i s Q E st h=>wpAny_pyIter_zip st.1 h
section
variable {X:Cx}{elts:List Expr}{x1:Nat}{tpos:Pos}
def iZip (K:W.Frag) (ta:TA):TI:=fun σ H R=>ta σ H fun vs H1=>∃ a b,vs=[.ref a,.ref b]∧(∃ xs,SqL K H1 a xs)∧(∃ ys,SqL K H1 b ys)∧R (Itz K a b) H1
theorem bc7:bootBuiltins "zip"=some (.type "zip"):=by decide +kernel
theorem c58 (K:W.Frag) {a b:Expr}{ta:TA}{p pos:Pos}(hg:Gl X "zip") (hm:X.mg "zip"=none) (ha:PA X [a,b] ta) (hs:starEach [a,b] X.env=[(false,eval a X.env),(false,eval b X.env)]:=by rfl) (hs2:starEach [b] X.env=[(false,eval b X.env)]:=by rfl) (hK:X.K=K:=by rfl) :
 PI X (.Tuple elts x1 tpos) (.Call (.Name "zip" p) [a,b] [] pos) (iZip K ta):=by
 subst hK
 intro pins s σ H R I h
 refine Call_ (af8 I hg hm bc7 (PyProof.Rows.callWith_type1 (thn (ha pos pins s σ H _ I h) fun us s1 ⟨vs,H1,I1,r1,q1⟩=>?_) (by rw [hs,hs2]) (by rw [hs2]; rfl)))
 obtain ⟨l1,l2,e,⟨xs,hq1⟩,⟨ys,hq2⟩,q⟩:=q1
 subst e
 obtain ⟨u1,u2,rfl,r2,r3⟩:=b96 r1
 cases r2
 cases r3
 obtain ⟨it1,rv1,p1,hz1⟩:=I1.list hq1
 obtain ⟨it2,rv2,p2,hz2⟩:=I1.list hq2
 have a1:l1<s1.heap.objs.size:=by obtain ⟨_,e,_⟩:=p1.isList; exact Heap.lt_size e
 have a2:l2<s1.heap.objs.size:=by obtain ⟨_,e,_⟩:=p2.isList; exact Heap.lt_size e
 refine call_zip_2 p1.isList p2.isList fun h' b1 b2 b3 b4 b5 b6 hk=>?_
 refine wpAny_pyIter_zip b1 ?_
 have ge:∀ c∈[s1.heap.objs.size+4,s1.heap.objs.size+2,s1.heap.objs.size+3,s1.heap.objs.size,s1.heap.objs.size+1],s1.heap.objs.size≤c:=fun c hc=>by
  simp only [List.mem_cons,List.not_mem_nil,or_false] at hc
  rcases hc with rfl | rfl | rfl | rfl | rfl
  · exact Nat.le_add_right _ _
  · exact Nat.le_add_right _ _
  · exact Nat.le_add_right _ _
  · exact Nat.le_refl _
  · exact Nat.le_add_right _ _
 have fp:∀ c∈[s1.heap.objs.size+4,s1.heap.objs.size+2,s1.heap.objs.size+3,s1.heap.objs.size,s1.heap.objs.size+1],FpOk X pins H1 c:=fun c hc=>I1.fpOk (ge c hc) (I1.hok.fresh (ge c hc))
 generalize s1.heap.objs.size=m at a1 a2 b1 b2 b3 b4 b5 b6 fp ⊢
 have D:ZipApart (m+4) (m+2) (m+3) m (m+1) l1 l2:=by
  have h1:l1<m:=a1
  have h2:l2<m:=a2
  constructor <;> first | exact Nat.ne_of_lt (Nat.lt_of_lt_of_le h1 (Nat.le_add_right _ _)) | exact Nat.ne_of_lt (Nat.lt_of_lt_of_le h2 (Nat.le_add_right _ _)) | exact Nat.ne_of_lt h1 | exact Nat.ne_of_lt h2 | (intro e; simp at e) | (intro e; exact absurd e (by omega))
 refine ⟨m+4,[m+4,m+2,m+3,m,m+1],_,_,H1,rfl,I1.kept (t':=s1.toks) hk,bk5 l1 l2 _ _ _ _ _ D,⟨b1,b2,⟨_,_,b3⟩,b4,b5⟩,fp,q⟩
end
theorem bs7 {K:W.Frag}{a b:Addr}{xs ys:List V}{g:TG}{tb:TS}{D:Ends}{σ:St} {H:Hp}(hz:xs.length=ys.length) (Pv:Nat→St→Hp→Prop) (h0:Pv 0 σ H) (hl:∀ i σ H,i≤xs.length→Pv i σ H→SqL K H a xs∧SqL K H b ys)
 (hs:∀ i x y σ H q H2,xs[i]?=some x→ys[i]?=some y→Pv i σ H→Same H H2→H2 q=some (.tup [x,y])→g (.ref q) σ H2 fun σ1 H1=>tb { D with nx:=Pv (i+1),ct:=Pv (i+1),bk:=D.nx } σ1 H1)
 (hd:∀ σ H,Pv xs.length σ H→D.nx σ H):ForEnd (Itz K a b) g tb D σ H:=by
 refine ⟨fun i m σ H=>m=xs.length - i∧i≤xs.length∧Pv i σ H,⟨xs.length,by simp,Nat.zero_le _,h0⟩,?_⟩
 rintro i m σ' H' ⟨rfl,hi,p⟩
 obtain ⟨hq1,hq2⟩:=hl i σ' H' hi p
 by_cases hlt:i<xs.length
 · have hlt2:i<ys.length:=by omega
   refine .inr ⟨⟨xs,ys,xs[i],ys[i],hq1,hq2,by simp [hlt],by simp [hlt2]⟩,Pv (i+1),fun σ2 H2 p'=>⟨xs.length - (i+1),by omega,rfl,hlt,p'⟩,fun v H2 y=>?_⟩
   obtain ⟨q,x,y,rfl,hn,sm,hT,hx,hy⟩:=y
   exact hs i x y σ' H' q H2 (hx xs hq1) (hy ys hq2) p sm hT
 · have e:i=xs.length:=by omega
   subst e
   exact .inl ⟨⟨xs,ys,hq1,hq2,.inl (Nat.le_refl _)⟩,hd σ' H' p⟩
theorem cc2 {K:W.Frag}{σ:St} {H:Hp}{R:It→Hp→Prop}{ts:TA}(h:ts σ H fun vs H1=>∃ a b,vs=[.ref a,.ref b]∧(∃ xs,SqL K H1 a xs)∧(∃ ys,SqL K H1 b ys)∧R (Itz K a b) H1):iZip K ts σ H R:=h
end L2
namespace L2
open PySem
end L2
namespace L2
open PySem PySem.Spec PyProof.Rows
def rNeLs:R2:=fun x y H Q=>∃ t fs gs,(Tr.lst t).At H x fs∧(Tr.lst t).At H y gs∧Tr.hs t≤60∧Q (.bl false) H
theorem bk6 {X:Cx}(hu:X.A.units+64<cLine):OpR X (compareOp .NotEq) rNeLs:=by
 intro pins s σ H x y v u Q I rx ry h
 obtain ⟨t,fs,gs,h1,h2,hh,q⟩:=h
 simp only [Tr.At] at h1 h2
 obtain ⟨a,vs,_,rfl,e1,c1,_⟩:=h1
 obtain ⟨b,ws,_,rfl,e2,c2,_⟩:=h2
 cases rx
 cases ry
 obtain ⟨is1,q1,p1,_⟩:=I.list (SqL.of e1)
 obtain ⟨is2,q2,p2,_⟩:=I.list (SqL.of e2)
 have hl:is1.length=is2.length:=by rw [← q1.length,←q2.length,c1.len,c2.len]
 have:=SeqAt.RcNeAt.lists (A:=X.A) (s:=s) (e:=fun _=>true) p1.isList p2.isList (by simpa using hl) (by omega) (fun j h1 h2=>by
  have:=Tr.eqAts I (A:=X.A.in1) c1 c2 q1 q2 (by rw [a53]; omega) j (by simpa using h1) (by simpa using h2)
  simpa using this) X.prog X.w X.xe (EP X pins σ Q)
 refine this ⟨.bl false,H,I,?_,q⟩
 rw [show ((List.range is1.toArray.size).all fun _=>true)=true by simp]
 rfl
theorem c59 {H:Hp}{Q:VK}{x y:V}{t:List Tr}{fs gs:List Addr}(h1:(Tr.lst t).At H x fs) (h2:(Tr.lst t).At H y gs) (hh:Tr.hs t≤60) (h:Q (.bl false) H):rNeLs x y H Q:=⟨t,fs,gs,h1,h2,hh,h⟩
noncomputable instance trDec:DecidableEq Tr:=fun _ _=>Classical.propDecidable _
def IntIn (z:Int) (u:Value):Prop:=(∃ t,u=.int z t)∨∃ b:Bool,u=.bool b∧z=(if b=true then 1 else 0)
mutual
def Tr.In (h:Heap):Tr→Value→Prop
 | .non,u=>u=.none
 | .int z,u=>IntIn z u
 | .str x,u=>∃ t,u=.str x t
 | .tup ts,u=>∃ a us,u=.ref a∧h.IsTuple a us∧Tr.Ins h ts us.toList
 | .lst _,_=>False
def Tr.Ins (h:Heap):List Tr→List Value→Prop
 | [],us=>us=[]
 | t::ts,us=>∃ u r,us=u::r∧Tr.In h t u∧Tr.Ins h ts r
end
theorem Tr.Ins.len {h:Heap}:∀ {ts:List Tr}{us:List Value},Tr.Ins h ts us→us.length=ts.length
 | [],us,e=>by simp only [Tr.Ins] at e; rw [e]; rfl
 | t::ts,us,e=>by
   simp only [Tr.Ins] at e
   obtain ⟨u,r,rfl,_,e⟩:=e
   simp [e.len]
theorem Tr.Ins.get {h:Heap}:∀ {ts:List Tr}{us:List Value},Tr.Ins h ts us→∀ (j:Nat) (h1:j<us.length) (h2:j<ts.length),Tr.In h ts[j] us[j]
 | [],us,e,j,h1,h2=>absurd h2 (Nat.not_lt_zero _)
 | t::ts,us,e,j,h1,h2=>by
   simp only [Tr.Ins] at e
   obtain ⟨u,r,rfl,e1,e⟩:=e
   cases j with
   | zero=>exact e1
   | succ j=>exact e.get j (by simpa using h1) (by simpa using h2)
theorem ax9 {h:Heap}{a:Addr}{us vs:Array Value}(x:h.IsTuple a us) (y:h.IsTuple a vs):us=vs:=by
 obtain ⟨o,e,_,n,d⟩:=x
 obtain ⟨o',e',_,n',d'⟩:=y
 rw [e] at e'; cases e'
 rw [d] at d'
 injection d' with d1 _
mutual
theorem Tr.In.inj {h:Heap}:∀ {t r:Tr}{u:Value},Tr.In h t u→Tr.In h r u→t=r
 | .non,r,u,e,f=>by
   simp only [Tr.In] at e
   subst e
   cases r <;> simp [Tr.In,IntIn] at f ⊢
 | .int z,r,u,e,f=>by
   simp only [Tr.In] at e
   rcases e with ⟨t,rfl⟩ | ⟨b,rfl,rfl⟩
   · cases r <;> simp [Tr.In,IntIn] at f ⊢
     exact f
   · cases r <;> simp [Tr.In,IntIn] at f ⊢
     exact f.symm
 | .str x,r,u,e,f=>by
   simp only [Tr.In] at e
   obtain ⟨t,rfl⟩:=e
   cases r <;> simp [Tr.In,IntIn] at f ⊢
   exact f
 | .lst _,r,u,e,f=>e.elim
 | .tup ts,.tup rs,u,e,f=>by
   simp only [Tr.In] at e f
   obtain ⟨a,us,rfl,e2,e3⟩:=e
   obtain ⟨b,vs,hb,f2,f3⟩:=f
   cases hb
   cases ax9 e2 f2
   rw [Tr.Ins.inj e3 f3]
 | .tup ts,.non,u,e,f=>by
   simp only [Tr.In] at e f
   obtain ⟨a,us,rfl,e2,e3⟩:=e
   cases f
 | .tup ts,.int _,u,e,f=>by
   simp only [Tr.In] at e f
   obtain ⟨a,us,rfl,e2,e3⟩:=e
   rcases f with ⟨_,f⟩ | ⟨_,f,_⟩ <;> cases f
 | .tup ts,.str _,u,e,f=>by
   simp only [Tr.In] at e f
   obtain ⟨a,us,rfl,e2,e3⟩:=e
   obtain ⟨_,f⟩:=f
   cases f
 | .tup ts,.lst _,u,e,f=>f.elim
theorem Tr.Ins.inj {h:Heap}:∀ {ts rs:List Tr}{us:List Value},Tr.Ins h ts us→Tr.Ins h rs us→ts=rs
 | [],rs,us,e,f=>by
   simp only [Tr.Ins] at e
   subst e
   cases rs with
   | nil=>rfl
   | cons r rs=>simp [Tr.Ins] at f
 | t::ts,rs,us,e,f=>by
   simp only [Tr.Ins] at e
   obtain ⟨u,r,rfl,e1,e2⟩:=e
   cases rs with
   | nil=>simp [Tr.Ins] at f
   | cons q qs =>
     simp only [Tr.Ins] at f
     obtain ⟨u',r',hh,f1,f2⟩:=f
     cases hh
     rw [e1.inj f1,Tr.Ins.inj e2 f2]
end
theorem bc8 {H:Hp}{ts:List Tr}{v:V}{h:(Tr.lst ts).At H v []}:False:=by
 simp only [Tr.At] at h
 obtain ⟨a,vs,_,rfl,e1,c1,e⟩:=h
 simp at e
section
variable {X:Cx}{pins:List (Addr×Obj)}{σ:St} {H:Hp}{s:Shared}
mutual
theorem Tr.At.isIn (I:Inv X pins σ H s):∀ {t:Tr}{v:V}{u:Value},t.At H v []→RelV v u→Tr.In s.heap t u
 | .non,v,u,h,r=>by
   obtain ⟨rfl,-⟩:=(by simpa only [Tr.At] using h)
   cases r
   exact rfl
 | .int z,v,u,h,r=>by
   obtain ⟨rfl,-⟩:=(by simpa only [Tr.At] using h)
   obtain ⟨t,rfl⟩:=r
   exact .inl ⟨t,rfl⟩
 | .str z,v,u,h,r=>by
   obtain ⟨rfl,-⟩:=(by simpa only [Tr.At] using h)
   obtain ⟨t,rfl⟩:=r
   exact ⟨t,rfl⟩
 | .lst _,v,u,h,r=>(bc8 (h:=h)).elim
 | .tup ts,v,u,h,r=>by
   simp only [Tr.At] at h
   obtain ⟨a,vs,rfl,e1,c1⟩:=h
   cases r
   obtain ⟨is1,q1,p1,_⟩:=I.tuple (SqT.of e1)
   simp only [Tr.In]
   exact ⟨a,is1.toArray,rfl,p1,by simpa using Tr.Ats.isIns I c1 q1⟩
theorem Tr.Ats.isIns (I:Inv X pins σ H s):∀ {ts:List Tr}{vs:List V}{us:List Value},Tr.Ats H ts vs []→Vals vs us→Tr.Ins s.heap ts us
 | [],vs,us,c,q=>by
   simp only [Tr.Ats] at c
   obtain ⟨rfl,-⟩:=c
   cases q
   exact rfl
 | t::ts,vs,us,c,q=>by
   simp only [Tr.Ats] at c
   obtain ⟨v,vs,f,g,rfl,e,a1,b1⟩:=c
   have hf:f=[]∧g=[]:=by simpa using e.symm
   obtain ⟨rfl,rfl⟩:=hf
   cases q with
   | cons r1 q1 =>
   simp only [Tr.Ins]
   exact ⟨_,_,rfl,a1.isIn I r1,b1.isIns I q1⟩
end
end
theorem bc9 {n:Nat}{e:Nat→Bool}:(List.range n).all e=true↔∀ j,j<n→e j=true:=by simp [List.all_eq_true]
theorem c60 {ts rs:List Tr}:((List.range (min ts.length rs.length)).all (fun j=>decide (ts.getD j .non=rs.getD j .non)) && ts.length == rs.length)=decide (ts=rs):=by
 rw [Bool.eq_iff_iff,Bool.and_eq_true,bc9,decide_eq_true_iff,beq_iff_eq]
 constructor
 · rintro ⟨h1,h2⟩
   refine List.ext_getElem h2 fun j h3 h4=>?_
   have:=of_decide_eq_true (h1 j (by omega))
   simpa [h3,h4] using this
 · rintro rfl
   exact ⟨fun j _=>decide_eq_true rfl,rfl⟩
section
variable {s:Shared}
mutual
theorem Tr.In.eqAt:∀ {t r:Tr}{A:Around}{u z:Value},Tr.In s.heap t u→Tr.In s.heap r z→A.units+t.h+r.h<cLine→SeqAt.EqAt A s u z (decide (t=r))
 | .non,r,A,u,z,h1,h2,hu=>by
   simp only [Tr.In] at h1
   subst h1
   cases r with
   | non =>
     simp only [Tr.In] at h2
     subst h2
     rw [decide_eq_true rfl]
     exact SeqAt.EqAt.same _
   | int i =>
     rw [decide_eq_false (by simp)]
     rcases h2 with ⟨t2,rfl⟩ | ⟨b2,rfl,rfl⟩
     · exact SeqAt.EqAt.none_int _ _
     · exact SeqAt.EqAt.none_bool _
   | str i =>
     obtain ⟨t2,rfl⟩:=h2
     rw [decide_eq_false (by simp)]
     exact SeqAt.EqAt.none_str _ _
   | tup rs =>
     simp only [Tr.In] at h2
     obtain ⟨a,us,rfl,p,_⟩:=h2
     rw [decide_eq_false (by simp)]
     exact SeqAt.EqAt.none_tuple p (by omega)
   | lst rs=>exact h2.elim
 | .int i,r,A,u,z,h1,h2,hu=>by
   cases r with
   | non =>
     simp only [Tr.In] at h2
     subst h2
     rw [decide_eq_false (by simp)]
     rcases h1 with ⟨t1,rfl⟩ | ⟨b1,rfl,rfl⟩
     · exact SeqAt.EqAt.int_none _ _
     · exact SeqAt.EqAt.bool_none _
   | int j =>
     rw [show decide (Tr.int i=Tr.int j)=(i == j) from Bool.eq_iff_iff.mpr (by simp)]
     rcases h1 with ⟨t1,rfl⟩ | ⟨b1,rfl,rfl⟩
     · rcases h2 with ⟨t2,rfl⟩ | ⟨b2,rfl,rfl⟩
       · exact SeqAt.EqAt.int_int _ _ _ _
       · exact SeqAt.EqAt.int_bool _ _ _
     · rcases h2 with ⟨t2,rfl⟩ | ⟨b2,rfl,rfl⟩
       · exact SeqAt.EqAt.bool_int _ _ _
       · have:=SeqAt.EqAt.bool_bool (A:=A) (s:=s) b1 b2
         cases b1 <;> cases b2 <;> exact this
   | str j =>
     obtain ⟨t2,rfl⟩:=h2
     rw [decide_eq_false (by simp)]
     rcases h1 with ⟨t1,rfl⟩ | ⟨b1,rfl,rfl⟩
     · exact SeqAt.EqAt.int_str _ _ _ _
     · exact SeqAt.EqAt.bool_str _ _ _
   | tup rs =>
     simp only [Tr.In] at h2
     obtain ⟨a,us,rfl,p,_⟩:=h2
     rw [decide_eq_false (by simp)]
     rcases h1 with ⟨t1,rfl⟩ | ⟨b1,rfl,rfl⟩
     · exact SeqAt.EqAt.int_tuple _ _ p (by omega)
     · exact SeqAt.EqAt.bool_tuple _ p (by omega)
   | lst rs=>exact h2.elim
 | .str i,r,A,u,z,h1,h2,hu=>by
   obtain ⟨t1,rfl⟩:=h1
   cases r with
   | non =>
     simp only [Tr.In] at h2
     subst h2
     rw [decide_eq_false (by simp)]
     exact SeqAt.EqAt.str_none _ _
   | int j =>
     rw [decide_eq_false (by simp)]
     rcases h2 with ⟨t2,rfl⟩ | ⟨b2,rfl,rfl⟩
     · exact SeqAt.EqAt.str_int _ _ _ _
     · exact SeqAt.EqAt.str_bool _ _ _
   | str j =>
     obtain ⟨t2,rfl⟩:=h2
     have:=SeqAt.EqAt.str_str (A:=A) (s:=s) i t1 j t2
     rw [show (i == j)=decide (Tr.str i=Tr.str j) from Bool.eq_iff_iff.mpr (by simp)] at this
     exact this
   | tup rs =>
     simp only [Tr.In] at h2
     obtain ⟨a,us,rfl,p,_⟩:=h2
     rw [decide_eq_false (by simp)]
     exact SeqAt.EqAt.str_tuple _ _ p (by omega)
   | lst rs=>exact h2.elim
 | .lst _,r,A,u,z,h1,h2,hu=>h1.elim
 | .tup ts,r,A,u,z,h1,h2,hu=>by
   have h1':=h1
   simp only [Tr.In] at h1
   obtain ⟨a,us,rfl,p1,c1⟩:=h1
   cases r with
   | non =>
     simp only [Tr.In] at h2
     subst h2
     rw [decide_eq_false (by simp)]
     exact SeqAt.EqAt.tuple_none p1 (by omega)
   | int j =>
     rw [decide_eq_false (by simp)]
     rcases h2 with ⟨t2,rfl⟩ | ⟨b2,rfl,rfl⟩
     · exact SeqAt.EqAt.tuple_int _ _ p1 (by omega)
     · exact SeqAt.EqAt.tuple_bool _ p1 (by omega)
   | str j =>
     obtain ⟨t2,rfl⟩:=h2
     rw [decide_eq_false (by simp)]
     exact SeqAt.EqAt.tuple_str _ _ p1 (by omega)
   | lst rs=>exact h2.elim
   | tup rs =>
     have h2':=h2
     simp only [Tr.In] at h2
     obtain ⟨b,vs,rfl,p2,c2⟩:=h2
     by_cases hab:a=b
     · subst hab
       rw [decide_eq_true (h1'.inj h2')]
       exact SeqAt.EqAt.same _
     refine SeqAt.EqAt.of_refs hab ?_
     simp only [Tr.h] at hu
     have l1:=c1.len
     have l2:=c2.len
     simp only [Array.length_toList] at l1 l2
     have:=SeqAt.RcAt.tuples (A:=A) (s:=s) (e:=fun j=>decide (ts.getD j .non=rs.getD j .non)) p1 p2 (by omega) (fun j h1 h2=>by
      have:=Tr.Ins.eqAts (A:=A.in1) c1 c2 (by rw [a53]; omega) j (by simpa using h1) (by simpa using h2)
      simpa using this)
     rw [l1,l2,c60] at this
     rw [show decide (Tr.tup ts=Tr.tup rs)=decide (ts=rs) from Bool.eq_iff_iff.mpr (by simp)]
     exact this
theorem Tr.Ins.eqAts:∀ {ts rs:List Tr}{A:Around}{us zs:List Value},Tr.Ins s.heap ts us→Tr.Ins s.heap rs zs→A.units+Tr.hs ts+Tr.hs rs<cLine →
 ∀ (j:Nat) (h1:j<us.length) (h2:j<zs.length),SeqAt.EqAt A s us[j] zs[j] (decide (ts.getD j .non=rs.getD j .non))
 | [],rs,A,us,zs,c1,c2,hu,j,h1,h2=>by
   simp only [Tr.Ins] at c1
   subst c1
   exact absurd h1 (by simp)
 | t::ts,[],A,us,zs,c1,c2,hu,j,h1,h2=>by
   simp only [Tr.Ins] at c2
   subst c2
   exact absurd h2 (by simp)
 | t::ts,r::rs,A,us,zs,c1,c2,hu,j,h1,h2=>by
   simp only [Tr.Ins] at c1 c2
   obtain ⟨u,us,rfl,a1,b1⟩:=c1
   obtain ⟨z,zs,rfl,a2,b2⟩:=c2
   simp only [Tr.hs] at hu
   cases j with
   | zero =>
     have:=a1.eqAt a2 (A:=A) (by omega)
     simpa using this
   | succ j =>
     have:=b1.eqAts b2 (A:=A) (by omega) j (by simpa using h1) (by simpa using h2)
     simpa using this
end
end
mutual
def Tr.hash (P:Params):Tr→Int
 | .non=>W.hashW P .none
 | .int z=>W.hashW P (.int z)
 | .str x=>W.hashW P (.str x)
 | .tup ts=>reduceHash (Builtin.Tuple.tupleHashOf (Tr.hashes P ts))
 | .lst _=>0
def Tr.hashes (P:Params):List Tr→List Int
 | []=>[]
 | t::ts=>Tr.hash P t::Tr.hashes P ts
end
section
variable {prog:Program}{w:World}{E:Value→Shared→Prop}
mutual
theorem Tr.In.pyHash:∀ {t:Tr}{A:Around}{s:Shared}{u:Value}{Q:Int→Shared→Prop},Tr.In s.heap t u→A.units+t.h<cLine→(∀ n,Q (t.hash w.params) { s with toks:=n })→wpAny (model prog w) A (pyHash u) Q E s
 | .non,A,s,u,Q,e,hu,h=>by
   simp only [Tr.In] at e
   subst e
   exact W.pyHash_laid .none _ A s Q rfl .none (by simp only [W.WData.depth]; omega) h
 | .int z,A,s,u,Q,e,hu,h=>by
   rcases e with ⟨t,rfl⟩ | ⟨b,rfl,rfl⟩
   · exact W.pyHash_laid (.int z) _ A s Q rfl (.int z t) (by simp only [W.WData.depth]; omega) h
   · refine W.pyHash_laid (.bool b) _ A s Q rfl (.bool b) (by simp only [W.WData.depth]; omega) fun tk=>?_
     have:=h tk
     cases b <;> exact this
 | .str z,A,s,u,Q,e,hu,h=>by
   obtain ⟨t,rfl⟩:=e
   exact W.pyHash_laid (.str z) _ A s Q rfl (.str z t) (by simp only [W.WData.depth]; omega) h
 | .lst _,A,s,u,Q,e,hu,h=>e.elim
 | .tup ts,A,s,u,Q,e,hu,h=>by
   simp only [Tr.In] at e
   obtain ⟨a,us,rfl,⟨o,p1,p2,n,p3⟩,c⟩:=e
   simp only [Tr.h] at hu
   refine W.pyHash_slot (T:="tuple") ⟨o,p1,p2⟩ F.slot_tuple_hash F.entry_tuple_hash (F.args_tuple_hash_1 _) (beq_builtin_none _) (.inr (by omega)) ?_
   show wpAny _ A.in1 (Builtin.Tuple.tupleItemsOf (.ref a) >>= _) _ _ s
   refine wB (wpAny_tupleItemsOf p1 p3 (wB ?_))
   rw [← Array.forIn_toList]
   refine Tr.Ins.pyHashes (b:=#[]) c (by rw [a53]; omega) fun tk b hb=>?_
   have hb':b.toList=Tr.hashes w.params ts:=by simpa using hb
   show wpAny _ A.in1 (retInt (Builtin.Tuple.tupleHashOf b.toList)) _ _ _
   rw [hb']
   exact wB (wpAny_mkInt (wpAny_pure ⟨_,_,rfl,h (_)⟩))
theorem Tr.Ins.pyHashes:∀ {ts:List Tr}{A:Around}{s:Shared}{us:List Value}{b:Array Int}{Q:Array Int→Shared→Prop},Tr.Ins s.heap ts us→A.units+Tr.hs ts<cLine →
 (∀ n b',b'.toList=b.toList++Tr.hashes w.params ts→Q b' { s with toks:=n }) →
 wpAny (model prog w) A (forIn us b fun x r=>do let h←pyHash x; pure PUnit.unit; pure (ForInStep.yield (r.push h))) Q E s
 | [],A,s,us,b,Q,e,hu,h=>by
   simp only [Tr.Ins] at e
   subst e
   exact wpAny_pure (h s.toks b (by simp [Tr.hashes]))
 | t::ts,A,s,us,b,Q,e,hu,h=>by
   simp only [Tr.Ins] at e
   obtain ⟨u,us,rfl,a1,b1⟩:=e
   simp only [Tr.hs] at hu
   rw [List.forIn_cons]
   refine wB (wB (a1.pyHash (by omega) fun tk=>wB (wpAny_pure (wpAny_pure ?_))))
   exact b1.pyHashes (s:={ s with toks:=tk }) (by omega) fun n b' hb=>h n b' (by simp [hb,Tr.hashes])
end
end
section
variable {prog:Program}{w:World}{E:Value→Shared→Prop}
mutual
theorem Tr.In.quiet:∀ {t:Tr}{A:Around}{s:Shared}{u:Value}{Q:Bool→Shared→Prop}{n:Nat},Tr.In s.heap t u→t.h≤n→Q true s→wpAny (model prog w) A (eqIsQuiet n u) Q E s
 | .non,A,s,u,Q,n,e,hn,h=>by
   simp only [Tr.In] at e
   subst e
   rw [eqIsQuiet_byValue n (v:=.none) rfl]
   exact wpAny_pure h
 | .int z,A,s,u,Q,n,e,hn,h=>by
   rcases e with ⟨t,rfl⟩ | ⟨b,rfl,rfl⟩
   · rw [eqIsQuiet_byValue n (v:=.int z t) rfl]
     exact wpAny_pure h
   · rw [eqIsQuiet_byValue n (v:=.bool b) rfl]
     exact wpAny_pure h
 | .str z,A,s,u,Q,n,e,hn,h=>by
   obtain ⟨t,rfl⟩:=e
   rw [eqIsQuiet_byValue n (v:=.str z t) rfl]
   exact wpAny_pure h
 | .lst _,A,s,u,Q,n,e,hn,h=>e.elim
 | .tup ts,A,s,u,Q,n,e,hn,h=>by
   simp only [Tr.In] at e
   obtain ⟨a,us,rfl,⟨o,p1,p2,m,p3⟩,c⟩:=e
   simp only [Tr.h] at hn
   obtain ⟨n,rfl⟩:∃ k,n=k+1:=⟨n - 1,by omega⟩
   have hT:s.TypeIs (.ref a) "tuple":=⟨o,p1,p2⟩
   unfold eqIsQuiet
   refine wB (wpAny_specialOf hT (F.slot_tuple_eq.lookup) ?_)
   show wpAny _ A (isInstance (.ref a) (.type "tuple") >>= _) _ _ s
   refine wB (wpAny_isInstance hT (isSubtype_tuple_tuple) ?_)
   simp only [Bool.false_eq_true,Bool.not_true,if_false]
   refine wB (wpAny_seqItems p1 p3 (wB ?_))
   show wpAny _ _ (forIn us _ _) _ _ s
   rw [← Array.forIn_toList]
   refine wpAny_forIn_list _ (fun rest r s'=>r.1=none∧s'=s∧∃ ts',Tr.Ins s.heap ts' rest∧∀ t∈ts',∃ k,∃ hk:k<ts.length,t=ts[k]) _ ?_ ?_ _ _ ⟨rfl,rfl,ts,c,fun t ht=>by
    obtain ⟨k,hk,e⟩:=List.mem_iff_getElem.mp ht
    exact ⟨k,hk,e.symm⟩⟩
   · rintro v rest r s' ⟨hr,rfl,ts',c',hm⟩
     cases ts' with
     | nil=>simp [Tr.Ins] at c'
     | cons t ts' =>
       simp only [Tr.Ins] at c'
       obtain ⟨u',r',hh,a1,b1⟩:=c'
       cases hh
       obtain ⟨k,hk,rfl⟩:=hm t List.mem_cons_self
       refine wB (Tr.Ins.quietAt (n:=n) c k hk a1 (by omega) ?_)
       simp only [Bool.false_eq_true,Bool.not_true,if_false]
       exact wpAny_pure ⟨rfl,rfl,ts',b1,fun t' ht'=>hm t' (List.mem_cons_of_mem _ ht')⟩
   · rintro ⟨r1,r2⟩ s' ⟨hr,rfl,_⟩
     simp only at hr
     subst hr
     exact wpAny_pure h
theorem Tr.Ins.quietAt:∀ {ts:List Tr}{A:Around}{s:Shared}{us:List Value}{u:Value}{Q:Bool→Shared→Prop}{n:Nat},Tr.Ins s.heap ts us→∀ (k:Nat) (hk:k<ts.length),Tr.In s.heap ts[k] u→Tr.hs ts≤n→Q true s →
 wpAny (model prog w) A (eqIsQuiet n u) Q E s
 | [],A,s,us,u,Q,n,e,k,hk,a1,hn,h=>absurd hk (Nat.not_lt_zero _)
 | t::ts,A,s,us,u,Q,n,e,k,hk,a1,hn,h=>by
   simp only [Tr.Ins] at e
   obtain ⟨u',us,rfl,a2,b2⟩:=e
   simp only [Tr.hs] at hn
   cases k with
   | zero=>exact Tr.In.quiet (t:=t) a1 (by omega) h
   | succ k=>exact Tr.Ins.quietAt b2 k (by simpa using hk) a1 (by omega) h
end
end
structure Ents (P:Params) (h:Heap) (es:Array DictEntry) (ts:List Tr):Prop where
 len:es.size=ts.length
 at_:∀ (j:Nat) (e:DictEntry),es[j]?=some e→∃ t:Tr,ts[j]?=some t∧e.hash=t.hash P∧Tr.In h t e.key∧t.h≤8
 nd:ts.Nodup
theorem Ents.of {P:Params}{h:Heap}{es:Array DictEntry}{ts:List Tr}(x:Ents P h es ts) {j:Nat}{t:Tr}(e:ts[j]?=some t):∃ en,es[j]?=some en∧en.hash=t.hash P∧Tr.In h t en.key∧t.h≤8:=by
 have hj:j<es.size:=by rw [x.len]; exact (gS e).1
 obtain ⟨t',e',h2⟩:=x.at_ j es[j] (Array.getElem?_eq_getElem hj)
 rw [e] at e'
 cases e'
 exact ⟨_,Array.getElem?_eq_getElem hj,h2⟩
theorem Ents.one {P:Params}{h:Heap}{es:Array DictEntry}{ts:List Tr}(x:Ents P h es ts) {i j:Nat}{t:Tr}(e:ts[i]?=some t) (f:ts[j]?=some t):i=j:=by
 obtain ⟨h1,e⟩:=gS e
 obtain ⟨h2,f⟩:=gS f
 have pw:=List.pairwise_iff_getElem.mp x.nd
 rcases Nat.lt_trichotomy i j with h | h | h
 · exact absurd (e.trans f.symm) (pw i j h1 h2 h)
 · exact h
 · exact absurd (f.trans e.symm) (pw j i h2 h1 h)
section
variable {prog:Program}{w:World}{E:Value→Shared→Prop}{A:Around}{s:Shared}{d:Addr}{o:Obj}{es:Array DictEntry}{ep:Nat}{ts:List Tr}{t:Tr}{u:Value}
theorem mem_places {f:Nat→Option Int}{n i:Nat}{h:Int}:i∈placesWithHash n f h↔i<n∧f i=some h:=by simp [placesWithHash,List.mem_filter]
theorem bd0 {f:Nat→Option Int}{n:Nat}{h:Int}:(placesWithHash n f h).Nodup:=List.Pairwise.filter _ List.nodup_range
theorem aj7 {Q:Option Nat→Shared→Prop}(ho:s.heap.get? d=some o) (hd:o.data=.dict es ep) (x:Ents w.params s.heap es ts) (hk:Tr.In s.heap t u) (h8:t.h≤8) (hu:A.units+16<cLine)
 (hnone:(∀ j:Nat,ts[j]?≠some t)→Q none s) (hsome:∀ j:Nat,ts[j]?=some t→Q (some j) s):wpAny (model prog w) A (dictFind d u (t.hash w.params)) Q E s:=by
 have hin:∀ j:Nat,ts[j]?=some t→j∈placesWithHash es.size (fun i=>es[i]?.map (·.hash)) (t.hash w.params):=fun j hj=>by
  obtain ⟨en,e1,e2,_⟩:=x.of hj
  exact mem_places.mpr ⟨(Array.getElem?_eq_some_iff.mp e1).1,by rw [e1]; exact congrArg some e2⟩
 have hex:∀ i∈placesWithHash es.size (fun i=>es[i]?.map (·.hash)) (t.hash w.params),∃ en t',es[i]?=some en∧ts[i]?=some t'∧en.hash=t.hash w.params∧Tr.In s.heap t' en.key∧t'.h≤8:=fun i hi=>by
  obtain ⟨hi,h2⟩:=mem_places.mp hi
  have e1:=Array.getElem?_eq_getElem hi
  obtain ⟨t',e2,e3,e4,e5⟩:=x.at_ i _ e1
  rw [e1] at h2
  exact ⟨_,t',e1,e2,Option.some.inj h2,e4,e5⟩
 have hnd:(placesWithHash es.size (fun i=>es[i]?.map (·.hash)) (t.hash w.params)).Nodup:=bd0
 generalize hP:placesWithHash es.size (fun i=>es[i]?.map (·.hash)) (t.hash w.params)=ps at hin hex hnd
 have eqa:∀ {t':Tr}{z:Value},Tr.In s.heap t' z→t'.h≤8→SeqAt.EqAt A s z u (decide (t'=t)):=fun a b=>a.eqAt hk (by omega)
 have plain:wpAny (model prog w) A (dictWalkPlain d u (t.hash w.params) es ps) Q E s:=by
  unfold dictWalkPlain
  refine wB ?_
  refine wpAny_forIn_list _ (fun rest b s'=>s'=s∧b=(none,())∧(∀ i∈rest,i∈ps)∧∀ j:Nat,ts[j]?=some t→j∈rest) _ ?_ ?_ _ _ ⟨rfl,rfl,fun _ z=>z,hin⟩
  · rintro i rest b s' ⟨rfl,rfl,hr,hj⟩
    obtain ⟨en,t',e1,e2,e3,e4,e5⟩:=hex i (hr i List.mem_cons_self)
    rw [e1]
    dsimp only
    rw [if_pos (by rw [e3]; exact beq_self_eq_true _)]
    refine wB (wpAny_dictEpoch ho hd (wB (eqa e4 e5 _ _ _ _ (wB (wpAny_dictEpoch ho hd ?_)))))
    show wpAny _ A (if (ep != ep)=true then _ else _) _ E _
    rw [if_neg (by simp)]
    by_cases hkk:t'=t
    · subst hkk
      rw [decide_eq_true rfl]
      exact wB (wpAny_rule (wpAny_pure (wpAny_pure (hsome i e2))))
    · rw [decide_eq_false hkk]
      refine wB (wpAny_rule (wpAny_pure ⟨rfl,rfl,fun i hi=>hr i (List.mem_cons_of_mem _ hi),fun j h2=>?_⟩))
      rcases List.mem_cons.mp (hj j h2) with rfl | h3
      · rw [e2] at h2
        exact absurd (Option.some.inj h2) hkk
      · exact h3
  · rintro b s' ⟨rfl,rfl,_,hj⟩
    exact wpAny_pure (hnone fun j h2=>absurd (hj j h2) (by simp))
 have hany:∀ a,u=.ref a→¬ (es.any fun e=>e.key == u && e.hash != t.hash w.params)=true:=by
  rintro a rfl
  rw [← Array.any_toList,List.any_eq_true]
  rintro ⟨e,hin',hc⟩
  obtain ⟨j,hj,rfl⟩:=Array.mem_iff_getElem.mp (Array.mem_toList_iff.mp hin')
  obtain ⟨t',_,f2,f3,_⟩:=x.at_ j _ (Array.getElem?_eq_getElem hj)
  simp only [Bool.and_eq_true,beq_iff_eq,bne_iff_ne,ne_eq] at hc
  rw [hc.1] at f3
  exact hc.2 (by rw [f2,f3.inj hk])
 have hst:∀ v∈ps.filterMap (fun i=>es[i]?.map (·.key)),∃ t',Tr.In s.heap t' v∧t'.h≤8:=by
  intro v hv
  obtain ⟨i,hi,hv⟩:=List.mem_filterMap.mp hv
  obtain ⟨en,t',e1,_,_,e4,e5⟩:=hex i hi
  rw [e1] at hv
  cases hv
  exact ⟨t',e4,e5⟩
 have tell:∀ {Q:Bool→Shared→Prop},Q false s→wpAny (model prog w) A (tableMayTell u (ps.filterMap fun i=>es[i]?.map (·.key))) Q E s:=by
  intro Q q
  unfold tableMayTell
  split
  · exact wpAny_pure q
  · refine wB (hk.quiet h8 ?_)
    simp only [Bool.false_eq_true,Bool.not_true,if_false]
    refine wB (wpAny_forIn_list _ (fun rest r s'=>s'=s∧r=(none,())∧∀ v∈rest,∃ t',Tr.In s.heap t' v∧t'.h≤8) _ ?_ ?_ _ _ ⟨rfl,rfl,hst⟩)
    · rintro v rest r s' ⟨rfl,rfl,hr⟩
      obtain ⟨t',b1,b2⟩:=hr v List.mem_cons_self
      refine wB (b1.quiet b2 ?_)
      simp only [Bool.false_eq_true,Bool.not_true,if_false]
      exact wpAny_pure ⟨rfl,rfl,fun z hz=>hr z (List.mem_cons_of_mem _ hz)⟩
    · rintro r s' ⟨rfl,rfl,_⟩
      exact wpAny_pure q
 unfold dictFind
 try (with_reducible refine wpAny_holding ?_)
 refine wB (wpAny_dictEntries ho (hd) ?_)
 extract_lets places st hit0 jp3 jp2 jp1
 have hpl:places=ps:=hP
 have hS:ps.filterMap (fun i=>es[i]?.map (·.key))=st:=by rw [← hpl]
 rw [hS] at tell
 clear hst
 have h3:wpAny (model prog w) A (jp3 false) Q E s:=by
  dsimp only [jp3]
  rw [if_neg (by simp),hpl]
  refine wB (wpAny_forIn_list _ (fun rest b s'=>s'=s∧rest.Nodup∧∃ hit:Option Nat,b=(none,hit)∧(∀ i∈rest,i∈ps) ∧
   ((hit=none∧∀ j:Nat,ts[j]?=some t→j∈rest)∨∃ j:Nat,hit=some j∧ts[j]?=some t∧j∉rest)) _ ?_ ?_ _ _ ⟨rfl,hnd,none,rfl,fun _ z=>z,.inl ⟨rfl,hin⟩⟩)
  · rintro i rest b s' ⟨rfl,hnd',hit,rfl,hr,hH⟩
    have hni:i∉rest:=(List.nodup_cons.mp hnd').1
    have hnr:rest.Nodup:=(List.nodup_cons.mp hnd').2
    have hr':∀ j∈rest,j∈ps:=fun j hj=>hr j (List.mem_cons_of_mem _ hj)
    obtain ⟨en,t',e1,e2,e3,e4,e5⟩:=hex i (hr i List.mem_cons_self)
    rw [e1]
    dsimp only
    rw [if_pos (by rw [e3]; exact beq_self_eq_true _)]
    refine wB (wpAny_dictEpoch ho hd (wB (eqa e4 e5 _ _ _ _ (wB (wpAny_dictEpoch ho hd ?_)))))
    show wpAny _ A (if (ep != ep)=true then _ else _) _ E _
    rw [if_neg (by simp)]
    by_cases hkk:t'=t
    · subst hkk
      rw [decide_eq_true rfl]
      rcases hH with ⟨rfl,hj⟩ | ⟨j,rfl,hj,hjr⟩
      · rw [if_pos rfl]
        simp only [Bool.false_eq_true,Option.isSome_none,if_false]
        refine wB ((wpAny_rule) ?_)
        split
        · exact wpAny_pure (wpAny_pure (hsome i e2))
        · exact wpAny_pure ⟨rfl,hnr,some i,rfl,hr',.inr ⟨i,rfl,e2,hni⟩⟩
      · exact absurd (x.one e2 hj ▸ List.mem_cons_self) hjr
    · rw [decide_eq_false hkk]
      rw [if_neg (by simp)]
      refine wB ((wpAny_rule) ?_)
      rw [if_neg (by simp)]
      refine wpAny_pure ⟨rfl,hnr,hit,rfl,hr',?_⟩
      rcases hH with ⟨rfl,hj⟩ | ⟨j,rfl,hj,hjr⟩
      · refine .inl ⟨rfl,fun j h2=>?_⟩
        rcases List.mem_cons.mp (hj j h2) with rfl | h3
        · rw [e2] at h2
          exact absurd (Option.some.inj h2) hkk
        · exact h3
      · exact .inr ⟨j,rfl,hj,fun z=>hjr (List.mem_cons_of_mem _ z)⟩
  · rintro b s' ⟨rfl,_,hit,rfl,_,hH⟩
    rcases hH with ⟨rfl,hj⟩ | ⟨j,rfl,hj,_⟩
    · exact wpAny_pure (hnone fun j h2=>absurd (hj j h2) (by simp))
    · exact wpAny_pure (hsome j hj)
 clear_value jp3
 have h2:wpAny (model prog w) A (jp2 ()) Q E s:=by
  dsimp only [jp2]
  by_cases hone:(st == [u])=true
  · rw [if_pos hone]
    exact wB (wpAny_pure h3)
  · rw [if_neg hone]
    exact wB (tell h3)
 clear_value jp2
 have h1:wpAny (model prog w) A (jp1 ()) Q E s:=by
  dsimp only [jp1]
  by_cases hall:(u::st).all carriedByValue=true
  · rw [if_pos hall,hpl]
    exact plain
  rw [if_neg hall]
  split
  · rename_i a
    rw [if_neg (hany a rfl)]
    exact h2
  · exact h2
 clear_value jp1
 split
 · rename_i y tk
   by_cases hx:(es.all fun e=>isExactStrKey e.key)=true
   · rw [if_pos hx]
     have ht:t=.str y:=hk.inj (r:=.str y) ⟨tk,rfl⟩
     subst ht
     have hstr:∀ (j:Nat) (hj:j<es.size),es[j].key.isStr y=decide (ts[j]?=some (.str y)):=fun j hj=>by
      obtain ⟨t',f1,f2,f3,_⟩:=x.at_ j _ (Array.getElem?_eq_getElem hj)
      have hx':=Array.all_eq_true.mp hx j hj
      rw [f1]
      cases hq:es[j].key with
      | str z tz =>
        rw [hq] at f3
        obtain rfl:t'=.str z:=f3.inj (r:=.str z) ⟨tz,rfl⟩
        show (z == y)=_
        exact Bool.eq_iff_iff.mpr (by simp)
      | _=>rw [hq] at hx'; cases hx'
     unfold foundByValue
     cases hf:es.findIdx? (fun e=>e.key.isStr y) with
     | none =>
       refine wpAny_pure (hnone fun j hj=>?_)
       obtain ⟨en,g1,_⟩:=x.of hj
       obtain ⟨hl,_⟩:=Array.getElem?_eq_some_iff.mp g1
       have:=Array.findIdx?_eq_none_iff.mp hf es[j] (Array.getElem_mem hl)
       rw [hstr j hl,decide_eq_true hj] at this
       cases this
     | some i =>
       obtain ⟨hlt,hi,_⟩:=Array.findIdx?_eq_some_iff_getElem.mp hf
       rw [hstr i hlt] at hi
       have hi:=of_decide_eq_true hi
       obtain ⟨t',f1,f2,f3,f4⟩:=x.at_ i _ (Array.getElem?_eq_getElem hlt)
       rw [hi] at f1
       cases f1
       simp only [Array.getElem?_eq_getElem hlt]
       refine wB (wpAny_dictEpoch ho hd (wB (eqa f3 f4 _ _ _ _ (wB (wpAny_dictEpoch ho hd ?_)))))
       show wpAny _ A (if (ep != ep)=true then _ else _) _ E _
       rw [if_neg (by simp),decide_eq_true rfl]
       exact wB (wpAny_rule (wpAny_pure (hsome i hi)))
   · rw [if_neg hx]
     exact h1
 · exact h1
end
structure DtR (P:Params) (m:List (Tr×V×V)) (es:Array DictEntry):Prop where
 len:es.size=m.length
 at_:∀ (j:Nat) (x:Tr×V×V),m[j]?=some x→∃ e,es[j]?=some e∧e.hash=x.1.hash P∧RelV x.2.1 e.key∧RelV x.2.2 e.val
def DtP (P:Params) (a:Addr) (m:List (Tr×V×V)):Heap→Prop:=fun h=>m.length≤sizeLine∧(a == sysModules)=false∧∃ o es ep,h.get? a=some o∧o.ExactDict∧o.data=.dict es ep∧DtR P m es
abbrev DtO (P:Params) (a:Addr) (m:List (Tr×V×V)):HO:=.ext (DtP P a m)
theorem DtP.one {P:Params}{a:Addr}{m:List (Tr×V×V)}(h1 h2:Heap) (x:DtP P a m h1) (k:∀ o,h1.get? a=some o→h2.get? a=some o):DtP P a m h2:=by
 obtain ⟨z,y,o,es,ep,e,r⟩:=x
 exact ⟨z,y,o,es,ep,k _ e,r⟩
theorem am5 {Pr:Program}{w:World}{H:Hp}{h:Heap}{P:Params}{a:Addr}{m:List (Tr×V×V)}(x:DtP P a m h):ObjOk Pr w H h a (DtO P a m):=by
 refine ⟨x,?_,DtP.one⟩
 obtain ⟨_,_,o,_,_,e,_⟩:=x
 exact ⟨o,e⟩
def DtE (P:Params) (H:Hp) (a:Addr) (m:List (Tr×V×V)):Prop:=∃ φ,H a=some (.ext φ)∧∀ h,φ h→DtP P a m h
theorem DtE.of {P:Params}{H:Hp}{a:Addr}{m:List (Tr×V×V)}(h:H a=some (DtO P a m)):DtE P H a m:=⟨_,h,fun _ x=>x⟩
theorem DtE.mut {P:Params}{H:Hp}{a:Addr}{m:List (Tr×V×V)}(h:DtE P H a m):Mut (H a):=by
 obtain ⟨φ,e,_⟩:=h
 rw [e]
 exact True.intro
def DtAt (P:Params) (H:Hp) (a:Addr) (kvs:List (Tr×V)):Prop:=∃ m:List (Tr×V×V),m.map (fun x=>(x.1,x.2.2))=kvs∧DtE P H a m∧(∀ x∈m,x.1.At H x.2.1 []∧x.1.h≤8)∧(m.map (·.1)).Nodup
noncomputable def putM (m:List (Tr×V×V)) (t:Tr) (y v:V):List (Tr×V×V):=if t∈m.map (·.1) then m.map (fun x=>if x.1=t then (x.1,x.2.1,v) else x) else m++[(t,y,v)]
theorem bk7 (m:List (Tr×V×V)) (t:Tr) (y v:V):(putM m t y v).map (fun x=>(x.1,x.2.2))=putK (m.map fun x=>(x.1,x.2.2)) t v:=by
 have hany:((m.map fun x=>(x.1,x.2.2)).any fun kv=>decide (kv.1=t))=decide (t∈m.map (·.1)):=by
  rw [Bool.eq_iff_iff,List.any_eq_true,decide_eq_true_iff,List.mem_map]
  constructor
  · rintro ⟨p,hp,e⟩
    obtain ⟨x,hx,rfl⟩:=List.mem_map.mp hp
    exact ⟨x,hx,of_decide_eq_true e⟩
  · rintro ⟨x,hx,e⟩
    exact ⟨_,List.mem_map_of_mem hx,decide_eq_true e⟩
 unfold putM putK
 rw [hany]
 by_cases h:t∈m.map (·.1)
 · rw [if_pos h,if_pos (decide_eq_true h),List.map_map,List.map_map]
   refine List.map_congr_left fun x _=>?_
   simp only [Function.comp]
   split <;> rfl
 · rw [if_neg h,if_neg (by rw [decide_eq_false h]; exact Bool.false_ne_true),List.map_append]
   rfl
theorem bs8 {m:List (Tr×V×V)}(t:Tr) (y v:V) (h:(m.map (·.1)).Nodup):((putM m t y v).map (·.1)).Nodup:=by
 unfold putM
 by_cases ht:t∈m.map (·.1)
 · rw [if_pos ht,List.map_map]
   rw [show m.map ((·.1)∘fun x=>if x.1=t then (x.1,x.2.1,v) else x)=m.map (·.1) from List.map_congr_left fun x _=>by simp only [Function.comp]; split <;> rfl]
   exact h
 · rw [if_neg ht,List.map_append]
   exact aa8 h ht
theorem bk8 {m:List (Tr×V×V)}{t:Tr}{y v:V}{p:Tr→V→Prop}(h:∀ x∈m,p x.1 x.2.1) (hy:p t y):∀ x∈putM m t y v,p x.1 x.2.1:=by
 intro x hx
 unfold putM at hx
 by_cases ht:t∈m.map (·.1)
 · rw [if_pos ht] at hx
   obtain ⟨z,hz,rfl⟩:=List.mem_map.mp hx
   split <;> exact h z hz
 · rw [if_neg ht] at hx
   rcases gA hx with hx | hx
   · exact h x hx
   · rw [gG hx]; exact hy
theorem bk9 (m:List (Tr×V×V)) (t:Tr) (y v:V):(putM m t y v).length≤m.length+1:=by
 unfold putM
 split <;> simp
theorem ac5 {P:Params}{H H':Hp}{a:Addr}{kvs:List (Tr×V)}(x:DtAt P H a kvs) (s:Same H H'):DtAt P H' a kvs:=by
 obtain ⟨m,e1,⟨φ,e2,hφ⟩,e3,e4⟩:=x
 exact ⟨m,e1,⟨φ,s _ _ e2,hφ⟩,fun x hx=>⟨(e3 x hx).1.mono (s.keep _),(e3 x hx).2⟩,e4⟩
def TK (H:Hp) (t:Tr) (y:V):Prop:=t.At H y []∧t.h≤8
theorem ag3 {m:List (Tr×V×V)}(hn:(m.map (·.1)).Nodup) {j:Nat}{x:Tr×V×V}(e:m[j]?=some x):valV (m.map fun x=>(x.1,x.2.2)) x.1=some x.2.2:=by
 induction m generalizing j with
 | nil=>simp at e
 | cons z m ih =>
   rw [List.map_cons,List.nodup_cons] at hn
   cases j with
   | zero =>
     obtain rfl:z=x:=by simpa using e
     exact a83 rfl
   | succ j =>
     have e':m[j]?=some x:=by simpa using e
     rw [List.map_cons,a84 (fun q=>hn.1 (by
      show z.1∈_
      rw [show z.1=x.1 from q]
      exact List.mem_map_of_mem (gI e')))]
     exact ih hn.2 e'
theorem ad3 {m:List (Tr×V×V)}{t:Tr}(h:∀ j:Nat,(m.map (·.1))[j]?≠some t):valV (m.map fun x=>(x.1,x.2.2)) t=none∧t∉m.map (·.1):=by
 have hn:t∉m.map (·.1):=fun z=>by
  obtain ⟨j,hj,e⟩:=List.mem_iff_getElem.mp z
  exact h j (by rw [gE hj,e])
 refine ⟨?_,hn⟩
 unfold valV
 rw [List.find?_eq_none.mpr]
 · rfl
 · intro p hp
   obtain ⟨x,hx,rfl⟩:=List.mem_map.mp hp
   simp only [decide_eq_true_iff]
   exact fun z=>hn (z ▸ List.mem_map_of_mem hx)
section
variable {X:Cx}{pins:List (Addr×Obj)}{σ:St} {H:Hp}{s:Shared}{a:Addr}{t:Tr}{y v:V}{u r:Value}{A:Around}{E:Value→Shared→Prop}{kvs:List (Tr×V)}{m:List (Tr×V×V)}
theorem ah1 (I:Inv X pins σ H s) (e2:DtE X.w.params H a m) (e3:∀ x∈m,x.1.At H x.2.1 []∧x.1.h≤8) (e4:(m.map (·.1)).Nodup) :
 ∃ o es ep,s.heap.get? a=some o∧o.ExactDict∧o.data=.dict es ep∧DtR X.w.params m es∧Ents X.w.params s.heap es (m.map (·.1))∧m.length≤sizeLine∧(a == sysModules)=false:=by
 obtain ⟨φ,e2,hφ⟩:=e2
 obtain ⟨z1,z2,o,es,ep,q1,q2,q3,q4⟩:=hφ _ (I.hok a _ e2).1
 refine ⟨o,es,ep,q1,q2,q3,q4,⟨by rw [q4.len,gL],fun j e he=>?_,e4⟩,z1,z2⟩
 have hj:j<m.length:=by rw [← q4.len]; exact (Array.getElem?_eq_some_iff.mp he).1
 obtain ⟨e',f1,f2,f3,f4⟩:=q4.at_ j m[j] (gE hj)
 rw [he] at f1
 cases f1
 have:=e3 m[j] (List.getElem_mem hj)
 exact ⟨m[j].1,by rw [gM,gE hj]; rfl,f2,this.1.isIn I f3,this.2⟩
theorem bp1 {Q:Option Value→Shared→Prop}(hu:A.units+16<cLine) (I:Inv X pins σ H s) (g:DtAt X.w.params H a kvs) (hk:TK H t y) (ry:RelV y u) (h:∀ o s',Inv X pins σ H s'→RelO (valV kvs t) o→Q o s') :
 wpAny (model X.prog X.w) A (dictGet a u) Q E s:=by
 obtain ⟨m,rfl,e2,e3,e4⟩:=g
 obtain ⟨o,es,ep,q1,q2,q3,q4,q5,_⟩:=ah1 I e2 e3 e4
 have hin:=hk.1.isIn I ry
 unfold dictGet
 try (with_reducible refine wpAny_holding ?_)
 refine wB (hin.pyHash (by have:=hk.2; omega) fun n=>wB (aj7 (s:={ s with toks:=n }) q1 q3 q5 hin hk.2 hu (fun hn=>?_) fun j hj=>?_))
 · refine wpAny_pure (h _ _ (I.tok _) ?_)
   rw [(ad3 hn).1]
   exact True.intro
 · rw [gM] at hj
   obtain ⟨x,hx,rfl⟩:=gO hj
   obtain ⟨en,f1,f2,f3,f4⟩:=q4.at_ j x hx
   refine wB (wpAny_dictEntries (s:={ s with toks:=n }) q1 q3 ?_)
   rw [f1]
   refine wpAny_pure (h _ _ (I.tok _) ?_)
   rw [ag3 e4 hx]
   exact f4
theorem ap5 {P:Params}{es:Array DictEntry}{e:DictEntry}(x:DtR P m es) (h1:e.hash=t.hash P) (h2:RelV y e.key) (h3:RelV v e.val):DtR P (m++[(t,y,v)]) (es.push e):=by
 refine ⟨by simp [x.len],fun j z hz=>?_⟩
 by_cases hj:j<m.length
 · rw [List.getElem?_append_left hj] at hz
   obtain ⟨e',f1,f2⟩:=x.at_ j z hz
   exact ⟨e',by rw [Array.getElem?_push,if_neg (by rw [x.len]; omega)]; exact f1,f2⟩
 · rw [List.getElem?_append_right (by omega)] at hz
   have hj2:j - m.length=0:=by
    refine Nat.eq_zero_of_not_pos fun z=>?_
    rw [List.getElem?_eq_none (by simp; omega)] at hz
    cases hz
   rw [hj2] at hz
   cases hz
   exact ⟨e,by rw [Array.getElem?_push,if_pos (by rw [x.len]; omega)],h1,h2,h3⟩
theorem bs9 {P:Params}{es:Array DictEntry}{j:Nat}{x:Tr×V×V}(R:DtR P m es) (hn:(m.map (·.1)).Nodup) (hx:m[j]?=some x) (h3:RelV v r) :
 DtR P (m.map fun z=>if z.1=x.1 then (z.1,z.2.1,v) else z) (es.modify j fun e=>{ e with val:=r }):=by
 refine ⟨by simp [R.len],fun i z hz=>?_⟩
 rw [gM] at hz
 obtain ⟨z0,hz0,rfl⟩:=gO hz
 obtain ⟨e',f1,f2,f3,f4⟩:=R.at_ i z0 hz0
 have hi:i<es.size:=(Array.getElem?_eq_some_iff.mp f1).1
 rw [Array.getElem?_modify,f1]
 by_cases hij:j=i
 · subst hij
   rw [hz0] at hx
   cases hx
   rw [if_pos rfl,if_pos rfl]
   exact ⟨_,rfl,f2,f3,h3⟩
 · rw [if_neg hij,if_neg]
   · exact ⟨_,rfl,f2,f3,f4⟩
   · intro e
     have pw:=List.pairwise_iff_getElem.mp hn
     obtain ⟨l1,g1⟩:=gS hx
     obtain ⟨l2,g2⟩:=gS hz0
     rcases Nat.lt_trichotomy j i with h | h | h
     · exact pw j i (by simpa using l1) (by simpa using l2) h (by simp [g1,g2,e])
     · exact hij h
     · exact pw i j (by simpa using l2) (by simpa using l1) h (by simp [g1,g2,e])
theorem c61 {Q:Unit→Shared→Prop}(hu:A.units+16<cLine) (I:Inv X pins σ H s) (e2:DtE X.w.params H a m) (e3:∀ x∈m,x.1.At H x.2.1 []∧x.1.h≤8) (e4:(m.map (·.1)).Nodup) (hz:m.length<sizeLine)
 (hk:TK H t y) (ry:RelV y u) (rv:RelV v r) (h:∀ s',Inv X pins σ (upd H a (DtO X.w.params a (putM m t y v))) s'→Q () s') :
 wpAny (model X.prog X.w) A (dictSet a u r) Q E s:=by
 obtain ⟨o,es,ep,q1,q2,q3,q4,q5,z1,z2⟩:=ah1 I e2 e3 e4
 have hin:=hk.1.isIn I ry
 have hl:(putM m t y v).length≤sizeLine:=by have:=bk9 m t y v; omega
 unfold dictSet
 try (with_reducible refine wpAny_holding ?_)
 refine wB (hin.pyHash (by have:=hk.2; omega) fun n=>?_)
 unfold dictSetHashed
 try (with_reducible refine wpAny_holding ?_)
 refine wB (aj7 (s:={ s with toks:=n }) q1 q3 q5 hin hk.2 hu (fun hn=>?_) fun j hj=>?_)
 · refine wB (wpAny_rule (wpAny_updateDictKeys (s:={ s with toks:=n }) q1 q3 (h _ (af1 (I.tok n) e2.mut (Heap.SameBut.update ..) ?_ (am5 ⟨hl,z2,_,_,ep+1,Heap.get?_update_self _ q1 (Obj.isFreed_of_dict (Obj.data_mapDictKeys q3 _)),q2.mapDictKeys _,Obj.data_mapDictKeys q3 _,?_⟩))) (by rw [q4.len]; omega)))
   · exact ⟨_,Heap.get?_update_self _ q1 (Obj.isFreed_of_dict (Obj.data_mapDictKeys q3 _))⟩
   · unfold putM
     rw [if_neg (ad3 hn).2]
     exact ap5 q4 rfl ry rv
 · rw [gM] at hj
   obtain ⟨x,hx,rfl⟩:=gO hj
   refine wB (wpAny_rule (wB (wpAny_updateDict (s:={ s with toks:=n }) q1 q3 (wpAny_point (h _ (af1 (I.tok n) e2.mut (Heap.SameBut.update ..) ?_ (am5 ⟨hl,z2,_,_,ep,Heap.get?_update_self _ q1 (Obj.isFreed_of_dict (Obj.data_mapDict q3 _)),q2.mapDict _,Obj.data_mapDict q3 _,?_⟩)))))))
   · exact ⟨_,Heap.get?_update_self _ q1 (Obj.isFreed_of_dict (Obj.data_mapDict q3 _))⟩
   · unfold putM
     rw [if_pos (List.mem_map_of_mem (gI hx))]
     exact bs9 q4 e4 hx rv
end
def RawD (h:Heap) (d:Addr) (es:Array DictEntry) (ep:Nat):Prop:=∃ o,h.get? d=some o∧o.ExactDict∧o.data=.dict es ep
theorem RawD.ty {s:Shared}{d:Addr}{es:Array DictEntry}{ep:Nat}(x:RawD s.heap d es ep):s.TypeIs (.ref d) "dict":=let ⟨o,e,c,_⟩:=x; ⟨o,e,c.1⟩
theorem RawD.keep {h h':Heap}{d:Addr}{es:Array DictEntry}{ep:Nat}(x:RawD h d es ep) (k:∀ o,h.get? d=some o→h'.get? d=some o):RawD h' d es ep:=let ⟨o,e,r⟩:=x; ⟨o,k o e,r⟩
theorem RawD.lt {h:Heap}{d:Addr}{es:Array DictEntry}{ep:Nat}(x:RawD h d es ep):d<h.objs.size:=let ⟨_,e,_⟩:=x; Heap.lt_size e
section
variable {prog:Program}{w:World}{A:Around}{E:Value→Shared→Prop}{s:Shared}{d it:Addr}{es:Array DictEntry}{ep i:Nat}
theorem bl0 {Q:Value→Shared→Prop}(lo:(d == sysModules)=false) (x:RawD s.heap d es ep)
 (q:Q (.ref s.heap.objs.size) { s with heap:=s.heap.push { cls:=.type "dict_keyiterator",data:=.fields #[.ref d,.int 0 0,.int es.size 0,.int ep 0] } }):wpAny (model prog w) A (pyIter (.ref d)) Q E s:=by
 have T:=x.ty
 obtain ⟨o,e1,e2,e3⟩:=x
 refine wpAny_pyIter_slot T F.slot_dict_iter (wpAny_call_entry F.slot_dict_iter T F.entry_dict_iter ?_ (F.args_dict_iter_1 _))
 unfold Builtin.«dict.__iter__»
 refine wB ?_
 unfold Builtin.Dict.dictSlotNone
 refine wB (wpAny_notOrdered_dict T ?_)
 refine (show wpAny _ _ (pure (Value.ref d)) _ _ s from wpAny_pure ?_)
 show wpAny _ A.in1 (Builtin.Dict.showsAll d >>= _) _ _ s
 unfold Builtin.Dict.showsAll
 rw [if_neg (by rw [lo]; simp)]
 refine wB ((wpAny_pure) (wB (wpAny_dictEntries e1 e3 (wB (wpAny_dictEpoch e1 e3 (wB (wpAny_newObj_type (wpAny_pure ⟨_,rfl,"dict_keyiterator",_,⟨_,Heap.get?_push_size _ rfl,rfl⟩,F.slot_dict_keyiterator_next.lookup,?_⟩))))))))
 simpa [rawInt] using q
theorem bl1 {Q:Option Value→Shared→Prop}{e:DictEntry}(hit:s.heap.IsKeyIter it d i es.size ep) (x:RawD s.heap d es ep) (he:es[i]?=some e)
 (q:∀ h',h'.IsKeyIter it d (i+1) es.size ep→Heap.SameBut it s.heap h'→Q (some e.key) { s with heap:=h' }):wpAny (model prog w) A (pyNext (.ref it)) Q E s:=by
 have T:=hit.typeIs
 obtain ⟨o,ho,hc,hd⟩:=id hit
 obtain ⟨od,g1,g2,g3⟩:=x
 have hlt:i<es.size:=(Array.getElem?_eq_some_iff.mp he).1
 unfold pyNext
 refine wB (wpAny_attempt (wpAny_callSpecial?_slot (name:=Str.ofString "__next__") T F.slot_dict_keyiterator_next (wpAny_call_entry F.slot_dict_keyiterator_next T F.entry_dict_keyiterator_next ?_ (F.args_dict_keyiterator_next_1 _))))
 refine wB ((wpAny_pure) (wB (wB ?_)))
 first | refine wB (wpAny_typeNameOfWhole_keyiter T (wpAny_pure ?_)) | refine wB (wpAny_typeNameOf_keyiter T (wpAny_pure ?_))
 refine wB (wpAny_fieldsOf ho (hd) ?_)
 simp only [show Builtin.Dict_items.ownsTuple "dict_keyiterator"=false by decide,Bool.false_eq_true,if_false]
 show wpAny _ A.in1 (if (Value.ref d == Value.none)=true then _ else _) _ _ s
 rw [if_neg (fun z:(Value.ref d == Value.none)=true=>Bool.false_ne_true z)]
 refine wB ((wpAny_pure) (wB (wpAny_dictEntries g1 g3 ?_)))
 rw [if_neg (by simp)]
 refine wB ((wpAny_pure) (wB (wpAny_dictEpoch g1 g3 ?_)))
 rw [if_neg (by simp)]
 refine wpAny_pure ?_
 simp only [show ¬ ((i:Int)<0) by omega,if_false,Int.toNat_natCast,he]
 refine wB ?_
 first | refine wB (wpAny_typeNameOfWhole_keyiter T (wpAny_pure ?_)) | refine wB (wpAny_typeNameOf_keyiter T (wpAny_pure ?_))
 refine wB (wpAny_isOneOf_keyiter T ?_)
 show wpAny _ A.in1 (setField (.ref it) 1 (rawInt ((i:Int)+1)) >>= _) _ _ s
 refine wB (wpAny_setField ho (hd) (by simp) ?_)
 have hit2:(s.heap.update it (Obj.mapFields (·.setIfInBounds 1 (rawInt ((i:Int)+1))))).IsKeyIter it d (i+1) es.size ep :=
  ⟨_,Heap.get?_update_self _ ho (Obj.isFreed_of_fields (Obj.data_mapFields hd _)),(Obj.cls_mapFields ..).trans hc,by rw [Obj.data_mapFields hd]; simp [rawInt]⟩
 refine wB (wpAny_holding (wB (wpAny_isOneOf_keyiter (s:={ s with heap:=s.heap.update it (Obj.mapFields (·.setIfInBounds 1 (rawInt ((i:Int)+1)))) }) hit2.typeIs ?_)))
 show wpAny _ A.in1 (pure e.key) _ _ _
 exact wpAny_pure (wpAny_pure ⟨_,rfl,wpAny_pure (q _ hit2 (Heap.SameBut.update ..))⟩)
theorem bt0 {Q:Option Value→Shared→Prop}(hh:A.handled=none) (hit:s.heap.IsKeyIter it d i es.size ep) (x:RawD s.heap d es ep) (he:es.size≤i)
 (q:∀ h',Heap.ExtBut it s.heap h'→Q none { s with heap:=h' }):wpAny (model prog w) A (pyNext (.ref it)) Q E s:=by
 have T:=hit.typeIs
 obtain ⟨o,ho,hc,hd⟩:=id hit
 obtain ⟨od,g1,g2,g3⟩:=x
 unfold pyNext
 refine wB (wpAny_attempt (wpAny_callSpecial?_slot (name:=Str.ofString "__next__") T F.slot_dict_keyiterator_next (wpAny_call_entry F.slot_dict_keyiterator_next T F.entry_dict_keyiterator_next ?_ (F.args_dict_keyiterator_next_1 _))))
 refine wB ((wpAny_pure) (wB (wB ?_)))
 first | refine wB (wpAny_typeNameOfWhole_keyiter T (wpAny_pure ?_)) | refine wB (wpAny_typeNameOf_keyiter T (wpAny_pure ?_))
 refine wB (wpAny_fieldsOf ho (hd) ?_)
 simp only [show Builtin.Dict_items.ownsTuple "dict_keyiterator"=false by decide,Bool.false_eq_true,if_false]
 show wpAny _ A.in1 (if (Value.ref d == Value.none)=true then _ else _) _ _ s
 rw [if_neg (fun z:(Value.ref d == Value.none)=true=>Bool.false_ne_true z)]
 refine wB ((wpAny_pure) (wB (wpAny_dictEntries g1 g3 ?_)))
 rw [if_neg (by simp)]
 refine wB ((wpAny_pure) (wB (wpAny_dictEpoch g1 g3 ?_)))
 rw [if_neg (by simp)]
 refine wpAny_pure ?_
 simp only [show ¬ ((i:Int)<0) by omega,if_false,Int.toNat_natCast,Array.getElem?_eq_none he]
 refine wB ?_
 first | refine wB (wpAny_typeNameOfWhole_keyiter T (wpAny_pure ?_)) | refine wB (wpAny_typeNameOf_keyiter T (wpAny_pure ?_))
 show wpAny _ A.in1 (setField (.ref it) 0 .none >>= _) _ _ s
 refine wB (wpAny_setField ho (hd) (by simp) ?_)
 show wpAny _ A.in1 (newExc (.type "StopIteration") [] >>= _) _ _ _
 refine wB ?_
 simp only [newExc,newTuple]
 refine wB (wpAny_newObj_type ?_ (by size_fits))
 refine wB (m:=firstArgMember _ _) (wpAny_of_eq (a:=Value.none) (by first | rfl | (simp only [firstArgMember]; rfl)) (wpAny_newObj_type ?_ (by size_fits)))
 simp only [raiseNew]
 refine wB (wpAny_handled ?_)
 rw [show A.in1.handled=none from hh]
 refine wB ((wpAny_pure) ((wpAny_throw) ?_))
 refine wB (wpAny_isInstance (b:=true) (T:="StopIteration") ⟨_,Heap.get?_push_size _ rfl,rfl⟩ isSubtype_stop ?_)
 exact wpAny_pure (q _ (((Heap.SameBut.update ..).extBut.push _).push _))
end
theorem ay0:∀ {xs:List V}{us:List Value},xs.length=us.length→(∀ (j:Nat) x u,xs[j]?=some x→us[j]?=some u→RelV x u)→Vals xs us
 | [],[],_,_=>.nil
 | x::xs,u::us,hl,h=>.cons (h 0 x u rfl rfl) (ay0 (by simpa using hl) fun j y z hy hz=>h (j+1) y z (by simpa using hy) (by simpa using hz))
 | [],_::_,hl,_=>by simp at hl
 | _::_,[],hl,_=>by simp at hl
section
variable {X:Cx}{pins:List (Addr×Obj)}{σ:St} {H:Hp}{s:Shared}{a:Addr}{t:Tr}{y v z:V}{u r:Value}{A:Around}{E:Value→Shared→Prop}{kvs:List (Tr×V)}{m:List (Tr×V×V)}
theorem aj8 (I:Inv X pins σ H s) (g:DtAt X.w.params H a kvs):∃ es ep,RawD s.heap a es ep∧(a == sysModules)=false∧es.size=kvs.length∧kvs.length≤sizeLine:=by
 obtain ⟨m,rfl,e2,e3,e4⟩:=g
 obtain ⟨o,es,ep,q1,q2,q3,q4,q5,z1,z2⟩:=ah1 I e2 e3 e4
 exact ⟨es,ep,⟨o,q1,q2,q3⟩,z2,by rw [q4.len,gL],by rw [gL]; exact z1⟩
theorem b69 {Q:Value→Shared→Prop}(hu:A.units+20<cLine) (I:Inv X pins σ H s) (g:DtAt X.w.params H a kvs) (hk:TK H t y) (ry:RelV y u) (hv:valV kvs t=some v) (h:∀ w' s',Inv X pins σ H s'→RelV v w'→Q w' s') :
 wpAny (model X.prog X.w) A (getItem (.ref a) u) Q E s:=by
 obtain ⟨_,_,x,_,_,_⟩:=aj8 I g
 have T:=x.ty
 unfold getItem
 try (with_reducible refine wpAny_holding ?_)
 refine wB (wpAny_sequenceKey T (by decide) (wB (wpAny_callSpecial?_slot (name:=Str.ofString "__getitem__") T slot_dict_getitem (wpAny_call_entry slot_dict_getitem T entry_dict_getitem ?_ (args_dict_getitem _ _)))))
 show wpAny _ A.in1 (dictGet a u >>= _) _ _ s
 refine wB (bp1 (by rw [a53]; omega) I g hk ry fun o s' I' ro=>?_)
 rw [hv] at ro
 obtain ⟨w',rfl,rw'⟩:=ro.some_of
 exact wpAny_pure ⟨w',rfl,wpAny_pure (h w' s' I' rw')⟩
theorem aj9 {Q:Bool→Shared→Prop}(hu:A.units+20<cLine) (I:Inv X pins σ H s) (g:DtAt X.w.params H a kvs) (hk:TK H t y) (ry:RelV y u) (h:∀ s',Inv X pins σ H s'→Q (valV kvs t).isSome s') :
 wpAny (model X.prog X.w) A (contains (.ref a) u) Q E s:=by
 obtain ⟨_,_,x,lo,_,_⟩:=aj8 I g
 have T:=x.ty
 unfold contains
 try (with_reducible refine wpAny_holding ?_)
 refine wB (wpAny_specialOf T slot_dict_contains.lookup ?_)
 show wpAny _ A (if (some (Value.builtin "dict.__contains__") == some Value.none)=true then _ else _) _ E s
 rw [if_neg (by rw [beq_builtin_none]; simp)]
 refine wB (wpAny_callSpecialUnlessNone?_slot (name:=Str.ofString "__contains__") T slot_dict_contains (wpAny_call_entry slot_dict_contains T entry_dict_contains ?_ (args_dict_contains _ _)))
 show wpAny _ A.in1 (dictGet a u >>= _) _ _ s
 refine wB (bp1 (by rw [a53]; omega) I g hk ry fun o s' I' ro=>?_)
 have h:=h s' I'
 rw [ro.isSome_eq] at h
 cases o with
 | some w'=>exact (show wpAny _ _ (ret (.bool true)) _ _ _ from wpAny_pure ⟨_,rfl,wpAny_truthy_bool h⟩)
 | none=>exact (show wpAny _ _ (Builtin.Dict.pendingKey? a u >>= _) _ _ _ from wB (wpAny_pendingKey_other lo (wpAny_pure ⟨_,rfl,wpAny_truthy_bool h⟩)))
theorem cc3 {Q:Value→Shared→Prop}(hu:A.units+20<cLine) (I:Inv X pins σ H s) (g:DtAt X.w.params H a kvs) (hk:TK H t y) (ry:RelV y u) (h:∀ s',Inv X pins σ H s'→Q (.bool (valV kvs t).isSome) s') :
 wpAny (model X.prog X.w) A (compareOp .In u (.ref a)) Q E s :=
 (show wpAny _ _ (do return .bool (← contains (.ref a) u)) Q E s from wB (aj9 hu I g hk ry fun s' I'=>wpAny_pure (h s' I')))
theorem bl2 {Q:Value→Shared→Prop}(hu:A.units+20<cLine) (I:Inv X pins σ H s) (g:DtAt X.w.params H a kvs) (hk:TK H t y) (ry:RelV y u) (h:∀ s',Inv X pins σ H s'→Q (.bool (!(valV kvs t).isSome)) s') :
 wpAny (model X.prog X.w) A (compareOp .NotIn u (.ref a)) Q E s :=
 (show wpAny _ _ (do return .bool (!(← contains (.ref a) u))) Q E s from wB (aj9 hu I g hk ry fun s' I'=>wpAny_pure (h s' I')))
theorem b70 {Q:Unit→Shared→Prop}(hu:A.units+20<cLine) (I:Inv X pins σ H s) (e2:DtE X.w.params H a m) (e3:∀ x∈m,x.1.At H x.2.1 []∧x.1.h≤8) (e4:(m.map (·.1)).Nodup) (hz:m.length<sizeLine)
 (hk:TK H t y) (ry:RelV y u) (rv:RelV v r) (h:∀ s',Inv X pins σ (upd H a (DtO X.w.params a (putM m t y v))) s'→Q () s'):wpAny (model X.prog X.w) A (setItem (.ref a) u r) Q E s:=by
 obtain ⟨_,_,x,lo,_,_⟩:=aj8 I ⟨m,rfl,e2,e3,e4⟩
 have T:=x.ty
 unfold setItem
 try (with_reducible refine wpAny_holding ?_)
 refine wB (wpAny_sequenceKey T (by decide) (wB (wpAny_callSpecial?_slot (name:=Str.ofString "__setitem__") T slot_dict_setitem (wpAny_call_entry slot_dict_setitem T entry_dict_setitem ?_ (args_dict_setitem _ _ _)))))
 show wpAny _ A.in1 (Builtin.Dict.notOrdered "__setitem__" ⟨[.ref a,u,r],[]⟩ >>= _) _ _ s
 refine wB (wpAny_notOrdered_dict T ?_)
 show wpAny _ A.in1 (dictSet a u r >>= _) _ _ s
 exact wB (c61 (by rw [a53]; omega) I e2 e3 e4 hz hk ry rv fun s' I'=>wpAny_pure ⟨.none,rfl,wpAny_pure (h s' I')⟩)
theorem bd1 {Q:Value→Shared→Prop}(hu:A.units+20<cLine) (I:Inv X pins σ H s) (e2:DtE X.w.params H a m) (e3:∀ x∈m,x.1.At H x.2.1 []∧x.1.h≤8) (e4:(m.map (·.1)).Nodup) (hz:m.length<sizeLine)
 (hk:TK H t y) (ry:RelV y u) (rz:RelV z r) (h1:∀ v w' s',valV (m.map fun x=>(x.1,x.2.2)) t=some v→Inv X pins σ H s'→RelV v w'→Q w' s')
 (h2:∀ s',valV (m.map fun x=>(x.1,x.2.2)) t=none→Inv X pins σ (upd H a (DtO X.w.params a (m++[(t,y,z)]))) s'→Q r s') :
 wpAny (model X.prog X.w) A (call (.builtin "dict.setdefault") [.ref a,u,r]) Q E s:=by
 obtain ⟨_,_,x,lo,_,_⟩:=aj8 I ⟨m,rfl,e2,e3,e4⟩
 obtain ⟨o,es,ep,q1,q2,q3,q4,q5,z1,z2⟩:=ah1 I e2 e3 e4
 have hin:=hk.1.isIn I ry
 refine wpAny_call_entry PySem.F.slot_dict_setdefault x.ty PySem.F.entry_dict_setdefault ?_ (PySem.F.args_dict_setdefault_3 _ _ _)
 unfold Builtin.«dict.setdefault»
 refine wB ?_
 unfold Builtin.Dict.keyAndDefault
 refine wB (wpAny_notOrdered_dict x.ty ?_)
 refine (show wpAny _ _ (pure (a,u,some r)) _ _ s from wpAny_pure ?_)
 show wpAny _ A.in1 (if (a == sysModules)=true then _ else (dictSetDefault a u r >>= _)) _ _ s
 rw [if_neg (by rw [lo]; simp)]
 refine wB ?_
 unfold dictSetDefault
 try (with_reducible refine wpAny_holding ?_)
 refine wB (hin.pyHash (by have:=hk.2; rw [a53]; omega) fun n=>?_)
 refine wB (aj7 (s:={ s with toks:=n }) q1 q3 q5 hin hk.2 (by rw [a53]; omega) (fun hn=>?_) fun j hj=>?_)
 · refine wB (wpAny_rule (wB (wpAny_updateDictKeys (s:={ s with toks:=n }) q1 q3 (wpAny_pure (wpAny_pure ⟨r,rfl,h2 _ (ad3 hn).1 (af1 (I.tok n) e2.mut (Heap.SameBut.update ..) ?_ (am5 ⟨by simp; omega,z2,_,_,ep+1,Heap.get?_update_self _ q1 (Obj.isFreed_of_dict (Obj.data_mapDictKeys q3 _)),q2.mapDictKeys _,Obj.data_mapDictKeys q3 _,?_⟩))⟩)) (by rw [q4.len]; omega))))
   · exact ⟨_,Heap.get?_update_self _ q1 (Obj.isFreed_of_dict (Obj.data_mapDictKeys q3 _))⟩
   · exact ap5 q4 rfl ry rz
 · rw [gM] at hj
   obtain ⟨p,hp,rfl⟩:=gO hj
   obtain ⟨en,f1,f2,f3,f4⟩:=q4.at_ j p hp
   refine wB (wpAny_dictEntries (s:={ s with toks:=n }) q1 q3 ?_)
   rw [f1]
   exact wB (wpAny_rule (wpAny_pure (wpAny_pure ⟨_,rfl,h1 _ _ _ (ag3 e4 hp) (I.tok _) f4⟩)))
end
theorem ag4 {H:Hp}{a:Addr}{φ:Heap→Prop} {o:HO}(h:H a=some (.ext φ)):Tups H (upd H a o):=fun b ys e=>by rw [a04 (ab1 e h (fun z=>nomatch z))]; exact e
theorem ah2 {H H':Hp}{t:Tr}{v:V}(h:t.At H v []) (k:Tups H H'):t.At H' v []:=h.mono ⟨k,fun _ m=>absurd m (by simp)⟩
theorem DtAt.ext {P:Params}{H:Hp}{a:Addr}{kvs:List (Tr×V)}(g:DtAt P H a kvs):∃ φ,H a=some (.ext φ):=let ⟨_,_,⟨φ,e,_⟩,_⟩:=g; ⟨φ,e⟩
theorem DtAt.mono {P:Params}{H H':Hp}{a:Addr}{kvs:List (Tr×V)}(g:DtAt P H a kvs) (k:Tups H H') (e:H' a=H a):DtAt P H' a kvs:=by
 obtain ⟨m,e1,⟨φ,e2,hφ⟩,e3,e4⟩:=g
 exact ⟨m,e1,⟨φ,e.trans e2,hφ⟩,fun x hx=>⟨ah2 (e3 x hx).1 k,(e3 x hx).2⟩,e4⟩
theorem bd2 {P:Params}{H:Hp}{a:Addr}{m:List (Tr×V×V)}{t:Tr}{y v:V}(e2:DtE P H a m) (e3:∀ x∈m,x.1.At H x.2.1 []∧x.1.h≤8) (e4:(m.map (·.1)).Nodup) (hk:TK H t y) :
 DtAt P (upd H a (DtO P a (putM m t y v))) a (putK (m.map fun x=>(x.1,x.2.2)) t v):=by
 obtain ⟨φ,e2,hφ⟩:=e2
 refine ⟨_,bk7 m t y v,.of a28,?_,bs8 t y v e4⟩
 exact bk8 (p:=fun t y=>t.At (upd H a (DtO P a (putM m _ _ _))) y []∧t.h≤8) (fun x hx=>⟨ah2 (e3 x hx).1 (ag4 e2),(e3 x hx).2⟩) ⟨ah2 hk.1 (ag4 e2),hk.2⟩
theorem bl3 {m:List (Tr×V×V)}{t:Tr}{y v:V}(h:valV (m.map fun x=>(x.1,x.2.2)) t=none):putM m t y v=m++[(t,y,v)]:=by
 unfold putM
 rw [if_neg]
 intro z
 obtain ⟨x,hx,rfl⟩:=List.mem_map.mp z
 have:=b03 h
 exact this (by
  rw [List.map_map]
  exact List.mem_map_of_mem (f:=fun x=>x.1) hx)
def tTNew (P:Params):TE:=fun _ H Q=>∀ p o,H p=none→DtAt P (upd H p o) p []→Q (.ref p) (upd H p o)
def tTGet (P:Params) (td ty:TE):TE:=fun σ H Q=>td σ H fun x H1=>ty σ H1 fun y H2=>∃ a kvs t v,x=.ref a∧DtAt P H2 a kvs∧TK H2 t y∧valV kvs t=some v∧Q v H2
def tTIn (P:Params) (ty td:TE):TE:=fun σ H Q=>ty σ H fun y H1=>td σ H1 fun x H2=>∃ a kvs t,x=.ref a∧DtAt P H2 a kvs∧TK H2 t y∧Q (.bl (valV kvs t).isSome) H2
def tTNotIn (P:Params) (ty td:TE):TE:=fun σ H Q=>ty σ H fun y H1=>td σ H1 fun x H2=>∃ a kvs t,x=.ref a∧DtAt P H2 a kvs∧TK H2 t y∧Q (.bl (!(valV kvs t).isSome)) H2
def sTPut (P:Params) (td ty tv:TE):TS:=fun D σ H=>tv σ H fun v H1=>td σ H1 fun x H2=>ty σ H2 fun y H3=>∃ a kvs t,x=.ref a∧DtAt P H3 a kvs∧TK H3 t y∧kvs.length<sizeLine∧∀ o,DtAt P (upd H3 a o) a (putK kvs t v)→D.nx σ (upd H3 a o)
def tTSetD (P:Params) (td ty tx:TE):TE:=fun σ H Q=>td σ H fun x H1=>∃ a kvs,x=.ref a∧DtAt P H1 a kvs∧ty σ H1 fun y H2=>tx σ H2 fun z H3=>∃ kvs' t,DtAt P H3 a kvs'∧TK H3 t y∧kvs'.length<sizeLine ∧
 (∀ v,valV kvs' t=some v→Q v H3)∧(valV kvs' t=none→∀ o,DtAt P (upd H3 a o) a (kvs'++[(t,z)])→Q z (upd H3 a o))
section
variable {X:Cx}{o i e f value:Expr}{pos pos' apos cpos:Pos}{td ty tv tx:TE}{P:Params}
theorem bt1 (h:Heap) (P:Params) (hb:sysModules<h.objs.size):DtP P h.objs.size [] (h.push { cls:=.type "dict",data:=.dict #[] }) :=
 ⟨Nat.zero_le _,beq_eq_false_iff_ne.mpr (Ne.symm (Nat.ne_of_lt hb)),_,#[],0,Heap.get?_push_size _ rfl,⟨rfl,rfl,rfl⟩,rfl,rfl,fun j x hx=>by simp at hx⟩
theorem ap6 (P:Params):PE X (.Dict [] [] pos) (tTNew P):=fun pins s σ H Q I h =>
 wpAny_Dict_empty ⟨.ref s.heap.objs.size,_,I.laid (a:=s.heap.objs.size) (o:=DtO P s.heap.objs.size []) (t':=s.toks) (fun _ _ q=>gP _ q) (Nat.le_refl _) (am5 (bt1 s.heap P I.big)),rfl,
  h _ _ (I.hok.fresh (Nat.le_refl _)) ⟨[],rfl,.of a28,fun x hx=>absurd hx (by simp),List.nodup_nil⟩⟩
theorem bt2 (hP:X.w.params=P) (hu:X.A.units+64<cLine) (ho:PE X o td) (hi:PE X i ty) (hs:NoSl i):PE X (.Subscript o i pos) (tTGet P td ty):=by
 subst hP
 intro pins s σ H Q I h
 refine aw8 PySem.F.slot_dict_getitem.lookup hs (thn (ho pins s σ H _ I h) fun u s1 ⟨x,H1,I1,rx,q1⟩=>thn (hi pins s1 σ H1 _ I1 q1) fun iv s2 ⟨y,H2,I2,ry,a,kvs,t,v,ex,g,hk,hv,q2⟩=>?_)
 subst ex
 obtain rfl:u=Value.ref a:=rx
 obtain ⟨_,_,x,_⟩:=aj8 I2 g
 exact ⟨x.ty,b69 (by omega) I2 g hk ry hv fun w' s3 I3 rw'=>⟨v,H2,I3,rw',q2⟩⟩
theorem c62 (hP:X.w.params=P) (hu:X.A.units+64<cLine) (hi:PE X i ty) (ho:PE X o td):PC X .In i o (tTIn P ty td):=by
 subst hP
 intro pins s σ H Q I h
 refine thn (hi pins s σ H _ I h) fun iv s1 ⟨y,H1,I1,ry,q1⟩=>thn (ho pins s1 σ H1 _ I1 q1) fun u s2 ⟨x,H2,I2,rx,a,kvs,t,ex,g,hk,q2⟩=>?_
 subst ex
 obtain rfl:u=Value.ref a:=rx
 exact cc3 (by omega) I2 g hk ry fun s3 I3=>⟨.bl _,H2,I3,rfl,q2⟩
theorem ak0 (hP:X.w.params=P) (hu:X.A.units+64<cLine) (hi:PE X i ty) (ho:PE X o td):PC X .NotIn i o (tTNotIn P ty td):=by
 subst hP
 intro pins s σ H Q I h
 refine thn (hi pins s σ H _ I h) fun iv s1 ⟨y,H1,I1,ry,q1⟩=>thn (ho pins s1 σ H1 _ I1 q1) fun u s2 ⟨x,H2,I2,rx,a,kvs,t,ex,g,hk,q2⟩=>?_
 subst ex
 obtain rfl:u=Value.ref a:=rx
 exact bl2 (by omega) I2 g hk ry fun s3 I3=>⟨.bl _,H2,I3,rfl,q2⟩
theorem bd3 (hP:X.w.params=P) (hu:X.A.units+64<cLine) (ho:PE X o td) (hi:PE X i ty) (hv:PE X value tv) (hs:swapsWith value (some (.Subscript o i pos')) pos.line X.env=pure false) :
 PS X (.Assign [.Subscript o i pos'] value pos) (sTPut P td ty tv):=by
 subst hP
 intro pins s σ H D I h
 refine wpAny_Assign_Subscript (thn (hv pins s σ H _ I h) fun r s1 ⟨v,H1,I1,rv,q1⟩=>thn (ho pins s1 σ H1 _ I1 q1) fun u s2 ⟨x,H2,I2,rx,q2⟩=>thn (hi pins s2 σ H2 _ I2 q2) fun iv s3 ⟨y,H3,I3,ry,a,kvs,t,ex,g,hk,hz,q3⟩=>?_) hs
 subst ex
 obtain rfl:u=Value.ref a:=rx
 obtain ⟨m,rfl,e2,e3,e4⟩:=g
 rw [gL] at hz
 exact b70 (by omega) I3 e2 e3 e4 hz hk ry rv fun s4 I4=>⟨σ,_,I4,q3 _ (bd2 e2 e3 e4 hk)⟩
theorem ap7 (hP:X.w.params=P) (hu:X.A.units+64<cLine) (ho:PE X o td) (he:PE X e ty) (hf:PE X f tx) (m:M2 X o "setdefault" apos e f cpos):PE X (.Call (.Attribute o "setdefault" apos) [e,f] [] cpos) (tTSetD P td ty tx):=by
 subst hP
 intro pins s σ H Q I h
 refine wpAny_Call_method m.base m.few m.line PySem.F.plainAttrs_dict PySem.F.slot_dict_setdefault PySem.F.type_dict_setdefault (thn (ho pins s σ H _ I h) fun u s1 ⟨x,H1,I1,rx,a,kvs,ex,g1,q1⟩=>?_)
 subst ex
 obtain rfl:u=Value.ref a:=rx
 obtain ⟨es,ep,x,_⟩:=aj8 I1 g1
 refine ⟨x.ty,(fun b q=>by cases q; obtain ⟨ob,h1,h2,_⟩:=x; exact ⟨ob,h1,h2.2.1⟩),?_⟩
 rw [m.trees]
 refine Calls.callWith_builtin rfl (Calls.evalArgs_plain (Calls.spliced_cons (thn (he pins s1 σ H1 _ I1 q1) fun iv s2 ⟨y,H2,I2,ry,q2⟩=>Calls.spliced_cons (thn (hf pins s2 σ H2 _ I2 q2) fun fv s3 ⟨z,H3,I3,rz,kvs',t,g,hk,hz,n1,n2⟩=>Calls.spliced_nil ?_))))
 obtain ⟨mm,rfl,e2,e3,e4⟩:=g
 rw [gL] at hz
 refine bd1 (by omega) I3 e2 e3 e4 hz hk ry rz (fun v w' s' hv I' rv=>⟨v,H3,I',rv,n1 v hv⟩) fun s' hv I'=>⟨z,_,I',rz,n2 hv _ ?_⟩
 have:=bd2 (v:=z) e2 e3 e4 hk
 rw [bl3 hv,bj2 z hv] at this
 exact this
end
def rNotInF (K:W.Frag):R2:=fun x y H Q=>∃ (t:Tr) (ts:List Tr) (a:Addr) (vs:List V),t.At H x []∧y=.ref a∧SqL K H a vs∧Tr.Ats H ts vs []∧t.h≤20∧Tr.hs ts≤20∧Q (.bl (!decide (t∈ts))) H
def rSum (K:W.Frag):List V→Hp→VK→Prop:=fun xs H Q=>∃ (a:Addr) (ns:List Int),xs=[.ref a]∧SqL K H a (ns.map V.int)∧Q (.int ns.sum) H
section
variable {X:Cx}
theorem c63 {ts:List Tr}{t:Tr}(h:t∈ts):t.h≤Tr.hs ts:=by
 induction ts with
 | nil=>cases h
 | cons x xs ih =>
   simp only [Tr.hs]
   rcases List.mem_cons.mp h with rfl | h
   · omega
   · have:=ih h; omega
theorem bd4 {h:Heap}{ts:List Tr}{us:List Value}(x:Tr.Ins h ts us) {z:Value}(hz:z∈us):∃ t∈ts,Tr.In h t z:=by
 obtain ⟨j,hj,rfl⟩:=List.mem_iff_getElem.mp hz
 have hj':j<ts.length:=by rw [← x.len]; exact hj
 exact ⟨ts[j],List.getElem_mem hj',x.get j hj hj'⟩
theorem am6 (K:W.Frag) (hu:X.A.units+64<cLine) (hK:X.K=K:=by rfl):OpR X (compareOp .NotIn) (rNotInF K):=by
 classical
 subst hK
 intro pins s σ H x y v u Q I rx ry h
 obtain ⟨t,ts,a,vs,h1,rfl,h2,h3,l1,l2,q⟩:=h
 cases ry
 obtain ⟨its,v1,p1,_⟩:=I.list h2
 have hin:=h1.isIn I rx
 have his:=h3.isIns I v1
 refine SeqAt.notIn_listAt (fun z=>decide (∃ r,Tr.In s.heap r z∧r=t)) p1.isList (fun z hz=>?_) ?_
 · obtain ⟨r,hr,hz'⟩:=bd4 his (by simpa using hz)
   have:=hz'.eqAt hin (A:=X.A.in1) (by have:=c63 hr; rw [a53]; omega)
   rw [show decide (∃ q,Tr.In s.heap q z∧q=t)=decide (r=t) from Bool.eq_iff_iff.mpr (by
    simp only [decide_eq_true_iff]
    exact ⟨fun ⟨q,a,b⟩=>(hz'.inj a).trans b,fun e=>⟨r,hz',e⟩⟩)]
   exact this
 · refine ⟨.bl (!decide (t∈ts)),H,I,?_,q⟩
   rw [show its.toArray.any (fun z=>decide (∃ r,Tr.In s.heap r z∧r=t))=decide (t∈ts) from ?_]
   · rfl
   rw [← Array.any_toList,Bool.eq_iff_iff,List.any_eq_true,decide_eq_true_iff]
   constructor
   · rintro ⟨z,hz,e⟩
     obtain ⟨r,hr,rfl⟩:=of_decide_eq_true e
     obtain ⟨r',hm,hr'⟩:=bd4 his (by simpa using hz)
     exact hr'.inj hr ▸ hm
   · intro hm
     obtain ⟨j,hj,rfl⟩:=List.mem_iff_getElem.mp hm
     have hj':j<its.length:=by rw [his.len]; exact hj
     exact ⟨its[j],by simp,decide_eq_true ⟨_,his.get j hj' hj,rfl⟩⟩
theorem c64 (hc:X.calm=true):CallR X (.builtin "sum") (rSum X.K):=by
 intro pins s σ H xs us Q I r h
 obtain ⟨a,ns,rfl,hS,q⟩:=h
 cases r with
 | cons r1 r2 =>
 cases r2
 cases r1
 obtain ⟨its,v1,p1,_⟩:=I.list hS
 have hi:=al9 v1
 obtain ⟨ys,e⟩:=hi.allInts.items
 have hn:=nums_intItems (xs:=ys)
 rw [← e,show its.toArray.toList=its from rfl,hi.numsOf] at hn
 refine sum_intListG (xs:=ys) (I.ok.hd hc) (e ▸ p1.isList) fun h' tk t' hk=>⟨.int ns.sum,H,I.kept hk,⟨t',?_⟩,q⟩
 rw [preSum_eq,List.take_of_length_le (by simp),hn]
end
section
variable {P:Params}{σ:St} {H:Hp}{Q:VK}{td ty tx tv:TE}{nn bb cc:St→Hp→Prop}{rr:VK}
theorem c65 (h:∀ p o,H p=none→DtAt P (upd H p o) p []→Q (.ref p) (upd H p o)):tTNew P σ H Q:=h
theorem c66 (h:td σ H fun x H1=>ty σ H1 fun y H2=>∃ a kvs t v,x=.ref a∧DtAt P H2 a kvs∧TK H2 t y∧valV kvs t=some v∧Q v H2):tTGet P td ty σ H Q:=h
theorem cc4 (h:ty σ H fun y H1=>td σ H1 fun x H2=>∃ a kvs t,x=.ref a∧DtAt P H2 a kvs∧TK H2 t y∧Q (.bl (valV kvs t).isSome) H2):tTIn P ty td σ H Q:=h
theorem bl4 (h:ty σ H fun y H1=>td σ H1 fun x H2=>∃ a kvs t,x=.ref a∧DtAt P H2 a kvs∧TK H2 t y∧Q (.bl (!(valV kvs t).isSome)) H2):tTNotIn P ty td σ H Q:=h
theorem c67 (h:tv σ H fun v H1=>td σ H1 fun x H2=>ty σ H2 fun y H3=>∃ a kvs t,x=.ref a∧DtAt P H3 a kvs∧TK H3 t y∧kvs.length<sizeLine∧∀ o,DtAt P (upd H3 a o) a (putK kvs t v)→nn σ (upd H3 a o)):sTPut P td ty tv ⟨nn,rr,bb,cc⟩ σ H:=h
theorem bt3 (h:td σ H fun x H1=>∃ a kvs,x=.ref a∧DtAt P H1 a kvs∧ty σ H1 fun y H2=>tx σ H2 fun z H3=>∃ kvs' t,DtAt P H3 a kvs'∧TK H3 t y∧kvs'.length<sizeLine ∧
 (∀ v,valV kvs' t=some v→Q v H3)∧(valV kvs' t=none→∀ o,DtAt P (upd H3 a o) a (kvs'++[(t,z)])→Q z (upd H3 a o))):tTSetD P td ty tx σ H Q:=h
end
def rEqNil (K:W.Frag):R2:=fun x y H Q=>∃ a b xs,x=.ref a∧y=.ref b∧SqL K H a xs∧SqL K H b []∧Q (.bl xs.isEmpty) H
def rNeNil (K:W.Frag):R2:=fun x y H Q=>∃ a b xs,x=.ref a∧y=.ref b∧SqL K H a xs∧SqL K H b []∧Q (.bl (!xs.isEmpty)) H
section
variable {X:Cx}
theorem au0 (K:W.Frag) (hu:X.A.units+64<cLine) (hK:X.K=K:=by rfl):OpR X (compareOp .Eq) (rEqNil K):=by
 subst hK
 intro pins s σ H x y v u Q I rx ry h
 obtain ⟨a,b,xs,rfl,rfl,h1,h2,q⟩:=h
 cases rx
 cases ry
 obtain ⟨is1,q1,p1,_⟩:=I.list h1
 obtain ⟨is2,q2,p2,_⟩:=I.list h2
 cases q2
 cases q1 with
 | nil =>
   have:=SeqAt.RcAt.lists (A:=X.A) (s:=s) (e:=fun _=>true) p1.isList p2.isList rfl (by omega) (fun j h1 _=>absurd h1 (by simp))
   exact this X.prog X.w X.xe (EP X pins σ Q) ⟨.bl true,H,I,rfl,q⟩
 | cons r1 r2 =>
   have:=SeqAt.RcAt.lists_lengths (A:=X.A) (s:=s) p1.isList p2.isList (by simp) (by omega)
   exact this X.prog X.w X.xe (EP X pins σ Q) ⟨.bl false,H,I,rfl,q⟩
theorem au1 (K:W.Frag) (hu:X.A.units+64<cLine) (hK:X.K=K:=by rfl):OpR X (compareOp .NotEq) (rNeNil K):=by
 subst hK
 intro pins s σ H x y v u Q I rx ry h
 obtain ⟨a,b,xs,rfl,rfl,h1,h2,q⟩:=h
 cases rx
 cases ry
 obtain ⟨is1,q1,p1,_⟩:=I.list h1
 obtain ⟨is2,q2,p2,_⟩:=I.list h2
 cases q2
 cases q1 with
 | nil =>
   have:=SeqAt.RcNeAt.lists (A:=X.A) (s:=s) (e:=fun _=>true) p1.isList p2.isList rfl (by omega) (fun j h1 _=>absurd h1 (by simp))
   exact this X.prog X.w X.xe (EP X pins σ Q) ⟨.bl false,H,I,rfl,q⟩
 | cons r1 r2 =>
   have:=SeqAt.RcNeAt.lists_lengths (A:=X.A) (s:=s) p1.isList p2.isList (by simp) (by omega)
   exact this X.prog X.w X.xe (EP X pins σ Q) ⟨.bl true,H,I,rfl,q⟩
theorem bt4 (K:W.Frag) (h:X.calm=true:=by rfl) (hK:X.K=K:=by rfl):CallR X (.builtin "sum") (rSum K):=hK ▸ c64 h
end
section
variable {K:W.Frag}{H:Hp}{Q:VK}
theorem bd5 {a b:Addr}{xs:List V}(h1:SqL K H a xs) (h2:SqL K H b []) (h:Q (.bl xs.isEmpty) H):rEqNil K (.ref a) (.ref b) H Q:=⟨a,b,xs,rfl,rfl,h1,h2,h⟩
theorem bd6 {a b:Addr}{xs:List V}(h1:SqL K H a xs) (h2:SqL K H b []) (h:Q (.bl (!xs.isEmpty)) H):rNeNil K (.ref a) (.ref b) H Q:=⟨a,b,xs,rfl,rfl,h1,h2,h⟩
theorem cc5 {a:Addr}{ns:List Int}(h1:SqL K H a (ns.map V.int)) (h:Q (.int ns.sum) H):rSum K [.ref a] H Q:=⟨a,ns,rfl,h1,h⟩
theorem b30 {x:V}{a:Addr}{t:Tr}{ts:List Tr}{vs:List V}(h1:t.At H x []) (h2:SqL K H a vs) (h3:Tr.Ats H ts vs []) (l1:t.h≤20) (l2:Tr.hs ts≤20) (h:Q (.bl (!decide (t∈ts))) H):rNotInF K x (.ref a) H Q:=⟨t,ts,a,vs,h1,rfl,h2,h3,l1,l2,h⟩
end
def Off (d l:Addr) (H H':Hp):Prop:=∀ b o,b≠d→b≠l→H b=some o→H' b=some o
structure Deck (H:Hp) (d l:Addr) (n:Nat):Prop where
 ex:∃ (ms:List Int) (z:Int),H d=some (.lst [.ref l,.int (n:Nat),.int z])∧H l=some (.lst (ms.map V.int))∧ms.length≤100
theorem Deck.ne {H:Hp}{d l:Addr}{n:Nat}(k:Deck H d l n):d≠l:=by
 obtain ⟨ms,z,h1,h2,_⟩:=k.ex
 rintro rfl
 rw [h1] at h2
 injection h2 with h2
 injection h2 with h2
 cases ms with
 | nil=>simp at h2
 | cons m ms=>simp at h2
theorem Off.trans {d l:Addr}{H H1 H2:Hp}(a:Off d l H H1) (b:Off d l H1 H2):Off d l H H2:=fun c o h1 h2 e=>b c o h1 h2 (a c o h1 h2 e)
theorem Same.off {d l:Addr}{H H':Hp}(s:Same H H'):Off d l H H':=fun b o _ _ e=>s b o e
theorem Off.tups {d l:Addr}{H H':Hp}{n:Nat}(f:Off d l H H') (k:Deck H d l n):Tups H H':=fun b ys e=>by
 obtain ⟨ms,z,h1,h2,_⟩:=k.ex
 exact f b _ (ab1 e h1 (fun z=>nomatch z)) (ab1 e h2 (fun z=>nomatch z)) e
theorem Deck.same {H H':Hp}{d l:Addr}{n:Nat}(k:Deck H d l n) (s:Same H H'):Deck H' d l n:=by
 obtain ⟨ms,z,h1,h2,h3⟩:=k.ex
 exact ⟨ms,z,s _ _ h1,s _ _ h2,h3⟩
theorem Deck.new {H:Hp}{d l p:Addr}{n:Nat}(k:Deck H d l n) (h:H p=none):p≠d∧p≠l:=by
 obtain ⟨ms,z,h1,h2,_⟩:=k.ex
 exact ⟨(a08 h1 h).symm,(a08 h2 h).symm⟩
theorem Off.free {d l p:Addr}{H H':Hp}{n:Nat}(f:Off d l H H') (k:Deck H' d l n) (h:H' p=none):H p=none:=by
 obtain ⟨x1,x2⟩:=k.new h
 cases e:H p with
 | none=>rfl
 | some o=>rw [f p o x1 x2 e] at h; cases h
section
variable {X:Cx}{o e value:Expr}{f:Str}{pos pos':Pos}{ta tv:TE}
theorem a72 (K:W.Frag) (he:PE X e ta) (hb:attributeBase e f X.env (eval e X.env)=eval e X.env) (hK:X.K=K:=by rfl):PE X (.Attribute e f pos) (tFld K ta f):=hK ▸ bz1 he hb
theorem ah3 (K:W.Frag) (ha:PE X o ta) (hv:PE X value tv) (hs:swapsWith value (some (.Attribute o f pos')) pos.line X.env=pure false) (hK:X.K=K:=by rfl):PS X (.Assign [.Attribute o f pos'] value pos) (sFld K ta tv f):=hK ▸ bz2 ha hv hs
end
section
variable {K:W.Frag}{σ:St} {H:Hp}{Q:VK}{ta tv:TE}{t:TA}{f m:Str}{C:Addr}{sp:Sp}{dvs:List V}{E:XK}{nn bb cc:St→Hp→Prop}{rr:VK}
theorem cc6 (h:ta σ H fun x H1=>∃ a C dx fs v,x=.ref a∧H1 a=some (.ins C dx fs)∧Cls K C∧NoAttr K C f∧fs.lookup f=some v∧Q v H1):tFld K ta f σ H Q:=h
theorem c68 (h:tv σ H fun y H1=>ta σ H1 fun x H2=>∃ a C dx fs,x=.ref a∧H2 a=some (.ins C dx fs)∧Cls K C∧NoAttr K C f∧fs.length<1000∧nn σ (upd H2 a (.ins C dx (putF f y fs)))):sFld K ta tv f ⟨nn,rr,bb,cc⟩ σ H:=h
theorem c69 (h:ta σ H fun x H1=>∃ a dx fs,x=.ref a∧H1 a=some (.ins C dx fs)∧fs.lookup m=none∧t σ H1 fun vs H2=>sp (x::(vs++dvs)) H2 Q E):tMeth C m sp dvs E ta t σ H Q:=h
theorem c70 (h:t σ H fun vs H1=>∀ x dx,H1 x=none→H1 dx=none→dx≠x→sp (.ref x::(vs++dvs)) (upd (upd H1 dx (.own x)) x (.ins C dx [])) (fun v H2=>v=.non∧Q (.ref x) H2) E):tMake C sp dvs E t σ H Q:=h
end
theorem au2 {H:Hp}{a C dx:Addr}{fs:List (Str×V)}{o:HO}(h:H a=some (.ins C dx fs)):Tups H (upd H a o):=fun b ys e=>by rw [a04 (ab1 e h (fun z=>nomatch z))]; exact e
inductive Tw where
 | sc (v:V)
 | tup (xs:List Tw)
 | lst (xs:List Tw)
def Scal:V→Prop
 | .non | .int _ | .str _ | .bl _=>True
 | _=>False
mutual
def Tw.At (H:Hp):Tw→V→List Addr→Prop
 | .sc x,v,fs=>v=x∧Scal x∧fs=[]
 | .tup xs,v,fs=>∃ a vs,v=.ref a∧H a=some (.tup vs)∧Tw.Ats H xs vs fs
 | .lst xs,v,fs=>∃ a vs gs,v=.ref a∧H a=some (.lst vs)∧Tw.Ats H xs vs gs∧fs=a::gs
def Tw.Ats (H:Hp):List Tw→List V→List Addr→Prop
 | [],vs,fs=>vs=[]∧fs=[]
 | x::xs,vs,fs=>∃ v ws f g,vs=v::ws∧fs=f++g∧Tw.At H x v f∧Tw.Ats H xs ws g
end
mutual
theorem Tw.At.mono {H H':Hp}:∀ {x:Tw}{v:V}{fs:List Addr},x.At H v fs→Keep fs H H'→x.At H' v fs
 | .sc _,_,_,h,_=>by simpa only [Tw.At] using h
 | .tup xs,v,fs,h,k=>by
   simp only [Tw.At] at h ⊢
   obtain ⟨a,vs,e,g,r⟩:=h
   exact ⟨a,vs,e,k.1 _ _ g,Tw.Ats.mono r k⟩
 | .lst xs,v,fs,h,k=>by
   simp only [Tw.At] at h ⊢
   obtain ⟨a,vs,gs,e,g,r,rfl⟩:=h
   exact ⟨a,vs,gs,e,k.2 _ (by simp) _ g,Tw.Ats.mono r (k.sub fun b m=>by simp [m]),rfl⟩
theorem Tw.Ats.mono {H H':Hp}:∀ {xs:List Tw}{vs:List V}{fs:List Addr},Tw.Ats H xs vs fs→Keep fs H H'→Tw.Ats H' xs vs fs
 | [],_,_,h,_=>by simpa only [Tw.Ats] using h
 | x::xs,vs,fs,h,k=>by
   simp only [Tw.Ats] at h ⊢
   obtain ⟨v,ws,f,g,e,rfl,a,b⟩:=h
   exact ⟨v,ws,f,g,e,rfl,Tw.At.mono a (k.sub fun c m=>by simp [m]),Tw.Ats.mono b (k.sub fun c m=>by simp [m])⟩
end
theorem Tw.Ats.same {H H':Hp}{xs:List Tw}{vs:List V}{fs:List Addr}(h:Tw.Ats H xs vs fs) (s:Same H H'):Tw.Ats H' xs vs fs:=h.mono (s.keep _)
theorem Tw.Ats.len {H:Hp}:∀ {xs:List Tw}{vs:List V}{fs:List Addr},Tw.Ats H xs vs fs→vs.length=xs.length
 | [],vs,fs,h=>by simp only [Tw.Ats] at h; rw [h.1]; rfl
 | x::xs,vs,fs,h=>by
   simp only [Tw.Ats] at h
   obtain ⟨v,ws,f,g,rfl,rfl,_,b⟩:=h
   simp [b.len]
theorem Tw.Ats.snoc {H:Hp}:∀ {xs:List Tw}{vs:List V}{fs gs:List Addr}{x:Tw}{v:V},Tw.Ats H xs vs fs→x.At H v gs→Tw.Ats H (xs++[x]) (vs++[v]) (fs++gs)
 | [],vs,fs,gs,x,v,h,a=>by
   simp only [Tw.Ats] at h
   obtain ⟨rfl,rfl⟩:=h
   simp only [List.nil_append,Tw.Ats]
   exact ⟨v,[],gs,[],rfl,by simp,a,rfl,rfl⟩
 | y::ys,vs,fs,gs,x,v,h,a=>by
   simp only [Tw.Ats,List.cons_append] at h ⊢
   obtain ⟨w,ws,f,g,rfl,rfl,b,c⟩:=h
   exact ⟨w,ws++[v],f,g++gs,rfl,by simp,b,c.snoc a⟩
mutual
def Tw.h:Tw→Nat
 | .sc _=>0
 | .tup xs=>Tw.hs xs+1
 | .lst xs=>Tw.hs xs+1
def Tw.hs:List Tw→Nat
 | []=>0
 | x::xs=>max x.h (Tw.hs xs)
end
theorem bt5 {A:Around}{s:Shared}{x:V}{u z:Value}(h:Scal x) (r1:RelV x u) (r2:RelV x z):SeqAt.EqAt A s u z true:=by
 cases x with
 | non=>cases r1; cases r2; exact SeqAt.EqAt.same _
 | int i =>
   obtain ⟨t1,rfl⟩:=r1
   obtain ⟨t2,rfl⟩:=r2
   have:=SeqAt.EqAt.int_int (A:=A) (s:=s) i t1 i t2
   simpa using this
 | str i =>
   obtain ⟨t1,rfl⟩:=r1
   obtain ⟨t2,rfl⟩:=r2
   have:=SeqAt.EqAt.str_str (A:=A) (s:=s) i t1 i t2
   simpa using this
 | bl b =>
   cases (show u=Value.bool b from r1)
   cases (show z=Value.bool b from r2)
   exact SeqAt.EqAt.same _
 | _=>exact h.elim
section
variable {X:Cx}{pins:List (Addr×Obj)}{σ:St} {H:Hp}{s:Shared}
mutual
theorem Tw.eqAt (I:Inv X pins σ H s):∀ {t:Tw}{A:Around}{v w:V}{fs gs:List Addr}{u z:Value},t.At H v fs→t.At H w gs→RelV v u→RelV w z→A.units+t.h<cLine→SeqAt.EqAt A s u z true
 | .sc x,A,v,w,fs,gs,u,z,h1,h2,r1,r2,hu=>by
   simp only [Tw.At] at h1 h2
   obtain ⟨rfl,sc,-⟩:=h1
   obtain ⟨rfl,-,-⟩:=h2
   exact bt5 sc r1 r2
 | .tup xs,A,v,w,fs,gs,u,z,h1,h2,r1,r2,hu=>by
   simp only [Tw.At] at h1 h2
   obtain ⟨a,vs,rfl,e1,c1⟩:=h1
   obtain ⟨b,ws,rfl,e2,c2⟩:=h2
   cases r1
   cases r2
   by_cases hab:a=b
   · subst hab
     exact SeqAt.EqAt.same _
   refine SeqAt.EqAt.of_refs hab ?_
   obtain ⟨is1,q1,p1,_⟩:=I.tuple (SqT.of e1)
   obtain ⟨is2,q2,p2,_⟩:=I.tuple (SqT.of e2)
   simp only [Tw.h] at hu
   have hl:is1.length=is2.length:=by rw [← q1.length,←q2.length,c1.len,c2.len]
   have:=SeqAt.RcAt.tuples (A:=A) (s:=s) (e:=fun _=>true) p1 p2 (by omega) (fun j h1 h2=>by
    have:=Tw.eqAts I (A:=A.in1) c1 c2 q1 q2 (by rw [a53]; omega) j (by simpa using h1) (by simpa using h2)
    simpa using this)
   simpa [hl,b05] using this
 | .lst xs,A,v,w,fs,gs,u,z,h1,h2,r1,r2,hu=>by
   simp only [Tw.At] at h1 h2
   obtain ⟨a,vs,_,rfl,e1,c1,_⟩:=h1
   obtain ⟨b,ws,_,rfl,e2,c2,_⟩:=h2
   cases r1
   cases r2
   by_cases hab:a=b
   · subst hab
     exact SeqAt.EqAt.same _
   refine SeqAt.EqAt.of_refs hab ?_
   obtain ⟨is1,q1,p1,_⟩:=I.list (SqL.of e1)
   obtain ⟨is2,q2,p2,_⟩:=I.list (SqL.of e2)
   simp only [Tw.h] at hu
   have hl:is1.length=is2.length:=by rw [← q1.length,←q2.length,c1.len,c2.len]
   have:=SeqAt.RcAt.lists (A:=A) (s:=s) (e:=fun _=>true) p1.isList p2.isList (by simpa using hl) (by omega) (fun j h1 h2=>by
    have:=Tw.eqAts I (A:=A.in1) c1 c2 q1 q2 (by rw [a53]; omega) j (by simpa using h1) (by simpa using h2)
    simpa using this)
   simpa [b05] using this
theorem Tw.eqAts (I:Inv X pins σ H s):∀ {ts:List Tw}{A:Around}{vs ws:List V}{fs gs:List Addr}{us zs:List Value},Tw.Ats H ts vs fs→Tw.Ats H ts ws gs→Vals vs us→Vals ws zs→A.units+Tw.hs ts<cLine →
 ∀ (j:Nat) (h1:j<us.length) (h2:j<zs.length),SeqAt.EqAt A s us[j] zs[j] true
 | [],A,vs,ws,fs,gs,us,zs,c1,c2,q1,q2,hu,j,h1,h2=>by
   simp only [Tw.Ats] at c1
   obtain ⟨rfl,-⟩:=c1
   cases q1
   exact absurd h1 (by simp)
 | t::ts,A,vs,ws,fs,gs,us,zs,c1,c2,q1,q2,hu,j,h1,h2=>by
   simp only [Tw.Ats] at c1 c2
   obtain ⟨v,vs,f,g,rfl,rfl,a1,b1⟩:=c1
   obtain ⟨w,ws,f',g',rfl,rfl,a2,b2⟩:=c2
   cases q1 with
   | cons r1 q1 =>
   cases q2 with
   | cons r2 q2 =>
   simp only [Tw.hs] at hu
   cases j with
   | zero=>exact Tw.eqAt I a1 a2 r1 r2 (by omega)
   | succ j=>exact Tw.eqAts I b1 b2 q1 q2 (by omega) j (by simpa using h1) (by simpa using h2)
end
def rEqW:R2:=fun x y H Q=>∃ t fs gs,(Tw.tup t).At H x fs∧(Tw.tup t).At H y gs∧Tw.hs t≤50∧Q (.bl true) H
def rNeW:R2:=fun x y H Q=>∃ t fs gs,(Tw.tup t).At H x fs∧(Tw.tup t).At H y gs∧Tw.hs t≤50∧Q (.bl false) H
theorem c71 (I:Inv X pins σ H s) {A:Around}{t:List Tw}{x y:V}{v u:Value}{fs gs:List Addr}(rx:RelV x v) (ry:RelV y u) (h1:(Tw.tup t).At H x fs) (h2:(Tw.tup t).At H y gs) (hu:A.units+Tw.hs t+4<cLine):SeqAt.RcAt A s v u true∧SeqAt.RcNeAt A s v u false:=by
 simp only [Tw.At] at h1 h2
 obtain ⟨a,vs,rfl,e1,c1⟩:=h1
 obtain ⟨b,ws,rfl,e2,c2⟩:=h2
 cases rx
 cases ry
 obtain ⟨is1,q1,p1,_⟩:=I.tuple (SqT.of e1)
 obtain ⟨is2,q2,p2,_⟩:=I.tuple (SqT.of e2)
 have hl:is1.length=is2.length:=by rw [← q1.length,←q2.length,c1.len,c2.len]
 have hh:∀ (j:Nat) (h1:j<is1.toArray.size) (h2:j<is2.toArray.size),SeqAt.EqAt A.in1 s is1.toArray[j] is2.toArray[j] ((fun _=>true) j):=fun j h1 h2=>by
  have:=Tw.eqAts I (A:=A.in1) c1 c2 q1 q2 (by rw [a53]; omega) j (by simpa using h1) (by simpa using h2)
  simpa using this
 have k1:=SeqAt.RcAt.tuples (A:=A) (s:=s) (e:=fun _=>true) p1 p2 (by omega) hh
 have k2:=SeqAt.RcNeAt.tuples (A:=A) (s:=s) (e:=fun _=>true) p1 p2 (by omega) hh
 rw [show ((List.range (min is1.toArray.size is2.toArray.size)).all (fun _=>true) && is1.toArray.size == is2.toArray.size)=true by simp [hl]] at k1 k2
 exact ⟨k1,k2⟩
theorem bd7 (hu:X.A.units+64<cLine):OpR X (compareOp .Eq) rEqW:=by
 intro pins s σ H x y v u Q I rx ry h
 obtain ⟨t,fs,gs,h1,h2,hh,q⟩:=h
 exact (c71 I rx ry h1 h2 (A:=X.A) (by omega)).1 X.prog X.w X.xe (EP X pins σ Q) ⟨.bl true,H,I,rfl,q⟩
theorem bt6 (hu:X.A.units+64<cLine):OpR X (compareOp .NotEq) rNeW:=by
 intro pins s σ H x y v u Q I rx ry h
 obtain ⟨t,fs,gs,h1,h2,hh,q⟩:=h
 exact (c71 I rx ry h1 h2 (A:=X.A) (by omega)).2 X.prog X.w X.xe (EP X pins σ Q) ⟨.bl false,H,I,rfl,q⟩
theorem c72 {H:Hp}{Q:VK}{x y:V}{t:List Tw}{fs gs:List Addr}(h1:(Tw.tup t).At H x fs) (h2:(Tw.tup t).At H y gs) (hh:Tw.hs t≤50) (h:Q (.bl true) H):rEqW x y H Q:=⟨t,fs,gs,h1,h2,hh,h⟩
theorem cc7 {H:Hp}{Q:VK}{x y:V}{t:List Tw}{fs gs:List Addr}(h1:(Tw.tup t).At H x fs) (h2:(Tw.tup t).At H y gs) (hh:Tw.hs t≤50) (h:Q (.bl false) H):rNeW x y H Q:=⟨t,fs,gs,h1,h2,hh,h⟩
end
def bd8:List V→Hp→VK→Prop:=fun xs H Q=>∃ n:Nat,xs=[.int (n:Nat)]∧n≤1000000∧New H (.rng 0 (n:Nat)) Q
def rListR:List V→Hp→VK→Prop:=fun xs H Q=>∃ (a:Addr) (n:Nat),xs=[.ref a]∧H a=some (.rng 0 (n:Nat))∧n≤1000000∧New H (.lst (natsV (List.range n))) Q
section
variable {X:Cx}
theorem bd9:CallR X (.type "range") bd8:=by
 intro pins s σ H xs us Q I r h
 obtain ⟨n,rfl,hn,q⟩:=h
 cases r with
 | cons r1 r2 =>
 cases r2
 obtain ⟨t,rfl⟩:=r1
 refine call_range_1 ⟨.ref s.heap.objs.size,upd H s.heap.objs.size (.rng 0 (n:Nat)),I.laid (fun b o e=>gP _ e) (Nat.le_refl _) ⟨_,_,_,Heap.get?_push_size _ rfl⟩,rfl,New.to q _ I.fresh⟩
theorem bl5 (hc:X.calm=true):CallR X (.type "list") rListR:=by
 intro pins s σ H xs us Q I r h
 obtain ⟨a,n,rfl,e,hn,q⟩:=h
 cases r with
 | cons r1 r2 =>
 cases r2
 cases r1
 obtain ⟨t,u,v,hg⟩:=I.hok a _ e
 refine call_list_range (n:=n) (I.ok.hd hc) hg (small_one (by omega) (by omega) (by omega) (by omega)) (by rw [rangeSize_one]; split <;> omega) (by omega) fun h' tk acc c hk hS hacc=>⟨.ref s.heap.objs.size,_,I.laid (a:=s.heap.objs.size) (t':=tk) hk (Nat.le_refl _) ?_,rfl,New.to q _ I.fresh⟩
 refine ⟨le_line (by simp [natsV]; omega),acc.toList,c,?_,by simpa using hS⟩
 refine ay0 (by simp [natsV,hacc.1]) fun j x1 x2 hx1 hx2=>?_
 have hj:j<n:=by
  have:=(gS hx1).1
  simpa [natsV] using this
 obtain ⟨t2,rfl⟩:=hacc.2 j x2 (by rw [← Array.getElem?_toList]; exact hx2)
 have:x1=.int (j:Nat):=by simpa [natsV,hj] using hx1.symm
 subst this
 exact ⟨t2,by simp⟩
end
theorem ap8 {K:W.Frag}{a:Addr}{xs:List V}{g:TG}{tb:TS}{D:Ends}{σ:St} {H:Hp}(Pv:Nat→St→Hp→Prop) (h0:Pv 0 σ H) (hl:∀ i σ H,i≤xs.length→Pv i σ H→SqL K H a xs)
 (hs:∀ i x σ H q H2,xs[i]?=some x→Pv i σ H→Same H H2→H2 q=some (.tup [.int (i:Nat),x])→g (.ref q) σ H2 fun σ1 H1=>tb { D with nx:=Pv (i+1),ct:=Pv (i+1),bk:=D.nx } σ1 H1)
 (hd:∀ σ H,Pv xs.length σ H→D.nx σ H):ForEnd (Ite K a) g tb D σ H:=by
 refine ⟨fun i m σ H=>m=xs.length - i∧i≤xs.length∧Pv i σ H,⟨xs.length,by simp,Nat.zero_le _,h0⟩,?_⟩
 rintro i m σ' H' ⟨rfl,hi,p⟩
 have hq:=hl i σ' H' hi p
 by_cases hlt:i<xs.length
 · refine .inr ⟨⟨xs,xs[i],hq,by simp [hlt]⟩,Pv (i+1),fun σ2 H2 p'=>⟨xs.length - (i+1),by omega,rfl,hlt,p'⟩,fun v H2 y=>?_⟩
   obtain ⟨q,x,rfl,hn,sm,hT,hx⟩:=y
   exact hs i x σ' H' q H2 (hx xs hq) p sm hT
 · have e:i=xs.length:=by omega
   subst e
   exact .inl ⟨⟨xs,hq,Nat.le_refl _⟩,hd σ' H' p⟩
section
variable {K:W.Frag}{H:Hp}{Q:VK}
theorem bl6 {n:Nat}(hn:n≤1000000) (h:New H (.rng 0 (n:Nat)) Q):bd8 [.int (n:Nat)] H Q:=⟨n,rfl,hn,h⟩
theorem bt7 {a:Addr}{n:Nat}(e:H a=some (.rng 0 (n:Nat))) (hn:n≤1000000) (h:New H (.lst (natsV (List.range n))) Q):rListR [.ref a] H Q:=⟨a,n,rfl,e,hn,h⟩
end
section
variable {X:Cx}{tg:Expr}
end
section
variable {σ:St} {H:Hp}{R:It→Hp→Prop}{ts:TA}
end
def relabelS (scope sc0:Scope):Scope:=relabel scope { scope:=sc0,locals:=0,globals:=0,cells:=[] }
theorem be0 {X:Cx}{N:List Str}{scope sc0:Scope}{cl:List (Str×Addr)}{C:Addr}{s0:Shared}{H0:Hp}{ex:List Addr}(h:X.env.scope=sc0):(cxC X N scope cl C s0 H0 ex).env.scope=relabelS scope sc0:=by
 subst h
 rfl
section
variable {X:Cx}
end
section
variable {K:W.Frag}{H:Hp}{Q:VK}
end
section
variable {X:Cx}{e st:Expr}{te ts:TE}{p2 pos:Pos}
end
section
variable {prog:Program}{w:World}{z TI TO i1 i2 i3 l1 l2 l3:Addr}{xs ys us:Array Value}{st1 st2 st3:Nat→Heap→Prop}
end
section
variable {X:Cx}{elts:List Expr}{x1:Nat}{tpos:Pos}
end
section
variable {X:Cx}{k v:Expr}{pos:Pos}{tk tv:TE}{P:Params}
end
def Each {α β:Type}(R:α→β→Prop) (vs:List α) (xs:List β):Prop:=vs.length=xs.length∧∀ (j:Nat) (v:α) (x:β),vs[j]?=some v→xs[j]?=some x→R v x
section
variable {α β:Type}{R:α→β→Prop}{vs:List α}{xs:List β}
theorem Each.nil:Each R ([]:List α) ([]:List β):=⟨rfl,fun j v x h=>by simp at h⟩
theorem Each.mono {R':α→β→Prop}(h:Each R vs xs) (k:∀ v x,R v x→R' v x):Each R' vs xs:=⟨h.1,fun j v x h1 h2=>k v x (h.2 j v x h1 h2)⟩
theorem Each.append {ws:List α}{ys:List β}(h:Each R vs xs) (k:Each R ws ys):Each R (vs++ws) (xs++ys):=by
 refine ⟨by simp [h.1,k.1],fun j v x h1 h2=>?_⟩
 by_cases hj:j<vs.length
 · rw [List.getElem?_append_left hj] at h1
   rw [List.getElem?_append_left (by rw [← h.1]; exact hj)] at h2
   exact h.2 j v x h1 h2
 · rw [List.getElem?_append_right (by omega)] at h1
   rw [List.getElem?_append_right (by rw [← h.1]; omega),←h.1] at h2
   exact k.2 _ v x h1 h2
theorem Each.snoc {v:α}{x:β}(h:Each R vs xs) (k:R v x):Each R (vs++[v]) (xs++[x]):=h.append ⟨rfl,fun j w y h1 h2=>by
 cases j with
 | zero=>cases h1; cases h2; exact k
 | succ j=>simp at h1⟩
theorem Each.get {j:Nat}{x:β}(h:Each R vs xs) (k:xs[j]?=some x):∃ v,vs[j]?=some v∧R v x:=by
 have hj:j<vs.length:=by rw [h.1]; exact (gS k).1
 exact ⟨vs[j],gE hj,h.2 j _ x (gE hj) k⟩
end
abbrev RRow:=List Str×Nat
abbrev RRoom:=Bool×List RRow
def RowAt (H:Hp) (v:V) (x:RRow):Prop:=∃ k sl,v=.ref k∧H k=some (.tup [.ref sl,.int (x.2:Nat)])∧H sl=some (.lst (strsV x.1))
def RoomAt (H:Hp) (v:V) (r:RRoom):Prop:=∃ q g ps,v=.ref q∧H q=some (.tup [.bl r.1,.ref g])∧H g=some (.lst ps)∧Each (RowAt H) ps r.2
theorem RowAt.same {H H':Hp}{v:V}{x:RRow}(h:RowAt H v x) (s:Same H H'):RowAt H' v x:=by
 obtain ⟨k,sl,e,h1,h2⟩:=h
 exact ⟨k,sl,e,s _ _ h1,s _ _ h2⟩
theorem RoomAt.same {H H':Hp}{v:V}{r:RRoom}(h:RoomAt H v r) (s:Same H H'):RoomAt H' v r:=by
 obtain ⟨q,g,ps,e,h1,h2,h3⟩:=h
 exact ⟨q,g,ps,e,s _ _ h1,s _ _ h2,h3.mono fun v x hx=>hx.same s⟩
structure TblAt (H:Hp) (tt:Addr) (us:List V) (rs:List RRoom):Prop where
 ex:∃ a b c rvs,H tt=some (.tup [.ref a,.ref b,.ref c])∧H a=some (.lst us)∧H c=some (.lst rvs)∧Each (RoomAt H) rvs rs
structure TblOk (many:Nat) (rs:List RRoom):Prop where
 nm:many≤100
 nr:rs.length≤300
 rows:∀ r∈rs,r.2.length=many∧∀ x∈r.2,x.2<rs.length
section
variable {f:Nat→Option Nat}{rep rk:Nat→Nat}
end
def hF (d:Addr):List (Str×V):=putF "heads" (.ref d) []
def But (d:Addr) (H H':Hp):Prop:=∀ b o,b≠d→H b=some o→H' b=some o
theorem But.refl {d:Addr}{H:Hp}:But d H H:=fun _ _ _ e=>e
theorem But.trans {d:Addr}{H H1 H2:Hp}(a:But d H H1) (b:But d H1 H2):But d H H2:=fun c o h e=>b c o h (a c o h e)
theorem Same.but {d:Addr}{H H':Hp}(s:Same H H'):But d H H':=fun b o _ e=>s b o e
theorem But.upd {d:Addr}{H H':Hp}{o:HO}(b:But d H H'):But d H (upd H' d o):=fun c u h e=>by rw [a04 h]; exact b c u h e
abbrev Pr:=Nat×Nat
def roomA (rs:List RRoom) (x:Nat):RRoom:=rs.getD x (false,[])
def rowA (rs:List RRoom) (x j:Nat):RRow:=(roomA rs x).2.getD j ([],0)
def nextP (rs:List RRoom) (p:Pr) (j:Nat):Pr:=((rowA rs p.1 j).2,(rowA rs p.2 j).2)
theorem ah4 {rs:List RRoom}{many x j:Nat}(ok:TblOk many rs) (hx:x<rs.length) (hj:j<many):(rowA rs x j).2<rs.length∧rs[x]?=some (roomA rs x)∧(roomA rs x).2[j]?=some (rowA rs x j):=by
 have e:rs[x]?=some (roomA rs x):=by unfold roomA; simp [hx]
 obtain ⟨h1,h2⟩:=ok.rows _ (gI e)
 have e2:(roomA rs x).2[j]?=some (rowA rs x j):=by unfold rowA; simp [h1,hj]
 exact ⟨h2 _ (gI e2),e,e2⟩
def pairT (p:Pr):Tr:=.tup [.int (p.1:Nat),.int (p.2:Nat)]
theorem pairT_inj {p q:Pr}:pairT p=pairT q↔p=q:=by
 constructor
 · intro h
   unfold pairT at h
   simp only [Tr.tup.injEq,List.cons.injEq,Tr.int.injEq,and_true] at h
   exact Prod.ext (by omega) (by omega)
 · intro h; rw [h]
def PairAt (H:Hp) (v:V) (p:Pr):Prop:=∃ a,v=.ref a∧H a=some (.tup [.int (p.1:Nat),.int (p.2:Nat)])
theorem PairAt.key {H:Hp}{v:V}{p:Pr}(h:PairAt H v p):TK H (pairT p) v:=by
 obtain ⟨a,rfl,e⟩:=h
 refine ⟨?_,by simp [pairT,Tr.h,Tr.hs]⟩
 simp only [pairT,Tr.At,Tr.Ats]
 exact ⟨a,_,rfl,e,_,_,[],[],rfl,rfl,⟨rfl,rfl⟩,_,_,[],[],rfl,rfl,⟨rfl,rfl⟩,rfl,rfl⟩
section
variable {X:Cx}
end
section
variable {H:Hp}{Q:VK}
end
section
variable {X:Cx}{pins:List (Addr×Obj)}{σ:St} {H:Hp}{s:Shared}
end
section
variable {X:Cx}{pins:List (Addr×Obj)}{σ:St} {H:Hp}{s:Shared}{a:Addr}{t:Tr}{y v z:V}{u r:Value}{A:Around}{E:Value→Shared→Prop}{kvs:List (Tr×V)}{m:List (Tr×V×V)}
end
section
variable {X:Cx}{o i e f value:Expr}{pos pos' apos cpos:Pos}{td ty tv tx:TE}{P:Params}
end
section
variable {K:W.Frag}{P:Params}{σ:St} {H:Hp}{Q:VK}{td ty tx tv:TE}
end
section
variable {prog:Program}{w:World}{A:Around}{E:Value→Shared→Prop}{s:Shared}
end
section
variable {X:Cx}{elts:List Expr}{x1:Nat}{tpos:Pos}
end
section
variable {prog:Program}{w:World}{A:Around}{E:Value→Shared→Prop}{s:Shared}{d:Addr}{es:Array DictEntry}{ep:Nat}
theorem bt8 {Q:Value→Shared→Prop}(lo:(d == sysModules)=false) (x:RawD s.heap d es ep) (hz:(es.size:Int)<2 ^ 63) (h:Q (.int es.size (s.toks+1)) { s with toks:=s.toks+1+1 }):wpAny (model prog w) A (call (.builtin "len") [.ref d]) Q E s:=by
 have T:=x.ty
 obtain ⟨o,e1,e2,e3⟩:=x
 refine Calls.call_function_entry kind_len plain_len entry_len (args_len1 _) ?_
 unfold Builtin.«len»
 refine wB (m:=oneArg "len" _) (wpAny_pure ?_)
 refine wB (m:=callSpecial? (.ref d) (Str.ofString "__len__")) (wpAny_callSpecial?_slot (name:=Str.ofString "__len__") T F.slot_dict_len (wpAny_call_entry F.slot_dict_len T F.entry_dict_len ?_ (F.args_dict_len_1 _)))
 unfold Builtin.«dict.__len__»
 show wpAny _ _ (dictSize d >>= _) _ _ s
 unfold dictSize
 refine wB (wB (wpAny_dictEntries e1 e3 (wpAny_pure ?_)))
 show wpAny _ _ (Builtin.Dict.pendingCount d >>= _) _ _ s
 refine wB (wpAny_pendingCount_other lo ?_)
 show wpAny _ _ (retInt _) _ _ s
 unfold retInt
 refine wB (wpAny_mkInt (wpAny_pure ⟨_,rfl,?_⟩))
 rw [show ((es.size:Nat):Int)+((0:Nat):Int)=((es.size:Nat):Int) by simp]
 refine wB (wpAny_holding (wpAny_pure ?_))
 refine wB (wpAny_letGo ?_)
 show wpAny _ _ (if ((es.size:Nat):Int)<0 then _ else _) _ _ _
 rw [if_neg (by omega)]
 show wpAny _ _ (if ((es.size:Nat):Int) ≥ 2 ^ 63 then _ else _) _ _ _
 rw [if_neg (by omega)]
 exact wB (wpAny_mkInt (wpAny_pure ⟨_,rfl,h⟩))
end
section
variable {prog:Program}{w:World}{A:Around}{E:Value→Shared→Prop}{s:Shared}{d it:Addr}{es:Array DictEntry}{ep i:Nat}
theorem be1 {Q:Option Value→Shared→Prop}{e:DictEntry}(hit:s.heap.IsValIter it d i es.size ep) (x:RawD s.heap d es ep) (he:es[i]?=some e)
 (q:∀ h',h'.IsValIter it d (i+1) es.size ep→Heap.SameBut it s.heap h'→Q (some e.val) { s with heap:=h' }):wpAny (model prog w) A (pyNext (.ref it)) Q E s:=by
 have T:=hit.typeIs
 obtain ⟨o,ho,hc,hd⟩:=id hit
 obtain ⟨od,g1,g2,g3⟩:=x
 have hlt:i<es.size:=(Array.getElem?_eq_some_iff.mp he).1
 unfold pyNext
 refine wB (wpAny_attempt (wpAny_callSpecial?_slot (name:=Str.ofString "__next__") T F.slot_dict_valueiterator_next (wpAny_call_entry F.slot_dict_valueiterator_next T F.entry_dict_valueiterator_next ?_ (F.args_dict_valueiterator_next_1 _))))
 refine wB ((wpAny_pure) (wB (wB ?_)))
 first | refine wB (wpAny_typeNameOfWhole_valiter T (wpAny_pure ?_)) | refine wB (wpAny_typeNameOf_valiter T (wpAny_pure ?_))
 refine wB (wpAny_fieldsOf ho (hd) ?_)
 simp only [show Builtin.Dict_items.ownsTuple "dict_valueiterator"=false by decide,Bool.false_eq_true,if_false]
 show wpAny _ A.in1 (if (Value.ref d == Value.none)=true then _ else _) _ _ s
 rw [if_neg (fun z:(Value.ref d == Value.none)=true=>Bool.false_ne_true z)]
 refine wB ((wpAny_pure) (wB (wpAny_dictEntries g1 g3 ?_)))
 rw [if_neg (by simp)]
 refine wB ((wpAny_pure) (wB (wpAny_dictEpoch g1 g3 ?_)))
 rw [if_neg (by simp)]
 refine wpAny_pure ?_
 simp only [show ¬ ((i:Int)<0) by omega,if_false,Int.toNat_natCast,he]
 refine wB ?_
 first | refine wB (wpAny_typeNameOfWhole_valiter T (wpAny_pure ?_)) | refine wB (wpAny_typeNameOf_valiter T (wpAny_pure ?_))
 refine wB (wpAny_isOneOf_valiter T ?_)
 show wpAny _ A.in1 (setField (.ref it) 1 (rawInt ((i:Int)+1)) >>= _) _ _ s
 refine wB (wpAny_setField ho (hd) (by simp) ?_)
 have hit2:(s.heap.update it (Obj.mapFields (·.setIfInBounds 1 (rawInt ((i:Int)+1))))).IsValIter it d (i+1) es.size ep :=
  ⟨_,Heap.get?_update_self _ ho (Obj.isFreed_of_fields (Obj.data_mapFields hd _)),(Obj.cls_mapFields ..).trans hc,by rw [Obj.data_mapFields hd]; simp [rawInt]⟩
 refine wB (wpAny_holding (wB (wpAny_isOneOf_valiter (s:={ s with heap:=s.heap.update it (Obj.mapFields (·.setIfInBounds 1 (rawInt ((i:Int)+1)))) }) hit2.typeIs ?_)))
 rw [if_neg (by decide)]
 refine wB (wpAny_isOneOf_valiter (s:={ s with heap:=s.heap.update it (Obj.mapFields (·.setIfInBounds 1 (rawInt ((i:Int)+1)))) }) hit2.typeIs ?_)
 show wpAny _ A.in1 (pure e.val) _ _ _
 exact wpAny_pure (wpAny_pure ⟨_,rfl,wpAny_pure (q _ hit2 (Heap.SameBut.update ..))⟩)
theorem bl7 {Q:Option Value→Shared→Prop}(hh:A.handled=none) (hit:s.heap.IsValIter it d i es.size ep) (x:RawD s.heap d es ep) (he:es.size≤i)
 (q:∀ h',Heap.ExtBut it s.heap h'→Q none { s with heap:=h' }):wpAny (model prog w) A (pyNext (.ref it)) Q E s:=by
 have T:=hit.typeIs
 obtain ⟨o,ho,hc,hd⟩:=id hit
 obtain ⟨od,g1,g2,g3⟩:=x
 unfold pyNext
 refine wB (wpAny_attempt (wpAny_callSpecial?_slot (name:=Str.ofString "__next__") T F.slot_dict_valueiterator_next (wpAny_call_entry F.slot_dict_valueiterator_next T F.entry_dict_valueiterator_next ?_ (F.args_dict_valueiterator_next_1 _))))
 refine wB ((wpAny_pure) (wB (wB ?_)))
 first | refine wB (wpAny_typeNameOfWhole_valiter T (wpAny_pure ?_)) | refine wB (wpAny_typeNameOf_valiter T (wpAny_pure ?_))
 refine wB (wpAny_fieldsOf ho (hd) ?_)
 simp only [show Builtin.Dict_items.ownsTuple "dict_valueiterator"=false by decide,Bool.false_eq_true,if_false]
 show wpAny _ A.in1 (if (Value.ref d == Value.none)=true then _ else _) _ _ s
 rw [if_neg (fun z:(Value.ref d == Value.none)=true=>Bool.false_ne_true z)]
 refine wB ((wpAny_pure) (wB (wpAny_dictEntries g1 g3 ?_)))
 rw [if_neg (by simp)]
 refine wB ((wpAny_pure) (wB (wpAny_dictEpoch g1 g3 ?_)))
 rw [if_neg (by simp)]
 refine wpAny_pure ?_
 simp only [show ¬ ((i:Int)<0) by omega,if_false,Int.toNat_natCast,Array.getElem?_eq_none he]
 refine wB ?_
 first | refine wB (wpAny_typeNameOfWhole_valiter T (wpAny_pure ?_)) | refine wB (wpAny_typeNameOf_valiter T (wpAny_pure ?_))
 show wpAny _ A.in1 (setField (.ref it) 0 .none >>= _) _ _ s
 refine wB (wpAny_setField ho (hd) (by simp) ?_)
 show wpAny _ A.in1 (newExc (.type "StopIteration") [] >>= _) _ _ _
 refine wB ?_
 simp only [newExc,newTuple]
 refine wB (wpAny_newObj_type ?_ (by size_fits))
 refine wB (m:=firstArgMember _ _) (wpAny_of_eq (a:=Value.none) (by first | rfl | (simp only [firstArgMember]; rfl)) (wpAny_newObj_type ?_ (by size_fits)))
 simp only [raiseNew]
 refine wB (wpAny_handled ?_)
 rw [show A.in1.handled=none from hh]
 refine wB ((wpAny_pure) ((wpAny_throw) ?_))
 refine wB (wpAny_isInstance (b:=true) (T:="StopIteration") ⟨_,Heap.get?_push_size _ rfl,rfl⟩ isSubtype_stop ?_)
 exact wpAny_pure (q _ (((Heap.SameBut.update ..).extBut.push _).push _))
theorem b71 (hh:A.handled=none) (hne:d≠it):Walks prog w A it [it,d] [it] es.size (fun i v=>∃ e,es[i]?=some e∧v=e.val) (fun i h=>h.IsValIter it d i es.size ep∧RawD h d es ep) where
 sub:=fun b hb=>by simp at hb; simp [hb]
 frame:=fun _ _ _ st hk=>⟨st.1.at fun o e=>hk it (by simp) o e,st.2.keep fun o e=>hk d (by simp) o e⟩
 item:=fun i s Q E hi st hQ=>be1 st.1 st.2 (Array.getElem?_eq_getElem hi) fun h' hit' hs=>hQ _ h' s.toks ⟨_,Array.getElem?_eq_getElem hi,rfl⟩ ⟨hit',st.2.keep fun o e=>hs.extBut d o hne e⟩ fun b o hb e=>hs.extBut b o (fun h=>hb (by simp [h])) e
 done:=fun s Q E st hQ=>bl7 hh st.1 st.2 (Nat.le_refl _) fun h' he'=>hQ h' s.toks fun b o hb e=>he' b o (fun h=>hb (by simp [h])) e
 self:=fun _ _ _ _ st hQ=>wpAny_pyIter_valiter st.1 hQ
end
def ViewAt (H:Hp) (p d:Addr):Prop:=H p=some (.ext fun h=>h.IsValuesView p d)
def tTVals (P:Params) (td:TE):TE:=fun σ H Q=>td σ H fun x H1=>∃ a kvs,x=.ref a∧DtAt P H1 a kvs∧∀ p H',H1 p=none→Same H1 H'→ViewAt H' p a→Q (.ref p) H'
theorem bt9 {P:Params}{td:TE}{σ:St} {H:Hp}{Q:VK}(h:td σ H fun x H1=>∃ a kvs,x=.ref a∧DtAt P H1 a kvs∧∀ p H',H1 p=none→Same H1 H'→ViewAt H' p a→Q (.ref p) H'):tTVals P td σ H Q:=h
section
variable {X:Cx}{P:Params}{o:Expr}{td:TE}{apos cpos:Pos}
theorem b31 (hP:X.w.params=P) (ho:PE X o td) (hbase:attributeBase o "values" X.env (eval o X.env)=eval o X.env:=by rfl) (hline:(apos.endLine == cpos.line)=true:=by rfl):PE X (.Call (.Attribute o "values" apos) [] [] cpos) (tTVals P td):=by
 subst hP
 intro pins s σ H Q I h
 refine wpAny_Call_method0_late hbase hline (thn (ho pins s σ H _ I h) fun v s1 ⟨x,H1,I1,r1,a,kvs,ex,g1,q1⟩=>?_)
 subst ex
 obtain rfl:v=Value.ref a:=r1
 obtain ⟨es,ep,x,lo,_⟩:=aj8 I1 g1
 refine ⟨"dict","dict.values",PySem.F.plainAttrs_dict,PySem.F.slot_dict_values,PySem.F.type_dict_values,x.ty,(fun b q=>by cases q; obtain ⟨ob,h1,h2,_⟩:=x; exact ⟨ob,h1,h2.2.1⟩),Calls.callWith_builtin rfl (PySem.evalArgs_none ?_)⟩
 refine wpAny_call_entry PySem.F.slot_dict_values x.ty PySem.F.entry_dict_values ?_ (PySem.F.args_dict_values_1 _)
 unfold Builtin.«dict.values»
 refine wB ?_
 unfold Builtin.Dict.noArgs
 refine wB (wpAny_notOrdered_dict x.ty ?_)
 show wpAny _ _ (pure a) _ _ s1
 refine wpAny_pure ?_
 show wpAny _ _ (Builtin.Dict.showsAll a >>= _) _ _ s1
 unfold Builtin.Dict.showsAll
 rw [if_neg (by rw [lo]; exact Bool.false_ne_true)]
 refine wB (wpAny_pure (wB (wpAny_newObj_type (wpAny_pure ⟨_,rfl,?_⟩))))
 have hp:=I1.hok.fresh (Nat.le_refl s1.heap.objs.size)
 have vw:(s1.heap.push { cls:=.type "dict_values",data:=.fields #[.ref a] }).IsValuesView s1.heap.objs.size a:=⟨_,Heap.get?_push_size _ rfl,rfl,rfl⟩
 have I2:=I1.laid (t':=s1.toks) (h':=s1.heap.push { cls:=.type "dict_values",data:=.fields #[.ref a] }) (a:=s1.heap.objs.size) (o:=.ext fun h=>h.IsValuesView s1.heap.objs.size a) (fun b u e=>gP _ e) (Nat.le_refl _) ⟨vw,let ⟨ob,e,_⟩:=vw; ⟨ob,e⟩,fun h1 h2 ⟨ob,e,r⟩ k=>⟨ob,k _ e,r⟩⟩
 exact ⟨.ref s1.heap.objs.size,_,I2,rfl,q1 _ _ hp (Same.new hp) a28⟩
end
section
variable {prog:Program}{w:World}{A:Around}{E:Value→Shared→Prop}{s:Shared}{d v:Addr}{es:Array DictEntry}{ep:Nat}
theorem be2 {Q:Value→Shared→Prop}(hv:s.heap.IsValuesView v d) (x:RawD s.heap d es ep) (q:Q (.ref s.heap.objs.size) { s with heap:=s.heap.push { cls:=.type "dict_valueiterator",data:=.fields #[.ref d,.int 0 0,.int es.size 0,.int ep 0] } }):wpAny (model prog w) A (pyIter (.ref v)) Q E s:=by
 obtain ⟨ov,hov,hcv,hdv⟩:=id hv
 obtain ⟨o,ho,hc,hdat⟩:=id x
 refine wpAny_pyIter_slot hv.typeIs F.slot_dict_values_iter (wpAny_call_entry F.slot_dict_values_iter hv.typeIs F.entry_dict_values_iter ?_ (F.args_dict_values_iter_1 _))
 unfold Builtin.«dict_values.__iter__»
 refine wB (wpAny_pure (wB ?_))
 unfold Builtin.Dict_items.dictOf
 refine wB (wpAny_field hov hdv (x:=.ref d) rfl (wpAny_pure (wB ?_)))
 unfold Builtin.Dict_items.newIterator
 refine wB (wpAny_dictEntries ho hdat (wB (wpAny_dictEpoch ho hdat ?_)))
 simp only [show Builtin.Dict_items.ownsTuple "dict_valueiterator"=false by decide,Bool.false_eq_true,if_false]
 refine wpAny_newObj_type (wpAny_pure ⟨_,rfl,"dict_valueiterator",_,⟨_,Heap.get?_push_size _ rfl,rfl⟩,F.slot_dict_valueiterator_next.lookup,?_⟩)
 simpa [rawInt] using q
theorem bl8:W.KdlSrc prog w "dict_values" v d es.size (fun i x=>∃ e,es[i]?=some e∧x=e.val) (fun h=>h.IsValuesView v d∧RawD h d es ep) where
 type:=fun _ hm=>hm.1.typeIs
 there:=fun _ hm=>⟨let ⟨_,ho,_⟩:=hm.1; Heap.lt_size ho,hm.2.lt⟩
 keep:=fun _ _ hm hk=>⟨let ⟨o,ho,x⟩:=hm.1; ⟨o,hk v (.inl rfl) o ho,x⟩,hm.2.keep fun o e=>hk d (.inr rfl) o e⟩
 notList:=by decide
 notTuple:=by decide
 hint:=fun _ _ _ _ hm hq=>W.kdl_hint_values hm.1.typeIs hq
 iter:=fun _ s hh hm=>⟨_,_,(fun _ _ hq=>be2 hm.1 hm.2 hq),b71 hh (Nat.ne_of_lt hm.2.lt),⟨⟨_,Heap.get?_push_size _ rfl,rfl,rfl⟩,hm.2.keep fun o e=>gP _ e⟩⟩
end
def rListV (P:Params):List V→Hp→VK→Prop:=fun vs H Q=>∃ (p d:Addr) (kvs:List (Tr×V)),vs=[V.ref p]∧ViewAt H p d∧DtAt P H d kvs∧New H (.lst (kvs.map (·.2))) Q
section
variable {X:Cx}{P:Params}
theorem b32 (hP:X.w.params=P) (hc:X.calm=true):CallR X (.type "list") (rListV P):=by
 subst hP
 intro pins s σ H xs us Q I r h
 obtain ⟨p,d,kvs,rfl,hv,⟨m,rfl,e2,e3,e4⟩,q⟩:=h
 cases r with
 | cons r1 r2 =>
 cases r2
 cases r1
 obtain ⟨o,es,ep,q1,q2,q3,q4,q5,z1,z2⟩:=ah1 I e2 e3 e4
 have vw:s.heap.IsValuesView p d:=(I.hok p _ hv).1
 refine W.kdl_call (bl8 (es:=es) (ep:=ep)) (I.ok.hd hc) ⟨vw,o,q1,q2,q3⟩ (by rw [q4.len]; exact z1) fun h' tk acc c hk hS hacc=>?_
 have hp:=I.fresh
 have hl:acc.size=m.length:=hacc.1.trans q4.len
 have I2:=I.laid (a:=s.heap.objs.size) (o:=.lst ((m.map fun x=>(x.1,x.2.2)).map (·.2))) (t':=tk) hk (Nat.le_refl _) ⟨by rw [gL,gL]; exact z1,acc.toList,c,ay0 (by simp [hl]) fun j x1 x2 hx1 hx2=>by
  rw [gM,gM] at hx1
  obtain ⟨y,hy,rfl⟩:=gO hx1
  obtain ⟨x,hx,rfl⟩:=gO hy
  obtain ⟨e,he,rfl⟩:=hacc.2 j x2 (by rw [← Array.getElem?_toList]; exact hx2)
  obtain ⟨en,f1,f2,f3,f4⟩:=q4.at_ j x hx
  rw [he] at f1
  cases f1
  exact f4,by simpa using hS⟩
 exact ⟨.ref s.heap.objs.size,_,I2,rfl,q _ _ hp (Same.new hp) a28⟩
end
open AutoSeq1 (wpAny_loadPart')
section
variable {X:Cx}{elts:List Expr}{x1:Nat}{tpos:Pos}
end
section
variable {prog:Program}{w:World}
variable {A:Around}{E:Value→Shared→Prop}{s:Shared}
end
section
variable {prog:Program}{w:World}{A:Around}{R:Result→Shared→Prop}{I:Addr}{fp wr:List Addr}{G:Array GenState→Array GenState→Prop}{n:Nat}{P:Nat→Value→Prop}{St:Nat→Shared→Prop}
end
section
variable {prog:Program}{w:World}{A:Around}{E:Value→Shared→Prop}{s:Shared}
end
section
variable {M:Model}{A:Around}{E:Value→Shared→Prop}{s:Shared}
end
section
variable {prog:Program}{w:World}{A:Around}{E:Value→Shared→Prop}{s:Shared}{S it:Addr}{o:Obj}{es:Array (Int×Value)}{ep:Nat}{t:SetTable}
end
section
variable {prog:Program}{w:World}{A:Around}{E:Value→Shared→Prop}{s:Shared}{S it tp:Addr}{o:Obj}{es:Array (Int×Value)}{ep i:Nat}{t:SetTable}{first:Value}
end
section
variable {prog:Program}{w:World}{A:Around}{E:Value→Shared→Prop}{s:Shared}{S it tp:Addr}{o:Obj}{es:Array (Int×Value)}{ep i:Nat}{t:SetTable}{first:Value}
end
section
variable {prog:Program}{w:World}{A:Around}{E:Value→Shared→Prop}{s:Shared}{S it tp:Addr}{o:Obj}{es:Array (Int×Value)}{ep i:Nat}{t:SetTable}{first:Value}
end
section
variable {prog:Program}{w:World}{A:Around}{E:Value→Shared→Prop}{s:Shared}{S:Addr}{es:Array (Int×Value)}
end
section
variable {prog:Program}{w:World}{A:Around}{E:Value→Shared→Prop}{s:Shared}{S:Addr}{es:Array (Int×Value)}
end
section
variable {X:Cx}{P:Program}{w:World}
end
section
variable {X:Cx}
end
def Parts (rs:List RRoom):Pr→List Nat→Prop
 | p,[]=>(roomA rs p.1).1≠(roomA rs p.2).1
 | p,j::w=>(rowA rs p.1 j).1≠(rowA rs p.2 j).1∨Parts rs (nextP rs p j) w
def Evs (many:Nat) (w:List Nat):Prop:=∀ j∈w,j<many
structure MinL (rs:List RRoom) (many:Nat) (p:Pr) (n:Nat):Prop where
 has:∃ w,Evs many w∧Parts rs p w∧w.length=n
 least:∀ w,Evs many w→Parts rs p w→n≤w.length
@[reducible] def SaidUn (rs:List RRoom) (p:Pr) (j:Nat):Prop:=(rowA rs p.1 j).1≠(rowA rs p.2 j).1
section
variable {rs:List RRoom}{many:Nat}{p:Pr}
theorem MinL.one {n m:Nat}(a:MinL rs many p n) (b:MinL rs many p m):n=m:=by
 obtain ⟨w,h1,h2,h3⟩:=a.has
 obtain ⟨v,g1,g2,g3⟩:=b.has
 have:=a.least v g1 g2
 have:=b.least w h1 h2
 omega
theorem MinL.of {w:List Nat}(h1:Evs many w) (h2:Parts rs p w):∃ n,n≤w.length∧MinL rs many p n:=by
 suffices ∀ k (w:List Nat),w.length≤k→Evs many w→Parts rs p w→∃ n,n≤w.length∧MinL rs many p n from this _ w (Nat.le_refl _) h1 h2
 intro k
 induction k with
 | zero=>exact fun w hk h1 h2=>⟨0,Nat.zero_le _,⟨w,h1,h2,by omega⟩,fun _ _ _=>Nat.zero_le _⟩
 | succ k ih =>
   intro w hk h1 h2
   by_cases hx:∃ v,Evs many v∧Parts rs p v∧v.length<w.length
   · obtain ⟨v,g1,g2,g3⟩:=hx
     obtain ⟨n,a,b⟩:=ih v (by omega) g1 g2
     exact ⟨n,by omega,b⟩
   · exact ⟨w.length,Nat.le_refl _,⟨w,h1,h2,rfl⟩,fun v g1 g2=>Nat.le_of_not_lt fun z=>hx ⟨v,g1,g2,z⟩⟩
theorem MinL.zero:MinL rs many p 0↔(roomA rs p.1).1≠(roomA rs p.2).1:=by
 constructor
 · rintro ⟨⟨w,_,h,e⟩,_⟩
   rw [List.length_eq_zero_iff.mp e] at h
   exact h
 · exact fun h=>⟨⟨[],fun _ z=>absurd z (by simp),h,rfl⟩,fun _ _ _=>Nat.zero_le _⟩
theorem ac6 {j:Nat}{w:List Nat}(h:j<many) (h2:Evs many w):Evs many (j::w):=fun i hi=>by
 rcases List.mem_cons.mp hi with rfl | hi
 · exact h
 · exact h2 i hi
def Cand (rs:List RRoom) (many:Nat) (dv:Pr→Option Nat) (p:Pr) (j c:Nat):Prop:=j<many∧((SaidUn rs p j∧c=1)∨(¬ SaidUn rs p j∧∃ n,dv (nextP rs p j)=some n∧c=1+n))
def Rnd (rs:List RRoom) (many N k:Nat) (dv:Pr→Option Nat):Prop:=∀ p:Pr,p.1<N→p.2<N→∀ n,dv p=some n↔MinL rs many p n∧n≤k
variable {N k:Nat}{dv:Pr→Option Nat}
theorem Rnd.cand (R:Rnd rs many N k dv) (hN:∀ p:Pr,p.1<N→p.2<N→∀ j,j<many→(nextP rs p j).1<N∧(nextP rs p j).2<N) (h1:p.1<N) (h2:p.2<N) (hd:dv p=none) {j M:Nat}(hc:Cand rs many dv p j M) (hm:∀ j c,Cand rs many dv p j c→M≤c):MinL rs many p M∧M≤k+1:=by
 have no:∀ n,n≤k→¬ MinL rs many p n:=fun n hn z=>by rw [(R p h1 h2 n).mpr ⟨z,hn⟩] at hd; cases hd
 have hM:M≤k+1∧∃ w,Evs many w∧Parts rs p w∧w.length=M:=by
  obtain ⟨hj,⟨a,rfl⟩ | ⟨a,n,b,rfl⟩⟩:=hc
  · exact ⟨by omega,[j],ac6 hj (fun _ z=>absurd z (by simp)),.inl a,rfl⟩
  · obtain ⟨c1,c2⟩:=(R _ (hN p h1 h2 j hj).1 (hN p h1 h2 j hj).2 n).mp b
    obtain ⟨w,d1,d2,d3⟩:=c1.has
    exact ⟨by omega,j::w,ac6 hj d1,.inr d2,by simp [d3]; omega⟩
 refine ⟨⟨hM.2,fun v g1 g2=>?_⟩,hM.1⟩
 cases v with
 | nil=>exact absurd (MinL.zero.mpr g2) (no 0 (Nat.zero_le _))
 | cons i v =>
   have hi:i<many:=g1 i List.mem_cons_self
   by_cases hs:SaidUn rs p i
   · have:=hm i 1 ⟨hi,.inl ⟨hs,rfl⟩⟩
     simp only [List.length_cons]
     omega
   · have g3:Parts rs (nextP rs p i) v:=by
      rcases g2 with g2 | g2
      · exact absurd g2 hs
      · exact g2
     obtain ⟨n,e1,e2⟩:=MinL.of (fun x hx=>g1 x (List.mem_cons_of_mem _ hx)) g3
     simp only [List.length_cons]
     by_cases hn:n≤k
     · have:=hm i (1+n) ⟨hi,.inr ⟨hs,n,(R _ (hN p h1 h2 i hi).1 (hN p h1 h2 i hi).2 n).mpr ⟨e2,hn⟩,rfl⟩⟩
       omega
     · have:=hM.1
       omega
theorem Rnd.noCand (R:Rnd rs many N k dv) (hN:∀ p:Pr,p.1<N→p.2<N→∀ j,j<many→(nextP rs p j).1<N∧(nextP rs p j).2<N) (h1:p.1<N) (h2:p.2<N) (hd:dv p=none) (hc:∀ j c,¬ Cand rs many dv p j c):∀ n,¬ (MinL rs many p n∧n≤k+1):=by
 rintro n ⟨a,hn⟩
 have no:∀ n,n≤k→¬ MinL rs many p n:=fun n hn z=>by rw [(R p h1 h2 n).mpr ⟨z,hn⟩] at hd; cases hd
 obtain ⟨w,b1,b2,b3⟩:=a.has
 cases w with
 | nil=>exact no 0 (Nat.zero_le _) (MinL.zero.mpr b2)
 | cons i w =>
   have hi:i<many:=b1 i List.mem_cons_self
   by_cases hs:SaidUn rs p i
   · exact hc i 1 ⟨hi,.inl ⟨hs,rfl⟩⟩
   · rcases b2 with b2 | b2
     · exact hs b2
     · obtain ⟨m,e1,e2⟩:=MinL.of (fun x hx=>b1 x (List.mem_cons_of_mem _ hx)) b2
       simp only [List.length_cons] at b3
       exact hc i (1+m) ⟨hi,.inr ⟨hs,m,(R _ (hN p h1 h2 i hi).1 (hN p h1 h2 i hi).2 m).mpr ⟨e2,by omega⟩,rfl⟩⟩
theorem MinL.tail {m:Nat}(h:MinL rs many p (m+1)) (hm:0<m):∃ j,j<many∧¬ SaidUn rs p j∧MinL rs many (nextP rs p j) m:=by
 obtain ⟨w,a1,a2,a3⟩:=h.has
 cases w with
 | nil=>simp at a3
 | cons i w =>
   have hi:i<many:=a1 i List.mem_cons_self
   simp only [List.length_cons] at a3
   have hs:¬ SaidUn rs p i:=fun z=>by
    have:=h.least [i] (ac6 hi (fun _ z=>absurd z (by simp))) (.inl z)
    simp at this
    omega
   rcases a2 with a2 | a2
   · exact absurd a2 hs
   · refine ⟨i,hi,hs,⟨w,fun x hx=>a1 x (List.mem_cons_of_mem _ hx),a2,by omega⟩,fun v g1 g2=>?_⟩
     have:=h.least (i::v) (ac6 hi g1) (.inr g2)
     simp at this
     omega
theorem Rnd.done (R:Rnd rs many N k dv) (hN:∀ p:Pr,p.1<N→p.2<N→∀ j,j<many→(nextP rs p j).1<N∧(nextP rs p j).2<N) (hz:∀ p:Pr,p.1<N→p.2<N→¬ MinL rs many p (k+1)) (h1:p.1<N) (h2:p.2<N) (n:Nat):dv p=some n↔MinL rs many p n:=by
 refine ⟨fun h=>((R p h1 h2 n).mp h).1,fun h=>(R p h1 h2 n).mpr ⟨h,Nat.le_of_not_lt fun hk=>?_⟩⟩
 suffices ∀ t (p:Pr),p.1<N→p.2<N→¬ MinL rs many p (k+1+t) from this (n - (k+1)) p h1 h2 (by rw [show k+1+(n - (k+1))=n by omega]; exact h)
 intro t
 induction t with
 | zero=>exact hz
 | succ t ih =>
   intro p h1 h2 h
   obtain ⟨j,hj,_,h3⟩:=MinL.tail (m:=k+1+t) h (by omega)
   exact ih _ (hN p h1 h2 j hj).1 (hN p h1 h2 j hj).2 h3
end
section
variable {prog:Program}{w:World}{A:Around}{E:Value→Shared→Prop}{s:Shared}
theorem be3 {nm:String}{d c:Addr}{od oc:Obj}{es:Array DictEntry}{ep epd:Nat}{Q:Unit→Shared→Prop}(ne:(d == c)=false) (hs:(c == sysModules)=false)
 (hod:s.heap.get? d=some od) (hdd:od.data=.dict #[] epd) (hoc:s.heap.get? c=some oc) (hdc:oc.data=.dict es ep) (hz:es.size≤sizeLine)
 (hk:∀ e∈es,∃ a,e.key=.ref a∧s.TypeIs (.ref a) "tuple") (hh:∀ e∈es,(es.filter (·.hash == e.hash)).size≤1)
 (q0:es=#[]→Q () s) (q:Q () { s with heap:=s.heap.update d (Obj.mapDictKeys fun _=>es) }):wpAny (model prog w) A (Builtin.Dict.mergeDict nm d c) Q E s:=by
 unfold Builtin.Dict.mergeDict Builtin.Dict.showsAll
 rw [if_neg (by rw [ne]; simp),if_neg (by rw [hs]; simp)]
 refine wB (wpAny_pure (wB (wpAny_dictEntries hoc hdc ?_)))
 dsimp only
 by_cases h0:es=#[]
 · subst h0
   rw [if_neg (by simp)]
   refine wB (wpAny_dictEpoch hoc hdc (wB (wpAny_dictEntries hoc hdc (wB ?_))))
   rw [Std.Legacy.Range.forIn_eq_forIn_range']
   exact wpAny_pure (wpAny_pure (q0 rfl))
 · have hpos:0<es.size:=Array.size_pos_iff.mpr h0
   have hall:(es.all fun e=>(keyPart e.key).isSome)=false:=by
    rw [Bool.eq_false_iff]
    intro hx
    obtain ⟨a,ea,_⟩:=hk es[0] (Array.getElem_mem hpos)
    have:=Array.all_eq_true.mp hx 0 hpos
    rw [ea] at this
    cases this
   rw [if_pos (by rw [hall]; simp)]
   refine wB (wpAny_dictEntries hod hdd ?_)
   rw [if_pos (by rfl)]
   unfold Builtin.Dict.entriesForEmpty
   refine wB (wB (wpAny_dictEntries hoc hdc (wB ?_)))
   rw [← Array.forIn_toList]
   refine wpAny_forIn_list _ (fun rest _ s'=>s'=s∧∀ e∈rest,e∈es) _ ?_ ?_ _ _ ⟨rfl,fun e he=>Array.mem_toList_iff.mp he⟩
   · rintro e rest b s' ⟨rfl,hr⟩
     obtain ⟨a,ea,ty⟩:=hk e (hr e List.mem_cons_self)
     have hs1:=hh e (hr e List.mem_cons_self)
     unfold Builtin.Dict.quietEq
     rw [ea]
     refine wB (wB (wpAny_specialOf ty F.slot_tuple_eq.lookup (wpAny_pure ?_)))
     rw [if_pos (by decide),if_neg (by omega)]
     exact wpAny_pure ⟨rfl,fun e he=>hr e (List.mem_cons_of_mem _ he)⟩
   · rintro b s' ⟨rfl,_⟩
     refine wpAny_pure ?_
     rw [if_pos (by simp [h0])]
     exact wB (wpAny_updateDictKeysTo hod hdd (wpAny_pure q) (by omega))
end
def rDictT (P:Params):List V→Hp→VK→Prop:=fun xs H Q=>∃ a kvs,xs=[.ref a]∧DtAt P H a kvs∧(∀ x∈kvs,∃ ts,x.1=.tup ts)∧(kvs.map fun x=>x.1.hash P).Nodup ∧
 ∀ p o,H p=none→DtAt P (upd H p o) p kvs→Q (.ref p) (upd H p o)
theorem bl9 {es:Array DictEntry}(h:(es.toList.map (·.hash)).Nodup) {e:DictEntry}(he:e∈es):(es.filter (·.hash == e.hash)).size≤1:=by
 have h2:∀ l:List DictEntry,(l.map (·.hash)).Nodup→(l.filter (·.hash == e.hash)).length≤1:=by
  intro l
  induction l with
  | nil=>simp
  | cons x l ih =>
    intro hn
    rw [List.map_cons,List.nodup_cons] at hn
    rw [List.filter_cons]
    split
    · rename_i hx
      have hz:l.filter (·.hash == e.hash)=[]:=List.filter_eq_nil_iff.mpr fun y hy hc=>by
       rw [beq_iff_eq] at hx hc
       exact hn.1 (List.mem_map.mpr ⟨y,hy,by rw [hc,hx]⟩)
      rw [List.length_cons,hz]
      exact Nat.le_refl _
    · exact ih hn.2
 have:=h2 es.toList h
 rw [← Array.length_toList,Array.toList_filter]
 exact this
section
variable {X:Cx}{P:Params}
theorem bm0 (hP:X.w.params=P):CallR X (.type "dict") (rDictT P):=by
 subst hP
 intro pins s σ H xs us Q I r h
 obtain ⟨a,kvs,rfl,⟨m,rfl,e2,e3,e4⟩,ht,hn,q⟩:=h
 obtain ⟨u,rfl,ru⟩:=ai9 r
 cases ru
 obtain ⟨o,es,ep,q1,q2,q3,q4,q5,z1,z2⟩:=ah1 I e2 e3 e4
 have lt:a<s.heap.objs.size:=Heap.lt_size q1
 have up:(s.heap.push { cls:=.type "dict",data:=.dict #[] }).get? a=some o:=gP _ q1
 have nw:(s.heap.push { cls:=.type "dict",data:=.dict #[] }).get? s.heap.objs.size=some { cls:=.type "dict",data:=.dict #[] }:=Heap.get?_push_size _ rfl
 have hsz:es.size≤sizeLine:=by rw [q4.len]; exact z1
 have hkey:∀ e∈es,∃ b,e.key=.ref b∧({ s with heap:=s.heap.push { cls:=.type "dict",data:=.dict #[] } }:Shared).TypeIs (.ref b) "tuple":=fun e he=>by
  obtain ⟨j,hj,rfl⟩:=Array.mem_iff_getElem.mp he
  obtain ⟨t,f1,f2,f3,f4⟩:=q5.at_ j _ (Array.getElem?_eq_getElem hj)
  rw [gM] at f1
  obtain ⟨x,hx,rfl⟩:=gO f1
  obtain ⟨ts,hts⟩:=ht (x.1,x.2.2) (List.mem_map_of_mem (gI hx))
  rw [show x.1=.tup ts from hts] at f3
  simp only [Tr.In] at f3
  obtain ⟨b,us,hb,⟨ob,p1,p2,_⟩,_⟩:=f3
  exact ⟨b,hb,ob,gP _ p1,p2⟩
 have hhash:(es.toList.map (·.hash)).Nodup:=by
  have:es.toList.map (·.hash)=m.map fun x=>x.1.hash X.w.params:=by
   refine List.ext_getElem? fun j=>?_
   rw [gM,gM,Array.getElem?_toList]
   by_cases hj:j<m.length
   · obtain ⟨e,g1,g2,_⟩:=q4.at_ j m[j] (gE hj)
     rw [g1,gE hj,Option.map_some,Option.map_some,g2]
   · rw [List.getElem?_eq_none (Nat.le_of_not_lt hj),Array.getElem?_eq_none (by rw [q4.len]; omega)]
     rfl
  rw [this]
  rw [List.map_map] at hn
  exact hn
 refine callType_codes (Q₁:=fun obj s₁=>obj=.ref s.heap.objs.size∧s₁={ s with heap:=s.heap.push { cls:=.type "dict",data:=.dict #[] } }) F.kt_called_dict (F.kt_typeCall_dict_1 _) F.entry_dict_init (kt_code_dict_new _ ⟨rfl,rfl⟩) ?_
 rintro obj s₁ ⟨rfl,rfl⟩
 have tyn:({ s with heap:=s.heap.push { cls:=.type "dict",data:=.dict #[] } }:Shared).TypeIs (.ref s.heap.objs.size) "dict":=⟨_,nw,rfl⟩
 have tya:({ s with heap:=s.heap.push { cls:=.type "dict",data:=.dict #[] } }:Shared).TypeIs (.ref a) "dict":=⟨_,up,q2.1⟩
 refine ⟨tyn,F.args_dict_init_2 _ _,?_⟩
 have good:∀ h',(∀ b u,s.heap.get? b=some u→h'.get? b=some u)→(∃ o' ep',h'.get? s.heap.objs.size=some o'∧o'.ExactDict∧o'.data=.dict es ep')→∃ x H',Inv X pins σ H' { s with heap:=h' }∧RelV x (.ref s.heap.objs.size)∧Q x H':=by
  rintro h' kk ⟨o',ep',g1,g2,g3⟩
  have hf:=I.hok.fresh (Nat.le_refl s.heap.objs.size)
  have sm:Same H (upd H s.heap.objs.size (DtO X.w.params s.heap.objs.size m)):=Same.new hf
  refine ⟨.ref s.heap.objs.size,upd H s.heap.objs.size (DtO X.w.params s.heap.objs.size m),I.laid (t':=s.toks) kk (Nat.le_refl _) (am5 ⟨z1,beq_eq_false_iff_ne.mpr (Ne.symm (Nat.ne_of_lt I.big)),o',es,ep',g1,g2,g3,q4⟩),rfl,?_⟩
  exact q _ _ hf ⟨m,rfl,.of a28,fun x hx=>⟨ah2 (e3 x hx).1 sm.tups,(e3 x hx).2⟩,e4⟩
 unfold Builtin.«dict.__init__» Builtin.Dict.selfAndRest
 refine wB (wB (wpAny_notOrdered_dict tyn (wpAny_pure ?_)))
 show wpAny _ _ (Builtin.Dict.updateFrom "dict.__init__" s.heap.objs.size (.ref a) [] .none) _ _ _
 unfold Builtin.Dict.updateFrom Builtin.Dict.merge Builtin.Dict.readDirectly
 refine wB (wpAny_typeOf tya ?_)
 rw [if_neg (by decide)]
 refine wB (wB (wB (wpAny_isInstance tya isSubtype_dict_dict ?_)))
 simp only [Bool.false_eq_true,Bool.not_true,if_false]
 refine wB (wpAny_specialOf tya F.slot_dict_iter.lookup (wpAny_pure ?_))
 rw [if_pos (by decide)]
 refine wB (wpAny_pure (be3 (beq_eq_false_iff_ne.mpr (Nat.ne_of_gt lt)) z2 nw rfl up q3 hsz hkey (fun e he=>bl9 hhash he) (fun h0=>?_) ?_))
 · show wpAny _ _ (Builtin.Dict.addKeywords s.heap.objs.size [] >>= _) _ _ _
   refine wB (wpAny_pure (wpAny_pure ⟨rfl,good _ (fun b u e=>gP _ e) ⟨_,0,nw,⟨rfl,rfl,rfl⟩,by rw [h0]⟩⟩))
 · show wpAny _ _ (Builtin.Dict.addKeywords s.heap.objs.size [] >>= _) _ _ _
   refine wB (wpAny_pure (wpAny_pure ⟨rfl,good _ (fun b u e=>?_) ⟨_,_,Heap.get?_update_self _ nw rfl,⟨rfl,rfl,rfl⟩,rfl⟩⟩))
   exact (Heap.get?_update_other _ _ (Nat.ne_of_gt (Heap.lt_size e))).trans (gP _ e)
theorem bu0 {H:Hp}{Q:VK}{a:Addr}{kvs:List (Tr×V)}(h1:DtAt P H a kvs) (h2:∀ x∈kvs,∃ ts,x.1=.tup ts) (h3:(kvs.map fun x=>x.1.hash P).Nodup) (h:∀ p o,H p=none→DtAt P (upd H p o) p kvs→Q (.ref p) (upd H p o)) :
 rDictT P [.ref a] H Q:=⟨a,kvs,rfl,h1,h2,h3,h⟩
end
def pairN (i j:Nat):Tr:=.tup [.int i,.int j]
def hashP (i j:Nat):Int:=reduceHash (Builtin.Tuple.tupleHashOf [reduceHash (W.intHash i),reduceHash (W.intHash j)])
theorem au3 (P:Params) (i j:Nat):(pairN i j).hash P=hashP i j:=by
 simp only [pairN,Tr.hash,Tr.hashes,W.hashW,hashP]
def resP:List Nat:=[270,35,277,656,421,300,27,921,686,565,292,57,951,716,954,219,598,325,204,984,863,590,355,234,1014,855,620,499,896,623,502,267,146,525,252,532,911,176,517,797,161,941,8,788,667,394,273,38,417,659,23,303,682,924,288,53,564,329,170,950,715,594,321,200,980,859,586,351,230,1010,233,1013,854,619,498,263,104,884,649,528,293,134,914,793,360,640,4,784,625,390,269,34,776,655,420,299,26,920,302,681,961,688,567,946,711,953,317,597,976,203,582,347,429,194,73,452,694,459,838,103,444,724,88,368,709,474,985,750,629,356,121,0,780,621,386,265,30,772,651,416,654,419,298,25,919,684,563,328,55,949,714,593,320,199,596,975,202,581,861,225,1005,232,611,490,255,997,876,641,723,87,367,746,988,352,117,1011,738,3,382,261,1003,768,888,615,494,873,138,880,244,524,903,130,509,789,153,933]
theorem bu1:((List.range 196).all fun k=>resP.idxOf (resP.getD k 0) == k)=true:=by decide +kernel
theorem c73:((List.range 14).all fun i=>(List.range 14).all fun j=>hashP i j % 1015 == (resP.getD (14*i+j) 0:Int))=true:=by decide +kernel
theorem be4 {i j i' j':Nat}(h1:i<14) (h2:j<14) (h3:i'<14) (h4:j'<14) (e:hashP i j=hashP i' j'):i=i'∧j=j':=by
 have g:∀ {i j:Nat},i<14→j<14→hashP i j % 1015=(resP.getD (14*i+j) 0:Int):=fun {i j} h1 h2=>by
  have:=List.all_eq_true.mp (List.all_eq_true.mp c73 i (List.mem_range.mpr h1)) j (List.mem_range.mpr h2)
  exact beq_iff_eq.mp this
 have u:∀ {k:Nat},k<196→resP.idxOf (resP.getD k 0)=k:=fun {k} h=>beq_iff_eq.mp (List.all_eq_true.mp bu1 k (List.mem_range.mpr h))
 have e2:resP.getD (14*i+j) 0=resP.getD (14*i'+j') 0:=by
  have:=(g h1 h2).symm.trans ((congrArg (· % 1015) e).trans (g h3 h4))
  exact Int.ofNat.inj this
 have e3:14*i+j=14*i'+j':=(u (by omega)).symm.trans ((congrArg resP.idxOf e2).trans (u (by omega)))
 omega
theorem bu2 {P:Params}{n:Nat}{kvs:List (Tr×V)}(hn:n≤14) (hk:∀ x∈kvs,∃ i j,i<n∧j<n∧x.1=pairN i j) (nd:(kvs.map (·.1)).Nodup):(kvs.map fun x=>x.1.hash P).Nodup:=by
 rw [List.nodup_iff_pairwise_ne,List.pairwise_map] at nd ⊢
 refine List.Pairwise.imp_of_mem (fun {a b} ha hb h e=>h ?_) nd
 obtain ⟨i,j,h1,h2,ea⟩:=hk a ha
 obtain ⟨i',j',h3,h4,eb⟩:=hk b hb
 rw [ea,eb,au3,au3] at e
 obtain ⟨rfl,rfl⟩:=be4 (by omega) (by omega) (by omega) (by omega) e
 rw [ea,eb]
def BestD (P:Nat→Value→Prop) (bt:Nat→Nat→Bool) (j:Nat) (o:Array Value):Prop:=(j=0∧o=#[])∨∃ i vb,j=i+1∧o=#[vb,vb]∧P (argBest bt i) vb
section
variable {prog:Program}{w:World}{A:Around}{R:Result→Shared→Prop}{J:Addr}{fp wr:List Addr}{n:Nat}{P:Nat→Value→Prop}{St:Nat→Heap→Prop}
theorem be5 (W:Walks prog w A.in1 J fp wr n P St) (bt:Nat→Nat→Bool) (hc:CmpOf prog w A.in1 .Lt P bt) (S:Addr) (hS:S∉fp) (d:Value):∀ (k j:Nat) (s:Shared) (o:Array Value) (c:Nat),n - j=k→j≤n→St j s.heap→BestD P bt j o →
 s.heap.get? S=some { cls:=.type "list",dict:=none,data:=.seq o c,slots:=#[] } →
 (∀ v h' tk,((n=0∧v=d)∨(0<n∧P (argBest bt (n - 1)) v))→(∀ b o,b∉wr→b≠S→s.heap.get? b=some o→h'.get? b=some o)→R (.ok (.ret v)) { s with heap:=h',toks:=tk }) →
 codeAny (model prog w) A (.builtin "min.loop" ⟨[.ref J,.none,.ref S],[("default",d)]⟩) R s:=by
 have nw:S∉wr:=fun h=>hS (W.sub _ h)
 have nm:(toString "min"++toString ".loop":String)="min.loop":=by decide
 intro k
 induction k with
 | zero =>
   intro j s o c e1 e2 st hb g hR
   obtain rfl:j=n:=by omega
   refine codeAny_builtin F.entry_min_loop ?_
   rw [Around.under_plainId F.plain_min_loop _]
   show wpAny (model prog w) A.in1 (seqItems? (.ref S) >>= _) _ _ s
   refine wB (wpAny_seqItems g rfl ?_)
   show wpAny (model prog w) A.in1 (tryCatch (pyNext (.ref J)) _ >>= _) _ _ s
   refine wB (wpAny_tryCatch (W.done s _ _ st fun h' tk kk=>?_))
   have g':=kk S _ nw g
   rcases hb with ⟨rfl,rfl⟩ | ⟨i,vb,rfl,rfl,hP⟩
   · show wpAny (model prog w) A.in1 (rule _ >>= _) _ _ _
     exact wB (wpAny_rule (wpAny_pure (hR d _ tk (.inl ⟨rfl,rfl⟩) fun b o hw _ e=>kk b o hw e)))
   · show wpAny (model prog w) A.in1 (updateSeq S (fun _=>#[]) >>= _) _ _ _
     refine wB (wpAny_updateSeq g' rfl (wB (wpAny_letGo (wpAny_pure (hR vb _ tk (.inr ⟨Nat.succ_pos _,hP⟩) fun b o hw hne e=>?_)))))
     exact (Heap.get?_update_other _ _ (Ne.symm hne)).trans (kk b o hw e)
 | succ k ih =>
   intro j s o c e1 e2 st hb g hR
   refine codeAny_builtin F.entry_min_loop ?_
   rw [Around.under_plainId F.plain_min_loop _]
   show wpAny (model prog w) A.in1 (seqItems? (.ref S) >>= _) _ _ s
   refine wB (wpAny_seqItems g rfl ?_)
   show wpAny (model prog w) A.in1 (tryCatch (pyNext (.ref J)) _ >>= _) _ _ s
   refine wB (wpAny_tryCatch (W.item j s _ _ (by omega) st fun v h' tk hP st' kk=>?_))
   have g':=kk S _ nw g
   rcases hb with ⟨rfl,rfl⟩ | ⟨i,vb,rfl,rfl,hB⟩
   · show wpAny (model prog w) A.in1 (updateSeq S (fun _=>#[v,v]) >>= _) _ _ _
     refine wB (wpAny_updateSeq g' rfl ?_)
     rw [nm]
     refine wpAny_pure ⟨plainId_quiet F.plain_min_loop _,ih 1 _ _ _ (by omega) (by omega) (W.frame _ _ _ st' fun b hf o e=>?_) (.inr ⟨0,v,rfl,rfl,hP⟩) (Heap.get?_update_self _ g' rfl) fun v' h2 tk2 hv k2=>hR v' h2 tk2 hv fun b o hw hne e=>?_⟩
     · exact (Heap.get?_update_other _ _ (fun z:S=b=>hS (z ▸ hf))).trans e
     · exact k2 b o hw hne ((Heap.get?_update_other _ _ (Ne.symm hne)).trans (kk b o hw e))
   · show wpAny (model prog w) A.in1 (tryCatch (holding [v,v] (richCompare .Lt v vb >>= _)) _ >>= _) _ _ _
     refine wB (wpAny_tryCatch (wpAny_holding (wB (hc (i+1) (argBest bt i) v vb _ _ _ hP hB ?_))))
     refine wB (wpAny_holding (wpAny_truthy_bool (wB (wpAny_letGo (wpAny_pure ?_)))))
     cases hx:bt (i+1) (argBest bt i) with
     | true =>
       simp only [if_true]
       refine wB (wpAny_updateSeq g' rfl (wB (wpAny_letGo ?_)))
       rw [nm]
       refine wpAny_pure ⟨plainId_quiet F.plain_min_loop _,ih (i+2) _ _ _ (by omega) (by omega) (W.frame _ _ _ st' fun b hf o e=>?_) (.inr ⟨i+1,v,rfl,rfl,by simp only [argBest,hx,if_true]; exact hP⟩) (Heap.get?_update_self _ g' rfl) fun v' h2 tk2 hv k2=>hR v' h2 tk2 hv fun b o hw hne e=>?_⟩
       · exact (Heap.get?_update_other _ _ (fun z:S=b=>hS (z ▸ hf))).trans e
       · exact k2 b o hw hne ((Heap.get?_update_other _ _ (Ne.symm hne)).trans (kk b o hw e))
     | false =>
       simp only [Bool.false_eq_true,if_false]
       refine wB (wpAny_letGo ?_)
       rw [nm]
       exact wpAny_pure ⟨plainId_quiet F.plain_min_loop _,ih (i+2) _ _ _ (by omega) (by omega) st' (.inr ⟨i+1,vb,rfl,rfl,by simp only [argBest,hx,Bool.false_eq_true,if_false]; exact hB⟩) g' fun v' h2 tk2 hv k2=>hR v' h2 tk2 hv fun b o hw hne e=>k2 b o hw hne (kk b o hw e)⟩
end
section
variable {prog:Program}{w:World}{A:Around}{E:Value→Shared→Prop}{s:Shared}
theorem be6 (a d:Value):argsOk "min" ⟨[a],[("default",d)]⟩:=by unfold argsOk; kernel_rfl
theorem be7 (d:Value):Builtin.Builtins.bindParams "min" ["key","default"] 0 ⟨[],[("default",d)]⟩=pure [none,some d]:=by
 unfold Builtin.Builtins.bindParams
 simp [List.lookup]
 rfl
theorem be8 {l:Addr}{xs:Array (Int×Tok)}{d:Value}{Q:Value→Shared→Prop}(hh:A.handled=none) (hl:s.heap.IsList l (intItems xs))
 (h:∀ v h' tk,((xs.size=0∧v=d)∨(0<xs.size∧(intItems xs)[argBest (fun i j=>decide (numAt xs i<numAt xs j)) (xs.size - 1)]?=some v))→(∀ b o,s.heap.get? b=some o→h'.get? b=some o)→Q v { s with heap:=h',toks:=tk }) :
 wpAny (model prog w) A (call (.builtin "min") [.ref l] [("default",d)]) Q E s:=by
 have nm:(toString "min"++toString ".loop":String)="min.loop":=by decide
 refine wpAny_call (codeAny_call_builtin F.plain_min F.entry_min ?_)
 simp only [checkBuiltinCall,F.kind_min]
 have go:wpAny (model prog w) A.in1 (Builtin.«min» ⟨[.ref l],[("default",d)]⟩) (fun fin s'=>match fin with
  | .done f=>(match (Except.ok f:Result) with | .ok (.ret v)=>Q v s' | .ok _=>False | .error e=>E e s')
  | .again c'=>c'.quiet=true∧codeAny (model prog w) A c' (fun r s'=>match r with | .ok (.ret v)=>Q v s' | .ok _=>False | .error e=>E e s') s') E s:=by
  show wpAny _ A.in1 (Builtin.Builtins.bindParams "min" ["key","default"] 0 ⟨[],[("default",d)]⟩ >>= _) _ _ s
  refine wB (wpAny_of_eq (show Builtin.Builtins.bindParams "min" ["key","default"] 0 ⟨[],[("default",d)]⟩=pure [none,some d] from be7 d) (wB (wpAny_pure (wB (iter_intList hl fun s₂ e st hfp hlI=>?_)))))
  subst e
  refine wB (wpAny_newObj_type ?_)
  rw [nm]
  refine wpAny_pure ⟨plainId_quiet F.plain_min_loop _,be5 (Walks.list (A:=A.in1) hh _ l hlI (intItems xs)) _ (CmpOf.ints_lt (numAt xs) (fun _ _=>intItems_at)) _ (fun hm=>Nat.lt_irrefl _ (hfp _ hm)) d _ 0 _ _ _ rfl (Nat.zero_le _) ?_ (.inl ⟨rfl,rfl⟩) (Heap.get?_push_size _ rfl) fun v h' tk hv kk=>?_⟩
  · exact (Walks.list (prog:=prog) (w:=w) (A:=A.in1) hh _ l hlI (intItems xs)).frame _ _ _ st fun b _ o e=>gP _ e
  · refine h v h' tk (by simpa [intItems] using hv) (old_kept fun b o hw e=>kk b o hw (Nat.ne_of_lt (Heap.lt_size e)) (gP _ e))
 cases hsig:Manifest.signature? "min" with
 | none=>exact wpAny_pure go
 | some sig =>
   have ha:Bind.checkArgs "min" sig ⟨[.ref l],[("default",d)]⟩=pure ():=by simpa only [argsOk,hsig] using be6 (.ref l) d
   simp only [ha]
   exact wpAny_pure go
end
def tMinD (K:W.Frag) (t tk:TA):TE:=fun σ H Q=>t σ H fun vs H1=>tk σ H1 fun zs H2=>∃ (a:Addr) (ns:List Int) (z:V),vs=[.ref a]∧zs=[z]∧SqL K H2 a (ns.map V.int)∧(ns=[]→Q z H2)∧∀ M,M∈ns→(∀ a∈ns,M≤a)→Q (.int M) H2
section
variable {X:Cx}{e d:Expr}{t tk:TA}{p kp pos:Pos}
theorem bu3 (K:W.Frag) (hc:X.calm=true) (hK:X.K=K) (hg:Gl X "min") (hm:X.mg "min"=none) (hv:bootBuiltins "min"=some (.builtin "min")) (ha:PA X [e] t) (hk:PK X [⟨some "default",d,kp⟩] tk)
 (he:starEach [e] X.env=(false,eval e X.env)::starEach [] X.env:=by rfl):PE X (.Call (.Name "min" p) [e] [⟨some "default",d,kp⟩] pos) (tMinD K t tk):=by
 subst hK
 intro pins s σ H Q I h
 refine wpAny_Call_Name_kw (af8 I hg hm hv ?_ (by decide) (by decide))
 refine PyProof.Rows.callWith_kw (thn (ha pos pins s σ H _ I h) fun us s1 ⟨vs,H1,I1,r1,q1⟩=>thn (hk pos pins s1 σ H1 _ I1 q1) fun ws s2 ⟨zs,H2,I2,r2,a,ns,z,e1,e2,hS,q0,q2⟩=>?_) (by rw [he]; rfl) (by rw [he]; rfl)
 subst e1 e2
 obtain ⟨u,rfl,ru⟩:=ai9 r1
 obtain ⟨u',rfl,ru'⟩:=ai9 r2
 cases ru
 obtain ⟨its,v1,p1,_⟩:=I2.list hS
 have hi:=al9 v1
 obtain ⟨ys,e⟩:=hi.allInts.items
 have hn:=nums_intItems (xs:=ys)
 rw [← e,show its.toArray.toList=its from rfl,hi.numsOf] at hn
 have hl:ns.length=ys.size:=by rw [hn]; simp
 refine be8 (xs:=ys) (I2.ok.hd hc) (e ▸ p1.isList) fun v h' tk hv hk=>?_
 rcases hv with ⟨h0,rfl⟩ | ⟨hp,hv⟩
 · exact ⟨z,H2,I2.kept hk,ru',q0 (List.length_eq_zero_iff.mp (hl.trans h0))⟩
 · obtain ⟨t,rfl⟩:=intItems_at hv
   obtain ⟨h1,h2⟩:=argBest_lt (numAt ys) (ys.size - 1)
   refine ⟨.int _,H2,I2.kept hk,⟨t,rfl⟩,q2 _ ?_ fun b hb=>?_⟩
   · rw [hn,numAt_eq]
     exact getD_mem (by rw [gL,Array.length_toList]; omega)
   · rw [hn] at hb
     obtain ⟨j,hj,rfl⟩:=mem_getD hb
     rw [gL,Array.length_toList] at hj
     rw [← numAt_eq]
     exact h2 j (by omega)
theorem c74 {K:W.Frag}{H:Hp}{Q:VK}{a:Addr}{ns:List Int}{z:V}(h1:SqL K H a (ns.map V.int)) (h2:ns=[]→Q z H) (h3:∀ M,M∈ns→(∀ a∈ns,M≤a)→Q (.int M) H) :
 ∃ (a':Addr) (ns:List Int) (z':V),[V.ref a]=[.ref a']∧[z]=[z']∧SqL K H a' (ns.map V.int)∧(ns=[]→Q z' H)∧∀ M,M∈ns→(∀ a∈ns,M≤a)→Q (.int M) H:=⟨a,ns,z,rfl,rfl,h1,h2,h3⟩
end
def c75:List V→Hp→VK→Prop:=fun xs H Q=>∃ a b:Int,xs=[.int a,.int b]∧Q (.int (max a b)) H
section
variable {X:Cx}
theorem b72 (hh:X.calm=true:=by rfl):CallR X (.builtin "max") c75:=by
 intro pins s σ H xs us Q I r h
 obtain ⟨a,b,rfl,q⟩:=h
 obtain ⟨u,v,rfl,⟨t1,rfl⟩,⟨t2,rfl⟩⟩:=b96 r
 refine max_two_ints (I.ok.hd hh) fun h' tk hk=>?_
 have I1:Inv X pins σ H { s with heap:=h',toks:=tk }:=I.kept hk
 by_cases c:b > a
 · rw [if_pos c]
   exact ⟨.int b,H,I1,⟨_,rfl⟩,by rw [show max a b=b by omega] at q; exact q⟩
 · rw [if_neg c]
   exact ⟨.int a,H,I1,⟨_,rfl⟩,by rw [show max a b=a by omega] at q; exact q⟩
theorem c76 {H:Hp}{Q:VK}{a b:Int}(h:Q (.int (max a b)) H):c75 [.int a,.int b] H Q:=⟨a,b,rfl,h⟩
end
mutual
def toW:Tr→Tw
 | .non=>.sc .non
 | .int i=>.sc (.int i)
 | .str s=>.sc (.str s)
 | .tup ts=>.tup (toWs ts)
 | .lst ts=>.lst (toWs ts)
def toWs:List Tr→List Tw
 | []=>[]
 | t::ts=>toW t::toWs ts
end
mutual
theorem c77 {H:Hp}:∀ {t:Tr}{v:V}{fs:List Addr},t.At H v fs→(toW t).At H v fs
 | .non,v,fs,h=>by
   simp only [Tr.At] at h
   simp only [toW,Tw.At]
   exact ⟨h.1,True.intro,h.2⟩
 | .int i,v,fs,h=>by
   simp only [Tr.At] at h
   simp only [toW,Tw.At]
   exact ⟨h.1,True.intro,h.2⟩
 | .str s,v,fs,h=>by
   simp only [Tr.At] at h
   simp only [toW,Tw.At]
   exact ⟨h.1,True.intro,h.2⟩
 | .tup ts,v,fs,h=>by
   simp only [Tr.At] at h
   simp only [toW,Tw.At]
   obtain ⟨a,vs,e,g,r⟩:=h
   exact ⟨a,vs,e,g,ap9 r⟩
 | .lst ts,v,fs,h=>by
   simp only [Tr.At] at h
   simp only [toW,Tw.At]
   obtain ⟨a,vs,gs,e,g,r,f⟩:=h
   exact ⟨a,vs,gs,e,g,ap9 r,f⟩
theorem ap9 {H:Hp}:∀ {ts:List Tr}{vs:List V}{fs:List Addr},Tr.Ats H ts vs fs→Tw.Ats H (toWs ts) vs fs
 | [],vs,fs,h=>by
   simp only [Tr.Ats] at h
   simp only [toWs,Tw.Ats]
   exact h
 | t::ts,vs,fs,h=>by
   simp only [Tr.Ats] at h
   simp only [toWs,Tw.Ats]
   obtain ⟨v,ws,f,g,e1,e2,a,b⟩:=h
   exact ⟨v,ws,f,g,e1,e2,c77 a,ap9 b⟩
end
mutual
theorem cc8:∀ t:Tr,(toW t).h=t.h
 | .non=>by simp [toW,Tw.h,Tr.h]
 | .int _=>by simp [toW,Tw.h,Tr.h]
 | .str _=>by simp [toW,Tw.h,Tr.h]
 | .tup ts=>by simp [toW,Tw.h,Tr.h,au4 ts]
 | .lst ts=>by simp [toW,Tw.h,Tr.h,au4 ts]
theorem au4:∀ ts:List Tr,Tw.hs (toWs ts)=Tr.hs ts
 | []=>by simp [toWs,Tw.hs,Tr.hs]
 | t::ts=>by simp [toWs,Tw.hs,Tr.hs,cc8 t,au4 ts]
end
end L2
namespace L2
section
variable {α:Type}{n many:Nat}{w:Nat→Nat→Nat}{lab:Nat→α}
def Apart (lab:Nat→α) (w:Nat→Nat→Nat):Nat→Nat→List Nat→Prop
 | a,b,[]=>lab a≠lab b
 | a,b,j::v=>Apart lab w (w a j) (w b j) v
def ApartR (lab:Nat→α) (w:Nat→Nat→Nat) (many a b:Nat):Prop:=∃ v,Evs many v∧Apart lab w a b v
theorem ApartR.cons {a b j:Nat}(hj:j<many) (h:ApartR lab w many (w a j) (w b j)):ApartR lab w many a b:=by
 obtain ⟨v,h1,h2⟩:=h
 exact ⟨j::v,ac6 hj h1,h2⟩
structure Grp (lab:Nat→α) (w:Nat→Nat→Nat) (n many:Nat) (g:Nat→Nat) (T:Nat→Prop):Prop where
 same:∀ a b,a<n→b<n→g a=g b→lab a=lab b
 led:∀ a b,a<n→b<n→g a=g b→¬ T a→¬ T b→∀ j,j<many→g (w a j)=g (w b j)
 apart:∀ a b,a<n→b<n→g a≠g b→ApartR lab w many a b
theorem Grp.part {g g':Nat→Nat}{T T':Nat→Prop}{G:Nat}(h:Grp lab w n many g T) (hw:∀ a j,a<n→j<many→w a j<n)
 (h1:∀ a,a<n→g a≠G→g' a=g a) (h2:∀ a b,a<n→b<n→g a=G→g b=G→(g' a=g' b↔∀ j,j<many→g (w a j)=g (w b j))) (h3:∀ a b,a<n→b<n→g a=G→g b≠G→g' a≠g' b)
 (h4:∀ a,a<n→(T a∧g a≠G)∨(∃ j,j<many∧g' (w a j)≠g (w a j))→T' a):Grp lab w n many g' T':=by
 have fin:∀ a b,a<n→b<n→g' a=g' b→g a=g b:=fun a b ha hb e=>by
  by_cases ea:g a=G
  · by_cases eb:g b=G
    · rw [ea,eb]
    · exact absurd e (h3 a b ha hb ea eb)
  · by_cases eb:g b=G
    · exact absurd e.symm (h3 b a hb ha eb ea)
    · rw [← h1 a ha ea,←h1 b hb eb,e]
 refine ⟨fun a b ha hb e=>h.same a b ha hb (fin a b ha hb e),fun a b ha hb e ta tb j hj=>?_,fun a b ha hb e=>?_⟩
 · have na:g' (w a j)=g (w a j):=Classical.not_not.mp fun z=>ta (h4 a ha (.inr ⟨j,hj,z⟩))
   have nb:g' (w b j)=g (w b j):=Classical.not_not.mp fun z=>tb (h4 b hb (.inr ⟨j,hj,z⟩))
   rw [na,nb]
   have eg:=fin a b ha hb e
   by_cases ea:g a=G
   · exact (h2 a b ha hb ea (eg ▸ ea)).mp e j hj
   · exact h.led a b ha hb eg (fun z=>ta (h4 a ha (.inl ⟨z,ea⟩))) (fun z=>tb (h4 b hb (.inl ⟨z,fun y=>ea (eg.trans y)⟩))) j hj
 · by_cases eg:g a=g b
   · have ea:g a=G:=Classical.not_not.mp fun z=>e (by rw [h1 a ha z,h1 b hb (fun y=>z (eg.trans y)),eg])
     have:¬ ∀ j,j<many→g (w a j)=g (w b j):=fun z=>e ((h2 a b ha hb ea (eg ▸ ea)).mpr z)
     obtain ⟨j,hj⟩:=Classical.not_forall.mp this
     obtain ⟨hj,hne⟩:=Classical.not_imp.mp hj
     exact ApartR.cons hj (h.apart _ _ (hw a j ha hj) (hw b j hb hj) hne)
   · exact h.apart a b ha hb eg
theorem Grp.done {g:Nat→Nat}{T:Nat→Prop}(h:Grp lab w n many g T) (hw:∀ a j,a<n→j<many→w a j<n) (hT:∀ a,a<n→¬ T a) {a b:Nat}(ha:a<n) (hb:b<n):g a=g b↔¬ ApartR lab w many a b:=by
 constructor
 · rintro e ⟨v,h1,h2⟩
   induction v generalizing a b with
   | nil=>exact h2 (h.same a b ha hb e)
   | cons j v ih =>
     have hj:=h1 j List.mem_cons_self
     exact ih (hw a j ha hj) (hw b j hb hj) (h.led a b ha hb e (hT a ha) (hT b hb) j hj) (fun i hi=>h1 i (List.mem_cons_of_mem _ hi)) h2
 · intro z
   exact Classical.not_not.mp fun e=>z (h.apart a b ha hb e)
end
section
variable {rs:List RRoom}{many:Nat}
def labR (rs:List RRoom) (many x:Nat):Bool×List (List PySem.Str):=((roomA rs x).1,(List.range many).map fun j=>(rowA rs x j).1)
def wayR (rs:List RRoom) (x j:Nat):Nat:=(rowA rs x j).2
theorem bu4 {x y:Nat}(h:labR rs many x≠labR rs many y):(roomA rs x).1≠(roomA rs y).1∨∃ j,j<many∧(rowA rs x j).1≠(rowA rs y j).1:=by
 by_cases e:(roomA rs x).1=(roomA rs y).1
 · refine .inr (Classical.not_not.mp fun z=>h ?_)
   refine Prod.ext e (List.map_congr_left fun j hj=>Classical.not_not.mp fun z'=>z ⟨j,List.mem_range.mp hj,z'⟩)
 · exact .inl e
theorem ay1 {x y:Nat}(h:labR rs many x=labR rs many y):(roomA rs x).1=(roomA rs y).1∧∀ j,j<many→(rowA rs x j).1=(rowA rs y j).1:=by
 have e1:(labR rs many x).1=(labR rs many y).1:=by rw [h]
 refine ⟨e1,fun j hj=>?_⟩
 have e:(List.range many).map (fun j=>(rowA rs x j).1)=(List.range many).map (fun j=>(rowA rs y j).1):=congrArg Prod.snd h
 have:=List.map_inj_left.mp e j (List.mem_range.mpr hj)
 exact this
theorem ak1:∀ {v:List Nat}{x y:Nat},Evs many v→Apart (labR rs many) (wayR rs) x y v→∃ u,Evs many u∧Parts rs (x,y) u
 | [],x,y,_,h=>by
   rcases bu4 h with h | ⟨j,hj,h⟩
   · exact ⟨[],fun _ z=>absurd z (by simp),h⟩
   · exact ⟨[j],ac6 hj (fun _ z=>absurd z (by simp)),.inl h⟩
 | j::v,x,y,h1,h=>by
   obtain ⟨u,a,b⟩:=ak1 (fun i hi=>h1 i (List.mem_cons_of_mem _ hi)) h
   exact ⟨j::u,ac6 (h1 j List.mem_cons_self) a,.inr b⟩
theorem ak2:∀ {u:List Nat}{x y:Nat},Evs many u→Parts rs (x,y) u→ApartR (labR rs many) (wayR rs) many x y
 | [],x,y,_,h=>⟨[],fun _ z=>absurd z (by simp),fun z=>h (ay1 z).1⟩
 | j::u,x,y,h1,h=>by
   have hj:=h1 j List.mem_cons_self
   rcases h with h | h
   · exact ⟨[],fun _ z=>absurd z (by simp),fun z=>h ((ay1 z).2 j hj)⟩
   · exact ApartR.cons hj (ak2 (fun i hi=>h1 i (List.mem_cons_of_mem _ hi)) h)
theorem be9 {x y:Nat}:ApartR (labR rs many) (wayR rs) many x y↔∃ u,Evs many u∧Parts rs (x,y) u :=
 ⟨fun ⟨_,h1,h2⟩=>ak1 h1 h2,fun ⟨_,h1,h2⟩=>ak2 h1 h2⟩
theorem ak3 {α:Type}{lab lab':Nat→α}{w w':Nat→Nat→Nat}{n:Nat}(f:Nat→Nat) (hl:∀ a,a<n→lab' a=lab (f a)) (hw:∀ a j,a<n→j<many→w' a j<n∧f (w' a j)=w (f a) j):∀ {v:List Nat}{a b:Nat},a<n→b<n→Evs many v→(Apart lab' w' a b v↔Apart lab w (f a) (f b) v)
 | [],a,b,ha,hb,_=>by
   show lab' a≠lab' b↔lab (f a)≠lab (f b)
   rw [hl a ha,hl b hb]
 | j::v,a,b,ha,hb,h=>by
   have hj:=h j List.mem_cons_self
   show Apart lab' w' (w' a j) (w' b j) v↔Apart lab w (w (f a) j) (w (f b) j) v
   rw [← (hw a j ha hj).2,←(hw b j hb hj).2]
   exact ak3 f hl hw (hw a j ha hj).1 (hw b j hb hj).1 fun i hi=>h i (List.mem_cons_of_mem _ hi)
end
end L2
namespace L2
open PySem PySem.Spec PyProof.Rows
def Old (h₀ h:Heap):Prop:=∀ b o,h₀.get? b=some o→h.get? b=some o
theorem Old.upd {h₀ h:Heap}{a:Addr}{f:Obj→Obj}(k:Old h₀ h) (n:h₀.get? a=none):Old h₀ (h.update a f):=fun b o e=>(Heap.get?_update_other _ _ (fun z:a=b=>by rw [z,e] at n; cases n)).trans (k b o e)
theorem Old.push {h₀ h:Heap}{o':Obj}(k:Old h₀ h):Old h₀ (h.push o'):=fun b o e=>gP _ (k b o e)
section
variable {prog:Program}{w:World}{A:Around}{E:Value→Shared→Prop}{s:Shared}{h₀:Heap}{a kS:Addr}{vs:List Value}{kz:List Int}{keys:Array Value}{e e1:Nat}{P:PySem.Fin→Shared→Prop}
theorem bf0 {st:SortSt}(old:Old h₀ s.heap) (nk:s.heap.get? kS=some (seqObj "list" keys e)) (na:s.heap.get? a=some (seqObj "list" #[] e1)) (fk:h₀.get? kS=none) (fa:h₀.get? a=none) (ne:kS≠a) (hk:IntsAre keys.toList kz) (hz:kz.length=vs.length) (h64:vs.length<64)
 (hp:(arrOf st).Perm (keys.zip vs.toArray)) (hs:SortedTo (arrOf st) (arrOf st).size) (hf:failedOf st=none) (h:∀ h' tk out c,Old h₀ h'→h'.get? a=some (seqObj "list" out c)→KskOut false kz vs out.toList→P (.done (.ret .none)) { s with heap:=h',toks:=tk }) :
 wpAny (model prog w) A (ksk_tail a false e1 (.ref kS) st) P E s:=by
 have z1:keys.size=vs.length:=by have:=hk.length; rw [Array.length_toList] at this; omega
 have z2:((arrOf st).map (·.2)).size=vs.length:=by rw [Array.size_map,hp.size_eq,Array.size_zip,z1,List.size_toArray,Nat.min_self]
 have z3:(1000:Nat)≤sizeLine:=le_line (by decide)
 have na1:(s.heap.update kS (Obj.mapSeq fun _=>(#[]:Array Value))).get? a=some (seqObj "list" #[] e1):=(Heap.get?_update_other _ _ ne).trans na
 unfold ksk_tail
 simp only [Bool.false_eq_true,if_false]
 refine wB (listUpdate_at nk rfl (wB (wpAny_letGo (wB (seqEpoch_at na1 rfl (wB (listUpdate_at na1 rfl ?_ (Nat.zero_le _) (by rw [z2]; omega))))))) (by rw [z1]; omega) (Nat.zero_le _))
 rw [hf]
 simp only [Bool.false_eq_true,bne_self_eq_false,if_false]
 exact wpAny_pure (h _ _ _ _ ((old.upd fk).upd fa) (get?_update_seq na1 fun _=>(arrOf st).map (·.2)) (ksk_out (b:=false) hk hp hs))
theorem c78 (old:Old h₀ s.heap) (nk:s.heap.get? kS=some (seqObj "list" keys e)) (na:s.heap.get? a=some (seqObj "list" #[] e1)) (fk:h₀.get? kS=none) (fa:h₀.get? a=none) (ne:kS≠a) (hk:IntsAre keys.toList kz) (hz:kz.length=vs.length) (h64:vs.length<64)
 (h:∀ h' tk out c,Old h₀ h'→h'.get? a=some (seqObj "list" out c)→KskOut false kz vs out.toList→P (.done (.ret .none)) { s with heap:=h',toks:=tk }) :
 wpAny (model prog w) A (ksk_end a false vs.toArray e1 (.ref kS) keys) P E s:=by
 have z1:keys.size=vs.length:=by have:=hk.length; rw [Array.length_toList] at this; omega
 have z2:(keys.zip vs.toArray).size=vs.length:=by rw [Array.size_zip,z1,List.size_toArray,Nat.min_self]
 unfold ksk_end
 simp only [Bool.false_eq_true,if_false]
 by_cases h2:vs.toArray.size<2
 · rw [if_pos h2,if_pos h2]
   refine wB (wpAny_pure ?_)
   rw [StateT.run_pure]
   refine wB (wpAny_pure (bf0 (st:=SortSt.mk' general' (keys.zip vs.toArray) #[] 7 none) old nk na fk fa ne hk hz h64 (Array.Perm.refl _) (fun i j hij hj=>?_) rfl h))
   have hj2:j<(keys.zip vs.toArray).size:=hj
   rw [List.size_toArray] at h2
   obtain rfl:i=j:=by omega
   exact Int.le_refl _
 · rw [if_neg h2,if_neg h2]
   rw [List.size_toArray] at h2
   rw [ksk_kind hk (by omega)]
   refine wB (wpAny_pure (wB (wpAny_mono (wpS_sortRuns (a₀:=keys.zip vs.toArray) (st:=SortSt.mk' oneType' (keys.zip vs.toArray) #[] 7 none) (Q:=fun _ st'=>(arrOf st').Perm (keys.zip vs.toArray)∧failedOf st'=none∧SortedTo (arrOf st') (keys.zip vs.toArray).size)
    (ksk_intKeys hk) ⟨Array.Perm.refl _,rfl,rfl,rfl⟩ (by omega) (by omega) fun st' a1 a2 a3=>⟨a1,a2,a3⟩) ?_ fun _ _ e=>e)))
   rintro ⟨⟨⟩,st'⟩ s' ⟨rfl,hp,hf,hs⟩
   exact bf0 old nk na fk fa ne hk hz h64 hp (by rw [hp.size_eq]; exact hs) hf h
theorem bu5 {f:Value}(old:Old h₀ s.heap) (nk:s.heap.get? kS=some (seqObj "list" #[] 0)) (na:s.heap.get? a=some (seqObj "list" #[] e1)) (fk:h₀.get? kS=none) (fa:h₀.get? a=none) (ne:kS≠a) (hz:kz.length=vs.length) (h64:vs.length<64)
 (turn:∀ (i:Nat) (v:Value) (k:Int),vs[i]?=some v→kz[i]?=some k→∀ (h:Heap) (tk:Nat),Old h₀ h→wpAny (model prog w) A (call f [v]) (fun u s'=>∃ t tk',u=.int k t∧s'={ s with heap:=h,toks:=tk' }) (fun _ _=>False) { s with heap:=h,toks:=tk })
 (h:∀ h' tk out c,Old h₀ h'→h'.get? a=some (seqObj "list" out c)→KskOut false kz vs out.toList→P (.done (.ret .none)) { s with heap:=h',toks:=tk }) :
 wpAny (model prog w) A (ksk_rest a f false vs.toArray e1 (.ref kS)) P E s:=by
 have z3:(1000:Nat)≤sizeLine:=le_line (by decide)
 unfold ksk_rest
 refine wB (wpAny_rule ?_)
 rw [List.forIn_toArray]
 refine wB (ksk_fold (fun i s'=>∃ h' tk kA e,s'={ s with heap:=h',toks:=tk }∧Old h₀ h'∧h'.get? kS=some (seqObj "list" kA e)∧h'.get? a=some (seqObj "list" #[] e1)∧IntsAre kA.toList (kz.take i)) vs 0 s ⟨s.heap,s.toks,#[],0,rfl,old,nk,na,by simpa using IntsAre.nil⟩ ?_ ?_)
 · rintro j x s' hx ⟨h',tk,kA,e,rfl,o',nk',na',hk⟩
   simp only [Nat.zero_add] at hk ⊢
   have hj:j<vs.length:=(gS hx).1
   obtain ⟨k,hkj⟩:∃ k,kz[j]?=some k:=⟨_,gE (by omega)⟩
   have z1:kA.size≤vs.length:=by have:=hk.length; rw [Array.length_toList,List.length_take] at this; omega
   refine wB (wpAny_attempt (wpAny_mono (turn j x k hx hkj h' tk o') (fun v s'' he=>?_) fun _ _ hF=>hF.elim))
   obtain ⟨t,tk2,rfl,rfl⟩:=he
   dsimp only
   refine wB (listUpdate_at nk' rfl (wpAny_pure ⟨rfl,_,_,kA.push (.int k t),_,rfl,o'.upd fk,get?_update_seq nk' (·.push (.int k t)),(Heap.get?_update_other _ _ ne).trans na',?_⟩) (by omega) (by rw [Array.size_push]; omega))
   rw [show kz.take (j+1)=kz.take j++[k] by rw [List.take_add_one,hkj]; simp,Array.toList_push]
   exact ksk_snoc hk
 · rintro s' ⟨h',tk,kA,e,rfl,o',nk',na',hk⟩
   rw [show kz.take (0+vs.length)=kz from List.take_of_length_le (by omega)] at hk
   exact wB (listItems_at nk' rfl (c78 o' nk' na' fk fa ne hk hz h64 h))
end
section
variable {prog:Program}{w:World}{A:Around}{E:Value→Shared→Prop}{s:Shared}{h₀:Heap}{a l:Addr}{vs:List Value}{kz:List Int}{P:PySem.Fin→Shared→Prop}
theorem bu6 {f:Value}{n:Nat}(old:Old h₀ s.heap) (ho:s.heap.get? a=some (seqObj "list" vs.toArray n)) (fa:h₀.get? a=none) (hb:h₀.objs.size≤s.heap.objs.size) (hz:kz.length=vs.length) (h64:vs.length<64)
 (turn:∀ (i:Nat) (v:Value) (k:Int),vs[i]?=some v→kz[i]?=some k→∀ (h:Heap) (tk:Nat),Old h₀ h→wpAny (model prog w) A (call f [v]) (fun u s'=>∃ t tk',u=.int k t∧s'={ s with heap:=h,toks:=tk' }) (fun _ _=>False) { s with heap:=h,toks:=tk })
 (h:∀ h' tk out c,Old h₀ h'→h'.get? a=some (seqObj "list" out c)→KskOut false kz vs out.toList→P (.done (.ret .none)) { s with heap:=h',toks:=tk }) :
 wpAny (model prog w) A (ksk_tree a f false) P E s:=by
 have z3:(1000:Nat)≤sizeLine:=le_line (by decide)
 have ha:a<s.heap.objs.size:=Heap.lt_size ho
 obtain ⟨e1,ho1⟩:∃ e1,(s.heap.update a (Obj.mapSeq fun _=>(#[]:Array Value))).get? a=some (seqObj "list" #[] e1):=⟨_,get?_update_seq ho fun _=>#[]⟩
 have zk:((s.heap.update a (Obj.mapSeq fun _=>(#[]:Array Value))).push (seqObj "tuple" vs.toArray 0)).objs.size=s.heap.objs.size+1:=by rw [size_push',Heap.size_update]
 unfold ksk_tree
 refine wB (listItems_at ho rfl (wB (listUpdate_at ho rfl (wB (seqEpoch_at ho1 rfl (wB (wpAny_newTuple (wB (wpAny_newList (wpAny_holding ?_) (Nat.zero_le _))) (by show vs.length≤_; omega))))) (by rw [List.size_toArray]; omega) (Nat.zero_le _))))
 exact bu5 (s:={ s with heap:=((s.heap.update a (Obj.mapSeq fun _=>(#[]:Array Value))).push (seqObj "tuple" vs.toArray 0)).push (seqObj "list" #[] 0) }) (old.upd fa).push.push (Heap.get?_push_size _ rfl) (gP _ (gP _ ho1)) (Heap.get?_none_of_le (by rw [zk]; omega)) fa (by rw [zk]; exact Nat.ne_of_gt (Nat.lt_succ_of_lt ha)) hz h64 turn h
theorem bf1 {f:Value}{kw:List (Str×Value)}{Q:Value→Shared→Prop}(hl:s.heap.IsList l vs.toArray) (hz:kz.length=vs.length) (h64:vs.length<64) (ha1:argsOk "sorted" ⟨[.ref l],kw⟩) (ha2:∀ x,argsOk "list.sort" ⟨[.ref x],kw⟩) (ht:∀ x,Builtin.«list.sort» ⟨[.ref x],kw⟩=ksk_tree x f false)
 (turn:∀ (i:Nat) (v:Value) (k:Int),vs[i]?=some v→kz[i]?=some k→∀ (h:Heap) (tk:Nat),Old s.heap h→wpAny (model prog w) A.in1.in1 (call f [v]) (fun u s'=>∃ t tk',u=.int k t∧s'={ s with heap:=h,toks:=tk' }) (fun _ _=>False) { s with heap:=h,toks:=tk })
 (h:∀ h' tk out c,Old s.heap h'→h'.get? (s.heap.objs.size+1)=some (seqObj "list" out c)→KskOut false kz vs out.toList→Q (.ref (s.heap.objs.size+1)) { s with heap:=h',toks:=tk }) :
 wpAny (model prog w) A (call (.builtin "sorted") [.ref l] kw) Q E s:=by
 have z3:(1000:Nat)≤sizeLine:=le_line (by decide)
 refine call_function_entry_kw kind_sorted plain_sorted entry_sorted ha1 ?_
 unfold Builtin.«sorted»
 refine wB (m:=checkCount "sorted" 1 1 _) (wpAny_pure (wB (collect_list hl (wB (wpAny_newList ?_ (by omega))) (by omega))))
 have zs:((s.heap.push (seqObj "list" #[] 0)).update s.heap.objs.size (Obj.mapSeq (·++vs.toArray))).objs.size=s.heap.objs.size+1:=by rw [Heap.size_update,size_push']
 have hoL:(((s.heap.push (seqObj "list" #[] 0)).update s.heap.objs.size (Obj.mapSeq (·++vs.toArray))).push (seqObj "list" vs.toArray 0)).get? (s.heap.objs.size+1)=some (seqObj "list" vs.toArray 0):=zs ▸ Heap.get?_push_size _ rfl
 have old:Old s.heap (((s.heap.push (seqObj "list" #[] 0)).update s.heap.objs.size (Obj.mapSeq (·++vs.toArray))).push (seqObj "list" vs.toArray 0)):=((show Old s.heap (s.heap.push (seqObj "list" #[] 0)) from fun b o e=>gP _ e).upd (Heap.get?_none_of_le (Nat.le_refl _))).push
 show wpAny (model prog w) A.in1 _ _ E { s with heap:=((s.heap.push (seqObj "list" #[] 0)).update s.heap.objs.size (Obj.mapSeq (·++vs.toArray))).push (seqObj "list" vs.toArray 0) }
 rw [zs]
 refine wB (wpAny_holding (wpAny_call_entry_kw slot_list_sort ⟨_,hoL,rfl⟩ entry_list_sort ?_ (ha2 _)))
 show wpAny (model prog w) A.in1.in1 (Builtin.«list.sort» ⟨[.ref (s.heap.objs.size+1)],kw⟩) _ E _
 rw [ht (s.heap.objs.size+1)]
 refine bu6 (s:={ s with heap:=((s.heap.push (seqObj "list" #[] 0)).update s.heap.objs.size (Obj.mapSeq (·++vs.toArray))).push (seqObj "list" vs.toArray 0) }) old hoL (Heap.get?_none_of_le (Nat.le_succ _)) (by rw [size_push',zs]; omega) hz h64 turn fun h' tk out c o' e' k'=>⟨_,rfl,?_⟩
 exact wpAny_pure ⟨_,rfl,h h' tk out c o' e' k'⟩
end
theorem bf2 {α β:Type}{g:α→β}{ps qs:List β}(h:ps.Perm qs):∀ {ls:List α},ls.map g=qs→∃ ms:List α,ms.Perm ls∧ms.map g=ps:=by
 induction h with
 | nil =>
   intro ls e
   obtain rfl:=List.map_eq_nil_iff.mp e
   exact ⟨[],.nil,rfl⟩
 | cons x _ ih =>
   intro ls e
   obtain ⟨a,ls',rfl,rfl,e2⟩:=List.map_eq_cons_iff.mp e
   obtain ⟨ms,h1,h2⟩:=ih e2
   exact ⟨a::ms,h1.cons a,by rw [List.map_cons,h2]⟩
 | swap x y l =>
   intro ls e
   obtain ⟨a,ls',rfl,rfl,e2⟩:=List.map_eq_cons_iff.mp e
   obtain ⟨b,ls2,rfl,rfl,e3⟩:=List.map_eq_cons_iff.mp e2
   exact ⟨b::a::ls2,.swap a b ls2,by simp [e3]⟩
 | trans _ _ ih1 ih2 =>
   intro ls e
   obtain ⟨ms,h1,h2⟩:=ih2 e
   obtain ⟨ns,h3,h4⟩:=ih1 h2
   exact ⟨ns,h3.trans h1,h4⟩
theorem au5:∀ {ls:List (Addr×List V)}{its:List Value},Vals (ls.map fun x=>V.ref x.1) its→its=ls.map fun x=>Value.ref x.1
 | [],its,h=>by cases h; rfl
 | x::ls,its,h=>by
   cases h with
   | cons r1 r2 =>
     cases r1
     rw [au5 r2]
     rfl
theorem valsR:∀ (ls:List (Addr×List V)),Vals (ls.map fun x=>V.ref x.1) (ls.map fun x=>Value.ref x.1)
 | []=>.nil
 | x::ls=>.cons rfl (valsR ls)
def tSortLen (K:W.Frag) (t:TA):TE:=fun σ H Q=>t σ H fun xs H1=>∃ (a:Addr) (ls:List (Addr×List V)),xs=[.ref a]∧SqL K H1 a (ls.map fun x=>V.ref x.1)∧(∀ x∈ls,H1 x.1=some (.lst x.2))∧ls.length<64 ∧
 ∀ (p:Addr) (ms:List (Addr×List V)) (H':Hp),H1 p=none→Same H1 H'→H' p=some (.lst (ms.map fun x=>V.ref x.1))→ms.Perm ls→ms.Pairwise (fun x y=>x.2.length≤y.2.length)→Q (.ref p) H'
section
variable {X:Cx}{e:Expr}{t:TA}{p p2 kp pos:Pos}
theorem b73 (K:W.Frag) (hK:X.K=K) (hg:Gl X "sorted") (hm:X.mg "sorted"=none) (hv:bootBuiltins "sorted"=some (.builtin "sorted")) (hg2:Gl X "len") (hm2:X.mg "len"=none) (hv2:bootBuiltins "len"=some (.builtin "len")) (ha:PA X [e] t)
 (he:starEach [e] X.env=(false,eval e X.env)::starEach [] X.env:=by rfl):PE X (.Call (.Name "sorted" p) [e] [⟨some "key",.Name "len" p2,kp⟩] pos) (tSortLen K t):=by
 subst hK
 intro pins s σ H Q I h
 refine wpAny_Call_Name_kw (af8 I hg hm hv ?_ (by decide) (by decide))
 refine PyProof.Rows.callWith_kw (thn (ha pos pins s σ H _ I h) fun us s1 ⟨vs,H1,I1,r1,a,ls,e1,hS,hls,h64,q⟩=>kws_cons (af8 I1 hg2 hm2 hv2 (kws_nil ?_) (by decide) (by decide))) (by rw [he]; rfl) (by rw [he]; rfl)
 subst e1
 obtain ⟨u,rfl,ru⟩:=ai9 r1
 cases ru
 obtain ⟨its,v1,p1,_⟩:=I1.list hS
 obtain rfl:=au5 v1
 refine bf1 (f:=.builtin "len") (kz:=ls.map fun x=>(x.2.length:Int)) (vs:=ls.map fun x=>Value.ref x.1) p1.isList (by simp) (by simpa using h64) (ksk_s1 _ _) (fun x=>ksk_l1 _ _) (fun x=>ksk_t4 _ _) ?_ ?_
 · intro i v k hv hk hp tk old
   rw [gM] at hv hk
   obtain ⟨x,hx,rfl⟩:=gO hv
   rw [hx] at hk
   cases hk
   obtain ⟨xs,w1,w2,w3⟩:=I1.list (SqL.of (hls x (gI hx)))
   have hl:xs.length=x.2.length:=w1.length.symm
   obtain ⟨o,g1,g2,n,g3⟩:=w2.isList
   refine Calls.call_len_list (items:=xs.toArray) ⟨o,old _ _ g1,g2,n,g3⟩ ?_ ⟨tk+1,_,by rw [List.size_toArray,hl],rfl⟩
   have:=sizeLine_eq
   simp only [List.size_toArray]
   omega
 · rintro h' tk out c old e' ⟨ps,hp,ho,hpw⟩
   have ez:(ls.map fun x=>(x.2.length:Int)).zip (ls.map fun x=>Value.ref x.1)=ls.map fun x=>((x.2.length:Int),Value.ref x.1):=by
    rw [List.zip_map']
   rw [ez] at hp
   obtain ⟨ms,m1,rfl⟩:=bf2 hp rfl
   have hf:=I1.hok.fresh (Nat.le_succ s1.heap.objs.size)
   have hml:ms.length<64:=by rw [m1.length_eq]; exact h64
   refine ⟨.ref (s1.heap.objs.size+1),upd H1 (s1.heap.objs.size+1) (.lst (ms.map fun x=>V.ref x.1)),I1.laid (t':=tk) old (Nat.le_succ _) ⟨by simp; have:=sizeLine_eq; omega,out.toList,c,?_,by rw [Array.toArray_toList]; exact e'⟩,rfl,q _ ms _ hf (Same.new hf) a28 m1 ?_⟩
   · rw [ho,List.map_map]
     exact valsR ms
   · rw [List.pairwise_map] at hpw
     exact hpw.imp fun h=>by simpa using h
end
mutual
def Tr.AtB (H:Hp):Tr→V→Prop
 | .non,v=>v=.non
 | .int z,v=>v=.int z∨∃ b:Bool,v=.bl b∧z=(if b=true then 1 else 0)
 | .str x,v=>v=.str x
 | .tup ts,v=>∃ a vs,v=.ref a∧H a=some (.tup vs)∧Tr.AtsB H ts vs
 | .lst _,_=>False
def Tr.AtsB (H:Hp):List Tr→List V→Prop
 | [],vs=>vs=[]
 | t::ts,vs=>∃ v r,vs=v::r∧Tr.AtB H t v∧Tr.AtsB H ts r
end
mutual
theorem Tr.AtB.tups {H H':Hp}(k:Tups H H'):∀ {t:Tr}{v:V},t.AtB H v→t.AtB H' v
 | .non,v,h=>h
 | .int z,v,h=>h
 | .str x,v,h=>h
 | .lst _,v,h=>h
 | .tup ts,v,h=>by
   simp only [Tr.AtB] at h ⊢
   obtain ⟨a,vs,h1,h2,h3⟩:=h
   exact ⟨a,vs,h1,k _ _ h2,Tr.AtsB.tups k h3⟩
theorem Tr.AtsB.tups {H H':Hp}(k:Tups H H'):∀ {ts:List Tr}{vs:List V},Tr.AtsB H ts vs→Tr.AtsB H' ts vs
 | [],vs,h=>h
 | t::ts,vs,h=>by
   simp only [Tr.AtsB] at h ⊢
   obtain ⟨v,r,h1,h2,h3⟩:=h
   exact ⟨v,r,h1,h2.tups k,Tr.AtsB.tups k h3⟩
end
theorem Tr.AtsB.snoc {H:Hp}:∀ {ts:List Tr}{vs:List V}{t:Tr}{v:V},Tr.AtsB H ts vs→t.AtB H v→Tr.AtsB H (ts++[t]) (vs++[v])
 | [],vs,t,v,h,h'=>by
   simp only [Tr.AtsB] at h
   subst h
   exact ⟨v,[],rfl,h',rfl⟩
 | x::ts,vs,t,v,h,h'=>by
   simp only [Tr.AtsB,List.cons_append] at h ⊢
   obtain ⟨y,r,rfl,h2,h3⟩:=h
   exact ⟨y,_,rfl,h2,h3.snoc h'⟩
theorem Tr.AtsB.get {H:Hp}:∀ {ts:List Tr}{vs:List V},Tr.AtsB H ts vs→∀ (i:Nat) (v:V),vs[i]?=some v→∃ t,ts[i]?=some t∧t.AtB H v
 | [],vs,h,i,v,e=>by
   simp only [Tr.AtsB] at h
   subst h
   simp at e
 | t::ts,vs,h,i,v,e=>by
   simp only [Tr.AtsB] at h
   obtain ⟨y,r,rfl,h2,h3⟩:=h
   cases i with
   | zero =>
     simp at e
     subst e
     exact ⟨t,rfl,h2⟩
   | succ i =>
     obtain ⟨t',a,b⟩:=h3.get i v (by simpa using e)
     exact ⟨t',by simpa using a,b⟩
theorem Tr.AtsB.len {H:Hp}:∀ {ts:List Tr}{vs:List V},Tr.AtsB H ts vs→vs.length=ts.length
 | [],vs,h=>by
   simp only [Tr.AtsB] at h
   subst h
   rfl
 | t::ts,vs,h=>by
   simp only [Tr.AtsB] at h
   obtain ⟨y,r,rfl,h2,h3⟩:=h
   simp [h3.len]
section
variable {X:Cx}{pins:List (Addr×Obj)}{σ:St} {H:Hp}{s:Shared}
mutual
theorem Tr.AtB.isIn (I:Inv X pins σ H s):∀ {t:Tr}{v:V}{u:Value},t.AtB H v→RelV v u→Tr.In s.heap t u
 | .non,v,u,h,r=>by
   simp only [Tr.AtB] at h
   subst h
   cases r
   exact rfl
 | .int z,v,u,h,r=>by
   simp only [Tr.AtB] at h
   rcases h with rfl | ⟨b,rfl,hb⟩
   · obtain ⟨t,rfl⟩:=r
     exact .inl ⟨t,rfl⟩
   · cases r
     exact .inr ⟨b,rfl,hb⟩
 | .str z,v,u,h,r=>by
   simp only [Tr.AtB] at h
   subst h
   obtain ⟨t,rfl⟩:=r
   exact ⟨t,rfl⟩
 | .lst _,v,u,h,r=>by simp only [Tr.AtB] at h
 | .tup ts,v,u,h,r=>by
   simp only [Tr.AtB] at h
   obtain ⟨a,vs,rfl,e1,c1⟩:=h
   cases r
   obtain ⟨is1,q1,p1,_⟩:=I.tuple (SqT.of e1)
   simp only [Tr.In]
   exact ⟨a,is1.toArray,rfl,p1,by simpa using Tr.AtsB.isIns I c1 q1⟩
theorem Tr.AtsB.isIns (I:Inv X pins σ H s):∀ {ts:List Tr}{vs:List V}{us:List Value},Tr.AtsB H ts vs→Vals vs us→Tr.Ins s.heap ts us
 | [],vs,us,c,q=>by
   simp only [Tr.AtsB] at c
   subst c
   cases q
   exact rfl
 | t::ts,vs,us,c,q=>by
   simp only [Tr.AtsB] at c
   obtain ⟨v,vs,rfl,a1,b1⟩:=c
   cases q with
   | cons r1 r2 =>
     simp only [Tr.Ins]
     exact ⟨_,_,rfl,Tr.AtB.isIn I a1 r1,Tr.AtsB.isIns I b1 r2⟩
end
end
def TKB (H:Hp) (t:Tr) (y:V):Prop:=t.AtB H y∧t.h≤8
def DbAt (P:Params) (H:Hp) (a:Addr) (kvs:List (Tr×V)):Prop:=∃ m:List (Tr×V×V),m.map (fun x=>(x.1,x.2.2))=kvs∧DtE P H a m∧(∀ x∈m,TKB H x.1 x.2.1)∧(m.map (·.1)).Nodup
theorem DbAt.of0 {P:Params}{H:Hp}{a:Addr}(x:DtAt P H a []):DbAt P H a []:=by
 obtain ⟨m,e1,e2,e3,e4⟩:=x
 obtain rfl:m=[]:=by simpa using e1
 exact ⟨[],rfl,e2,fun x hx=>absurd hx (by simp),e4⟩
def tBGet (P:Params) (td ty:TE):TE:=fun σ H Q=>td σ H fun x H1=>ty σ H1 fun y H2=>∃ a kvs t v,x=.ref a∧DbAt P H2 a kvs∧TKB H2 t y∧valV kvs t=some v∧Q v H2
def tBSetD (P:Params) (td ty tx:TE):TE:=fun σ H Q=>td σ H fun x H1=>∃ a kvs,x=.ref a∧DbAt P H1 a kvs∧ty σ H1 fun y H2=>tx σ H2 fun z H3=>∃ kvs' t,DbAt P H3 a kvs'∧TKB H3 t y∧kvs'.length<sizeLine ∧
 (∀ v,valV kvs' t=some v→Q v H3)∧(valV kvs' t=none→∀ o,DbAt P (upd H3 a o) a (kvs'++[(t,z)])→Q z (upd H3 a o))
section
variable {X:Cx}{pins:List (Addr×Obj)}{σ:St} {H:Hp}{s:Shared}{a:Addr}{t:Tr}{y v z:V}{u r:Value}{A:Around}{E:Value→Shared→Prop}{kvs:List (Tr×V)}{m:List (Tr×V×V)}
theorem ay2 (I:Inv X pins σ H s) (e2:DtE X.w.params H a m) (e3:∀ x∈m,TKB H x.1 x.2.1) (e4:(m.map (·.1)).Nodup) :
 ∃ o es ep,s.heap.get? a=some o∧o.ExactDict∧o.data=.dict es ep∧DtR X.w.params m es∧Ents X.w.params s.heap es (m.map (·.1))∧m.length≤sizeLine∧(a == sysModules)=false:=by
 obtain ⟨φ,e2,hφ⟩:=e2
 obtain ⟨z1,z2,o,es,ep,q1,q2,q3,q4⟩:=hφ _ (I.hok a _ e2).1
 refine ⟨o,es,ep,q1,q2,q3,q4,⟨by rw [q4.len,gL],fun j e he=>?_,e4⟩,z1,z2⟩
 have hj:j<m.length:=by rw [← q4.len]; exact (Array.getElem?_eq_some_iff.mp he).1
 obtain ⟨e',f1,f2,f3,f4⟩:=q4.at_ j m[j] (gE hj)
 rw [he] at f1
 cases f1
 have:=e3 m[j] (List.getElem_mem hj)
 exact ⟨m[j].1,by rw [gM,gE hj]; rfl,f2,this.1.isIn I f3,this.2⟩
theorem c79 {Q:Option Value→Shared→Prop}(hu:A.units+16<cLine) (I:Inv X pins σ H s) (g:DbAt X.w.params H a kvs) (hk:TKB H t y) (ry:RelV y u) (h:∀ o s',Inv X pins σ H s'→RelO (valV kvs t) o→Q o s') :
 wpAny (model X.prog X.w) A (dictGet a u) Q E s:=by
 obtain ⟨m,rfl,e2,e3,e4⟩:=g
 obtain ⟨o,es,ep,q1,q2,q3,q4,q5,_⟩:=ay2 I e2 e3 e4
 have hin:=hk.1.isIn I ry
 unfold dictGet
 try (with_reducible refine wpAny_holding ?_)
 refine wB (hin.pyHash (by have:=hk.2; omega) fun n=>wB (aj7 (s:={ s with toks:=n }) q1 q3 q5 hin hk.2 hu (fun hn=>?_) fun j hj=>?_))
 · refine wpAny_pure (h _ _ (I.tok _) ?_)
   rw [(ad3 hn).1]
   exact True.intro
 · rw [gM] at hj
   obtain ⟨x,hx,rfl⟩:=gO hj
   obtain ⟨en,f1,f2,f3,f4⟩:=q4.at_ j x hx
   refine wB (wpAny_dictEntries (s:={ s with toks:=n }) q1 q3 ?_)
   rw [f1]
   refine wpAny_pure (h _ _ (I.tok _) ?_)
   rw [ag3 e4 hx]
   exact f4
theorem au6 (I:Inv X pins σ H s) (g:DbAt X.w.params H a kvs):∃ es ep,RawD s.heap a es ep∧(a == sysModules)=false∧es.size=kvs.length∧kvs.length≤sizeLine:=by
 obtain ⟨m,rfl,e2,e3,e4⟩:=g
 obtain ⟨o,es,ep,q1,q2,q3,q4,q5,z1,z2⟩:=ay2 I e2 e3 e4
 exact ⟨es,ep,⟨o,q1,q2,q3⟩,z2,by rw [q4.len,gL],by rw [gL]; exact z1⟩
theorem b74 {Q:Value→Shared→Prop}(hu:A.units+20<cLine) (I:Inv X pins σ H s) (g:DbAt X.w.params H a kvs) (hk:TKB H t y) (ry:RelV y u) (hv:valV kvs t=some v) (h:∀ w' s',Inv X pins σ H s'→RelV v w'→Q w' s') :
 wpAny (model X.prog X.w) A (getItem (.ref a) u) Q E s:=by
 obtain ⟨_,_,x,_,_,_⟩:=au6 I g
 have T:=x.ty
 unfold getItem
 try (with_reducible refine wpAny_holding ?_)
 refine wB (wpAny_sequenceKey T (by decide) (wB (wpAny_callSpecial?_slot (name:=Str.ofString "__getitem__") T slot_dict_getitem (wpAny_call_entry slot_dict_getitem T entry_dict_getitem ?_ (args_dict_getitem _ _)))))
 show wpAny _ A.in1 (dictGet a u >>= _) _ _ s
 refine wB (c79 (by rw [a53]; omega) I g hk ry fun o s' I' ro=>?_)
 rw [hv] at ro
 obtain ⟨w',rfl,rw'⟩:=ro.some_of
 exact wpAny_pure ⟨w',rfl,wpAny_pure (h w' s' I' rw')⟩
theorem bf3 {Q:Value→Shared→Prop}(hu:A.units+20<cLine) (I:Inv X pins σ H s) (e2:DtE X.w.params H a m) (e3:∀ x∈m,TKB H x.1 x.2.1) (e4:(m.map (·.1)).Nodup) (hz:m.length<sizeLine)
 (hk:TKB H t y) (ry:RelV y u) (rz:RelV z r) (h1:∀ v w' s',valV (m.map fun x=>(x.1,x.2.2)) t=some v→Inv X pins σ H s'→RelV v w'→Q w' s')
 (h2:∀ s',valV (m.map fun x=>(x.1,x.2.2)) t=none→Inv X pins σ (upd H a (DtO X.w.params a (m++[(t,y,z)]))) s'→Q r s') :
 wpAny (model X.prog X.w) A (call (.builtin "dict.setdefault") [.ref a,u,r]) Q E s:=by
 obtain ⟨_,_,x,lo,_,_⟩:=au6 I ⟨m,rfl,e2,e3,e4⟩
 obtain ⟨o,es,ep,q1,q2,q3,q4,q5,z1,z2⟩:=ay2 I e2 e3 e4
 have hin:=hk.1.isIn I ry
 refine wpAny_call_entry PySem.F.slot_dict_setdefault x.ty PySem.F.entry_dict_setdefault ?_ (PySem.F.args_dict_setdefault_3 _ _ _)
 unfold Builtin.«dict.setdefault»
 refine wB ?_
 unfold Builtin.Dict.keyAndDefault
 refine wB (wpAny_notOrdered_dict x.ty ?_)
 refine (show wpAny _ _ (pure (a,u,some r)) _ _ s from wpAny_pure ?_)
 show wpAny _ A.in1 (if (a == sysModules)=true then _ else (dictSetDefault a u r >>= _)) _ _ s
 rw [if_neg (by rw [lo]; simp)]
 refine wB ?_
 unfold dictSetDefault
 try (with_reducible refine wpAny_holding ?_)
 refine wB (hin.pyHash (by have:=hk.2; rw [a53]; omega) fun n=>?_)
 refine wB (aj7 (s:={ s with toks:=n }) q1 q3 q5 hin hk.2 (by rw [a53]; omega) (fun hn=>?_) fun j hj=>?_)
 · refine wB (wpAny_rule (wB (wpAny_updateDictKeys (s:={ s with toks:=n }) q1 q3 (wpAny_pure (wpAny_pure ⟨r,rfl,h2 _ (ad3 hn).1 (af1 (I.tok n) e2.mut (Heap.SameBut.update ..) ?_ (am5 ⟨by simp; omega,z2,_,_,ep+1,Heap.get?_update_self _ q1 (Obj.isFreed_of_dict (Obj.data_mapDictKeys q3 _)),q2.mapDictKeys _,Obj.data_mapDictKeys q3 _,?_⟩))⟩)) (by rw [q4.len]; omega))))
   · exact ⟨_,Heap.get?_update_self _ q1 (Obj.isFreed_of_dict (Obj.data_mapDictKeys q3 _))⟩
   · exact ap5 q4 rfl ry rz
 · rw [gM] at hj
   obtain ⟨p,hp,rfl⟩:=gO hj
   obtain ⟨en,f1,f2,f3,f4⟩:=q4.at_ j p hp
   refine wB (wpAny_dictEntries (s:={ s with toks:=n }) q1 q3 ?_)
   rw [f1]
   exact wB (wpAny_rule (wpAny_pure (wpAny_pure ⟨_,rfl,h1 _ _ _ (ag3 e4 hp) (I.tok _) f4⟩)))
end
section
variable {X:Cx}{o i e f value:Expr}{pos pos' apos cpos:Pos}{td ty tv tx:TE}{P:Params}
theorem bu7 (hP:X.w.params=P) (hu:X.A.units+64<cLine) (ho:PE X o td) (hi:PE X i ty) (hs:NoSl i):PE X (.Subscript o i pos) (tBGet P td ty):=by
 subst hP
 intro pins s σ H Q I h
 refine aw8 PySem.F.slot_dict_getitem.lookup hs (thn (ho pins s σ H _ I h) fun u s1 ⟨x,H1,I1,rx,q1⟩=>thn (hi pins s1 σ H1 _ I1 q1) fun iv s2 ⟨y,H2,I2,ry,a,kvs,t,v,ex,g,hk,hv,q2⟩=>?_)
 subst ex
 obtain rfl:u=Value.ref a:=rx
 obtain ⟨_,_,x,_⟩:=au6 I2 g
 exact ⟨x.ty,b74 (by omega) I2 g hk ry hv fun w' s3 I3 rw'=>⟨v,H2,I3,rw',q2⟩⟩
theorem bm1 (hP:X.w.params=P) (hu:X.A.units+64<cLine) (ho:PE X o td) (he:PE X e ty) (hf:PE X f tx) (m:M2 X o "setdefault" apos e f cpos):PE X (.Call (.Attribute o "setdefault" apos) [e,f] [] cpos) (tBSetD P td ty tx):=by
 subst hP
 intro pins s σ H Q I h
 refine wpAny_Call_method m.base m.few m.line PySem.F.plainAttrs_dict PySem.F.slot_dict_setdefault PySem.F.type_dict_setdefault (thn (ho pins s σ H _ I h) fun u s1 ⟨x,H1,I1,rx,a,kvs,ex,g1,q1⟩=>?_)
 subst ex
 obtain rfl:u=Value.ref a:=rx
 obtain ⟨es,ep,x,_⟩:=au6 I1 g1
 refine ⟨x.ty,(fun b q=>by cases q; obtain ⟨ob,h1,h2,_⟩:=x; exact ⟨ob,h1,h2.2.1⟩),?_⟩
 rw [m.trees]
 refine Calls.callWith_builtin rfl (Calls.evalArgs_plain (Calls.spliced_cons (thn (he pins s1 σ H1 _ I1 q1) fun iv s2 ⟨y,H2,I2,ry,q2⟩=>Calls.spliced_cons (thn (hf pins s2 σ H2 _ I2 q2) fun fv s3 ⟨z,H3,I3,rz,kvs',t,g,hk,hz,n1,n2⟩=>Calls.spliced_nil ?_))))
 obtain ⟨mm,rfl,e2,e3,e4⟩:=g
 rw [gL] at hz
 refine bf3 (by omega) I3 e2 e3 e4 hz hk ry rz (fun v w' s' hv I' rv=>⟨v,H3,I',rv,n1 v hv⟩) fun s' hv I'=>⟨z,_,I',rz,n2 hv _ ?_⟩
 obtain ⟨φ,e2',_⟩:=e2
 have tu:∀ {ob:HO},Tups H3 (upd H3 a ob):=fun {ob}=>ag4 e2'
 have hnot:t∉mm.map (·.1):=fun hz=>by
  obtain ⟨x,hx,rfl⟩:=List.mem_map.mp hz
  obtain ⟨j,hj,rfl⟩:=List.mem_iff_getElem.mp hx
  rw [ag3 e4 (gE hj)] at hv
  cases hv
 refine ⟨mm++[(t,y,z)],by simp,.of a28,fun x hx=>?_,?_⟩
 · rcases gA hx with hx | hx
   · exact ⟨(e3 x hx).1.tups tu,(e3 x hx).2⟩
   · rw [gG hx]
     exact ⟨hk.1.tups tu,hk.2⟩
 · rw [List.map_append]
   exact aa8 e4 hnot
end
def rLenB (P:Params):List V→Hp→VK→Prop:=fun vs H Q=>∃ a kvs,vs=[V.ref a]∧DbAt P H a kvs∧Q (.int (kvs.length:Nat)) H
theorem bu8 {X:Cx}{P:Params}(hP:X.w.params=P):CallR X (.builtin "len") (rLenB P):=by
 subst hP
 intro pins s σ H xs us Q I r h
 obtain ⟨a,kvs,rfl,g,q⟩:=h
 obtain ⟨es,ep,x,z2,hsz,z1⟩:=au6 I g
 cases r with
 | cons r1 r2 =>
 cases r2
 cases r1
 refine bt8 z2 x (by rw [hsz]; rw [sizeLine_eq] at z1; omega) ?_
 rw [hsz]
 exact ⟨.int (kvs.length:Nat),H,I.tok _,⟨_,rfl⟩,q⟩
section
variable {P:Params}{σ:St} {H:Hp}{Q:VK}{td ty tx tv:TE}
theorem c80 (h:td σ H fun x H1=>ty σ H1 fun y H2=>∃ a kvs t v,x=.ref a∧DbAt P H2 a kvs∧TKB H2 t y∧valV kvs t=some v∧Q v H2):tBGet P td ty σ H Q:=h
theorem bu9 (h:td σ H fun x H1=>∃ a kvs,x=.ref a∧DbAt P H1 a kvs∧ty σ H1 fun y H2=>tx σ H2 fun z H3=>∃ kvs' t,DbAt P H3 a kvs'∧TKB H3 t y∧kvs'.length<sizeLine ∧
 (∀ v,valV kvs' t=some v→Q v H3)∧(valV kvs' t=none→∀ o,DbAt P (upd H3 a o) a (kvs'++[(t,z)])→Q z (upd H3 a o))):tBSetD P td ty tx σ H Q:=h
end
theorem cc9 {k:Key}{u:Value}(h:keyIs k u=true):RelV (kV k) u:=by
 cases k with
 | inl i=>cases u <;> simp [keyIs,Value.isInt] at h <;> exact ⟨_,by rw [h]⟩
 | inr x=>cases u <;> simp [keyIs,Value.isStrOf,Value.isStr] at h <;> exact ⟨_,by rw [h]⟩
theorem b33 {prog:Program}{w:World}:∀ {es:List DictEntry}{vs:List (Key×Value)},Pairs (mixKind prog w) es vs→es.length=vs.length∧∀ (j:Nat) (x:Key×Value),vs[j]?=some x→∃ e,es[j]?=some e∧RelV (kV x.1) e.key
 | _,_,.nil=>⟨rfl,fun j x h=>by simp at h⟩
 | _,_,.cons (e:=e) h1 h2 h3=>by
   obtain ⟨a,b⟩:=b33 h3
   refine ⟨by simp [a],fun j x hx=>?_⟩
   cases j with
   | zero =>
     simp at hx
     subst hx
     exact ⟨e,rfl,cc9 h1⟩
   | succ j =>
     obtain ⟨e',q1,q2⟩:=b j x (by simpa using hx)
     exact ⟨e',by simpa using q1,q2⟩
def frkP (a:Addr) (o:Obj):Heap→Prop:=fun h=>h.get? a=some o
def Itk (a:Addr) (ks:List Key) (o:Obj):It :=
 ⟨fun i H=>H a=some (.ext (frkP a o))∧i<ks.length,fun i H x H'=>H'=H∧∃ k,ks[i]?=some k∧x=kV k,fun i H=>H a=some (.ext (frkP a o))∧ks.length≤i⟩
theorem bv0 {Pr:Program}{w:World}{K:W.Frag}{tg:Expr}{a it:Addr}{ks:List Key}{o:Obj}{es:Array DictEntry}{ep:Nat}(hx:o.ExactDict) (hd:o.data=.dict es ep) (hl:es.size=ks.length) (hr:∀ (j:Nat) (k:Key),ks[j]?=some k→∃ e,es[j]?=some e∧RelV (kV k) e.key) :
 Turn Pr w K tg (Itk a ks o) [it] it (fun i h=>h.IsKeyIter it a i es.size ep) where
 mem:=by simp
 obj:=fun i h st b hb=>by
  have e:b=it:=by simpa using hb
  subst e
  obtain ⟨o,e,c,d⟩:=st
  exact ⟨o,e,fun v z=>by rw [d] at z; cases z⟩
 keep:=fun i h h' st k=>st.at fun o e=>k it (by simp) o e
 item:=by
  intro X hP hw hK hc i pins s σ H E I hf st hg
  subst hP hw hK
  have hD:RawD s.heap a es ep:=⟨o,(I.hok a _ hg.1).1,hx,hd⟩
  have hk:ks[i]?=some (ks[i]'hg.2):=gE hg.2
  obtain ⟨e,he,rk⟩:=hr i _ hk
  obtain ⟨f0,f1,f2,f3,f4,f5⟩:=hf it (by simp)
  refine bl1 st hD he fun h' st' sb=>?_
  have I1:Inv X pins σ H { s with heap:=h' }:=I.turned (t':=s.toks) (fun b o hb e=>(sb.2 b hb).trans e) f0 f1 f3 f4 f5
  obtain ⟨oi,e',c,d⟩:=id st'
  exact ⟨_,rfl,bp8 (s:={ s with heap:=h' }) e' c d (by decide) ⟨kV (ks[i]'hg.2),H,I1,rk,⟨rfl,_,hk,rfl⟩,st',fun b hb=>(hf b hb).1⟩⟩
 done:=by
  intro X hP hw hK hc i pins s σ H E I hf st hg
  subst hP hw hK
  have hD:RawD s.heap a es ep:=⟨o,(I.hok a _ hg.1).1,hx,hd⟩
  obtain ⟨f0,f1,f2,f3,f4,f5⟩:=hf it (by simp)
  exact bt0 (I.ok.hd hc) st hD (by rw [hl]; exact hg.2) fun h' eb=>⟨rfl,I.turned (t':=s.toks) (fun b o hb e=>eb b o hb e) f0 f1 f3 f4 f5⟩
 self:=fun _ _ _ _ _ st h=>wpAny_pyIter_keyiter st h
def iDk (tl:TE):TI:=fun σ H R=>tl σ H fun x H1=>∃ a kvs,x=.ref a∧H1 a=some (.dK kvs)∧∀ o H',H'=upd H1 a (.ext (frkP a o))→R (Itk a (kvs.map (·.1)) o) H'
theorem ce0 {X:Cx}{tg l:Expr}{tl:TE}(hl:PE X l tl):PI X tg l (iDk tl):=by
 intro pins s σ H R I h
 refine thn (hl pins s σ H _ I h) fun v s1 ⟨x,H1,I1,r1,q1⟩=>?_
 obtain ⟨a,kvs,rfl,e2,q⟩:=q1
 cases r1
 obtain ⟨z1,z2,vs,rel,o,es,ep,g1,g2,g3,g4,g5,g6⟩:=br1 I1.hok e2
 obtain ⟨l1,l2⟩:=b33 g5
 have hkeys:=KV.keys rel
 have mu:Mut (H1 a):=by rw [e2]; exact True.intro
 have nw:ObjOk X.prog X.w (upd H1 a (.ext (frkP a o))) s1.heap a (.ext (frkP a o)):=⟨g1,⟨o,g1⟩,fun h1 h2 x k=>k _ x⟩
 have I2:Inv X pins σ (upd H1 a (.ext (frkP a o))) s1:=I1.write (h':=s1.heap) (t':=s1.toks) (x:=a) (e:=a) mu (.inl rfl) (fun b u _ e=>e) ⟨o,g1⟩ nw
 refine bl0 z2 ⟨o,g1,g2,g3⟩ ?_
 refine ⟨s1.heap.objs.size,[s1.heap.objs.size],_,_,_,rfl,I2.kept (t':=s1.toks) fun b o e=>gP _ e,bv0 (a:=a) (ks:=kvs.map (·.1)) g2 g3 ?_ ?_,⟨_,Heap.get?_push_size _ rfl,rfl,rfl⟩,fun b hb=>?_,q o _ rfl⟩
 · rw [hkeys,gL,←l1,Array.length_toList]
 · intro j k hk
   rw [hkeys,gM] at hk
   obtain ⟨x,hx,rfl⟩:=gO hk
   obtain ⟨e,f1,f2⟩:=l2 j x hx
   exact ⟨e,by rw [Array.getElem?_toList] at f1; exact f1,f2⟩
 · have e:b=s1.heap.objs.size:=by simpa using hb
   subst e
   exact I2.fpOk (Nat.le_refl _) (I2.hok.fresh (Nat.le_refl _))
theorem i_dk {tl:TE}{σ:St} {H:Hp}{R:It→Hp→Prop}(h:tl σ H fun x H1=>∃ a kvs,x=.ref a∧H1 a=some (.dK kvs)∧∀ o H',H'=upd H1 a (.ext (frkP a o))→R (Itk a (kvs.map (·.1)) o) H'):iDk tl σ H R:=h
theorem c81 {a:Addr}{ks:List Key}{o:Obj}{g:TG}{tb:TS}{D:Ends}{σ:St} {H:Hp}(Pv:Nat→St→Hp→Prop) (h0:Pv 0 σ H) (hl:∀ i σ H,i≤ks.length→Pv i σ H→H a=some (.ext (frkP a o)))
 (hs:∀ i k σ H,ks[i]?=some k→Pv i σ H→g (kV k) σ H fun σ1 H1=>tb { D with nx:=Pv (i+1),ct:=Pv (i+1),bk:=D.nx } σ1 H1) (hd:∀ σ H,Pv ks.length σ H→D.nx σ H):ForEnd (Itk a ks o) g tb D σ H:=by
 refine ⟨fun i k σ H=>k=ks.length - i∧i≤ks.length∧Pv i σ H,⟨ks.length,by simp,Nat.zero_le _,h0⟩,?_⟩
 rintro i k σ' H' ⟨rfl,hi,p⟩
 have hq:=hl i σ' H' hi p
 by_cases hlt:i<ks.length
 · refine .inr ⟨⟨hq,hlt⟩,Pv (i+1),fun σ2 H2 p'=>⟨ks.length - (i+1),by omega,rfl,hlt,p'⟩,fun v H2 y=>?_⟩
   obtain ⟨rfl,x,hx,rfl⟩:=y
   exact hs i x σ' _ hx p
 · have e:i=ks.length:=by omega
   subst e
   exact .inl ⟨⟨hq,Nat.le_refl _⟩,hd σ' H' p⟩
def rLenD:List V→Hp→VK→Prop:=fun vs H Q=>∃ a kvs,vs=[V.ref a]∧H a=some (.dK kvs)∧Q (.int (kvs.length:Nat)) H
theorem bv1 {X:Cx}:CallR X (.builtin "len") rLenD:=by
 intro pins s σ H xs us Q I r h
 obtain ⟨a,kvs,rfl,g,q⟩:=h
 cases r with
 | cons r1 r2 =>
 cases r2
 cases r1
 exact ca1 I (.inl g) fun t s' I'=>⟨.int (kvs.length:Nat),H,I',⟨_,rfl⟩,q⟩
def met1 {α:Type} [DecidableEq α] (acc:List α) (x:α):List α:=if x∈acc then acc else acc++[x]
def mets {α:Type} [DecidableEq α] (l:List α):List α:=l.foldl met1 []
theorem a86 {α:Type} [DecidableEq α] (l:List α) (x:α):mets (l++[x])=met1 (mets l) x:=by
 unfold mets
 rw [List.foldl_append]
 rfl
theorem bm2 {α:Type} [DecidableEq α] {acc:List α}{x y:α}:x∈met1 acc y↔x∈acc∨x=y:=by
 unfold met1
 split
 · next h =>
   constructor
   · exact .inl
   · rintro (h' | rfl)
     · exact h'
     · exact h
 · simp
theorem b34 {α:Type} [DecidableEq α] (x:α):∀ (l acc:List α),x∈l.foldl met1 acc↔x∈acc∨x∈l
 | [],acc=>by simp
 | y::l,acc=>by
   rw [List.foldl_cons,b34 x l,bm2,List.mem_cons,or_assoc]
theorem a45 {α:Type} [DecidableEq α] (x:α) (l:List α):x∈mets l↔x∈l:=by
 unfold mets
 rw [b34]
 simp
theorem bv2 {α:Type} [DecidableEq α] {acc:List α}{y:α}(ha:acc.Nodup):(met1 acc y).Nodup:=by
 unfold met1
 split
 · exact ha
 · next h =>
   refine List.nodup_append.mpr ⟨ha,by simp,fun a hm b hb z=>?_⟩
   rw [gG hb] at z
   exact h (z ▸ hm)
theorem bf4 {α:Type} [DecidableEq α]:∀ (l acc:List α),acc.Nodup→(l.foldl met1 acc).Nodup
 | [],acc,h=>h
 | y::l,acc,h=>bf4 l _ (bv2 h)
theorem aq0 {α:Type} [DecidableEq α] (l:List α):(mets l).Nodup:=bf4 l [] (by simp)
theorem b35 {α:Type} [DecidableEq α]:∀ (l acc:List α),(l.foldl met1 acc).length≤acc.length+l.length
 | [],acc=>by simp
 | y::l,acc=>by
   have h:=b35 l (met1 acc y)
   have h2:(met1 acc y).length≤acc.length+1:=by
    unfold met1
    split <;> simp
   rw [List.foldl_cons,List.length_cons]
   omega
theorem ae1 {α:Type} [DecidableEq α] (l:List α):(mets l).length≤l.length:=by
 have:=b35 l []
 simpa [mets] using this
def numF {α:Type}(f:α→Tr):List α→Nat→List (Tr×V)
 | [],_=>[]
 | x::l,n=>(f x,.int (n:Nat))::numF f l (n+1)
def numd {α:Type}(f:α→Tr) (l:List α):List (Tr×V):=numF f l 0
theorem aq1 {α:Type}(f:α→Tr):∀ (l:List α) (n:Nat),(numF f l n).length=l.length
 | [],_=>rfl
 | _::l,n=>by simp [numF,aq1 f l]
theorem au7 {α:Type}(f:α→Tr) (x:α):∀ (l:List α) (n:Nat),numF f (l++[x]) n=numF f l n++[(f x,.int ((n+l.length:Nat):Int))]
 | [],n=>rfl
 | y::l,n=>by
   show (f y,V.int (n:Nat))::numF f (l++[x]) (n+1)=_
   rw [au7 f x l (n+1),show n+1+l.length=n+(y::l).length by simp; omega]
   rfl
theorem b36 {α:Type}{f:α→Tr}(hf:∀ a b,f a=f b→a=b):∀ (l:List α) (n:Nat),l.Nodup→∀ (x:α) (i:Nat),l[i]?=some x→valV (numF f l n) (f x)=some (.int ((n+i:Nat):Int))
 | [],n,_,x,i,h=>by simp at h
 | y::l,n,hn,x,i,h=>by
   rw [List.nodup_cons] at hn
   unfold valV numF
   rw [List.find?_cons]
   cases i with
   | zero =>
     have e:y=x:=by simpa using h
     subst e
     simp
   | succ i =>
     have h':l[i]?=some x:=by simpa using h
     have hne:f y≠f x:=fun z=>hn.1 (by rw [hf _ _ z]; exact gI h')
     rw [decide_eq_false hne]
     have:=b36 hf l (n+1) hn.2 x i h'
     unfold valV at this
     rw [this,show n+1+i=n+(i+1) by omega]
theorem au8 {α:Type}{f:α→Tr}(hf:∀ a b,f a=f b→a=b) {x:α}:∀ (l:List α) (n:Nat),x∉l→valV (numF f l n) (f x)=none
 | [],n,_=>rfl
 | y::l,n,h=>by
   rw [List.mem_cons,not_or] at h
   unfold valV numF
   rw [List.find?_cons,decide_eq_false (fun z:f y=f x=>h.1 (hf _ _ z).symm)]
   have:=au8 hf l (n+1) h.2
   unfold valV at this
   exact this
theorem b37 {α:Type}{f:α→Tr}(hf:∀ a b,f a=f b→a=b) {l:List α}(hn:l.Nodup) {x:α}{i:Nat}(h:l[i]?=some x):valV (numd f l) (f x)=some (.int (i:Nat)):=by
 have:=b36 hf l 0 hn x i h
 rw [Nat.zero_add] at this
 exact this
theorem bv3 {α:Type}{f:α→Tr}(hf:∀ a b,f a=f b→a=b) {l:List α}(hn:l.Nodup) {x:α}(h:x∈l):∃ i:Nat,l[i]?=some x∧valV (numd f l) (f x)=some (.int (i:Nat)):=by
 obtain ⟨i,hi,rfl⟩:=List.mem_iff_getElem.mp h
 exact ⟨i,gE hi,b37 hf hn (gE hi)⟩
theorem b38 {α:Type} [DecidableEq α]:∀ (l acc:List α),∃ u,l.foldl met1 acc=acc++u
 | [],acc=>⟨[],by simp⟩
 | y::l,acc=>by
   obtain ⟨u,h⟩:=b38 l (met1 acc y)
   rw [List.foldl_cons,h]
   unfold met1
   split
   · exact ⟨u,rfl⟩
   · exact ⟨[y]++u,by simp⟩
theorem bf5 {α:Type} [DecidableEq α] (x:α) (l:List α):(mets (x::l))[0]?=some x:=by
 unfold mets
 rw [List.foldl_cons]
 obtain ⟨u,h⟩:=b38 l (met1 [] x)
 rw [h]
 rfl
def canon {α:Type} [DecidableEq α] (l:List α):List Nat:=l.map fun x=>(mets l).idxOf x
theorem ab9 {α:Type} [DecidableEq α] (l:List α):(canon l).length=l.length:=by simp [canon]
theorem bv4 {α:Type} [DecidableEq α] {l r:List α}{x:α}(h:x∈l):(l++r).idxOf x=l.idxOf x:=by
 rw [List.idxOf_append,if_pos h]
theorem ah5 {α:Type} [DecidableEq α] (l:List α) (x:α):canon (l++[x])=canon l++[if x∈l then (mets l).idxOf x else (mets l).length]:=by
 unfold canon
 rw [List.map_append,a86]
 congr 1
 · refine List.map_congr_left fun y hy=>?_
   unfold met1
   split
   · rfl
   · exact bv4 ((a45 y l).mpr hy)
 · simp only [List.map_cons,List.map_nil,List.cons.injEq,and_true]
   unfold met1
   by_cases h:x∈l
   · rw [if_pos ((a45 x l).mpr h),if_pos h]
   · rw [if_neg (fun z=>h ((a45 x l).mp z)),if_neg h,List.idxOf_append,if_neg (fun z=>h ((a45 x l).mp z))]
     simp
theorem ab5 {α:Type} [DecidableEq α] {l:List α}{i:Nat}{x:α}(h:l[i]?=some x):(canon l)[i]?=some ((mets l).idxOf x):=by
 unfold canon
 rw [gM,h]
 rfl
theorem aq2 {α:Type}{n:Nat}:∀ {l:List α},l.length=n+1→∃ l' x,l=l'++[x]∧l'.length=n:=fun {l} h =>
 ⟨l.dropLast,l.getLast (by intro z; rw [z] at h; simp at h),(List.dropLast_concat_getLast _).symm,by simp; omega⟩
theorem ag5 {α β:Type} [DecidableEq α] [DecidableEq β]:∀ (n:Nat) {l:List α}{r:List β},l.length=n→r.length=n→(∀ i j,i<n→j<n→(l[i]?=l[j]?↔r[i]?=r[j]?))→canon l=canon r∧(mets l).length=(mets r).length
 | 0,l,r,h1,h2,_=>by
   rw [List.length_eq_zero_iff] at h1 h2
   subst h1 h2
   exact ⟨rfl,rfl⟩
 | n+1,l,r,h1,h2,h=>by
   obtain ⟨l,x,rfl,e1⟩:=aq2 h1
   obtain ⟨r,y,rfl,e2⟩:=aq2 h2
   obtain ⟨c1,c2⟩:=ag5 n e1 e2 fun i j hi hj=>by
    have:=h i j (by omega) (by omega)
    rw [List.getElem?_append_left (by omega),List.getElem?_append_left (by omega),List.getElem?_append_left (by omega),List.getElem?_append_left (by omega)] at this
    exact this
   have hx:(l++[x])[n]?=some x:=by rw [List.getElem?_append_right (by omega),e1]; simp
   have hy:(r++[y])[n]?=some y:=by rw [List.getElem?_append_right (by omega),e2]; simp
   have hm:x∈l↔y∈r:=by
    constructor
    · intro z
      obtain ⟨i,hi,e⟩:=List.mem_iff_getElem.mp z
      have:=(h i n (by omega) (by omega)).mp (by rw [hx,List.getElem?_append_left hi,gE hi,e])
      rw [hy,List.getElem?_append_left (by omega)] at this
      exact gI this
    · intro z
      obtain ⟨i,hi,e⟩:=List.mem_iff_getElem.mp z
      have:=(h i n (by omega) (by omega)).mpr (by rw [hy,List.getElem?_append_left hi,gE hi,e])
      rw [hx,List.getElem?_append_left (by omega)] at this
      exact gI this
   rw [ah5,ah5,c1,a86,a86]
   by_cases z:x∈l
   · have zy:=hm.mp z
     obtain ⟨i,hi,e⟩:=List.mem_iff_getElem.mp z
     have ei:l[i]?=some x:=by rw [gE hi,e]
     have er:=(h i n (by omega) (by omega)).mp (by rw [hx,List.getElem?_append_left hi,ei])
     rw [hy,List.getElem?_append_left (by omega)] at er
     have:=ab5 ei
     rw [c1,ab5 er] at this
     rw [if_pos z,if_pos zy,Option.some.inj this]
     unfold met1
     rw [if_pos ((a45 x l).mpr z),if_pos ((a45 y r).mpr zy)]
     exact ⟨rfl,c2⟩
   · have zy:y∉r:=fun q=>z (hm.mpr q)
     rw [if_neg z,if_neg zy,c2]
     unfold met1
     rw [if_neg (fun q=>z ((a45 x l).mp q)),if_neg (fun q=>zy ((a45 y r).mp q))]
     exact ⟨rfl,by simp [c2]⟩
theorem bv5 {α:Type} [DecidableEq α] {l:List α}{x y:α}(hx:x∈l) (hy:y∈l) (h:l.idxOf x=l.idxOf y):x=y:=by
 have a:=List.idxOf_lt_length_of_mem hx
 have b:l[l.idxOf x]=x:=List.getElem_idxOf a
 have c:=List.idxOf_lt_length_of_mem hy
 have d:l[l.idxOf y]=y:=List.getElem_idxOf c
 rw [← b,←d]
 simp only [h]
theorem au9 {α:Type} [DecidableEq α] {l:List α}{i j:Nat}{x y:α}(hi:l[i]?=some x) (hj:l[j]?=some y):(canon l)[i]?=(canon l)[j]?↔x=y:=by
 rw [ab5 hi,ab5 hj]
 constructor
 · intro h
   exact bv5 ((a45 x l).mpr (gI hi)) ((a45 y l).mpr (gI hj)) (Option.some.inj h)
 · rintro rfl
   rfl
theorem aq3 {α:Type} [DecidableEq α] {l:List α}{c:Nat}(h:c∈canon l):c<(mets l).length:=by
 obtain ⟨x,hx,rfl⟩:=List.mem_map.mp h
 exact List.idxOf_lt_length_of_mem ((a45 x l).mpr hx)
theorem ae2 {α:Type} [DecidableEq α]:∀ (n:Nat) {l:List α},l.length=n→mets (canon l)=List.range (mets l).length
 | 0,l,h=>by
   rw [List.length_eq_zero_iff] at h
   subst h
   rfl
 | n+1,l,h=>by
   obtain ⟨l,x,rfl,e1⟩:=aq2 h
   have ih:=ae2 n e1
   rw [ah5,a86,a86,ih]
   by_cases z:x∈l
   · rw [if_pos z]
     unfold met1
     rw [if_pos ((a45 x l).mpr z),if_pos (List.mem_range.mpr (List.idxOf_lt_length_of_mem ((a45 x l).mpr z)))]
   · rw [if_neg z]
     unfold met1
     rw [if_neg (fun q=>z ((a45 x l).mp q)),if_neg (by simp)]
     simp [List.range_succ]
theorem bv6 {α:Type} [DecidableEq α] {l:List α}(h:0<l.length):(canon l)[0]?=some 0:=by
 cases l with
 | nil=>simp at h
 | cons x l =>
   rw [ab5 (x:=x) rfl]
   have:=bf5 x l
   cases e:mets (x::l) with
   | nil=>rw [e] at this; simp at this
   | cons y r =>
     rw [e] at this
     obtain rfl:y=x:=by simpa using this
     simp
def fstF (f:Nat→Tr) (xs:List Nat) (l:List Nat):List (Tr×V):=l.map fun x=>(f x,.int (xs.idxOf x:Nat))
theorem ay3 {f:Nat→Tr}(hf:∀ a b,f a=f b→a=b) {xs:List Nat}:∀ {l:List Nat}{x:Nat},(valV (fstF f xs l) (f x)).isSome=decide (x∈l)
 | [],x=>rfl
 | y::l,x=>by
   unfold fstF
   rw [List.map_cons]
   by_cases e:y=x
   · subst e
     rw [a83 rfl]
     simp
   · rw [a84 (fun z=>e (hf _ _ z))]
     have:=ay3 hf (xs:=xs) (l:=l) (x:=x)
     unfold fstF at this
     rw [this]
     simp [Ne.symm e]
structure TSt (gs:List Nat) (k:Nat) (ts:List (List Nat)) (qs:List Nat):Prop where
 tl:ts.length=k
 tn:∀ (c:Nat) xs,ts[c]?=some xs→xs.Nodup
 tg:∀ (c:Nat) xs,ts[c]?=some xs→∀ a∈xs,gs[a]?=some c
 tq:∀ (c:Nat) xs,ts[c]?=some xs→(xs≠[]↔c∈qs)
 qn:qs.Nodup
 ql:∀ c∈qs,c<k
def Tt (gs:List Nat) (ts:List (List Nat)) (a:Nat):Prop:=∃ c xs,gs[a]?=some c∧ts[c]?=some xs∧a∈xs
def addN (xs:List Nat) (s:Nat):List Nat:=if s∈xs then xs else xs++[s]
theorem addN_mem {xs:List Nat}{s a:Nat}:a∈addN xs s↔a∈xs∨a=s:=by
 unfold addN
 split
 · next h =>
   constructor
   · exact .inl
   · rintro (h' | rfl)
     · exact h'
     · exact h
 · simp
theorem bv7 {xs:List Nat}{s:Nat}(h:xs.Nodup):(addN xs s).Nodup:=by
 unfold addN
 split
 · exact h
 · next z=>exact aa8 h z
def touT (gs:List Nat) (ts:List (List Nat)) (s:Nat):List (List Nat):=ts.set (gs.getD s 0) (addN (ts.getD (gs.getD s 0) []) s)
def touQ (gs:List Nat) (ts:List (List Nat)) (qs:List Nat) (s:Nat):List Nat:=if ts.getD (gs.getD s 0) []=[] then qs++[gs.getD s 0] else qs
theorem TSt.touch {gs:List Nat}{k:Nat}{ts:List (List Nat)}{qs:List Nat}{s c:Nat}(h:TSt gs k ts qs) (hs:gs[s]?=some c) (hc:c<k):TSt gs k (touT gs ts s) (touQ gs ts qs s)∧∀ a,Tt gs (touT gs ts s) a↔Tt gs ts a∨a=s:=by
 have e1:gs.getD s 0=c:=by simp [List.getD,hs]
 have hl:c<ts.length:=by rw [h.tl]; exact hc
 obtain ⟨xs,hx⟩:∃ xs,ts[c]?=some xs:=⟨_,gE hl⟩
 have e2:ts.getD c []=xs:=by simp [List.getD,hx]
 unfold touT touQ
 rw [e1,e2]
 have get:∀ (d:Nat) ys,(ts.set c (addN xs s))[d]?=some ys→(d=c∧ys=addN xs s)∨(d≠c∧ts[d]?=some ys):=fun d ys e=>by
  rw [List.getElem?_set] at e
  by_cases z:c=d
  · rw [if_pos z,if_pos hl] at e
    exact .inl ⟨z.symm,(Option.some.inj e).symm⟩
  · rw [if_neg z] at e
    exact .inr ⟨Ne.symm z,e⟩
 have geC:(ts.set c (addN xs s))[c]?=some (addN xs s):=by rw [List.getElem?_set,if_pos rfl,if_pos hl]
 have geD:∀ {d:Nat}{ys:List Nat},ts[d]?=some ys→d≠c→(ts.set c (addN xs s))[d]?=some ys:=fun e z=>by rw [List.getElem?_set,if_neg (Ne.symm z)]; exact e
 have ane:addN xs s≠[]:=fun z=>by
  have:s∈addN xs s:=addN_mem.mpr (.inr rfl)
  rw [z] at this
  cases this
 refine ⟨⟨by simp [h.tl],fun d ys e=>?_,fun d ys e a ha=>?_,fun d ys e=>?_,?_,fun d hd=>?_⟩,fun a=>?_⟩
 · rcases get d ys e with ⟨rfl,rfl⟩ | ⟨_,e⟩
   · exact bv7 (h.tn _ _ hx)
   · exact h.tn _ _ e
 · rcases get d ys e with ⟨rfl,rfl⟩ | ⟨_,e⟩
   · rcases addN_mem.mp ha with ha | rfl
     · exact h.tg _ _ hx a ha
     · exact hs
   · exact h.tg _ _ e a ha
 · have hq:=h.tq _ _ hx
   rcases get d ys e with ⟨rfl,rfl⟩ | ⟨z,e⟩
   · refine ⟨fun _=>?_,fun _=>ane⟩
     by_cases y:xs=[]
     · rw [if_pos y]; simp
     · rw [if_neg y]; exact hq.mp y
   · rw [h.tq _ _ e]
     split
     · simp [z]
     · exact Iff.rfl
 · split
   · next y =>
     refine aa8 h.qn fun z=>?_
     exact (h.tq _ _ hx).mpr z y
   · exact h.qn
 · split at hd
   · rcases gA hd with hd | hd
     · exact h.ql d hd
     · rw [gG hd]; exact hc
   · exact h.ql d hd
 · constructor
   · rintro ⟨d,ys,g1,g2,g3⟩
     rcases get d ys g2 with ⟨rfl,rfl⟩ | ⟨_,e⟩
     · rcases addN_mem.mp g3 with g3 | rfl
       · exact .inl ⟨_,_,g1,hx,g3⟩
       · exact .inr rfl
     · exact .inl ⟨_,_,g1,e,g3⟩
   · rintro (⟨d,ys,g1,g2,g3⟩ | rfl)
     · by_cases z:d=c
       · subst z
         rw [hx] at g2
         cases g2
         exact ⟨_,_,g1,geC,addN_mem.mpr (.inl g3)⟩
       · exact ⟨_,_,g1,geD g2 z,g3⟩
     · exact ⟨_,_,hs,geC,addN_mem.mpr (.inr rfl)⟩
structure GSt (n:Nat) (gs:List Nat) (ms ts:List (List Nat)) (qs:List Nat):Prop where
 gl:gs.length=n
 gk:∀ (a c:Nat),gs[a]?=some c→c<ms.length
 me:∀ (c:Nat) xs,ms[c]?=some xs→xs.Nodup∧xs≠[]∧∀ a,a∈xs↔gs[a]?=some c
 ts:TSt gs ms.length ts qs
theorem GSt.few {n:Nat}{gs:List Nat}{ms ts:List (List Nat)}{qs:List Nat}(h:GSt n gs ms ts qs):ms.length≤n:=by
 have hd:∀ c,c<ms.length→gs[(ms.getD c []).headD 0]?=some c:=fun c hc=>by
  have e:=gE hc
  obtain ⟨_,h2,h3⟩:=h.me c _ e
  have e2:ms.getD c []=ms[c]:=by simp [List.getD,e]
  rw [e2]
  refine (h3 _).mp ?_
  cases e3:ms[c] with
  | nil=>exact absurd e3 h2
  | cons x r=>simp
 have:=pigeon n ((List.range ms.length).map fun c=>(ms.getD c []).headD 0) (List.pairwise_map.mpr (List.Pairwise.imp_of_mem (fun {a b} ha hb hne e=>hne (by
  have h1:=hd a (List.mem_range.mp ha)
  have h2:=hd b (List.mem_range.mp hb)
  rw [e,h2] at h1
  exact (Option.some.inj h1).symm)) List.nodup_range)) (fun k hk=>by
  obtain ⟨c,hc,rfl⟩:=List.mem_map.mp hk
  have:=hd c (List.mem_range.mp hc)
  rw [← h.gl]
  exact (gS this).1)
 simpa using this
theorem GSt.wait {n:Nat}{gs:List Nat}{ms ts:List (List Nat)}{qs:List Nat}(h:GSt n gs ms ts qs):qs.length≤ms.length:=pigeon _ _ h.ts.qn h.ts.ql
structure PartsOf (gs:List Nat) (led:Nat→List Nat) (c:Nat) (ps:List (List Nat)):Prop where
 ne:∀ p∈ps,p≠[]
 nd:ps.flatten.Nodup
 me:∀ a,a∈ps.flatten↔gs[a]?=some c
 eq:∀ p∈ps,∀ a∈p,∀ b∈p,led a=led b
 df:ps.Pairwise fun p q=>∀ a∈p,∀ b∈q,led a≠led b
theorem PartsOf.perm {gs:List Nat}{led:Nat→List Nat}{c:Nat}{ps qs:List (List Nat)}(h:PartsOf gs led c ps) (e:ps.Perm qs):PartsOf gs led c qs :=
 ⟨fun p hp=>h.ne p (e.mem_iff.mpr hp),(e.flatten.nodup_iff).mp h.nd,fun a=>by rw [← h.me a]; exact e.flatten.mem_iff.symm,fun p hp=>h.eq p (e.mem_iff.mpr hp),(e.pairwise_iff (fun {p q} z a ha b hb=>Ne.symm (z b hb a ha))).mp h.df⟩
def reg1 (gs xs:List Nat) (m:Nat):List Nat:=xs.foldl (fun g a=>g.set a m) gs
theorem ag6 (m:Nat):∀ (xs gs:List Nat),(reg1 gs xs m).length=gs.length
 | [],gs=>rfl
 | x::xs,gs=>by
   show (reg1 (gs.set x m) xs m).length=_
   rw [ag6 m xs]
   simp
theorem ay4 {m a:Nat}:∀ {xs gs:List Nat},a<gs.length→(reg1 gs xs m)[a]?=if a∈xs then some m else gs[a]?
 | [],gs,_=>by simp [reg1]
 | x::xs,gs,h=>by
   show (reg1 (gs.set x m) xs m)[a]?=_
   rw [ay4 (by simpa using h),List.getElem?_set]
   by_cases h1:a∈xs
   · simp [h1]
   · by_cases h2:x=a
     · subst h2
       simp [h1,h]
     · rw [if_neg h1,if_neg h2,if_neg (by simp [h1,Ne.symm h2])]
def regA:List Nat→List (List Nat)→Nat→List Nat
 | gs,[],_=>gs
 | gs,xs::r,m=>regA (reg1 gs xs m) r (m+1)
theorem aq4:∀ (r:List (List Nat)) (gs:List Nat) (m:Nat),(regA gs r m).length=gs.length
 | [],gs,m=>rfl
 | xs::r,gs,m=>by
   show (regA (reg1 gs xs m) r (m+1)).length=_
   rw [aq4 r,ag6]
theorem aq5 {a:Nat}:∀ {r:List (List Nat)}{gs:List Nat}{m:Nat},a∉r.flatten→(regA gs r m)[a]?=gs[a]?
 | [],gs,m,_=>rfl
 | xs::r,gs,m,h=>by
   rw [List.flatten_cons,List.mem_append,not_or] at h
   show (regA (reg1 gs xs m) r (m+1))[a]?=_
   rw [aq5 h.2]
   by_cases hl:a<gs.length
   · rw [ay4 hl,if_neg h.1]
   · rw [List.getElem?_eq_none (by rw [ag6]; omega),List.getElem?_eq_none (by omega)]
theorem aq6 {a:Nat}:∀ {r:List (List Nat)}{gs:List Nat}{m i:Nat}{xs:List Nat},r.flatten.Nodup→r[i]?=some xs→a∈xs→a<gs.length→(regA gs r m)[a]?=some (m+i)
 | [],gs,m,i,xs,_,e,_,_=>by simp at e
 | ys::r,gs,m,0,xs,hn,e,ha,hl=>by
   obtain rfl:ys=xs:=by simpa using e
   rw [List.flatten_cons,List.nodup_append] at hn
   show (regA (reg1 gs ys m) r (m+1))[a]?=_
   rw [aq5 (fun z=>hn.2.2 a ha a z rfl),ay4 hl,if_pos ha]
   rfl
 | ys::r,gs,m,i+1,xs,hn,e,ha,hl=>by
   rw [List.flatten_cons,List.nodup_append] at hn
   show (regA (reg1 gs ys m) r (m+1))[a]?=_
   rw [aq6 (i:=i) hn.2.1 (by simpa using e) ha (by rw [ag6]; exact hl)]
   congr 1
   omega
theorem av0 (xs:List Nat):∀ (r:List (List Nat)) (gs:List Nat) (m:Nat),regA gs (r++[xs]) m=reg1 (regA gs r m) xs (m+r.length)
 | [],gs,m=>rfl
 | ys::r,gs,m=>by
   show regA (reg1 gs ys m) (r++[xs]) (m+1)=_
   rw [av0 xs r,show m+1+r.length=m+(ys::r).length by simp; omega]
   rfl
theorem mem_flat {r:List (List Nat)}{a:Nat}:a∈r.flatten↔∃ (i:Nat) (xs:List Nat),r[i]?=some xs∧a∈xs:=by
 rw [List.mem_flatten]
 constructor
 · rintro ⟨xs,h1,h2⟩
   obtain ⟨i,hi,rfl⟩:=List.mem_iff_getElem.mp h1
   exact ⟨i,_,gE hi,h2⟩
 · rintro ⟨i,xs,h1,h2⟩
   exact ⟨xs,gI h1,h2⟩
section
variable {n c:Nat}{gs qs big:List Nat}{ms ts rs:List (List Nat)}{led:Nat→List Nat}
theorem af2 (h:GSt n gs ms ts (qs++[c])) (hp:PartsOf gs led c (rs++[big])) {a d:Nat}:(regA gs rs ms.length)[a]?=some d↔(a∉rs.flatten∧gs[a]?=some d)∨∃ (i:Nat) (xs:List Nat),rs[i]?=some xs∧a∈xs∧d=ms.length+i:=by
 have hfl:(rs++[big]).flatten=rs.flatten++big:=by simp
 have hn:=hp.nd
 rw [hfl,List.nodup_append] at hn
 by_cases z:a∈rs.flatten
 · obtain ⟨i,xs,e,hx⟩:=mem_flat.mp z
   have hg:gs[a]?=some c:=(hp.me a).mp (by rw [hfl]; exact List.mem_append_left _ z)
   have hl:=(gS hg).1
   have:=aq6 (m:=ms.length) hn.1 e hx hl
   rw [this]
   constructor
   · intro q
     exact .inr ⟨i,xs,e,hx,(Option.some.inj q).symm⟩
   · rintro (⟨q,_⟩ | ⟨j,ys,e',hy,rfl⟩)
     · exact absurd z q
     · have:=aq6 (m:=ms.length) hn.1 e' hy hl
       rw [← this]
       exact aq6 hn.1 e hx hl |>.symm ▸ rfl
 · rw [aq5 z]
   constructor
   · intro q
     exact .inl ⟨z,q⟩
   · rintro (⟨_,q⟩ | ⟨j,ys,e',hy,rfl⟩)
     · exact q
     · exact absurd (mem_flat.mpr ⟨j,ys,e',hy⟩) z
theorem GSt.part (h:GSt n gs ms ts (qs++[c])) (hp:PartsOf gs led c (rs++[big])):GSt n (regA gs rs ms.length) (ms.set c big++rs) (ts.set c []++rs.map fun _=>[]) qs:=by
 have hfl:(rs++[big]).flatten=rs.flatten++big:=by simp
 have hn:=hp.nd
 rw [hfl,List.nodup_append] at hn
 have hme:∀ a,(a∈rs.flatten∨a∈big)↔gs[a]?=some c:=fun a=>by rw [← hp.me a,hfl,List.mem_append]
 have hck:c<ms.length:=h.ts.ql c (by simp)
 have hct:c<ts.length:=by rw [h.ts.tl]; exact hck
 have hqn:=h.ts.qn
 rw [List.nodup_append] at hqn
 have hcq:c∉qs:=fun z=>hqn.2.2 c z c (by simp) rfl
 have hrn:∀ (i:Nat) xs,rs[i]?=some xs→xs.Nodup:=fun i xs e=>by
  have:=gI e
  exact (List.sublist_flatten_of_mem this).nodup hn.1
 refine ⟨by rw [aq4]; exact h.gl,fun a d e=>?_,fun d xs e=>?_,⟨by simp [h.ts.tl],fun d xs e=>?_,fun d xs e a ha=>?_,fun d xs e=>?_,hqn.1,fun d hd=>?_⟩⟩
 · rw [List.length_append,List.length_set]
   rcases (af2 h hp).mp e with ⟨_,e'⟩ | ⟨i,xs,e',_,q⟩
   · have:=h.gk a d e'
     omega
   · have:=(gS e').1
     omega
 · by_cases hd:d<ms.length
   · rw [List.getElem?_append_left (by simpa using hd),List.getElem?_set] at e
     by_cases z:c=d
     · subst z
       rw [if_pos rfl,if_pos hd] at e
       obtain rfl:=Option.some.inj e
       refine ⟨hn.2.1,hp.ne _ (by simp),fun a=>?_⟩
       rw [af2 h hp]
       constructor
       · intro ha
         exact .inl ⟨fun z=>hn.2.2 a z a ha rfl,(hme a).mp (.inr ha)⟩
       · rintro (⟨z,q⟩ | ⟨i,xs,e,_,q⟩)
         · exact ((hme a).mpr q).resolve_left z
         · omega
     · rw [if_neg z] at e
       obtain ⟨h1,h2,h3⟩:=h.me d xs e
       refine ⟨h1,h2,fun a=>?_⟩
       rw [h3 a,af2 h hp]
       constructor
       · intro q
         refine .inl ⟨fun w=>?_,q⟩
         have:=(hme a).mp (.inl w)
         rw [q] at this
         exact z (Option.some.inj this).symm
       · rintro (⟨_,q⟩ | ⟨i,xs,e,_,q⟩)
         · exact q
         · omega
   · rw [List.getElem?_append_right (by simp; omega),List.length_set] at e
     refine ⟨hrn _ _ e,hp.ne _ (List.mem_append_left _ (gI e)),fun a=>?_⟩
     rw [af2 h hp]
     constructor
     · intro ha
       exact .inr ⟨_,_,e,ha,by omega⟩
     · rintro (⟨_,q⟩ | ⟨i,ys,e',ha,q⟩)
       · exact absurd (h.gk a d q) hd
       · rw [show i=d - ms.length by omega,e] at e'
         cases e'
         exact ha
 · by_cases hd:d<ts.length
   · rw [List.getElem?_append_left (by simpa using hd),List.getElem?_set] at e
     by_cases z:c=d
     · rw [if_pos z,if_pos hct] at e
       rw [← Option.some.inj e]
       simp
     · rw [if_neg z] at e
       exact h.ts.tn _ _ e
   · rw [List.getElem?_append_right (by simp; omega),gM] at e
     obtain ⟨_,_,rfl⟩:=gO e
     simp
 · by_cases hd:d<ts.length
   · rw [List.getElem?_append_left (by simpa using hd),List.getElem?_set] at e
     by_cases z:c=d
     · rw [if_pos z,if_pos hct] at e
       rw [← Option.some.inj e] at ha
       cases ha
     · rw [if_neg z] at e
       have hg:=h.ts.tg d xs e a ha
       rw [af2 h hp]
       refine .inl ⟨fun w=>?_,hg⟩
       have:=(hme a).mp (.inl w)
       rw [hg] at this
       exact z (Option.some.inj this).symm
   · rw [List.getElem?_append_right (by simp; omega),gM] at e
     obtain ⟨_,_,rfl⟩:=gO e
     cases ha
 · by_cases hd:d<ts.length
   · rw [List.getElem?_append_left (by simpa using hd),List.getElem?_set] at e
     by_cases z:c=d
     · subst z
       rw [if_pos rfl,if_pos hct] at e
       rw [← Option.some.inj e]
       simp [hcq]
     · rw [if_neg z] at e
       rw [h.ts.tq d xs e]
       simp [Ne.symm z]
   · rw [List.getElem?_append_right (by simp; omega),gM] at e
     obtain ⟨_,_,rfl⟩:=gO e
     refine ⟨fun q=>absurd rfl q,fun q=>?_⟩
     have:=h.ts.ql d (List.mem_append_left _ q)
     rw [h.ts.tl] at hd
     omega
 · have:=h.ts.ql d (List.mem_append_left _ hd)
   simp
   omega
end
section
variable {α:Type}{lab:Nat→α}{w:Nat→Nat→Nat}{n many c:Nat}{gs qs big:List Nat}{ms ts ts' rs:List (List Nat)}{led:Nat→List Nat}
theorem af3 {gs:List Nat}{a d:Nat}(h:gs[a]?=some d):gs.getD a 0=d:=by simp [List.getD,h]
theorem bm3 (hG:Grp lab w n many (fun a=>gs.getD a 0) (Tt gs ts)) (h:GSt n gs ms ts (qs++[c])) (hp:PartsOf gs led c (rs++[big])) (hw:∀ a j,a<n→j<many→w a j<n)
 (hled:∀ a b,a<n→b<n→(led a=led b↔∀ j,j<many→gs.getD (w a j) 0=gs.getD (w b j) 0))
 (hold:∀ a,Tt gs ts a→gs.getD a 0≠c→Tt (regA gs rs ms.length) ts' a) (hsrc:∀ a j,a<n→j<many→w a j∈rs.flatten→Tt (regA gs rs ms.length) ts' a) :
 Grp lab w n many (fun a=>(regA gs rs ms.length).getD a 0) (Tt (regA gs rs ms.length) ts'):=by
 have hfl:(rs++[big]).flatten=rs.flatten++big:=by simp
 have hn:=hp.nd
 rw [hfl,List.nodup_append] at hn
 have hme:∀ a,(a∈rs.flatten∨a∈big)↔gs[a]?=some c:=fun a=>by rw [← hp.me a,hfl,List.mem_append]
 have hck:c<ms.length:=h.ts.ql c (by simp)
 have gx:∀ a,a<n→gs[a]?=some (gs.getD a 0):=fun a ha=>by
  have:a<gs.length:=by rw [h.gl]; exact ha
  rw [gE this]
  simp [List.getD,gE this]
 have gc:∀ a,a<n→(gs.getD a 0=c↔gs[a]?=some c):=fun a ha=>by rw [gx a ha,Option.some_inj]
 have stay:∀ a,a∉rs.flatten→(regA gs rs ms.length).getD a 0=gs.getD a 0:=fun a z=>by simp only [List.getD,aq5 z]
 have went:∀ {a i:Nat}{xs:List Nat},rs[i]?=some xs→a∈xs→(regA gs rs ms.length).getD a 0=ms.length+i:=fun e ha=>af3 ((af2 h hp).mpr (.inr ⟨_,_,e,ha,rfl⟩))
 have old:∀ a,a<n→gs.getD a 0<ms.length:=fun a ha=>h.gk a _ (gx a ha)
 refine hG.part (G:=c) hw (fun a ha z=>?_) (fun a b ha hb ga gb=>?_) (fun a b ha hb ga gb=>?_) (fun a ha=>?_)
 · exact stay a fun q=>z ((gc a ha).mpr ((hme a).mp (.inl q)))
 · show (regA gs rs ms.length).getD a 0=(regA gs rs ms.length).getD b 0↔_
   rw [← hled a b ha hb]
   have find:∀ x,x<n→gs.getD x 0=c→∃ (i:Nat) (p:List Nat),(rs++[big])[i]?=some p∧x∈p∧(regA gs rs ms.length).getD x 0=(if i<rs.length then ms.length+i else c):=fun x hx gx'=>by
    rcases (hme x).mpr ((gc x hx).mp gx') with q | q
    · obtain ⟨i,xs,e,hx'⟩:=mem_flat.mp q
      have hi:=(gS e).1
      exact ⟨i,xs,by rw [List.getElem?_append_left hi]; exact e,hx',by rw [if_pos hi]; exact went e hx'⟩
    · refine ⟨rs.length,big,by simp,q,?_⟩
      rw [if_neg (Nat.lt_irrefl _),stay x (fun z=>hn.2.2 x z x q rfl)]
      exact gx'
   obtain ⟨i,p,e1,a1,b1⟩:=find a ha ga
   obtain ⟨j,q,e2,a2,b2⟩:=find b hb gb
   rw [b1,b2]
   have il:=(gS e1).1
   have jl:=(gS e2).1
   simp only [List.length_append,List.length_cons,List.length_nil] at il jl
   have key:(if i<rs.length then ms.length+i else c)=(if j<rs.length then ms.length+j else c)↔i=j:=by
    constructor
    · intro z
      by_cases x:i<rs.length <;> by_cases y:j<rs.length <;> simp only [x,y,if_true,if_false] at z <;> omega
    · rintro rfl
      rfl
   rw [key]
   constructor
   · rintro rfl
     rw [e1] at e2
     cases e2
     exact hp.eq p (gI e1) a a1 b a2
   · intro z
     refine Classical.not_not.mp fun hij=>?_
     obtain ⟨l1,g1⟩:=gS e1
     obtain ⟨l2,g2⟩:=gS e2
     have pw:=List.pairwise_iff_getElem.mp hp.df
     rcases Nat.lt_or_gt_of_ne hij with q | q
     · exact pw i j l1 l2 q a (g1 ▸ a1) b (g2 ▸ a2) z
     · exact pw j i l2 l1 q b (g2 ▸ a2) a (g1 ▸ a1) z.symm
 · show (regA gs rs ms.length).getD a 0≠(regA gs rs ms.length).getD b 0
   rw [stay b fun q=>gb ((gc b hb).mpr ((hme b).mp (.inl q)))]
   have ob:=old b hb
   rcases (hme a).mpr ((gc a ha).mp ga) with q | q
   · obtain ⟨i,xs,e,hx'⟩:=mem_flat.mp q
     rw [went e hx']
     omega
   · rw [stay a (fun z=>hn.2.2 a z a q rfl)]
     intro z
     exact gb (by rw [← z]; exact ga)
 · rintro (⟨h1,h2⟩ | ⟨j,hj,h1⟩)
   · exact hold a h1 h2
   · refine hsrc a j ha hj (Classical.not_not.mp fun z=>h1 (stay _ z))
theorem bv8 (hG:Grp lab w n many (fun a=>gs.getD a 0) (Tt gs ts)) (h:GSt n gs ms ts []) (hw:∀ a j,a<n→j<many→w a j<n) {a b:Nat}(ha:a<n) (hb:b<n):gs[a]?=gs[b]?↔¬ ApartR lab w many a b:=by
 rw [← hG.done hw (fun x hx ⟨c,xs,e1,e2,e3⟩=>?_) ha hb]
 · have la:a<gs.length:=by rw [h.gl]; exact ha
   have lb:b<gs.length:=by rw [h.gl]; exact hb
   simp [List.getD,gE la,gE lb]
 · have:=(h.ts.tq c xs e2).mp (fun z=>by rw [z] at e3; cases e3)
   cases this
end
def memL (gs:List Nat) (k:Nat):List (List Nat):=(List.range k).map fun c=>(List.range gs.length).filter fun a=>decide (gs[a]?=some c)
theorem ad4 {gs:List Nat}{k c:Nat}{xs:List Nat}(h:(memL gs k)[c]?=some xs):c<k∧xs.Nodup∧∀ a,a∈xs↔gs[a]?=some c:=by
 unfold memL at h
 rw [gM] at h
 obtain ⟨d,hd,rfl⟩:=gO h
 obtain ⟨h1,h2⟩:=gS hd
 rw [List.length_range] at h1
 rw [List.getElem_range] at h2
 subst h2
 refine ⟨h1,List.Pairwise.filter _ List.nodup_range,fun a=>?_⟩
 rw [List.mem_filter,List.mem_range,decide_eq_true_iff]
 constructor
 · exact fun z=>z.2
 · intro z
   exact ⟨(gS z).1,z⟩
theorem bf6 {α:Type} [DecidableEq α] (l:List α):GSt l.length (canon l) (memL (canon l) (mets l).length) (memL (canon l) (mets l).length) (List.range (mets l).length):=by
 have ml:(memL (canon l) (mets l).length).length=(mets l).length:=by simp [memL]
 have ne:∀ (c:Nat) xs,(memL (canon l) (mets l).length)[c]?=some xs→xs≠[]:=fun c xs e=>by
  obtain ⟨h1,h2,h3⟩:=ad4 e
  have hm:(mets l)[c]∈l:=(a45 _ l).mp (List.getElem_mem h1)
  obtain ⟨i,hi,e'⟩:=List.mem_iff_getElem.mp hm
  have e2:l[i]?=some (mets l)[c]:=by rw [gE hi,e']
  have:=ab5 e2
  have h4:(mets l).idxOf (mets l)[c]=c:=by
   refine List.Nodup.idxOf_getElem (aq0 l) c h1
  rw [h4] at this
  have:=(h3 i).mpr this
  intro z
  rw [z] at this
  cases this
 refine ⟨ab9 l,fun a c e=>by rw [ml]; exact aq3 (gI e),fun c xs e=>⟨(ad4 e).2.1,ne c xs e,(ad4 e).2.2⟩,⟨rfl,fun c xs e=>(ad4 e).2.1,fun c xs e a ha=>((ad4 e).2.2 a).mp ha,fun c xs e=>⟨fun _=>List.mem_range.mpr (ad4 e).1,fun _=>ne c xs e⟩,List.nodup_range,fun c hc=>by rw [ml]; exact List.mem_range.mp hc⟩⟩
theorem bf7 {α:Type} [DecidableEq α] {w:Nat→Nat→Nat}{many:Nat}(l:List α):Grp (fun a=>l[a]?) w l.length many (fun a=>(canon l).getD a 0) (Tt (canon l) (memL (canon l) (mets l).length)):=by
 have gx:∀ a,a<l.length→(canon l)[a]?=some ((canon l).getD a 0):=fun a ha=>by
  have:a<(canon l).length:=by rw [ab9]; exact ha
  simp [List.getD,gE this]
 have ker:∀ a b,a<l.length→b<l.length→((canon l).getD a 0=(canon l).getD b 0↔l[a]?=l[b]?):=fun a b ha hb=>by
  have:=au9 (gE ha) (gE hb)
  rw [gx a ha,gx b hb,Option.some_inj] at this
  rw [this,gE ha,gE hb,Option.some_inj]
 have all:∀ a,a<l.length→Tt (canon l) (memL (canon l) (mets l).length) a:=fun a ha=>by
  have e:=gx a ha
  have hk:=aq3 (gI e)
  have hl:(canon l).getD a 0<(memL (canon l) (mets l).length).length:=by simpa [memL] using hk
  exact ⟨_,_,e,gE hl,((ad4 (gE hl)).2.2 a).mpr e⟩
 exact ⟨fun a b ha hb e=>(ker a b ha hb).mp e,fun a b ha hb _ z=>absurd (all a ha) z,fun a b ha hb e=>⟨[],fun _ z=>absurd z (by simp),fun z=>e ((ker a b ha hb).mpr z)⟩⟩
section
variable {α:Type}{lab:Nat→α}{w:Nat→Nat→Nat}{many:Nat}
theorem Apart.irr:∀ {v:List Nat}{a:Nat},¬ Apart lab w a a v
 | [],a=>fun h=>h rfl
 | j::v,a=>Apart.irr (v:=v)
theorem Apart.symm:∀ {v:List Nat}{a b:Nat},Apart lab w a b v→Apart lab w b a v
 | [],a,b,h=>Ne.symm h
 | j::v,a,b,h=>Apart.symm (v:=v) h
theorem Apart.tri:∀ {v:List Nat}{a b c:Nat},Apart lab w a c v→Apart lab w a b v∨Apart lab w b c v
 | [],a,b,c,h=>by
   by_cases e:lab a=lab b
   · exact .inr (fun z=>h (e.trans z))
   · exact .inl e
 | j::v,a,b,c,h=>Apart.tri (v:=v) h
def clsR (lab:Nat→α) (w:Nat→Nat→Nat) (many a:Nat):Nat→Prop:=fun b=>ApartR lab w many a b
theorem cls_eq {a b:Nat}:clsR lab w many a=clsR lab w many b↔¬ ApartR lab w many a b:=by
 constructor
 · intro e z
   have:ApartR lab w many b b:=by
    have h:clsR lab w many a b=clsR lab w many b b:=by rw [e]
    exact cast h z
   obtain ⟨v,_,h⟩:=this
   exact Apart.irr h
 · intro z
   funext c
   refine propext ⟨fun ⟨v,h1,h2⟩=>?_,fun ⟨v,h1,h2⟩=>?_⟩
   · rcases Apart.tri (b:=b) h2 with h | h
     · exact absurd ⟨v,h1,h⟩ z
     · exact ⟨v,h1,h⟩
   · rcases Apart.tri (b:=a) h2 with h | h
     · exact absurd ⟨v,h1,h.symm⟩ z
     · exact ⟨v,h1,h⟩
noncomputable instance clsDec:DecidableEq (Nat→Prop):=fun _ _=>Classical.propDecidable _
noncomputable def likeN (lab:Nat→α) (w:Nat→Nat→Nat) (many:Nat) (l:List Nat):List Nat:=canon (l.map (clsR lab w many))
theorem bv9 {n:Nat}{gs:List Nat}(hl:gs.length=n) (h:∀ a b,a<n→b<n→(gs[a]?=gs[b]?↔¬ ApartR lab w many a b)):canon gs=likeN lab w many (List.range n):=by
 refine (ag5 n hl (by simp) fun i j hi hj=>?_).1
 rw [h i j hi hj,gM,gM,List.getElem?_range hi,List.getElem?_range hj]
 simp only [Option.map_some,Option.some_inj]
 exact cls_eq.symm
theorem bm4 {α:Type}{lab lab':Nat→α}{w w':Nat→Nat→Nat}{n:Nat}{f:Nat→Nat}(hl:∀ a,a<n→lab' a=lab (f a)) (hw:∀ a j,a<n→j<many→w' a j<n∧f (w' a j)=w (f a) j):likeN lab' w' many (List.range n)=likeN lab w many ((List.range n).map f):=by
 refine (ag5 n (by simp) (by simp) fun i j hi hj=>?_).1
 simp only [gM,List.getElem?_range hi,List.getElem?_range hj,Option.map_some,Option.some_inj]
 rw [cls_eq,cls_eq]
 refine not_congr ⟨fun ⟨v,h1,h2⟩=>⟨v,h1,(ak3 f hl hw hi hj h1).mp h2⟩,fun ⟨v,h1,h2⟩=>⟨v,h1,(ak3 f hl hw hi hj h1).mpr h2⟩⟩
end
def hds (xs:List Addr) (H:Hp):Hp:=fun a=>if a∈xs then none else H a
theorem b39 {xs:List Addr}{H:Hp}:Same (hds xs H) H:=fun b o e=>by
 unfold hds at e
 split at e
 · cases e
 · exact e
theorem a98 {xs:List Addr}{H:Hp}{a:Addr}{o:HO}(e:H a=some o) (h:a∉xs):hds xs H a=some o:=by
 unfold hds
 rw [if_neg h]
 exact e
theorem ad5 {xs:List Addr}{H:Hp}{a:Addr}{o:HO}(e:hds xs H a=some o):H a=some o∧a∉xs:=by
 unfold hds at e
 split at e
 · cases e
 · exact ⟨e,by assumption⟩
theorem aq7 {xs ys:List Addr}{H H':Hp}(hs:∀ a∈ys,a∈xs) (h:∀ b o,b∉xs→H b=some o→H' b=some o):Same (hds xs H) (hds ys H'):=fun b o e=>by
 obtain ⟨e1,e2⟩:=ad5 e
 exact a98 (h b o e2 e1) fun z=>e2 (hs b z)
theorem aq8 {d l:Addr}{xs:List Addr}{H H':Hp}(hd:d∈xs) (hl:l∈xs) (o:Off d l H H'):Same (hds xs H) (hds xs H'):=aq7 (fun _ z=>z) fun b u hb e=>o b u (fun z=>hb (z ▸ hd)) (fun z=>hb (z ▸ hl)) e
theorem a54 {ks:List Nat}{i:Nat}{v:V}(h:(natsV ks)[i]?=some v):∃ k,ks[i]?=some k∧v=.int (k:Nat):=by
 unfold natsV at h
 rw [gM] at h
 obtain ⟨k,hk,rfl⟩:=gO h
 exact ⟨k,hk,rfl⟩
def Lsts (H:Hp) (us:List V) (nx:Nat→List Nat) (n:Nat):Prop:=us.length=n∧∀ i,i<n→∃ p,us[i]?=some (.ref p)∧H p=some (.lst (natsV (nx i)))
theorem Lsts.mono {H H':Hp}{us:List V}{nx:Nat→List Nat}{n:Nat}(h:Lsts H us nx n) (s:Same H H'):Lsts H' us nx n:=⟨h.1,fun i hi=>by
 obtain ⟨p,h1,h2⟩:=h.2 i hi
 exact ⟨p,h1,s _ _ h2⟩⟩
def NL (G:Hp) (v:V) (xs:List Nat):Prop:=∃ a,v=.ref a∧G a=some (.lst (natsV xs))
def TouAt (H:Hp) (d:Addr) (xs:List Nat):Prop:=∃ kvs:List (Key×V),H d=some (.dK kvs)∧kvs.map (·.1)=xs.map fun (x:Nat)=>Sum.inl (x:Int)
theorem TouAt.len {H:Hp}{d:Addr}{xs:List Nat}(h:TouAt H d xs):∃ kvs:List (Key×V),H d=some (.dK kvs)∧kvs.length=xs.length∧kvs.map (·.1)=xs.map fun (x:Nat)=>Sum.inl (x:Int):=by
 obtain ⟨kvs,h1,h2⟩:=h
 have:=congrArg List.length h2
 exact ⟨kvs,h1,by simpa using this,h2⟩
theorem bf8 {kvs:List (Key×V)}{xs:List Nat}(h:kvs.map (·.1)=xs.map fun (x:Nat)=>Sum.inl (x:Int)) (a:Nat):(valV kvs (Sum.inl (a:Int))).isSome=decide (a∈xs):=by
 have e:(Sum.inl (a:Int):Key)∈kvs.map (·.1)↔a∈xs:=by
  rw [h,List.mem_map]
  constructor
  · rintro ⟨y,hy,e⟩
    have:=Sum.inl.inj e
    rw [show a=y by omega]
    exact hy
  · exact fun z=>⟨a,z,rfl⟩
 cases hv:valV kvs (Sum.inl (a:Int)) with
 | none =>
   have:=b03 hv
   rw [e] at this
   simp [this]
 | some v =>
   have:=br5 hv
   rw [e] at this
   simp [this]
theorem bf9 {kvs:List (Key×V)}{k:Key}{v:V}:(putK kvs k v).map (·.1)=if (valV kvs k).isSome then kvs.map (·.1) else kvs.map (·.1)++[k]:=by
 unfold putK
 rw [ab3]
 split
 · rw [List.map_map]
   refine List.map_congr_left fun x _=>?_
   simp only [Function.comp]
   split <;> rfl
 · simp
theorem bg0 {kvs:List (Key×V)}{xs:List Nat}{v:V}(h:kvs.map (·.1)=xs.map fun (x:Nat)=>Sum.inl (x:Int)) (a:Nat):(putK kvs (Sum.inl (a:Int)) v).map (·.1)=(addN xs a).map fun (x:Nat)=>Sum.inl (x:Int):=by
 rw [bf9,bf8 h,h]
 unfold addN
 by_cases e:a∈xs
 · simp [e]
 · simp [e]
structure GA where
 p:Addr
 dx:Addr
 w:Addr
 s:Addr
 g:Addr
 m:Addr
 t:Addr
 q:Addr
def GA.own (x:GA):List Addr:=[x.g,x.m,x.t,x.q]
def gF1 (w:Addr):List (Str×V):=putF "ways" (.ref w) []
def gF2 (w s:Addr):List (Str×V):=putF "sources" (.ref s) (gF1 w)
def gF3 (w s g:Addr):List (Str×V):=putF "groups" (.ref g) (gF2 w s)
def gF4 (w s g m:Addr):List (Str×V):=putF "members" (.ref m) (gF3 w s g)
def gF5 (w s g m t:Addr):List (Str×V):=putF "touched" (.ref t) (gF4 w s g m)
def gF (x:GA):List (Str×V):=putF "waiting" (.ref x.q) (gF5 x.w x.s x.g x.m x.t)
theorem am7 (w s g:Addr):(gF3 w s g).lookup ("groups":Str)=some (.ref g):=by
 unfold gF3
 rw [a29,if_pos rfl]
theorem ak4 (w s g m:Addr):(gF4 w s g m).lookup ("members":Str)=some (.ref m):=by
 unfold gF4
 rw [a29,if_pos rfl]
theorem ak5 (w s g m t:Addr):(gF5 w s g m t).lookup ("members":Str)=some (.ref m):=by
 unfold gF5
 rw [a29,if_neg (by decide +kernel),ak4]
theorem ah6 (x:GA):(gF x).lookup ("waiting":Str)=some (.ref x.q):=by
 unfold gF
 rw [a29,if_pos rfl]
theorem ac0 (x:GA):(gF x).lookup ("touched":Str)=some (.ref x.t):=by
 unfold gF gF5
 rw [a29,if_neg (by decide +kernel),a29,if_pos rfl]
theorem ae3 (x:GA):(gF x).lookup ("members":Str)=some (.ref x.m):=by
 unfold gF
 rw [a29,if_neg (by decide +kernel),ak5]
theorem ag7 (x:GA):(gF x).lookup ("groups":Str)=some (.ref x.g):=by
 unfold gF gF5 gF4
 rw [a29,if_neg (by decide +kernel),a29,if_neg (by decide +kernel),a29,if_neg (by decide +kernel),am7]
theorem b75 (x:GA):(gF x).lookup ("sources":Str)=some (.ref x.s):=by
 unfold gF gF5 gF4 gF3 gF2
 rw [a29,if_neg (by decide +kernel),a29,if_neg (by decide +kernel),a29,if_neg (by decide +kernel),a29,if_neg (by decide +kernel),a29,if_pos rfl]
theorem bw0 (x:GA):(gF x).lookup ("ways":Str)=some (.ref x.w):=by
 unfold gF gF5 gF4 gF3 gF2 gF1
 rw [a29,if_neg (by decide +kernel),a29,if_neg (by decide +kernel),a29,if_neg (by decide +kernel),a29,if_neg (by decide +kernel),a29,if_neg (by decide +kernel),a29,if_pos rfl]
theorem b76 (x:GA) {m:Str}(h:m∉(["waiting","touched","members","groups","sources","ways"]:List Str)):(gF x).lookup m=none:=by
 simp only [List.mem_cons,List.not_mem_nil,or_false,not_or] at h
 unfold gF gF5 gF4 gF3 gF2 gF1
 rw [a29,if_neg h.1,a29,if_neg h.2.1,a29,if_neg h.2.2.1,a29,if_neg h.2.2.2.1,a29,if_neg h.2.2.2.2.1,a29,if_neg h.2.2.2.2.2]
 rfl
structure GrAt (C:Addr) (H0 H:Hp) (x:GA) (nw ns:Nat→List Nat) (n:Nat) (gs:List Nat) (ms ts:List (List Nat)) (qs:List Nat):Prop where
 b:Same H0 H
 f:∀ a∈x.own,H0 a=none
 nd:x.own.Nodup
 o:H x.p=some (.ins C x.dx (gF x))
 ww:∃ us,hds x.own H x.w=some (.lst us)∧Lsts (hds x.own H) us nw n
 ss:∃ us,hds x.own H x.s=some (.lst us)∧Lsts (hds x.own H) us ns n
 gg:H x.g=some (.lst (natsV gs))
 mm:∃ us,H x.m=some (.lst us)∧Each (NL (hds x.own H)) us ms
 tt:∃ ds:List Addr,H x.t=some (.lst (ds.map .ref))∧ds.Nodup∧(∀ d∈ds,H0 d=none)∧Each (TouAt H) ds ts
 qq:H x.q=some (.lst (natsV qs))
def KeepL (x:GA) (H H':Hp):Prop:=∀ b o,b∉x.own→(∀ kvs,o≠.dK kvs)→H b=some o→H' b=some o
theorem KeepL.hd {x:GA}{H H':Hp}(k:KeepL x H H') {a:Addr}{vs:List V}(e:hds x.own H a=some (.lst vs)):hds x.own H' a=some (.lst vs):=by
 obtain ⟨e1,e2⟩:=ad5 e
 exact a98 (k a _ e2 (fun _ z=>nomatch z) e1) e2
theorem KeepL.nl {x:GA}{H H':Hp}(k:KeepL x H H') {v:V}{xs:List Nat}(h:NL (hds x.own H) v xs):NL (hds x.own H') v xs:=by
 obtain ⟨a,h1,h2⟩:=h
 exact ⟨a,h1,k.hd h2⟩
theorem KeepL.ls {x:GA}{H H':Hp}(k:KeepL x H H') {us:List V}{nx:Nat→List Nat}{n:Nat}(h:Lsts (hds x.own H) us nx n):Lsts (hds x.own H') us nx n:=⟨h.1,fun i hi=>by
 obtain ⟨p,h1,h2⟩:=h.2 i hi
 exact ⟨p,h1,k.hd h2⟩⟩
theorem KeepL.of {x:GA}{H H':Hp}(s:Same H H'):KeepL x H H':=fun b o _ _ e=>s b o e
theorem KeepL.own {x:GA}{H:Hp}{a:Addr}{o:HO}(h:a∈x.own):KeepL x H (upd H a o):=fun b u hb _ e=>by rw [a04 (fun z=>hb (by rw [z]; exact h))]; exact e
theorem KeepL.dic {x:GA}{H:Hp}{a:Addr}{kvs:List (Key×V)}{o:HO}(h:H a=some (.dK kvs)):KeepL x H (upd H a o):=fun b u _ hu e=>by
 rw [a04 (fun z=>by rw [z,h] at e; exact hu kvs (Option.some.inj e).symm)]
 exact e
section
variable {C:Addr}{H0 H H':Hp}{x:GA}{nw ns:Nat→List Nat}{n:Nat}{gs gs':List Nat}{ms ts ms' ts':List (List Nat)}{qs qs':List Nat}
theorem GrAt.own_lst (h:GrAt C H0 H x nw ns n gs ms ts qs):∀ a∈x.own,∃ vs,H a=some (.lst vs):=fun a ha=>by
 obtain ⟨us,m1,_⟩:=h.mm
 obtain ⟨ds,t1,_⟩:=h.tt
 unfold GA.own at ha
 simp only [List.mem_cons,List.not_mem_nil,or_false] at ha
 rcases ha with rfl | rfl | rfl | rfl
 · exact ⟨_,h.gg⟩
 · exact ⟨_,m1⟩
 · exact ⟨_,t1⟩
 · exact ⟨_,h.qq⟩
theorem GrAt.pno (h:GrAt C H0 H x nw ns n gs ms ts qs):x.p∉x.own:=fun z=>by
 obtain ⟨vs,e⟩:=h.own_lst _ z
 rw [h.o] at e
 cases e
theorem GrAt.new (h:GrAt C H0 H x nw ns n gs ms ts qs) {a:Addr}(f:H a=none):a∉x.own:=fun z=>by
 obtain ⟨vs,e⟩:=h.own_lst _ z
 rw [f] at e
 cases e
theorem GrAt.re (h:GrAt C H0 H x nw ns n gs ms ts qs) (k:KeepL x H H') (b:Same H0 H') (gg:H' x.g=some (.lst (natsV gs'))) (mm:∃ us,H' x.m=some (.lst us)∧Each (NL (hds x.own H')) us ms')
 (tt:∃ ds:List Addr,H' x.t=some (.lst (ds.map .ref))∧ds.Nodup∧(∀ d∈ds,H0 d=none)∧Each (TouAt H') ds ts') (qq:H' x.q=some (.lst (natsV qs'))):GrAt C H0 H' x nw ns n gs' ms' ts' qs':=by
 obtain ⟨us,w1,w2⟩:=h.ww
 obtain ⟨vs,s1,s2⟩:=h.ss
 exact ⟨b,h.f,h.nd,k _ _ h.pno (fun _ z=>nomatch z) h.o,⟨us,k.hd w1,k.ls w2⟩,⟨vs,k.hd s1,k.ls s2⟩,gg,mm,tt,qq⟩
theorem GrAt.same (h:GrAt C H0 H x nw ns n gs ms ts qs) (s:Same H H'):GrAt C H0 H' x nw ns n gs ms ts qs:=by
 obtain ⟨us,m1,m2⟩:=h.mm
 obtain ⟨ds,t1,t2,t3,t4⟩:=h.tt
 refine h.re (.of s) (h.b.trans s) (s _ _ h.gg) ⟨us,s _ _ m1,m2.mono fun v y hy=>(KeepL.of s).nl hy⟩ ⟨ds,s _ _ t1,t2,t3,t4.mono fun d y hy=>?_⟩ (s _ _ h.qq)
 obtain ⟨kvs,e1,e2⟩:=hy
 exact ⟨kvs,s _ _ e1,e2⟩
theorem GrAt.fix (h:GrAt C H0 H x nw ns n gs ms ts qs):∃ H1,GrAt C H1 H x nw ns n gs ms ts qs∧Same H0 H1∧∀ b o,b∉x.own→(∀ kvs,o≠.dK kvs)→H b=some o→H1 b=some o:=by
 obtain ⟨ds,t1,t2,t3,t4⟩:=h.tt
 have hd:∀ d∈ds,∃ kvs,H d=some (.dK kvs):=fun d hd=>by
  obtain ⟨i,hi,rfl⟩:=List.mem_iff_getElem.mp hd
  have hi':i<ts.length:=by rw [← t4.1]; exact hi
  obtain ⟨kvs,e,_⟩:=t4.2 i _ _ (gE hi) (gE hi')
  exact ⟨kvs,e⟩
 refine ⟨hds (x.own++ds) H,⟨b39,fun a ha=>by unfold hds; rw [if_pos (List.mem_append_left _ ha)],h.nd,h.o,h.ww,h.ss,h.gg,h.mm,⟨ds,t1,t2,fun d hd=>by unfold hds; rw [if_pos (List.mem_append_right _ hd)],t4⟩,h.qq⟩,fun b o e=>a98 (h.b _ _ e) fun z=>?_,fun b o hb ho e=>a98 e fun z=>?_⟩
 · rcases gA z with z | z
   · rw [h.f b z] at e; cases e
   · rw [t3 b z] at e; cases e
 · rcases gA z with z | z
   · exact hb z
   · obtain ⟨kvs,e'⟩:=hd b z
     rw [e] at e'
     exact ho kvs (Option.some.inj e')
theorem GrAt.to (h:GrAt C H' H x nw ns n gs ms ts qs) (s:Same H0 H'):GrAt C H0 H x nw ns n gs ms ts qs:=by
 have nn:∀ {a:Addr},H' a=none→H0 a=none:=fun {a} e=>s.free e
 obtain ⟨ds,t1,t2,t3,t4⟩:=h.tt
 exact ⟨s.trans h.b,fun a ha=>nn (h.f a ha),h.nd,h.o,h.ww,h.ss,h.gg,h.mm,⟨ds,t1,t2,fun d hd=>nn (t3 d hd),t4⟩,h.qq⟩
end
section
variable {C:Addr}{H0 H H':Hp}{x:GA}{nw ns:Nat→List Nat}{n:Nat}{gs gs':List Nat}{ms ts ms' ts':List (List Nat)}{qs qs':List Nat}
theorem GrAt.ne (h:GrAt C H0 H x nw ns n gs ms ts qs):x.g≠x.m∧x.g≠x.t∧x.g≠x.q∧x.m≠x.t∧x.m≠x.q∧x.t≠x.q:=by
 have:=h.nd
 unfold GA.own at this
 simp only [List.nodup_cons,List.mem_cons,List.not_mem_nil,or_false,not_or,not_false_eq_true,List.nodup_nil,and_true] at this
 exact ⟨this.1.1,this.1.2.1,this.1.2.2,this.2.1.1,this.2.1.2,this.2.2⟩
theorem GA.mg (x:GA):x.g∈x.own:=by simp [GA.own]
theorem GA.mm (x:GA):x.m∈x.own:=by simp [GA.own]
theorem GA.mt (x:GA):x.t∈x.own:=by simp [GA.own]
theorem GA.mq (x:GA):x.q∈x.own:=by simp [GA.own]
theorem TouAt.lst {a d:Addr}{vs:List V}{xs:List Nat}{o:HO}(h:TouAt H d xs) (e:H a=some (.lst vs)):TouAt (upd H a o) d xs:=by
 obtain ⟨kvs,e1,e2⟩:=h
 exact ⟨kvs,by rw [a04 (ab1 e1 e (fun z=>nomatch z))]; exact e1,e2⟩
theorem TouAt.same {d:Addr}{xs:List Nat}(h:TouAt H d xs) (s:Same H H'):TouAt H' d xs:=by
 obtain ⟨kvs,e1,e2⟩:=h
 exact ⟨kvs,s _ _ e1,e2⟩
theorem GrAt.updG (h:GrAt C H0 H x nw ns n gs ms ts qs):GrAt C H0 (upd H x.g (.lst (natsV gs'))) x nw ns n gs' ms ts qs:=by
 obtain ⟨us,m1,m2⟩:=h.mm
 obtain ⟨ds,t1,t2,t3,t4⟩:=h.tt
 obtain ⟨n1,n2,n3,n4,n5,n6⟩:=h.ne
 exact h.re (.own x.mg) (h.b.updNew (h.f _ x.mg)) a28 ⟨us,by rw [a04 n1.symm]; exact m1,m2.mono fun v y hy=>(KeepL.own x.mg).nl hy⟩ ⟨ds,by rw [a04 n2.symm]; exact t1,t2,t3,t4.mono fun d y hy=>hy.lst h.gg⟩ (by rw [a04 n3.symm]; exact h.qq)
theorem GrAt.updQ (h:GrAt C H0 H x nw ns n gs ms ts qs):GrAt C H0 (upd H x.q (.lst (natsV qs'))) x nw ns n gs ms ts qs':=by
 obtain ⟨us,m1,m2⟩:=h.mm
 obtain ⟨ds,t1,t2,t3,t4⟩:=h.tt
 obtain ⟨n1,n2,n3,n4,n5,n6⟩:=h.ne
 exact h.re (.own x.mq) (h.b.updNew (h.f _ x.mq)) (by rw [a04 n3]; exact h.gg) ⟨us,by rw [a04 n5]; exact m1,m2.mono fun v y hy=>(KeepL.own x.mq).nl hy⟩ ⟨ds,by rw [a04 n6]; exact t1,t2,t3,t4.mono fun d y hy=>hy.lst h.qq⟩ a28
theorem GrAt.updM {us':List V}(h:GrAt C H0 H x nw ns n gs ms ts qs) (hm:Each (NL (hds x.own H)) us' ms'):GrAt C H0 (upd H x.m (.lst us')) x nw ns n gs ms' ts qs:=by
 obtain ⟨us,m1,m2⟩:=h.mm
 obtain ⟨ds,t1,t2,t3,t4⟩:=h.tt
 obtain ⟨n1,n2,n3,n4,n5,n6⟩:=h.ne
 exact h.re (.own x.mm) (h.b.updNew (h.f _ x.mm)) (by rw [a04 n1]; exact h.gg) ⟨us',a28,hm.mono fun v y hy=>(KeepL.own x.mm).nl hy⟩ ⟨ds,by rw [a04 n4.symm]; exact t1,t2,t3,t4.mono fun d y hy=>hy.lst m1⟩ (by rw [a04 n5.symm]; exact h.qq)
theorem GrAt.updT {ds':List Addr}(h:GrAt C H0 H x nw ns n gs ms ts qs) (hn:ds'.Nodup) (hf:∀ d∈ds',H0 d=none) (ht:Each (TouAt H) ds' ts'):GrAt C H0 (upd H x.t (.lst (ds'.map .ref))) x nw ns n gs ms ts' qs:=by
 obtain ⟨us,m1,m2⟩:=h.mm
 obtain ⟨ds,t1,t2,t3,t4⟩:=h.tt
 obtain ⟨n1,n2,n3,n4,n5,n6⟩:=h.ne
 exact h.re (.own x.mt) (h.b.updNew (h.f _ x.mt)) (by rw [a04 n2]; exact h.gg) ⟨us,by rw [a04 n4]; exact m1,m2.mono fun v y hy=>(KeepL.own x.mt).nl hy⟩ ⟨ds',a28,hn,hf,ht.mono fun d y hy=>hy.lst t1⟩ (by rw [a04 n6.symm]; exact h.qq)
theorem GrAt.putT {c a:Nat}{xs:List Nat}{v:V}(h:GrAt C H0 H x nw ns n gs ms ts qs) (hc:ts[c]?=some xs):∃ d kvs vs,H x.t=some (.lst vs)∧vs[c]?=some (.ref d)∧H d=some (.dK kvs)∧kvs.length=xs.length∧GrAt C H0 (upd H d (.dK (putK kvs (Sum.inl (a:Int)) v))) x nw ns n gs ms (ts.set c (addN xs a)) qs:=by
 obtain ⟨us,m1,m2⟩:=h.mm
 obtain ⟨ds,t1,t2,t3,t4⟩:=h.tt
 obtain ⟨d,hd,hT⟩:=t4.get hc
 obtain ⟨kvs,e1,e2,e3⟩:=hT.len
 have hmem:=gI hd
 have hno:∀ b∈x.own,b≠d:=fun b hb z=>by
  obtain ⟨vs,e⟩:=h.own_lst b hb
  rw [z,e1] at e
  cases e
 refine ⟨d,kvs,_,t1,by rw [gM,hd]; rfl,e1,e2,h.re (.dic e1) (h.b.updNew (t3 d hmem)) (by rw [a04 (hno _ x.mg)]; exact h.gg) ⟨us,by rw [a04 (hno _ x.mm)]; exact m1,m2.mono fun v y hy=>(KeepL.dic e1).nl hy⟩ ⟨ds,by rw [a04 (hno _ x.mt)]; exact t1,t2,t3,by rw [List.length_set]; exact t4.1,fun j d' ys h1 h2=>?_⟩ (by rw [a04 (hno _ x.mq)]; exact h.qq)⟩
 rw [List.getElem?_set] at h2
 by_cases z:c=j
 · subst z
   rw [hd] at h1
   cases h1
   rw [if_pos rfl,if_pos (gS hc).1] at h2
   cases h2
   exact ⟨_,a28,bg0 e3 a⟩
 · rw [if_neg z] at h2
   obtain ⟨kvs',g1,g2⟩:=t4.2 j d' ys h1 h2
   refine ⟨kvs',?_,g2⟩
   rw [a04 (fun q=>?_)]
   · exact g1
   · subst q
     obtain ⟨l1,g1⟩:=gS h1
     obtain ⟨l2,g2⟩:=gS hd
     have pw:=List.pairwise_iff_getElem.mp t2
     rcases Nat.lt_or_gt_of_ne z with q | q
     · exact pw c j l2 l1 q (g2.trans g1.symm)
     · exact pw j c l1 l2 q (g1.trans g2.symm)
end
structure FL (H0 H:Hp) (f:Addr) (ls:List Addr) (cs:List (List Nat)):Prop where
 b:Same H0 H
 f0:H0 f=none
 nf:f∉ls
 nd:ls.Nodup
 fr:∀ d∈ls,H0 d=none
 e:H f=some (.lst (ls.map .ref))
 at_:Each (fun d xs=>H d=some (.lst (natsV xs))) ls cs
theorem FL.same {H0 H H':Hp}{f:Addr}{ls:List Addr}{cs:List (List Nat)}(h:FL H0 H f ls cs) (s:Same H H'):FL H0 H' f ls cs:=⟨h.b.trans s,h.f0,h.nf,h.nd,h.fr,s _ _ h.e,h.at_.mono fun d xs e=>s _ _ e⟩
theorem FL.get {H0 H:Hp}{f:Addr}{ls:List Addr}{cs:List (List Nat)}(h:FL H0 H f ls cs) {i:Nat}{xs:List Nat}(e:cs[i]?=some xs):∃ d,ls[i]?=some d∧(ls.map V.ref)[i]?=some (.ref d)∧H d=some (.lst (natsV xs)):=by
 obtain ⟨d,h1,h2⟩:=h.at_.get e
 exact ⟨d,h1,by rw [gM,h1]; rfl,h2⟩
theorem FL.app {H0 H:Hp}{f d:Addr}{ls:List Addr}{cs:List (List Nat)}{i a:Nat}{xs:List Nat}(h:FL H0 H f ls cs) (e:cs[i]?=some xs) (hd:ls[i]?=some d):FL H0 (upd H d (.lst (natsV (xs++[a])))) f ls (cs.set i (xs++[a])):=by
 have hm:=gI hd
 have hne:f≠d:=fun z=>h.nf (z ▸ hm)
 refine ⟨h.b.updNew (h.fr d hm),h.f0,h.nf,h.nd,h.fr,by rw [a04 hne]; exact h.e,by rw [List.length_set]; exact h.at_.1,fun j d' ys h1 h2=>?_⟩
 rw [List.getElem?_set] at h2
 by_cases z:i=j
 · subst z
   rw [hd] at h1
   cases h1
   rw [if_pos rfl,if_pos (gS e).1] at h2
   cases h2
   exact a28
 · rw [if_neg z] at h2
   rw [a04 (fun q=>?_)]
   · exact h.at_.2 j d' ys h1 h2
   · subst q
     obtain ⟨l1,g1⟩:=gS h1
     obtain ⟨l2,g2⟩:=gS hd
     have pw:=List.pairwise_iff_getElem.mp h.nd
     rcases Nat.lt_or_gt_of_ne z with q | q
     · exact pw i j l2 l1 q (g2.trans g1.symm)
     · exact pw j i l1 l2 q (g1.trans g2.symm)
theorem FL.lsts {H0 H:Hp}{f:Addr}{ls:List Addr}{cs:List (List Nat)}(h:FL H0 H f ls cs):Lsts H (ls.map .ref) (fun i=>cs.getD i []) cs.length:=⟨by simp [h.at_.1],fun i hi=>by
 have e:=gE hi
 obtain ⟨d,h1,h2,h3⟩:=h.get e
 exact ⟨d,h2,by show H d=some (.lst (natsV (cs.getD i []))); rw [show cs.getD i []=cs[i] by simp [List.getD,e]]; exact h3⟩⟩
theorem bg1 {gs:List Nat}{k i c:Nat}(h:gs[i]?=some c) (hc:c<k):memL (gs.take (i+1)) k=(memL (gs.take i) k).set c ((List.range i).filter (fun a=>decide ((gs.take i)[a]?=some c))++[i]):=by
 have hi:=(gS h).1
 have l1:(gs.take (i+1)).length=i+1:=by simp; omega
 have l0:(gs.take i).length=i:=by simp; omega
 have ht:∀ a,a<i→(gs.take (i+1))[a]?=(gs.take i)[a]?:=fun a ha=>by rw [List.getElem?_take,List.getElem?_take,if_pos (by omega),if_pos ha]
 have hti:(gs.take (i+1))[i]?=some c:=by rw [List.getElem?_take,if_pos (by omega)]; exact h
 refine List.ext_getElem? fun d=>?_
 rw [List.getElem?_set]
 unfold memL
 rw [gL,List.length_range,l1,l0,gM,gM]
 by_cases hd:d<k
 · rw [List.getElem?_range hd]
   simp only [Option.map_some]
   rw [List.range_succ,List.filter_append]
   have e1:(List.range i).filter (fun a=>decide ((gs.take (i+1))[a]?=some d))=(List.range i).filter (fun a=>decide ((gs.take i)[a]?=some d)):=List.filter_congr fun a ha=>by rw [ht a (List.mem_range.mp ha)]
   rw [e1]
   by_cases z:c=d
   · subst z
     rw [if_pos rfl,if_pos hc]
     simp [hti]
   · rw [if_neg z]
     simp [hti,z]
 · rw [List.getElem?_eq_none (by simp; omega)]
   rw [if_neg (by omega)]
   simp
theorem c82 {l:List Addr}{i:Nat}{y:Addr}(h:l.Nodup) (hy:y∉l):(l.set i y).Nodup:=by
 refine List.pairwise_iff_getElem.mpr fun a b ha hb hab e=>?_
 rw [List.length_set] at ha hb
 rw [List.getElem_set,List.getElem_set] at e
 by_cases z1:i=a
 · rw [if_pos z1,if_neg (by omega)] at e
   exact hy (e ▸ List.getElem_mem hb)
 · rw [if_neg z1] at e
   by_cases z2:i=b
   · rw [if_pos z2] at e
     exact hy (e ▸ List.getElem_mem ha)
   · rw [if_neg z2] at e
     exact List.pairwise_iff_getElem.mp h a b ha hb hab e
theorem b40 {α β:Type}{R:α→β→Prop}{l:List α}{r:List β}{i:Nat}{y:α}{z:β}(h:Each R l r) (hy:R y z):Each R (l.set i y) (r.set i z):=by
 refine ⟨by simp [h.1],fun j a b h1 h2=>?_⟩
 rw [List.getElem?_set] at h1 h2
 by_cases q:i=j
 · rw [if_pos q] at h1 h2
   split at h1
   · split at h2
     · cases h1
       cases h2
       exact hy
     · cases h2
   · cases h1
 · rw [if_neg q] at h1 h2
   exact h.2 j a b h1 h2
def keyT (l:List Nat):Tr:=.tup (natsT l)
theorem bm5 {a b:List Nat}(h:keyT a=keyT b):a=b:=by
 unfold keyT natsT at h
 have h:=Tr.tup.inj h
 refine List.ext_getElem? fun i=>?_
 have:=congrArg (fun l=>l[i]?) h
 simp only [gM] at this
 cases e1:a[i]? <;> cases e2:b[i]? <;> rw [e1,e2] at this <;> simp at this ⊢
 omega
theorem bg2 {H:Hp}{p:Addr}{l:List Nat}(h:H p=some (.tup (natsV l))):TK H (keyT l) (.ref p):=by
 refine ⟨?_,?_⟩
 · unfold keyT
   exact at_tup0.mpr ⟨p,_,rfl,h,b09 l⟩
 · unfold keyT
   simp only [Tr.h,bc3]
   omega
theorem DtAt.ext' {P:Params}{H:Hp}{a:Addr}{kvs:List (Tr×V)}(h:DtAt P H a kvs):∃ φ,H a=some (.ext φ)∧True:=by
 obtain ⟨m,_,⟨φ,e,_⟩,_⟩:=h
 exact ⟨φ,e,trivial⟩
abbrev Clx:=List Nat×Addr×List Nat
structure CI (led:Nat→List Nat) (cs:List Clx) (zs:List Nat):Prop where
 kn:(cs.map (·.1)).Nodup
 an:(cs.map (·.2.1)).Nodup
 ok:∀ y∈cs,y.2.2≠[]∧∀ a∈y.2.2,led a=y.1
 pm:((cs.map (·.2.2)).flatten).Perm zs
theorem CI.nil {led:Nat→List Nat}:CI led [] []:=⟨by simp,by simp,by simp,by simp⟩
theorem CI.new {led:Nat→List Nat}{cs:List Clx}{zs l xs:List Nat}{p:Addr}(h:CI led cs zs) (hk:l∉cs.map (·.1)) (ha:p∉cs.map (·.2.1)) (hx:xs≠[]) (hl:∀ a∈xs,led a=l):CI led (cs++[(l,p,xs)]) (zs++xs):=by
 refine ⟨by rw [List.map_append]; exact aa8 h.kn hk,by rw [List.map_append]; exact aa8 h.an ha,fun y hy=>?_,?_⟩
 · rcases gA hy with hy | hy
   · exact h.ok y hy
   · rw [gG hy]
     exact ⟨hx,hl⟩
 · rw [List.map_append,List.flatten_append]
   simp only [List.map_cons,List.map_nil,List.flatten_cons,List.flatten_nil,List.append_nil]
   exact h.pm.append_right xs
theorem b41 {xs:List Nat}:∀ {l:List (List Nat)}{j:Nat}{a:List Nat},l[j]?=some a→(l.set j (a++xs)).flatten.Perm (l.flatten++xs)
 | [],j,a,h=>by simp at h
 | b::l,0,a,h=>by
   obtain rfl:b=a:=by simpa using h
   simp only [List.set_cons_zero,List.flatten_cons,List.append_assoc]
   exact List.perm_append_comm.append_left b
 | b::l,j+1,a,h=>by
   simp only [List.set_cons_succ,List.flatten_cons,List.append_assoc]
   exact (b41 (l:=l) (by simpa using h)).append_left b
theorem af4 {α β:Type}{f:α→β}{l:List α}{j:Nat}{y z:α}(h:l[j]?=some y) (e:f z=f y):(l.set j z).map f=l.map f:=by
 rw [List.map_set,e]
 refine List.ext_getElem? fun i=>?_
 rw [List.getElem?_set]
 by_cases q:j=i
 · subst q
   have:=(gS h).1
   rw [if_pos rfl,if_pos (by simpa using this),gM,h]
   rfl
 · rw [if_neg q]
theorem CI.old {led:Nat→List Nat}{cs:List Clx}{zs xs:List Nat}{j:Nat}{y:Clx}(h:CI led cs zs) (hy:cs[j]?=some y) (hl:∀ a∈xs,led a=y.1):CI led (cs.set j (y.1,y.2.1,y.2.2++xs)) (zs++xs):=by
 have hm:=h.ok y (gI hy)
 refine ⟨by rw [af4 (f:=fun y:Clx=>y.1) (z:=(y.1,y.2.1,y.2.2++xs)) hy rfl]; exact h.kn,by rw [af4 (f:=fun y:Clx=>y.2.1) (z:=(y.1,y.2.1,y.2.2++xs)) hy rfl]; exact h.an,fun z hz=>?_,?_⟩
 · rcases List.mem_or_eq_of_mem_set hz with hz | rfl
   · exact h.ok z hz
   · refine ⟨fun q=>hm.1 (List.append_eq_nil_iff.mp q).1,fun a ha=>?_⟩
     rcases gA ha with ha | ha
     · exact hm.2 a ha
     · exact hl a ha
 · rw [List.map_set]
   refine (b41 (a:=y.2.2) (by rw [gM,hy]; rfl)).trans (h.pm.append_right xs)
def csD (cs:List Clx):List (Tr×V):=cs.map fun y=>(keyT y.1,.ref y.2.1)
theorem ak6 {l:List Nat}:∀ {cs:List Clx},(valV (csD cs) (keyT l)=none∧l∉cs.map (·.1))∨∃ (j:Nat) (y:Clx),cs[j]?=some y∧y.1=l∧valV (csD cs) (keyT l)=some (.ref y.2.1)
 | []=>.inl ⟨rfl,by simp⟩
 | y::cs=>by
   unfold csD
   rw [List.map_cons]
   by_cases e:y.1=l
   · exact .inr ⟨0,y,rfl,e,by rw [a83 (by rw [e])]⟩
   · rw [a84 (fun z=>e (bm5 z))]
     rcases ak6 (l:=l) (cs:=cs) with ⟨h1,h2⟩ | ⟨j,z,h1,h2,h3⟩
     · refine .inl ⟨h1,?_⟩
       rw [List.map_cons,List.mem_cons,not_or]
       exact ⟨fun q=>e q.symm,h2⟩
     · exact .inr ⟨j+1,z,by simpa using h1,h2,h3⟩
theorem bg3 {cs:List Clx}{j:Nat}{y:Clx}{xs:List Nat}(hy:cs[j]?=some y):csD (cs.set j (y.1,y.2.1,xs))=csD cs:=by
 unfold csD
 exact af4 hy rfl
def CH (B H:Hp) (cs:List Clx):Prop:=∀ y∈cs,B y.2.1=none∧H y.2.1=some (.lst (natsV y.2.2))
theorem CH.same {B H H':Hp}{cs:List Clx}(h:CH B H cs) (s:Same H H'):CH B H' cs:=fun y hy=>⟨(h y hy).1,s _ _ (h y hy).2⟩
theorem CH.no {B H:Hp}{cs:List Clx}(h:CH B H cs) {p:Addr}(f:H p=none):p∉cs.map (·.2.1):=fun z=>by
 obtain ⟨y,hy,rfl⟩:=List.mem_map.mp z
 rw [(h y hy).2] at f
 cases f
theorem CH.old {B H:Hp}{cs:List Clx}{j:Nat}{y:Clx}{xs:List Nat}(h:CH B H cs) (an:(cs.map (·.2.1)).Nodup) (hy:cs[j]?=some y):CH B (upd H y.2.1 (.lst (natsV xs))) (cs.set j (y.1,y.2.1,xs)):=fun z hz=>by
 obtain ⟨i,hi,rfl⟩:=List.mem_iff_getElem.mp hz
 rw [List.length_set] at hi
 rw [List.getElem_set]
 by_cases q:j=i
 · rw [if_pos q]
   exact ⟨(h y (gI hy)).1,a28⟩
 · rw [if_neg q]
   obtain ⟨a,b⟩:=h cs[i] (List.getElem_mem hi)
   refine ⟨a,?_⟩
   rw [a04 (fun z=>?_)]
   · exact b
   · obtain ⟨l2,g2⟩:=gS hy
     have pw:=List.pairwise_iff_getElem.mp an
     rcases Nat.lt_or_gt_of_ne q with q | q
     · exact pw j i (by simpa using l2) (by simpa using hi) q (by simp [g2,z])
     · exact pw i j (by simpa using hi) (by simpa using l2) q (by simp [g2,z])
theorem CI.parts {led:Nat→List Nat}{cs:List Clx}{zs gs:List Nat}{c:Nat}(h:CI led cs zs) (hn:zs.Nodup) (hm:∀ a,a∈zs↔gs[a]?=some c):PartsOf gs led c (cs.map (·.2.2)):=by
 refine ⟨fun p hp=>?_,(h.pm.nodup_iff).mpr hn,fun a=>by rw [← hm a]; exact h.pm.mem_iff,fun p hp a ha b hb=>?_,?_⟩
 · obtain ⟨y,hy,rfl⟩:=List.mem_map.mp hp
   exact (h.ok y hy).1
 · obtain ⟨y,hy,rfl⟩:=List.mem_map.mp hp
   rw [(h.ok y hy).2 a ha,(h.ok y hy).2 b hb]
 · refine List.pairwise_map.mpr (List.Pairwise.imp_of_mem (fun {y z} hy hz hne a ha b hb e=>hne ?_) (List.pairwise_map.mp h.kn))
   rw [← (h.ok y hy).2 a ha,←(h.ok z hz).2 b hb,e]
theorem CI.few {led:Nat→List Nat}{cs:List Clx}{zs:List Nat}(h:CI led cs zs):cs.length≤zs.length∧∀ y∈cs,y.2.2.length≤zs.length:=by
 have e:=h.pm.length_eq
 have gen:∀ (cs:List Clx),(∀ y∈cs,y.2.2≠[])→cs.length≤((cs.map (·.2.2)).flatten).length∧∀ y∈cs,y.2.2.length≤((cs.map (·.2.2)).flatten).length:=by
  intro cs
  induction cs with
  | nil=>intro _; simp
  | cons y cs ih =>
    intro hok
    obtain ⟨h1,h2⟩:=ih fun z hz=>hok z (List.mem_cons_of_mem _ hz)
    have h3:0<y.2.2.length:=List.length_pos_iff.mpr (hok y List.mem_cons_self)
    simp only [List.map_cons,List.flatten_cons,List.length_cons,List.length_append]
    refine ⟨by omega,fun z hz=>?_⟩
    rcases List.mem_cons.mp hz with rfl | hz
    · omega
    · have:=h2 z hz
      omega
 rw [← e]
 exact gen cs fun y hy=>(h.ok y hy).1
section
variable {C:Addr}{H0 H H':Hp}{x:GA}{nw ns:Nat→List Nat}{n:Nat}{gs gs':List Nat}{ms ts ms' ts':List (List Nat)}{qs qs':List Nat}
theorem GrAt.frz {d:Addr}{kvs:List (Key×V)}{o:HO}{vs:List V}(h:GrAt C H0 H x nw ns n gs ms ts qs) (e:H d=some (.dK kvs)) (f0:H0 d=none) (et:H x.t=some (.lst vs)) (hd:V.ref d∉vs):GrAt C H0 (upd H d o) x nw ns n gs ms ts qs:=by
 obtain ⟨us,m1,m2⟩:=h.mm
 obtain ⟨ds,t1,t2,t3,t4⟩:=h.tt
 rw [t1] at et
 cases et
 have hno:∀ b∈x.own,b≠d:=fun b hb z=>by
  obtain ⟨vs,e'⟩:=h.own_lst b hb
  rw [z,e] at e'
  cases e'
 refine h.re (.dic e) (h.b.updNew f0) (by rw [a04 (hno _ x.mg)]; exact h.gg) ⟨us,by rw [a04 (hno _ x.mm)]; exact m1,m2.mono fun v y hy=>(KeepL.dic e).nl hy⟩ ⟨ds,by rw [a04 (hno _ x.mt)]; exact t1,t2,t3,t4.1,fun j d' ys h1 h2=>?_⟩ (by rw [a04 (hno _ x.mq)]; exact h.qq)
 obtain ⟨kvs',g1,g2⟩:=t4.2 j d' ys h1 h2
 refine ⟨kvs',?_,g2⟩
 rw [a04 (fun q=>hd ?_)]
 · exact g1
 · rw [← q]
   exact List.mem_map_of_mem (gI h1)
end
theorem bm6 {α β:Type}{f:α→β}{l m:List β}(h:l.Perm m):∀ {r:List α},m=r.map f→∃ r2:List α,r2.Perm r∧l=r2.map f:=by
 induction h with
 | nil =>
   intro r e
   obtain rfl:r=[]:=by simpa using e.symm
   exact ⟨[],.nil,rfl⟩
 | cons x h ih =>
   intro r e
   cases r with
   | nil=>simp at e
   | cons y r =>
     simp only [List.map_cons,List.cons.injEq] at e
     obtain ⟨r2,h1,h2⟩:=ih e.2
     exact ⟨y::r2,h1.cons y,by rw [h2,e.1]; rfl⟩
 | swap x y l =>
   intro r e
   cases r with
   | nil=>simp at e
   | cons a r =>
     cases r with
     | nil=>simp at e
     | cons b r =>
       simp only [List.map_cons,List.cons.injEq] at e
       exact ⟨b::a::r,List.Perm.swap a b r,by rw [e.1,e.2.1,e.2.2]; rfl⟩
 | trans h1 h2 ih1 ih2 =>
   intro r e
   obtain ⟨r2,a1,a2⟩:=ih2 e
   obtain ⟨r3,b1,b2⟩:=ih1 a2
   exact ⟨r3,b1.trans a1,b2⟩
theorem PartsOf.few {gs:List Nat}{led:Nat→List Nat}{c:Nat}{ps:List (List Nat)}(h:PartsOf gs led c ps):ps.length≤gs.length:=by
 have h1:ps.length≤ps.flatten.length:=by
  have:=h.ne
  clear h
  induction ps with
  | nil=>simp
  | cons p ps ih =>
    have a:=ih fun q hq=>this q (List.mem_cons_of_mem _ hq)
    have b:0<p.length:=List.length_pos_iff.mpr (this p List.mem_cons_self)
    simp only [List.length_cons,List.flatten_cons,List.length_append]
    omega
 have h2:=pigeon gs.length ps.flatten h.nd fun a ha=>(gS ((h.me a).mp ha)).1
 omega
theorem PartsOf.some {gs:List Nat}{led:Nat→List Nat}{c a:Nat}{ps:List (List Nat)}(h:PartsOf gs led c ps) (ha:gs[a]?=some c):ps≠[]:=fun z=>by
 have:=(h.me a).mpr ha
 rw [z] at this
 cases this
theorem But.none {p:Addr}{H H':Hp}(k:But p H H') {a:Addr}{o:HO}(hp:H' p=some o) (f:H' a=none):H a=none:=by
 cases e:H a with
 | none=>rfl
 | some u =>
   have:=k a u (fun z=>by rw [z,hp] at f; cases f) e
   rw [f] at this
   cases this
theorem am8:∀ {xs ys:List Nat}{kvs:List (Key×V)},kvs.map (·.1)=ys.map (fun (x:Nat)=>Sum.inl (x:Int))→(mergeK kvs (xs.map fun (x:Nat)=>(Sum.inl (x:Int),V.bl true))).map (·.1)=(xs.foldl addN ys).map fun (x:Nat)=>Sum.inl (x:Int)
 | [],ys,kvs,h=>h
 | x::xs,ys,kvs,h=>am8 (xs:=xs) (ys:=addN ys x) (kvs:=putK kvs (Sum.inl (x:Int)) (.bl true)) (bg0 h x)
theorem b42:∀ {xs ys:List Nat},(ys++xs).Nodup→xs.foldl addN ys=ys++xs
 | [],ys,_=>by simp
 | x::xs,ys,h=>by
   have hx:x∉ys:=fun hm=>(List.nodup_append.mp h).2.2 x hm x (by simp) rfl
   rw [List.foldl_cons,addN,if_neg hx,b42 (by simpa using h)]
   simp
theorem bg4 {xs:List Nat}(h:xs.Nodup):(mergeK [] (xs.map fun (x:Nat)=>(Sum.inl (x:Int),V.bl true))).map (·.1)=xs.map fun (x:Nat)=>Sum.inl (x:Int):=by
 rw [am8 (ys:=[]) rfl,b42 (by simpa using h)]
 rfl
theorem av1 {H:Hp}:∀ l:List Nat,Tr.AtsB H (l.map fun (k:Nat)=>Tr.int (k:Int)) (natsV l)
 | []=>rfl
 | k::l=>⟨_,_,rfl,.inl rfl,av1 l⟩
def labT (x:Bool×List (List Str)):Tr:=.tup [.int (if x.1=true then 1 else 0),.tup (x.2.map fun s=>.tup (s.map Tr.str))]
theorem ah7 {α:Type}{f:α→Tr}(hf:∀ a b,f a=f b→a=b):∀ {a b:List α},a.map f=b.map f→a=b
 | [],[],_=>rfl
 | [],_::_,h=>by simp at h
 | _::_,[],h=>by simp at h
 | x::a,y::b,h=>by
   simp only [List.map_cons,List.cons.injEq] at h
   rw [hf x y h.1,ah7 hf h.2]
theorem bm7 {a b:Bool×List (List Str)}(h:labT a=labT b):a=b:=by
 obtain ⟨a1,a2⟩:=a
 obtain ⟨b1,b2⟩:=b
 unfold labT at h
 simp only [Tr.tup.injEq,List.cons.injEq,Tr.int.injEq,and_true] at h
 have h2:a2=b2:=ah7 (f:=fun s:List Str=>Tr.tup (s.map Tr.str)) (fun x y e=>ah7 (fun p q e=>by cases e; rfl) (Tr.tup.inj e)) h.2
 rw [h2]
 cases a1 <;> cases b1 <;> simp at h <;> rfl
theorem bg5:∀ s:List Str,Tr.hs (s.map Tr.str)=0
 | []=>rfl
 | x::s=>by simp [Tr.hs,Tr.h,bg5 s]
theorem c83 (x:Bool×List (List Str)):(labT x).h≤8:=by
 have:∀ l:List (List Str),Tr.hs (l.map fun s=>Tr.tup (s.map Tr.str))≤2:=by
  intro l
  induction l with
  | nil=>simp [Tr.hs]
  | cons s l ih =>
    simp only [List.map_cons,Tr.hs,Tr.h,bg5]
    omega
 have:=this x.2
 unfold labT
 simp only [Tr.h,Tr.hs]
 omega
theorem b43 {H:Hp}:∀ s:List Str,Tr.AtsB H (s.map Tr.str) (strsV s)
 | []=>rfl
 | x::s=>⟨_,_,rfl,rfl,b43 s⟩
def nxR (rs:List RRoom) (x:Nat):List Nat:=(roomA rs x).2.map (·.2)
def fdR (rs:List RRoom):List Nat:=bfs (nxR rs) (rs.length+1) 0 [0]
theorem ac1:∀ (ks row:List Nat),∃ t,addAll row ks=row++t
 | [],row=>⟨[],by simp [addAll]⟩
 | k::ks,row=>by
   show ∃ t,addAll (if k∈row then row else row++[k]) ks=row++t
   split
   · exact ac1 ks row
   · obtain ⟨t,h⟩:=ac1 ks (row++[k])
     exact ⟨[k]++t,by rw [h,List.append_assoc]⟩
theorem ay5 {nx:Nat→List Nat}:∀ (fuel p:Nat) (row:List Nat),∃ t,bfs nx fuel p row=row++t
 | 0,p,row=>⟨[],by simp [bfs]⟩
 | fuel+1,p,row=>by
   unfold bfs
   cases e:row[p]? with
   | none=>exact ⟨[],by simp⟩
   | some k =>
     obtain ⟨t,h⟩:=ay5 fuel (p+1) (addAll row (nx k))
     obtain ⟨u,h'⟩:=ac1 (nx k) row
     exact ⟨u++t,by simp only []; rw [h,h',List.append_assoc]⟩
theorem ac2 {rs:List RRoom}{many:Nat}(ok:TblOk many rs) {x:Nat}(hx:x<rs.length):(nxR rs x).length=many∧∀ k∈nxR rs x,k<rs.length:=by
 have e:rs[x]?=some (roomA rs x):=by unfold roomA; simp [hx]
 obtain ⟨h1,h2⟩:=ok.rows _ (gI e)
 refine ⟨by unfold nxR; rw [gL]; exact h1,fun k hk=>?_⟩
 obtain ⟨y,hy,rfl⟩:=List.mem_map.mp hk
 exact h2 y hy
theorem af5 {rs:List RRoom}{many:Nat}(ok:TblOk many rs) {x:Nat}(hx:x<rs.length):nxR rs x=(List.range many).map (wayR rs x):=by
 have hl:=(ac2 ok hx).1
 refine List.ext_getElem? fun j=>?_
 by_cases hj:j<many
 · rw [gM,List.getElem?_range hj]
   unfold nxR
   rw [gM,(ah4 ok hx hj).2.2]
   rfl
 · rw [List.getElem?_eq_none (by omega),List.getElem?_eq_none (by simp; omega)]
theorem af0 {rs:List RRoom}{many:Nat}(ok:TblOk many rs) (h0:0<rs.length):Bf (nxR rs) rs.length (fdR rs).length (fdR rs) :=
 Bf.end_ (fun k hk j hj=>(ac2 ok hk).2 j hj) _ _ _ ⟨by simp,fun k hk=>by rw [gG hk]; exact h0,Nat.zero_le _,fun i k hi=>absurd hi (Nat.not_lt_zero _)⟩ (by omega)
theorem b77 (rs:List RRoom):(fdR rs)[0]?=some 0:=by
 unfold fdR
 obtain ⟨t,h⟩:=ay5 (nx:=nxR rs) (rs.length+1) 0 [0]
 rw [h]
 rfl
noncomputable def gsR (rs:List RRoom) (many:Nat):List Nat:=likeN (labR rs many) (wayR rs) many (fdR rs)
theorem ak7 (rs:List RRoom) (many:Nat):(gsR rs many).length=(fdR rs).length:=by
 unfold gsR likeN
 rw [ab9,gL]
noncomputable def numOf (rs:List RRoom) (many x:Nat):Nat:=(gsR rs many).getD ((fdR rs).idxOf x) 0
noncomputable def numR (rs:List RRoom) (many:Nat):List (Option Nat):=(List.range rs.length).map fun x=>if x∈fdR rs then some (numOf rs many x) else none
noncomputable def fsR (rs:List RRoom) (many:Nat):List Nat:=(mets (gsR rs many)).map fun k=>(gsR rs many).idxOf k
noncomputable def rwR (rs:List RRoom) (many:Nat) (r:RRoom):RRoom:=(r.1,r.2.map fun x=>(x.1,numOf rs many x.2))
noncomputable def lstR (rs:List RRoom) (many:Nat):List RRoom:=(fsR rs many).map fun place=>rwR rs many (roomA rs ((fdR rs).getD place 0))
section
variable {rs:List RRoom}{many:Nat}
theorem am9 {i x:Nat}(hn:(fdR rs).Nodup) (h:(fdR rs)[i]?=some x):(gsR rs many)[i]?=some (numOf rs many x)∧(fdR rs).idxOf x=i:=by
 have hi:=(gS h).1
 have e:=c56 hn h
 refine ⟨?_,e⟩
 unfold numOf
 rw [e]
 have:i<(gsR rs many).length:=by rw [ak7]; exact hi
 simp [List.getD,gE this]
theorem bg6 {x y:Nat}(hn:(fdR rs).Nodup) (hx:x∈fdR rs) (hy:y∈fdR rs):numOf rs many x=numOf rs many y↔¬ ApartR (labR rs many) (wayR rs) many x y:=by
 obtain ⟨i,hi,ei⟩:=List.mem_iff_getElem.mp hx
 obtain ⟨j,hj,ej⟩:=List.mem_iff_getElem.mp hy
 have e1:(fdR rs)[i]?=some x:=by rw [gE hi,ei]
 have e2:(fdR rs)[j]?=some y:=by rw [gE hj,ej]
 have g1:=(am9 (many:=many) hn e1).1
 have g2:=(am9 (many:=many) hn e2).1
 have:=au9 (l:=(fdR rs).map (clsR (labR rs many) (wayR rs) many)) (i:=i) (j:=j) (x:=clsR (labR rs many) (wayR rs) many x) (y:=clsR (labR rs many) (wayR rs) many y) (by rw [gM,e1]; rfl) (by rw [gM,e2]; rfl)
 rw [← cls_eq,←this]
 show _↔(gsR rs many)[i]?=(gsR rs many)[j]?
 rw [g1,g2,Option.some_inj]
theorem ce1 (hn:(fdR rs).Nodup):numOf rs many 0=0:=by
 have h:=(am9 (many:=many) hn (b77 rs)).1
 have h0:0<((fdR rs).map (clsR (labR rs many) (wayR rs) many)).length:=by
  have:=(gS (b77 rs)).1
  simpa using this
 have:=bv6 h0
 show _=0
 have e:(gsR rs many)[0]?=some 0:=this
 rw [e] at h
 exact (Option.some.inj h).symm
theorem ai5 (rs:List RRoom) (many:Nat):mets (gsR rs many)=List.range (lstR rs many).length:=by
 have:(lstR rs many).length=(mets (gsR rs many)).length:=by simp [lstR,fsR]
 rw [this]
 unfold gsR likeN
 rw [ae2 _ rfl,List.length_range]
theorem c84 {x:Nat}(hn:(fdR rs).Nodup) (hx:x∈fdR rs):numOf rs many x<(lstR rs many).length:=by
 obtain ⟨i,hi,ei⟩:=List.mem_iff_getElem.mp hx
 have e1:(fdR rs)[i]?=some x:=by rw [gE hi,ei]
 have:=(a45 _ _).mpr (gI (am9 (many:=many) hn e1).1)
 rw [ai5] at this
 exact List.mem_range.mp this
theorem bp2 {k:Nat}(hn:(fdR rs).Nodup) (hk:k<(lstR rs many).length):∃ y∈fdR rs,(lstR rs many)[k]?=some (rwR rs many (roomA rs y))∧numOf rs many y=k:=by
 have hm:k∈gsR rs many:=(a45 _ _).mp (by rw [ai5]; exact List.mem_range.mpr hk)
 have hi:=List.idxOf_lt_length_of_mem hm
 have hi':(gsR rs many).idxOf k<(fdR rs).length:=by rw [← ak7 rs many]; exact hi
 obtain ⟨y,hy⟩:∃ y,(fdR rs)[(gsR rs many).idxOf k]?=some y:=⟨_,gE hi'⟩
 have g:=(am9 (many:=many) hn hy).1
 rw [gE hi,List.getElem_idxOf hi] at g
 refine ⟨y,gI hy,?_,(Option.some.inj g).symm⟩
 unfold lstR fsR
 rw [gM,gM,ai5,List.getElem?_range hk]
 simp only [Option.map_some,Option.some_inj]
 rw [show (fdR rs).getD ((gsR rs many).idxOf k) 0=y by simp [List.getD,hy]]
theorem av2 {x y:Nat}(h:¬ ApartR (labR rs many) (wayR rs) many x y):(roomA rs x).1=(roomA rs y).1∧∀ j,j<many→(rowA rs x j).1=(rowA rs y j).1∧¬ ApartR (labR rs many) (wayR rs) many (rowA rs x j).2 (rowA rs y j).2:=by
 have e:labR rs many x=labR rs many y:=Classical.not_not.mp fun z=>h ⟨[],fun _ q=>absurd q (by simp),z⟩
 obtain ⟨h1,h2⟩:=ay1 e
 exact ⟨h1,fun j hj=>⟨h2 j hj,fun z=>h (ApartR.cons hj z)⟩⟩
theorem ak8 (ok:TblOk many rs) (h0:0<rs.length) {x j:Nat}(hx:x∈fdR rs) (hj:j<many):(rowA rs x j).2∈fdR rs:=by
 have b:=af0 ok h0
 obtain ⟨i,hi,rfl⟩:=List.mem_iff_getElem.mp hx
 refine b.cl i _ hi (gE hi) _ ?_
 rw [af5 ok (b.lt _ hx)]
 exact List.mem_map_of_mem (List.mem_range.mpr hj)
end
def plF:List Nat→Nat→List (Key×V)
 | [],_=>[]
 | x::l,i=>(Sum.inl (x:Int),.int (i:Nat))::plF l (i+1)
theorem b44 (x:Nat):∀ (l:List Nat) (i:Nat),plF (l++[x]) i=plF l i++[(Sum.inl (x:Int),.int ((i+l.length:Nat):Int))]
 | [],i=>rfl
 | y::l,i=>by
   show (_:Key×V)::plF (l++[x]) (i+1)=_
   rw [b44 x l (i+1),show i+1+l.length=i+(y::l).length by simp; omega]
   rfl
theorem bg7 {x:Nat}:∀ {l:List Nat}{i:Nat}{kvs:List (Key×V)},l.Nodup→valV (mergeK kvs (plF l i)) (Sum.inl (x:Int))=if x∈l then some (.int ((i+l.idxOf x:Nat):Int)) else valV kvs (Sum.inl (x:Int))
 | [],i,kvs,_=>by simp [plF,mergeK]
 | y::l,i,kvs,h=>by
   rw [List.nodup_cons] at h
   show valV (mergeK (putK kvs (Sum.inl (y:Int)) (.int (i:Nat))) (plF l (i+1))) (Sum.inl (x:Int))=_
   rw [bg7 h.2,ao8]
   by_cases e:x=y
   · subst e
     rw [if_neg h.1,if_pos rfl,if_pos (by simp)]
     simp
   · have e2:¬ (Sum.inl (x:Int):Key)=Sum.inl (y:Int):=fun z=>e (by have:=Sum.inl.inj z; omega)
     rw [if_neg e2]
     by_cases hm:x∈l
     · rw [if_pos hm,if_pos (by simp [hm]),List.idxOf_cons]
       have:(y == x)=false:=by simp [Ne.symm e]
       rw [this]
       simp only [cond_false]
       congr 3
       omega
     · rw [if_neg hm,if_neg (by simp [hm,e])]
theorem apart_some {α:Type}{lab:Nat→α}{w:Nat→Nat→Nat}:∀ {v:List Nat}{a b:Nat},Apart (fun x=>some (lab x)) w a b v↔Apart lab w a b v
 | [],a,b=>by
   show some (lab a)≠some (lab b)↔lab a≠lab b
   simp
 | j::v,a,b=>apart_some (v:=v)
theorem bg8 {α:Type}{lab:Nat→α}{w:Nat→Nat→Nat}{many:Nat}{l:List Nat}:likeN (fun x=>some (lab x)) w many l=likeN lab w many l:=by
 refine (ag5 l.length (by simp) (by simp) fun i j hi hj=>?_).1
 simp only [gM,gE hi,gE hj,Option.map_some,Option.some_inj]
 rw [cls_eq,cls_eq]
 exact not_congr ⟨fun ⟨v,h1,h2⟩=>⟨v,h1,apart_some.mp h2⟩,fun ⟨v,h1,h2⟩=>⟨v,h1,apart_some.mpr h2⟩⟩
def wwP (rs:List RRoom) (a j:Nat):Nat:=(fdR rs).idxOf (wayR rs ((fdR rs).getD a 0) j)
def nwP (rs:List RRoom) (a:Nat):List Nat:=(nxR rs ((fdR rs).getD a 0)).map fun x=>(fdR rs).idxOf x
theorem b45 {rs:List RRoom}{a:Nat}(h:a<(fdR rs).length):(fdR rs)[a]?=some ((fdR rs).getD a 0)∧(fdR rs).getD a 0∈fdR rs:=by
 have e:(fdR rs)[a]?=some ((fdR rs).getD a 0):=by simp [List.getD,gE h]
 exact ⟨e,gI e⟩
theorem bg9 {rs:List RRoom}{many:Nat}(ok:TblOk many rs) (h0:0<rs.length) {a:Nat}(ha:a<(fdR rs).length):nwP rs a=(List.range many).map (wwP rs a)∧∀ j,j<many→wwP rs a j<(fdR rs).length∧(fdR rs).getD (wwP rs a j) 0=wayR rs ((fdR rs).getD a 0) j:=by
 obtain ⟨e,hm⟩:=b45 ha
 have hb:=af0 ok h0
 refine ⟨?_,fun j hj=>?_⟩
 · unfold nwP
   rw [af5 ok (hb.lt _ hm),List.map_map]
   rfl
 · have hw:wayR rs ((fdR rs).getD a 0) j∈fdR rs:=ak8 ok h0 hm hj
   have hl:=List.idxOf_lt_length_of_mem hw
   refine ⟨hl,?_⟩
   unfold wwP
   exact af3 (by rw [gE hl,List.getElem_idxOf hl])
theorem b78 {rs:List RRoom}{many:Nat}(ok:TblOk many rs) (h0:0<rs.length):likeN (fun a=>((fdR rs).map (labR rs many))[a]?) (wwP rs) many (List.range (fdR rs).length)=gsR rs many:=by
 rw [bm4 (lab:=fun x=>some (labR rs many x)) (w:=wayR rs) (f:=fun a=>(fdR rs).getD a 0) (fun a ha=>?_) (fun a j ha hj=>(bg9 ok h0 ha).2 j hj),bg8]
 · unfold gsR
   congr 1
   refine List.ext_getElem? fun i=>?_
   by_cases hi:i<(fdR rs).length
   · rw [gM,List.getElem?_range hi,(b45 hi).1]
     rfl
   · rw [List.getElem?_eq_none (by simp; omega),List.getElem?_eq_none (by omega)]
 · rw [gM,(b45 ha).1]
   rfl
theorem b46 {ws:List (Option Nat)}{i:Nat}{o:Option Nat}(h:ws[i]?=some o):(waysV ws)[i]?=some (wayV o):=by
 unfold waysV
 rw [gM,h]
 rfl
theorem ay6 {rs:List RRoom}{many x:Nat}(h:x<rs.length):(numR rs many)[x]?=some (if x∈fdR rs then some (numOf rs many x) else none):=by
 unfold numR
 rw [gM,List.getElem?_range h]
 rfl
section
variable {rs:List RRoom}{many:Nat}
theorem bh0 (ok:TblOk many rs) (h0:0<rs.length):(lstR rs many).length≤rs.length∧0<(lstR rs many).length:=by
 have b:=af0 ok h0
 have h1:=ae1 (gsR rs many)
 have h2:=ak7 rs many
 have h3:=b.few
 have e:(lstR rs many).length=(mets (gsR rs many)).length:=by simp [lstR,fsR]
 refine ⟨by omega,?_⟩
 have:=c84 (many:=many) b.nd (gI (b77 rs))
 omega
end
section
variable {rs:List RRoom}{many:Nat}{p:Pr}{R:List Nat}
end
section
variable {α:Type} [DecidableEq α] {cl:Nat→α}{nx:Nat→List Nat}
def add1 (cl:Nat→α) (F:List Nat) (k:Nat):List Nat:=if cl k∈F.map cl then F else F++[k]
def addC (cl:Nat→α) (F ks:List Nat):List Nat:=ks.foldl (add1 cl) F
def FC (cl:Nat→α) (nx:Nat→List Nat):Nat→List Nat
 | 0=>[0]
 | n+1=>addC cl (FC cl nx n) (nx ((FC cl nx n).getD n 0))
theorem bh1 (F ks:List Nat) (k:Nat):addC cl F (ks++[k])=add1 cl (addC cl F ks) k:=by
 unfold addC
 rw [List.foldl_append]
 rfl
theorem bm8 (F:List Nat) (k:Nat):(add1 cl F k).map cl=met1 (F.map cl) (cl k):=by
 unfold add1 met1
 split
 · rfl
 · rw [List.map_append]
   rfl
theorem b47:∀ (ks F:List Nat),(addC cl F ks).map cl=(ks.map cl).foldl met1 (F.map cl)
 | [],F=>rfl
 | k::ks,F=>by
   show (addC cl (add1 cl F k) ks).map cl=(ks.map cl).foldl met1 (met1 (F.map cl) (cl k))
   rw [b47 ks,bm8]
theorem b48:∀ (ks F:List Nat),∃ t,addC cl F ks=F++t
 | [],F=>⟨[],by simp [addC]⟩
 | k::ks,F=>by
   obtain ⟨t,h⟩:=b48 ks (add1 cl F k)
   show ∃ t,addC cl (add1 cl F k) ks=F++t
   rw [h]
   unfold add1
   split
   · exact ⟨t,rfl⟩
   · exact ⟨[k]++t,by rw [List.append_assoc]⟩
theorem ai6 {P:Nat→Prop}:∀ (ks F:List Nat),(∀ x∈F,P x)→(∀ x∈ks,P x)→∀ x∈addC cl F ks,P x
 | [],F,h,_=>h
 | k::ks,F,h,h2=>ai6 ks (add1 cl F k) (fun x hx=>by
  unfold add1 at hx
  split at hx
  · exact h x hx
  · rcases gA hx with hx | hx
    · exact h x hx
    · rw [gG hx]
      exact h2 k List.mem_cons_self) fun x hx=>h2 x (List.mem_cons_of_mem _ hx)
theorem ah8:∀ (ks row:List Nat),mets ((addAll row ks).map cl)=(ks.map cl).foldl met1 (mets (row.map cl))
 | [],row=>rfl
 | k::ks,row=>by
   show mets ((addAll (if k∈row then row else row++[k]) ks).map cl)=(ks.map cl).foldl met1 (met1 (mets (row.map cl)) (cl k))
   rw [ah8 ks]
   congr 1
   split
   · next h =>
     unfold met1
     rw [if_pos ((a45 _ _).mpr (List.mem_map_of_mem h))]
   · rw [List.map_append]
     exact a86 _ _
theorem av3 {m:List α}:∀ {ks:List α},(∀ x∈ks,x∈m)→ks.foldl met1 m=m
 | [],_=>rfl
 | k::ks,h=>by
   show ks.foldl met1 (met1 m k)=m
   have:met1 m k=m:=by unfold met1; rw [if_pos (h k List.mem_cons_self)]
   rw [this]
   exact av3 fun x hx=>h x (List.mem_cons_of_mem _ hx)
theorem b49:∀ (ks m:List α),∃ t,ks.foldl met1 m=m++t
 | [],m=>⟨[],by simp⟩
 | k::ks,m=>by
   obtain ⟨t,h⟩:=b49 ks (met1 m k)
   show ∃ t,ks.foldl met1 (met1 m k)=m++t
   rw [h]
   unfold met1
   split
   · exact ⟨t,rfl⟩
   · exact ⟨[k]++t,by rw [List.append_assoc]⟩
theorem bm9 (l r:List α):∃ t,mets (l++r)=mets l++t:=by
 unfold mets
 rw [List.foldl_append]
 exact b49 r _
structure Sim (cl:Nat→α) (nx:Nat→List Nat) (p:Nat) (row:List Nat) (q:Nat):Prop where
 s1:(FC cl nx q).map cl=mets (row.map cl)
 s2:((FC cl nx q).take q).map cl=mets ((row.take p).map cl)
 s3:∀ n,n<q→n<(FC cl nx n).length
 s4:q≤(FC cl nx q).length
theorem bn0 {n:Nat}(h0:0<n) (hx:∀ k,k<n→∀ j∈nx k,j<n):∀ m,∀ x∈FC cl nx m,x<n
 | 0,x,h=>by rw [gG h]; exact h0
 | m+1,x,h=>ai6 (P:=fun x=>x<n) _ _ (bn0 h0 hx m) (fun y hy=>by
  refine hx _ ?_ y hy
  rw [List.getD_eq_getElem?_getD]
  cases e:(FC cl nx m)[m]? with
  | none=>exact h0
  | some z=>exact bn0 h0 hx m z (gI e)) x h
theorem Sim.step {n p x q:Nat}{row:List Nat}(h0:0<n) (hx:∀ k,k<n→∀ j∈nx k,j<n) (hl:∀ a b,a<n→b<n→cl a=cl b→(nx a).map cl=(nx b).map cl) (b:Bf nx n p row) (h:Sim cl nx p row q) (e:row[p]?=some x):∃ q',Sim cl nx (p+1) (addAll row (nx x)) q':=by
 have hp:=(gS e).1
 have xn:=b.lt x (gI e)
 obtain ⟨t,ht⟩:=ac1 (nx x) row
 have htk:(addAll row (nx x)).take (p+1)=row.take p++[x]:=by
  rw [ht,List.take_append_of_le_length (by omega),List.take_add_one,e]
  rfl
 by_cases hc:cl x∈mets ((row.take p).map cl)
 · refine ⟨q,?_,?_,h.s3,h.s4⟩
   · rw [ah8,h.s1,av3]
     intro c hcx
     obtain ⟨y,hy,e1⟩:=List.mem_map.mp ((a45 _ _).mp hc)
     obtain ⟨i,hi,rfl⟩:=List.mem_iff_getElem.mp hy
     have hi':i<p:=by rw [List.length_take] at hi; omega
     have hri:row[i]?=some (row.take p)[i]:=by rw [List.getElem_take,gE]
     rw [hl x _ xn (b.lt _ (gI hri)) e1.symm] at hcx
     obtain ⟨j,hj,rfl⟩:=List.mem_map.mp hcx
     exact (a45 _ _).mpr (List.mem_map_of_mem (b.cl i _ hi' hri j hj))
   · rw [htk,List.map_append,h.s2]
     show _=mets (_++[cl x])
     rw [a86]
     unfold met1
     rw [if_pos hc]
 · -- the class is the next one
   have hm:mets ((row.take p++[x]).map cl)=mets ((row.take p).map cl)++[cl x]:=by
    rw [List.map_append]
    show mets (_++[cl x])=_
    rw [a86]
    unfold met1
    rw [if_neg hc]
   have hrow:row=(row.take p++[x])++row.drop (p+1):=by
    have:row.take p++[x]=row.take (p+1):=by rw [List.take_add_one,e]; rfl
    rw [this,List.take_append_drop]
   obtain ⟨u,hu⟩:=bm9 ((row.take p++[x]).map cl) ((row.drop (p+1)).map cl)
   rw [← List.map_append,←hrow,hm] at hu
   have lq:(mets ((row.take p).map cl)).length=q:=by
    rw [← h.s2,gL,List.length_take]
    have:=h.s4
    omega
   have hfq:((FC cl nx q).map cl)[q]?=some (cl x):=by
    rw [h.s1,hu,List.append_assoc,List.getElem?_append_right (by omega),lq,Nat.sub_self]
    rfl
   rw [gM] at hfq
   obtain ⟨f,hf,ef⟩:=gO hfq
   have hfl:=(gS hf).1
   have hgd:(FC cl nx q).getD q 0=f:=by rw [List.getD_eq_getElem?_getD,hf]; rfl
   have fn:=bn0 (cl:=cl) h0 hx q f (gI hf)
   obtain ⟨w,hw⟩:=b48 (cl:=cl) (nx f) (FC cl nx q)
   have hF:FC cl nx (q+1)=addC cl (FC cl nx q) (nx f):=by
    show addC _ _ (nx ((FC cl nx q).getD q 0))=_
    rw [hgd]
   refine ⟨q+1,?_,?_,fun m hm'=>?_,?_⟩
   · rw [hF,b47,ah8,h.s1,hl f x fn xn ef]
   · rw [hF,hw,List.take_append_of_le_length (by omega),List.take_add_one,hf,htk,hm,List.map_append,h.s2]
     show _++[cl f]=_
     rw [ef]
   · by_cases z:m=q
     · rw [z]; exact hfl
     · exact h.s3 m (by omega)
   · rw [hF,hw,List.length_append]
     omega
theorem Sim.end_ {n:Nat}(h0:0<n) (hx:∀ k,k<n→∀ j∈nx k,j<n) (hl:∀ a b,a<n→b<n→cl a=cl b→(nx a).map cl=(nx b).map cl):∀ (fuel p:Nat) (row:List Nat) (q:Nat),Bf nx n p row→Sim cl nx p row q→n+1≤fuel+p→∃ q',Sim cl nx (bfs nx fuel p row).length (bfs nx fuel p row) q'
 | 0,p,row,q,b,h,hf=>absurd (Nat.le_trans b.le b.few) (by omega)
 | fuel+1,p,row,q,b,h,hf=>by
   cases e:row[p]? with
   | none =>
     have hp:p=row.length:=by
      have:=List.getElem?_eq_none_iff.mp e
      have:=b.le
      omega
     rw [ap4 (by omega),←hp]
     exact ⟨q,h⟩
   | some k =>
     obtain ⟨q',h'⟩:=h.step h0 hx hl b e
     rw [bc5 e]
     exact Sim.end_ h0 hx hl fuel (p+1) _ q' (b.step e (hx k (b.lt k (gI e)))) h' (by omega)
end
noncomputable def clR (rs:List RRoom) (many:Nat):Nat→(Nat→Prop):=clsR (labR rs many) (wayR rs) many
section
variable {rs:List RRoom}{many:Nat}
theorem clR_eq {a b:Nat}:clR rs many a=clR rs many b↔¬ ApartR (labR rs many) (wayR rs) many a b:=cls_eq
noncomputable def FR (rs:List RRoom) (many n:Nat):List Nat:=FC (clR rs many) (nxR rs) n
theorem c85 (ok:TblOk many rs) (h0:0<rs.length):∃ q,(FR rs many q).length=q∧(∀ n,n<q→n<(FR rs many n).length)∧(FR rs many q).map (clR rs many)=mets ((fdR rs).map (clR rs many)):=by
 have hx:∀ k,k<rs.length→∀ j∈nxR rs k,j<rs.length:=fun k hk=>(ac2 ok hk).2
 have hl:∀ a b,a<rs.length→b<rs.length→clR rs many a=clR rs many b→(nxR rs a).map (clR rs many)=(nxR rs b).map (clR rs many):=fun a b ha hb e=>by
  rw [af5 ok ha,af5 ok hb,List.map_map,List.map_map]
  exact List.map_congr_left fun j hj=>clR_eq.mpr ((av2 (clR_eq.mp e)).2 j (List.mem_range.mp hj)).2
 obtain ⟨q,h⟩:=Sim.end_ (cl:=clR rs many) h0 hx hl (rs.length+1) 0 [0] 0 ⟨by simp,fun k hk=>by rw [gG hk]; exact h0,Nat.zero_le _,fun i k hi=>absurd hi (Nat.not_lt_zero _)⟩ ⟨rfl,rfl,fun n hn=>absurd hn (Nat.not_lt_zero _),Nat.zero_le _⟩ (by omega)
 rw [show bfs (nxR rs) (rs.length+1) 0 [0]=fdR rs from rfl] at h
 refine ⟨q,?_,h.s3,h.s1⟩
 have e:=h.s2
 rw [List.take_length,←h.s1] at e
 have:=congrArg List.length e
 rw [gL,gL,List.length_take] at this
 have:=h.s4
 show (FC _ _ q).length=q
 omega
theorem b79 (ok:TblOk many rs) (h0:0<rs.length):∀ n,∀ x∈FR rs many n,x∈fdR rs
 | 0,x,h=>by rw [gG h]; exact gI (b77 rs)
 | n+1,x,h=>ai6 (P:=fun x=>x∈fdR rs) _ _ (b79 ok h0 n) (fun y hy=>by
  have b:=af0 ok h0
  have hm:(FC (clR rs many) (nxR rs) n).getD n 0∈fdR rs:=by
   rw [List.getD_eq_getElem?_getD]
   cases e:(FC (clR rs many) (nxR rs) n)[n]? with
   | none=>exact gI (b77 rs)
   | some z=>exact b79 ok h0 n z (gI e)
  rw [af5 ok (b.lt _ hm)] at hy
  obtain ⟨j,hj,rfl⟩:=List.mem_map.mp hy
  exact ak8 ok h0 hm (List.mem_range.mp hj)) x h
theorem bh2 {β:Type} [DecidableEq β] {l:List β}(h:l.Nodup) {i:Nat}{x:β}(e:l[i]?=some x):l.idxOf x=i:=by
 obtain ⟨hi,rfl⟩:=gS e
 exact h.idxOf_getElem i hi
theorem bw1 (ok:TblOk many rs) (h0:0<rs.length) {x:Nat}(hx:x∈fdR rs):numOf rs many x=(mets ((fdR rs).map (clR rs many))).idxOf (clR rs many x):=by
 have b:=af0 ok h0
 obtain ⟨i,hi,rfl⟩:=List.mem_iff_getElem.mp hx
 have e:=(am9 (many:=many) b.nd (gE hi)).1
 have e2:(gsR rs many)[i]?=some ((mets ((fdR rs).map (clR rs many))).idxOf (clR rs many (fdR rs)[i])):=ab5 (l:=(fdR rs).map (clR rs many)) (by rw [gM,gE hi]; rfl)
 rw [e] at e2
 exact Option.some.inj e2
theorem bp3 (ok:TblOk many rs) (h0:0<rs.length) {q:Nat}(hq:(FR rs many q).map (clR rs many)=mets ((fdR rs).map (clR rs many))) {k f:Nat}(hf:(FR rs many q)[k]?=some f):numOf rs many f=k:=by
 rw [bw1 ok h0 (b79 ok h0 q f (gI hf))]
 exact bh2 (aq0 _) (by rw [← hq,gM,hf]; rfl)
theorem bh3 {q:Nat}(hq:(FR rs many q).map (clR rs many)=mets ((fdR rs).map (clR rs many))):(FR rs many q).length=(lstR rs many).length:=by
 have h1:=congrArg List.length hq
 rw [gL] at h1
 have h2:(mets (gsR rs many)).length=(mets ((fdR rs).map (clR rs many))).length:=by
  show (mets (canon _)).length=_
  rw [ae2 _ rfl,List.length_range]
  rfl
 rw [h1,←h2,ai5,List.length_range]
theorem c86 (ok:TblOk many rs) (h0:0<rs.length) {q:Nat}(hq:(FR rs many q).map (clR rs many)=mets ((fdR rs).map (clR rs many))):(FR rs many q).map (fun f=>rwR rs many (roomA rs f))=lstR rs many:=by
 have b:=af0 ok h0
 apply List.ext_getElem?
 intro k
 rw [gM]
 by_cases hk:k<(lstR rs many).length
 · have hk':k<(FR rs many q).length:=by rw [bh3 hq]; exact hk
   obtain ⟨f,hf⟩:∃ f,(FR rs many q)[k]?=some f:=⟨_,gE hk'⟩
   obtain ⟨y,hy,e1,e2⟩:=bp2 (many:=many) b.nd hk
   rw [hf,e1]
   have hfm:=b79 ok h0 q f (gI hf)
   have lk:=(bg6 (many:=many) b.nd hfm hy).mp ((bp3 ok h0 hq hf).trans e2.symm)
   obtain ⟨l1,l2⟩:=av2 lk
   show some (rwR rs many (roomA rs f))=_
   congr 1
   unfold rwR
   refine Prod.ext l1 ?_
   have fl:=b.lt f hfm
   have yl:=b.lt y hy
   have ln:∀ z,z<rs.length→(roomA rs z).2.length=many:=fun z hz=>by
    have:=(ac2 ok hz).1
    unfold nxR at this
    rwa [gL] at this
   apply List.ext_getElem?
   intro j
   rw [gM,gM]
   by_cases hj:j<many
   · rw [(ah4 ok fl hj).2.2,(ah4 ok yl hj).2.2]
     obtain ⟨m1,m2⟩:=l2 j hj
     show some (_,_)=some (_,_)
     rw [m1,(bg6 (many:=many) b.nd (ak8 ok h0 hfm hj) (ak8 ok h0 hy hj)).mpr m2]
   · rw [List.getElem?_eq_none (by rw [ln f fl]; omega),List.getElem?_eq_none (by rw [ln y yl]; omega)]
 · rw [List.getElem?_eq_none (by rw [bh3 hq]; omega),List.getElem?_eq_none (by omega)]
   rfl
end
end L2
local macro_rules | `(tactic| walk_at "d") => `(tactic| first | exact ⟨by decide, by decide, by decide⟩ | exact ⟨by decide, by decide⟩ | exact .inr (.inr ⟨by decide, by decide⟩) | exact .inr (.inl ⟨by decide, by decide⟩) | decide | omega | exact L2.le_line (by simp only [List.length_cons, List.length_nil]; omega))
local macro_rules | `(tactic| walk_at "o") => `(tactic| first | exact Or.inl rfl | exact Or.inr rfl)
local macro_rules | `(tactic| walk_at "s") => do
  let mut acc ← `(tactic| ((with_reducible refine L2.i_rgA ?k ?l ?_); (case k => walk_at "d"); (case l => walk_at "d")))
  for s in ("i_rI ai4 ca2 ca3 i_c i_op ca4 br9 ca5 ca6 ca7 c09 i_bl ca8 i_if ca9 c28 c29 c30 cb0 i_cb c31 cb1 cb2 cb3 c33 i_or c34 cb4 i_lc c35 bs1 cb5 cb6 i_bm cb7 i_sl bk0 c36 cb8 ax4 ax5 c38 c43 c44 c41 bs2 c42 bb9 cb9 c51 c47 c48 c50 c46 c53 i_tB cc1 bk2 c55 c54 cc2 c65 c66 cc4 bl4 c67 bt3 cc6 c68 c69 c70 bt9 c80 bu9 i_dk c32".splitOn " ").reverse do
    let n := Lean.mkIdent (Lean.Name.str `L2 s)
    if s == "i_rI" || s == "ai4" || s == "c32" then acc ← `(tactic| first | ((with_reducible refine $n ?k ?_); (case k => walk_at "d")) | $acc:tactic)
    else acc ← `(tactic| first | with_reducible refine $n ?_ | $acc:tactic)
  `(tactic| first | ((with_reducible refine L2.i_name ?_); dsimp only [List.set_cons_zero, List.set_cons_succ]) | ((with_reducible refine' L2.i_var ?k ?_); (case k => rfl)) | $acc:tactic)
local macro_rules | `(tactic| walk_at "r") => `(tactic| (repeat walk_at "s"))
local macro_rules | `(tactic| walk_at "go") => do
  let ids := (("L2.start List.map_cons List.map_nil List.length_cons List.length_nil List.replicate List.cons_append List.nil_append Nat.reduceSub Nat.reduceAdd L2.nox_K L2.wish_K L2.cxOf_K L2.cxC_K".splitOn " ").map fun s => Lean.mkIdent s.toName).toArray
  `(tactic| (simp only [$[$ids:term],*]; walk_at "r"))
namespace K59
open PySem L2
theorem sc_found_from:FnScope ["ways","first","found","known","place","thing"] ["ways","first"] (defScope a67):=⟨rfl,rfl,rfl,by decide +kernel,rfl,by decide +kernel,by decide +kernel⟩
theorem sc_put_together:FnScope ["labels","ways","grouping"] ["labels","ways"] (defScope a50):=⟨rfl,rfl,rfl,by decide +kernel,rfl,by decide +kernel,by decide +kernel⟩
theorem sc_numbered:FnScope ["labels","numbers"] ["labels"] (defScope a87):=⟨rfl,rfl,rfl,by decide +kernel,rfl,by decide +kernel,by decide +kernel⟩
theorem sc_counted:FnScope ["things","numbers","thing"] ["things"] (defScope a97):=⟨rfl,rfl,rfl,by decide +kernel,rfl,by decide +kernel,by decide +kernel⟩
theorem sc_firsts:FnScope ["numbers","found","place","number"] ["numbers"] (defScope aa5):=⟨rfl,rfl,rfl,by decide +kernel,rfl,by decide +kernel,by decide +kernel⟩
theorem ae6:FnScope ["self","labels","ways"] ["self","labels","ways"] (defScope a36):=⟨rfl,rfl,rfl,by decide +kernel,rfl,by decide +kernel,by decide +kernel⟩
theorem sc_Grouping_part:FnScope ["self","group","parts","things","thing"] ["self","group"] (defScope a49):=⟨rfl,rfl,rfl,by decide +kernel,rfl,by decide +kernel,by decide +kernel⟩
theorem sc_Grouping_parts_of:FnScope ["self","group","touched","rest","parts","thing"] ["self","group"] (defScope a37):=⟨rfl,rfl,rfl,by decide +kernel,rfl,by decide +kernel,by decide +kernel⟩
theorem ac9:FnScope ["self","thing"] ["self","thing"] (defScope a34):=⟨rfl,rfl,rfl,by decide +kernel,rfl,by decide +kernel,by decide +kernel⟩
theorem sc_Grouping_regroup:FnScope ["self","things","thing"] ["self","things"] (defScope a40):=⟨rfl,rfl,rfl,by decide +kernel,rfl,by decide +kernel,by decide +kernel⟩
theorem sc_Grouping_touch_sources:FnScope ["self","thing","source","group"] ["self","thing"] (defScope a33):=⟨rfl,rfl,rfl,by decide +kernel,rfl,by decide +kernel,by decide +kernel⟩
theorem sc_sources_of:FnScope ["ways","found","thing","led","way"] ["ways"] (defScope a57):=⟨rfl,rfl,rfl,by decide +kernel,rfl,by decide +kernel,by decide +kernel⟩
theorem sc_members_of:FnScope ["groups","found","thing","group"] ["groups"] (defScope a58):=⟨rfl,rfl,rfl,by decide +kernel,rfl,by decide +kernel,by decide +kernel⟩
theorem av4:FnScope ["room","numbers"] ["room","numbers"] (defScope a70):=⟨rfl,rfl,rfl,by decide +kernel,rfl,by decide +kernel,by decide +kernel⟩
theorem sc_least_table:FnScope ["table","rooms","ways","found","places","groups","numbers","least"] ["table"] (defScope a38):=⟨rfl,rfl,rfl,by decide +kernel,rfl,by decide +kernel,by decide +kernel⟩
theorem ay7:FnScope ["room"] ["room"] (defScope a88):=⟨rfl,rfl,rfl,by decide +kernel,rfl,by decide +kernel,by decide +kernel⟩
theorem sc_law_next:FnScope ["deck","at","many","cell","j","number"] ["deck"] (defScope a92):=⟨rfl,rfl,rfl,by decide +kernel,rfl,by decide +kernel,by decide +kernel⟩
theorem ay8:FnScope ["script"] ["script"] (defScope a89):=⟨rfl,rfl,rfl,by decide +kernel,rfl,by decide +kernel,by decide +kernel⟩
theorem sc_law_said:FnScope ["deck","rich","some"] ["deck","rich"] (defScope a93):=⟨rfl,rfl,rfl,by decide +kernel,rfl,by decide +kernel,by decide +kernel⟩
theorem sc_law_events:FnScope ["deck","events","kind","many","k","what"] ["deck"] (defScope a68):=⟨rfl,rfl,rfl,by decide +kernel,rfl,by decide +kernel,by decide +kernel⟩
theorem sc_law_table:FnScope ["deck","events","many","rich","saying","rooms","room","over","rows"] ["deck"] (defScope a62):=⟨rfl,rfl,rfl,by decide +kernel,rfl,by decide +kernel,by decide +kernel⟩
theorem sc_law_lengths:FnScope ["rooms","many","lengths","one","other","more","found","least"] ["rooms"] (defScope a56):=⟨rfl,rfl,rfl,by decide +kernel,rfl,by decide +kernel,by decide +kernel⟩
theorem sc_law_shortest:FnScope ["rooms","one","other","lengths","some","mine","theirs"] ["rooms","one","other","lengths"] (defScope a51):=⟨rfl,rfl,rfl,by decide +kernel,rfl,by decide +kernel,by decide +kernel⟩
theorem sc_law_due:FnScope ["table","events","saying","rooms","lengths","firsts_v","numbers","at","said","there","same","ways","found","room"] ["table"] (defScope a85):=⟨rfl,rfl,rfl,by decide +kernel,rfl,by decide +kernel,by decide +kernel⟩
theorem sc_law_copied:FnScope ["rooms","found","over","rows"] ["rooms"] (defScope a59):=⟨rfl,rfl,rfl,by decide +kernel,rfl,by decide +kernel,by decide +kernel⟩
theorem sc_law_lists:FnScope ["found","table","numbers","lists","over","rows"] ["found"] (defScope a71):=⟨rfl,rfl,rfl,by decide +kernel,rfl,by decide +kernel,by decide +kernel⟩
theorem sc_law_plain:FnScope ["found","table","numbers","over","rows"] ["found"] (defScope a63):=⟨rfl,rfl,rfl,by decide +kernel,rfl,by decide +kernel,by decide +kernel⟩
theorem sc_law:FnScope ["script","table","handed","due","found","lists","sizes","some"] ["script"] (defScope ai0):=⟨rfl,rfl,rfl,by decide +kernel,rfl,by decide +kernel,by decide +kernel⟩
set_option genInjectivity false in
structure Adr where
 a_found_from:Addr
 fd_found_from:FuncData
 a_put_together:Addr
 fd_put_together:FuncData
 a_numbered:Addr
 fd_numbered:FuncData
 a_counted:Addr
 fd_counted:FuncData
 a_firsts:Addr
 fd_firsts:FuncData
 a_Grouping___init__:Addr
 fd_Grouping___init__:FuncData
 a_Grouping_part:Addr
 fd_Grouping_part:FuncData
 a_Grouping_parts_of:Addr
 fd_Grouping_parts_of:FuncData
 a_Grouping_led_groups:Addr
 fd_Grouping_led_groups:FuncData
 a_Grouping_regroup:Addr
 fd_Grouping_regroup:FuncData
 a_Grouping_touch_sources:Addr
 fd_Grouping_touch_sources:FuncData
 a_sources_of:Addr
 fd_sources_of:FuncData
 a_members_of:Addr
 fd_members_of:FuncData
 a_room_with:Addr
 fd_room_with:FuncData
 a_least_table:Addr
 fd_least_table:FuncData
 a_label_of:Addr
 fd_label_of:FuncData
 a__law_next:Addr
 fd__law_next:FuncData
 a__law_deck:Addr
 fd__law_deck:FuncData
 a__law_said:Addr
 fd__law_said:FuncData
 a__law_events:Addr
 fd__law_events:FuncData
 a__law_table:Addr
 fd__law_table:FuncData
 a__law_lengths:Addr
 fd__law_lengths:FuncData
 a__law_shortest:Addr
 fd__law_shortest:FuncData
 a__law_due:Addr
 fd__law_due:FuncData
 a__law_copied:Addr
 fd__law_copied:FuncData
 a__law_lists:Addr
 fd__law_lists:FuncData
 a__law_plain:Addr
 fd__law_plain:FuncData
 a_law:Addr
 fd_law:FuncData
 c_Grouping:Addr
structure Txt (K:W.Frag) (mg:Str→Option Value) (t:Adr):Prop where
 F_found_from:Fun K "found_from" "found_from" a67 t.a_found_from t.fd_found_from
 m_found_from:mg "found_from"=some (.ref t.a_found_from)
 b_found_from:Binds K t.fd_found_from ["ways","first"] []
 F_put_together:Fun K "put_together" "put_together" a50 t.a_put_together t.fd_put_together
 m_put_together:mg "put_together"=some (.ref t.a_put_together)
 b_put_together:Binds K t.fd_put_together ["labels","ways"] []
 F_numbered:Fun K "numbered" "numbered" a87 t.a_numbered t.fd_numbered
 m_numbered:mg "numbered"=some (.ref t.a_numbered)
 b_numbered:Binds K t.fd_numbered ["labels"] []
 F_counted:Fun K "counted" "counted" a97 t.a_counted t.fd_counted
 m_counted:mg "counted"=some (.ref t.a_counted)
 b_counted:Binds K t.fd_counted ["things"] []
 F_firsts:Fun K "firsts" "firsts" aa5 t.a_firsts t.fd_firsts
 m_firsts:mg "firsts"=some (.ref t.a_firsts)
 b_firsts:Binds K t.fd_firsts ["numbers"] []
 F_Grouping___init__:Fun K "__init__" "Grouping.__init__" a36 t.a_Grouping___init__ t.fd_Grouping___init__
 b_Grouping___init__:Binds K t.fd_Grouping___init__ ["self","labels","ways"] []
 F_Grouping_part:Fun K "part" "Grouping.part" a49 t.a_Grouping_part t.fd_Grouping_part
 M_Grouping_part:Meth K t.c_Grouping "part" t.a_Grouping_part
 b_Grouping_part:Binds K t.fd_Grouping_part ["self","group"] []
 F_Grouping_parts_of:Fun K "parts_of" "Grouping.parts_of" a37 t.a_Grouping_parts_of t.fd_Grouping_parts_of
 M_Grouping_parts_of:Meth K t.c_Grouping "parts_of" t.a_Grouping_parts_of
 b_Grouping_parts_of:Binds K t.fd_Grouping_parts_of ["self","group"] []
 F_Grouping_led_groups:Fun K "led_groups" "Grouping.led_groups" a34 t.a_Grouping_led_groups t.fd_Grouping_led_groups
 M_Grouping_led_groups:Meth K t.c_Grouping "led_groups" t.a_Grouping_led_groups
 b_Grouping_led_groups:Binds K t.fd_Grouping_led_groups ["self","thing"] []
 F_Grouping_regroup:Fun K "regroup" "Grouping.regroup" a40 t.a_Grouping_regroup t.fd_Grouping_regroup
 M_Grouping_regroup:Meth K t.c_Grouping "regroup" t.a_Grouping_regroup
 b_Grouping_regroup:Binds K t.fd_Grouping_regroup ["self","things"] []
 F_Grouping_touch_sources:Fun K "touch_sources" "Grouping.touch_sources" a33 t.a_Grouping_touch_sources t.fd_Grouping_touch_sources
 M_Grouping_touch_sources:Meth K t.c_Grouping "touch_sources" t.a_Grouping_touch_sources
 b_Grouping_touch_sources:Binds K t.fd_Grouping_touch_sources ["self","thing"] []
 F_sources_of:Fun K "sources_of" "sources_of" a57 t.a_sources_of t.fd_sources_of
 m_sources_of:mg "sources_of"=some (.ref t.a_sources_of)
 b_sources_of:Binds K t.fd_sources_of ["ways"] []
 F_members_of:Fun K "members_of" "members_of" a58 t.a_members_of t.fd_members_of
 m_members_of:mg "members_of"=some (.ref t.a_members_of)
 b_members_of:Binds K t.fd_members_of ["groups"] []
 F_room_with:Fun K "room_with" "room_with" a70 t.a_room_with t.fd_room_with
 m_room_with:mg "room_with"=some (.ref t.a_room_with)
 b_room_with:Binds K t.fd_room_with ["room","numbers"] []
 F_least_table:Fun K "least_table" "least_table" a38 t.a_least_table t.fd_least_table
 m_least_table:mg "least_table"=some (.ref t.a_least_table)
 b_least_table:Binds K t.fd_least_table ["table"] []
 F_label_of:Fun K "label_of" "label_of" a88 t.a_label_of t.fd_label_of
 m_label_of:mg "label_of"=some (.ref t.a_label_of)
 b_label_of:Binds K t.fd_label_of ["room"] []
 F__law_next:Fun K "_law_next" "_law_next" a92 t.a__law_next t.fd__law_next
 m__law_next:mg "_law_next"=some (.ref t.a__law_next)
 b__law_next:Binds K t.fd__law_next ["deck"] []
 F__law_deck:Fun K "_law_deck" "_law_deck" a89 t.a__law_deck t.fd__law_deck
 m__law_deck:mg "_law_deck"=some (.ref t.a__law_deck)
 b__law_deck:Binds K t.fd__law_deck ["script"] []
 F__law_said:Fun K "_law_said" "_law_said" a93 t.a__law_said t.fd__law_said
 m__law_said:mg "_law_said"=some (.ref t.a__law_said)
 b__law_said:Binds K t.fd__law_said ["deck","rich"] []
 F__law_events:Fun K "_law_events" "_law_events" a68 t.a__law_events t.fd__law_events
 m__law_events:mg "_law_events"=some (.ref t.a__law_events)
 b__law_events:Binds K t.fd__law_events ["deck"] []
 F__law_table:Fun K "_law_table" "_law_table" a62 t.a__law_table t.fd__law_table
 m__law_table:mg "_law_table"=some (.ref t.a__law_table)
 b__law_table:Binds K t.fd__law_table ["deck"] []
 F__law_lengths:Fun K "_law_lengths" "_law_lengths" a56 t.a__law_lengths t.fd__law_lengths
 m__law_lengths:mg "_law_lengths"=some (.ref t.a__law_lengths)
 b__law_lengths:Binds K t.fd__law_lengths ["rooms"] []
 F__law_shortest:Fun K "_law_shortest" "_law_shortest" a51 t.a__law_shortest t.fd__law_shortest
 m__law_shortest:mg "_law_shortest"=some (.ref t.a__law_shortest)
 b__law_shortest:Binds K t.fd__law_shortest ["rooms","one","other","lengths"] []
 F__law_due:Fun K "_law_due" "_law_due" a85 t.a__law_due t.fd__law_due
 m__law_due:mg "_law_due"=some (.ref t.a__law_due)
 b__law_due:Binds K t.fd__law_due ["table"] []
 F__law_copied:Fun K "_law_copied" "_law_copied" a59 t.a__law_copied t.fd__law_copied
 m__law_copied:mg "_law_copied"=some (.ref t.a__law_copied)
 b__law_copied:Binds K t.fd__law_copied ["rooms"] []
 F__law_lists:Fun K "_law_lists" "_law_lists" a71 t.a__law_lists t.fd__law_lists
 m__law_lists:mg "_law_lists"=some (.ref t.a__law_lists)
 b__law_lists:Binds K t.fd__law_lists ["found"] []
 F__law_plain:Fun K "_law_plain" "_law_plain" a63 t.a__law_plain t.fd__law_plain
 m__law_plain:mg "_law_plain"=some (.ref t.a__law_plain)
 b__law_plain:Binds K t.fd__law_plain ["found"] []
 F_law:Fun K "law" "law" ai0 t.a_law t.fd_law
 m_law:mg "law"=some (.ref t.a_law)
 b_law:Binds K t.fd_law ["script"] []
 m_Grouping:mg "Grouping"=some (.ref t.c_Grouping)
 cl_Grouping:Cls K t.c_Grouping
 mk_Grouping:Mk K t.c_Grouping t.a_Grouping___init__
 n_Grouping_groups:NoAttr K t.c_Grouping "groups"
 n_Grouping_members:NoAttr K t.c_Grouping "members"
 n_Grouping_sources:NoAttr K t.c_Grouping "sources"
 n_Grouping_touched:NoAttr K t.c_Grouping "touched"
 n_Grouping_waiting:NoAttr K t.c_Grouping "waiting"
 n_Grouping_ways:NoAttr K t.c_Grouping "ways"
 z_bool:mg "bool"=none
 z_dict:mg "dict"=none
 z_enumerate:mg "enumerate"=none
 z_int:mg "int"=none
 z_isinstance:mg "isinstance"=none
 z_len:mg "len"=none
 z_list:mg "list"=none
 z_max:mg "max"=none
 z_min:mg "min"=none
 z_range:mg "range"=none
 z_sorted:mg "sorted"=none
 z_sum:mg "sum"=none
 z_tuple:mg "tuple"=none
 z_zip:mg "zip"=none
section
variable {P:Program}{w:World}{K:W.Frag}{mg:Str→Option Value}{base:Heap}{t:Adr}
def bn1 (K:W.Frag):Sp:=fun vs H Q _=>∃ (l:Addr) (us:List V) (nx:Nat→List Nat) (n f:Nat),vs=[.ref l,.int (f:Nat)]∧H l=some (.lst us)∧Lsts H us nx n∧f<n∧n≤5000∧(∀ k,k<n→∀ j∈nx k,j<n)∧∀ p H',H p=none→Same H H'→H' p=some (.lst (natsV (bfs nx (n+1) 0 [f])))→Q (.ref p) H'
theorem bw2 {n:Nat}{row ks:List Nat}(hn:row.Nodup) (hl:∀ k∈row,k<n) (hk:∀ k∈ks,k<n):(addAll row ks).length≤n:=by
 obtain ⟨_,h2,h3,_⟩:=aj6 hn hl ks hk
 exact pigeon n _ h2 h3
theorem aq9 (T:Txt K mg t):FnOk P w K mg base CX0 1 t.a_found_from t.fd_found_from ["ways","first"] (bn1 K):=by
 refine T.F_found_from.ok sc_found_from (fun vs H Q E h=>?_) (fun cdv A outer s H vs Q E hr h=>?_)
 · obtain ⟨l,us,nx,n,f,rfl,_⟩:=h
   rfl
 · obtain ⟨l,us,nx,n,f,rfl,hl,hu,hf,hfew,hx,q⟩:=h
   refine ⟨_,(@a02 _ _ _ _ _ (@a35 _ _ 2 _ _ _ _ sc_found_from.nd rfl (by walk_at "o") (@a42 _ _ _ _ (@a00 _ _ _ _ _ (pv 1) (@a01 _) (by rfl))) (by rfl) (by walk_at "o"))
    (@a02 _ _ _ _ _ (@a35 _ _ 3 _ _ _ _ sc_found_from.nd rfl (by walk_at "o") (@br4 _ _ _ _ _ (@bj4 _ _ _ _ _ _ _ _ _ (pv 1) (@aw4 _ _ _ _) (@br3 _ _)) rfl rfl (by simp) (by decide)) (by rfl) (by walk_at "o"))
    (@a02 _ _ _ _ _ (@a35 _ _ 4 _ _ _ _ sc_found_from.nd rfl (by walk_at "o") (@a09 _ _ _ _) (by rfl) (by walk_at "o"))
    (@a02 _ _ _ _ _ (@ag0 _ _ _ _ _ _ PassesOwn.never (@a81 _ _ _ _ _ _ _ _ bq0 (pv 4) (@a44 _ _ _ _ _ _ _ _ _ (a95 K) (by rfl) T.z_len aa0 (@a00 _ _ _ _ _ (pv 2) (@a01 _) (by rfl)) (by decide) (by decide) (by rfl) (by rfl)) (nomark _)) (@a02 _ _ _ _ _ (@a74 _ _ _ _ _ _ _ _ PassesOwn.never rfl (a31 K (@a39 _ _ _ _ _ _ _ (a30 K) (pv 0) (@a39 _ _ _ _ _ _ _ (a30 K) (pv 2) (pv 4) (fun _ _=>rfl)) (fun _ _=>rfl))) (a06 (i:=5) sc_found_from.nd rfl (by walk_at "o")) (@a07 _ _ _ (@ac8 _ _ _ _ _ _ _ _ (ai7 (at0 (by exact aw6 hr) (pv 5) (pv 3))) (@a02 _ _ _ _ _ (bb4 (by exact aw6 hr) (pv 3) (pv 5) (@aw4 _ _ _ _) rfl)
     (@a07 _ _ _ (@a60 _ _ _ _ (@a99 _ K _ _ _ _ _ _ _ _ _ _ _ PySem.F.plainAttrs_list PySem.F.slot_list_append PySem.F.type_list_append a52 (pv 2) (@a00 _ _ _ _ _ (pv 5) (@a01 _) (by rfl)) (by rfl) (by rfl) (by rfl) (by rfl) (by rfl) (by rfl)) (by rfl)))) (@a91 _))) (by intro _; rfl))
     (@a07 _ _ _ (@by6 _ _ 4 _ _ _ _ _ _ sc_found_from.nd rfl (by walk_at "o") (@a09 _ _ _ _) by7 (by walk_at "o")))))
    (@a07 _ _ _ (@a73 _ _ _ _ (pv 2))))))),?_⟩
   have hz0:Bf nx n 0 [f]:=⟨by simp,fun k hk=>by rw [gG hk]; exact hf,Nat.zero_le _,fun i k hi=>absurd hi (Nat.not_lt_zero _)⟩
   walk_at "go"
   intro pf H1 f1 s1 e1
   walk_at "r"
   refine bs6 (k:=Sum.inl (f:Int)) rfl ?_
   intro pk H2 f2 s2 e2
   walk_at "r"
   have s12:=s1.trans s2
   have fk:H pk=none:=s1.free f2
   have hne:pf≠pk:=a08 e1 f2
   refine aj5 (fun m σ H'=>Same H H'∧∃ (p:Nat) (row:List Nat) (y:Option V),σ=[some (.ref l),some (.int (f:Nat)),some (.ref pf),some (.ref pk),some (.int (p:Nat)),y]∧m=n+1 - p∧Bf nx n p row∧bfs nx (n+1 - p) p row=bfs nx (n+1) 0 [f]∧H' pf=some (.lst (natsV row))∧SetI H' pk row) (n+1) ⟨s12,0,[f],_,rfl,rfl,hz0,rfl,s2 _ _ e1,bk4 e2⟩ ?_
   rintro m σ H3 ⟨s3,p,row,y,rfl,rfl,hb,hrow,hpf,hpk⟩
   have hbl:=hb.le
   have hbf:=hb.few
   walk_at "r"
   refine ab0 (SqL.of hpf) ?_
   walk_at "r"
   rw [a03]
   refine ite2 (fun hc=>?_) (fun hc=>?_)
   · have hp:p<row.length:=by have:=of_decide_eq_true hc; omega
     have ep:row[p]?=some row[p]:=gE hp
     have hkn:row[p]<n:=hb.lt _ (List.getElem_mem hp)
     obtain ⟨px,hu2,hpx⟩:=hu.2 _ hkn
     have hbfs:bfs nx (n+1 - (p+1)) (p+1) (addAll row (nx row[p]))=bfs nx (n+1) 0 [f]:=by rw [← hrow,show n+1 - p=(n+1 - (p+1))+1 by omega,bc5 ep]
     refine ⟨fun σ' H'=>Same H H'∧∃ (y:Option V),σ'=[some (.ref l),some (.int (f:Nat)),some (.ref pf),some (.ref pk),some (.int ((p+1:Nat):Int)),y]∧H' pf=some (.lst (natsV (addAll row (nx row[p]))))∧SetI H' pk (addAll row (nx row[p])),fun σ' H' ⟨s',y,e,h1,h2⟩=>⟨n+1 - (p+1),by omega,s',p+1,addAll row (nx row[p]),y,e,rfl,hb.step ep (hx _ hkn),hbfs,h1,h2⟩,?_⟩
     walk_at "r"
     refine a65 (SqL.of hpf) (ag2 hp) ?_
     rw [show row.getD p 0=row[p] by simp [hp]]
     refine a65 (SqL.of (s3 _ _ hl)) (a05 hu2) ?_
     walk_at "r"
     refine ⟨⟨_,SqL.of (s3 _ _ hpx)⟩,a76 (K:=K) (a:=px) (xs:=natsV (nx row[p])) (fun j σ H'=>Same H H'∧j≤(nx row[p]).length∧H' pf=some (.lst (natsV (addAll row ((nx row[p]).take j))))∧SetI H' pk (addAll row ((nx row[p]).take j))∧∃ y,σ=[some (.ref l),some (.int (f:Nat)),some (.ref pf),some (.ref pk),some (.int (p:Nat)),y]) ⟨s3,Nat.zero_le _,hpf,hpk,_,rfl⟩ (fun j σ H' _ ⟨s',_⟩=>SqL.of (s' _ _ hpx)) ?_ ?_⟩
     · rintro j v σ H5 hj ⟨s5,hjl,hf5,hk5,y,rfl⟩
       obtain ⟨k,hk,rfl⟩:=a54 hj
       have hj':j<(nx row[p]).length:=(gS hk).1
       have hall:∀ x∈(nx row[p]).take j,x<n:=fun x hx'=>hx _ hkn x (List.mem_of_mem_take hx')
       have hfw:=bw2 hb.nd hb.lt hall
       have htk:(nx row[p]).take (j+1)=(nx row[p]).take j++[k]:=by rw [List.take_add_one,hk]; rfl
       walk_at "r"
       refine ax8 hk5 ?_
       by_cases hm:k∈addAll row ((nx row[p]).take j)
       · refine at6 hm ?_
         walk_at "r"
         refine ⟨s5,hj',?_,?_,_,rfl⟩
         · rw [htk,aa1,if_pos hm]; exact hf5
         · rw [htk,aa1,if_pos hm]; exact hk5
       · refine at5 hm ?_
         walk_at "r"
         obtain ⟨H6,hput,hset,o6,rfl⟩:=hk5.put (k:=k) (v:=.bl true) (by omega)
         refine ⟨pk,_,rfl,hput,?_⟩
         walk_at "r"
         have hf6:upd H5 pk (.dK o6) pf=some (.lst (natsV (addAll row ((nx row[p]).take j)))):=by rw [a04 hne]; exact hf5
         refine ab2 (SqL.of hf6) ?_
         walk_at "r"
         refine a64 hf6 (Nat.lt_of_lt_of_le (show (natsV (addAll row ((nx row[p]).take j))).length<1000000 by rw [a03]; omega) (le_line (Nat.le_refl _))) ?_
         refine ⟨(s5.updNew fk).updNew f1,hj',?_,?_,_,rfl⟩
         · rw [a28,a66,htk,aa1,if_neg hm]
         · rw [htk,aa1,if_neg hm]
           obtain ⟨kvs,h1,h2⟩:=hset
           exact ⟨kvs,by rw [a04 (Ne.symm hne)]; exact h1,h2⟩
     · rintro σ H5 ⟨s5,hjl,hf5,hk5,y,rfl⟩
       rw [a03,List.take_length] at hf5 hk5
       refine c57 rfl ?_
       exact ⟨s5,_,rfl,hf5,hk5⟩
   · have hp:row.length≤p:=by
      refine Nat.le_of_not_lt fun z=>hc ?_
      exact decide_eq_true (by omega)
     walk_at "r"
     rw [ap4 hp] at hrow
     rw [hrow] at hpf
     exact q pf H3 f1 s3 hpf
def b80 (K:W.Frag) (P:Params):Sp:=fun vs H Q _=>∃ (a:Addr) (us:List V) (α:Type) (_:DecidableEq α) (f:α→Tr) (xs:List α),vs=[.ref a]∧SqL K H a us∧Tr.AtsB H (xs.map f) us∧(∀ a b,f a=f b→a=b)∧(∀ x,(f x).h≤8)∧xs.length≤100000∧∀ d H',H d=none→Same H H'→DbAt P H' d (numd f (mets xs))→Q (.ref d) H'
theorem b81 (T:Txt K mg t):FnOk P w K mg base CX0 1 t.a_counted t.fd_counted ["things"] (b80 K w.params):=by
 refine T.F_counted.ok sc_counted (fun vs H Q E h=>?_) (fun cdv A outer s H vs Q E hr h=>?_)
 · obtain ⟨a,us,α,dα,f,xs,rfl,_⟩:=h
   rfl
 · obtain ⟨a,us,α,dα,f,xs,rfl,ha,hu,hf,hh,hl,q⟩:=h
   refine ⟨_,(@a02 _ _ _ _ _ (@a35 _ _ 1 _ _ _ _ sc_counted.nd rfl (by walk_at "o") (ap6 w.params) (by rfl) (by walk_at "o"))
    (@a02 _ _ _ _ _ (@a74 _ _ _ _ _ _ _ _ PassesOwn.never rfl (a31 K (pv 0)) (a06 (i:=2) sc_counted.nd rfl (by walk_at "o")) (@a07 _ _ _ (@a60 _ _ _ _ (bm1 (P:=w.params) rfl (by exact hr.units) (pv 1) (pv 2) (@a44 _ _ _ _ _ _ _ _ _ (bu8 (P:=w.params) rfl) (by rfl) T.z_len aa0 (@a00 _ _ _ _ _ (pv 1) (@a01 _) (by rfl)) (by decide) (by decide) (by rfl) (by rfl)) ⟨by rfl,by rfl,by rfl,by rfl⟩) (by rfl))) (by intro _; rfl))
    (@a07 _ _ _ (@a73 _ _ _ _ (pv 1))))),?_⟩
   have sl:(1000000:Nat)≤sizeLine:=le_line (Nat.le_refl _)
   have ul:us.length=xs.length:=by rw [hu.len,gL]
   walk_at "go"
   intro d o fd hd
   walk_at "r"
   have s1:Same H (upd H d o):=Same.new fd
   refine ⟨⟨_,s1.seq ha⟩,a76 (K:=K) (a:=a) (xs:=us) (fun i σ H'=>i≤xs.length∧Same H H'∧DbAt w.params H' d (numd f (mets (xs.take i)))∧∃ y,σ=[some (.ref a),some (.ref d),y]) ⟨Nat.zero_le _,s1,.of0 hd,_,rfl⟩ (fun i σ H' _ ⟨_,s',_⟩=>s'.seq ha) ?_ ?_⟩
   · rintro i v σ H2 hv ⟨hi,s2,hD,y,rfl⟩
     obtain ⟨tx,hx1,hx2⟩:=hu.get i v hv
     rw [gM] at hx1
     obtain ⟨x,hx,rfl⟩:=gO hx1
     have hi':i<xs.length:=(gS hx).1
     have htk:xs.take (i+1)=xs.take i++[x]:=by rw [List.take_add_one,hx]; rfl
     have hln:=ae1 (xs.take i)
     have hlt:(xs.take i).length≤100000:=by simp; omega
     walk_at "r"
     refine ⟨d,_,rfl,hD,?_⟩
     walk_at "r"
     refine ⟨d,_,rfl,hD,?_⟩
     walk_at "r"
     refine ⟨_,f x,hD,⟨hx2.tups s2.tups,hh x⟩,by unfold numd; rw [aq1]; omega,fun z hz=>?_,fun hz o' hD'=>?_⟩
     · have hm:x∈mets (xs.take i):=Classical.byContradiction fun hm=>by
        have:=au8 hf (mets (xs.take i)) 0 hm
        unfold numd at hz
        rw [this] at hz
        cases hz
       rw [htk,a86,met1,if_pos hm]
       exact ⟨hi',s2,hD,_,rfl⟩
     · have hm:x∉mets (xs.take i):=fun hm=>by
        obtain ⟨j,_,hj⟩:=bv3 hf (aq0 _) hm
        rw [hj] at hz
        cases hz
       rw [htk,a86,met1,if_neg hm]
       refine ⟨hi',s2.updNew fd,?_,_,rfl⟩
       unfold numd at hD' ⊢
       rw [au7,Nat.zero_add]
       rw [aq1] at hD'
       exact hD'
   · rintro σ H2 ⟨_,s2,hD,y,rfl⟩
     rw [ul,List.take_length] at hD
     walk_at "r"
     exact q d H2 fd s2 hD
def ay9 (K:W.Frag) (P:Params):Sp:=fun vs H Q _=>∃ (a:Addr) (us:List V) (α:Type) (_:DecidableEq α) (f:α→Tr) (xs:List α),vs=[.ref a]∧SqL K H a us∧Tr.AtsB H (xs.map f) us∧(∀ a b,f a=f b→a=b)∧(∀ x,(f x).h≤8)∧xs.length≤100000∧∀ l H',H l=none→Same H H'→H' l=some (.lst (natsV (canon xs)))→Q (.ref l) H'
theorem ak9 (T:Txt K mg t):FnOk P w K mg base CX0 2 t.a_numbered t.fd_numbered ["labels"] (ay9 K w.params):=by
 have G_counted:=b81 (P:=P) (w:=w) (base:=base) T
 refine T.F_numbered.ok sc_numbered (fun vs H Q E h=>?_) (fun cdv A outer s H vs Q E hr h=>?_)
 · obtain ⟨a,us,α,dα,f,xs,rfl,_⟩:=h
   rfl
 · obtain ⟨a,us,α,dα,f,xs,rfl,ha,hu,hf,hh,hl,q⟩:=h
   refine ⟨_,(@a02 _ _ _ _ _ (@a35 _ _ 1 _ _ _ _ sc_numbered.nd rfl (by walk_at "o") (@a41 _ _ _ _ _ _ _ _ _ _ _ _ _ _ _ _ G_counted (hr.mono (by omega)) rfl T.m_counted T.F_counted.kp T.b_counted .nil a82 (@a00 _ _ _ _ _ (pv 0) (@a01 _) (by rfl)) (by decide) (by rfl) (by rfl)) (by rfl) (by walk_at "o"))
    (@a07 _ _ _ (@a73 _ _ _ _ (ab7 (Nt:=["label"]) (Nf:=["numbers"]) (caps:=[1]) rfl (a47 (sc:=defScope a87) rfl rfl (by decide +kernel) (by decide +kernel) (by decide +kernel) rfl (by decide +kernel)) (a31 K (pv 0)) (fun _ _ _ _ _=>(a06 (i:=0) (show (["label","numbers"]:List Str).Nodup by decide +kernel) rfl (by walk_at "o"))) (fun _ _ _ _ _=>(@a55 _)) (fun _ _ _ _ _=>(bu7 (P:=w.params) rfl (by exact hr.units) (pv 1) (pv 0) (fun _ _=>rfl))))))),?_⟩
   have sl:(1000000:Nat)≤sizeLine:=le_line (Nat.le_refl _)
   have ul:us.length=xs.length:=by rw [hu.len,gL]
   walk_at "go"
   refine ⟨a,us,α,dα,f,xs,rfl,ha,hu,hf,hh,hl,fun d H1 f1 s1 hD=>?_⟩
   walk_at "r"
   refine ⟨⟨_,s1.seq ha⟩,a78 (xs:=us) (by omega) (fun i acc H'=>H'=H1∧i≤xs.length∧acc=natsV ((canon xs).take i)) ⟨rfl,Nat.zero_le _,rfl⟩ (fun i acc H' ⟨e,_,ea⟩=>⟨by rw [ea,a03]; simp; omega,e ▸ s1.seq ha⟩) ?_ ?_⟩
   · rintro i v acc H2 hv ⟨rfl,hi,rfl⟩
     obtain ⟨tx,hx1,hx2⟩:=hu.get i v hv
     rw [gM] at hx1
     obtain ⟨x,hx,rfl⟩:=gO hx1
     have hi':i<xs.length:=(gS hx).1
     have hm:x∈mets xs:=(a45 x xs).mpr (gI hx)
     have hval:valV (numd f (mets xs)) (f x)=some (.int ((mets xs).idxOf x:Nat)):=b37 hf (aq0 xs) (by rw [gE (List.idxOf_lt_length_of_mem hm),List.getElem_idxOf])
     walk_at "r"
     refine ⟨d,_,f x,_,rfl,hD,⟨hx2.tups s1.tups,hh x⟩,hval,?_⟩
     refine ⟨rfl,hi',?_⟩
     rw [a66,List.take_add_one,ab5 hx]
     rfl
   · rintro acc H2 ⟨rfl,_,rfl⟩ p3 H3 f3 s3 e3
     rw [ul,show (canon xs).take xs.length=canon xs from by rw [← ab9 xs,List.take_length]] at e3
     walk_at "r"
     exact q p3 H3 (s1.free f3) (s1.trans s3) e3
def bh4 (K:W.Frag):Sp:=fun vs H Q _=>∃ (a:Addr) (xs:List Nat),vs=[.ref a]∧SqL K H a (natsV xs)∧xs.length≤100000∧∀ l H',H l=none→Same H H'→H' l=some (.lst (natsV ((mets xs).map fun x=>xs.idxOf x)))→Q (.ref l) H'
theorem av5 (T:Txt K mg t):FnOk P w K mg base CX0 1 t.a_firsts t.fd_firsts ["numbers"] (bh4 K):=by
 refine T.F_firsts.ok sc_firsts (fun vs H Q E h=>?_) (fun cdv A outer s H vs Q E hr h=>?_)
 · obtain ⟨a,xs,rfl,_⟩:=h
   rfl
 · obtain ⟨a,xs,rfl,ha,hl,q⟩:=h
   refine ⟨_,(@a02 _ _ _ _ _ (@a35 _ _ 1 _ _ _ _ sc_firsts.nd rfl (by walk_at "o") (ap6 w.params) (by rfl) (by walk_at "o"))
    (@a02 _ _ _ _ _ (@a74 _ _ _ _ _ _ _ _ PassesOwn.never rfl (ap3 K rfl T.z_enumerate (@a00 _ _ _ _ _ (pv 0) (@a01 _) (by rfl))) (a79 K (n:=2) rfl (a32 (a06 (i:=2) sc_firsts.nd rfl (by walk_at "o")) (a32 (a06 (i:=3) sc_firsts.nd rfl (by walk_at "o")) (@a77 _)))) (@a07 _ _ _ (@a60 _ _ _ _ (ap7 (P:=w.params) rfl (by exact hr.units) (pv 1) (pv 3) (pv 2) ⟨by rfl,by rfl,by rfl,by rfl⟩) (by rfl))) (by intro _; rfl))
    (@a07 _ _ _ (@a73 _ _ _ _ (@a48 _ _ _ _ _ _ _ _ _ (b32 (P:=w.params) rfl rfl) (by rfl) T.z_list aa9 (@a00 _ _ _ _ _ (b31 (P:=w.params) rfl (pv 1)) (@a01 _) (by rfl)) (by decide) (by decide) (by rfl) (by rfl)))))),?_⟩
   have sl:(1000000:Nat)≤sizeLine:=le_line (Nat.le_refl _)
   have hf:∀ a b:Nat,Tr.int (a:Int)=Tr.int (b:Int)→a=b:=fun a b e=>by
    have:=Tr.int.inj e
    omega
   walk_at "go"
   intro d o fd hd
   walk_at "r"
   have s1:Same H (upd H d o):=Same.new fd
   refine ⟨⟨_,s1.seq ha⟩,ap8 (K:=K) (a:=a) (xs:=natsV xs) (fun i σ H'=>i≤xs.length∧Same H H'∧DtAt w.params H' d (fstF (fun x:Nat=>Tr.int (x:Int)) xs (mets (xs.take i)))∧∃ y z,σ=[some (.ref a),some (.ref d),y,z]) ⟨Nat.zero_le _,s1,hd,_,_,rfl⟩ (fun i σ H' _ ⟨_,s',_⟩=>s'.seq ha) ?_ ?_⟩
   · rintro i v σ H2 pq H3 hv ⟨hi,s2,hD,y,z,rfl⟩ s3 e3
     obtain ⟨x,hx,rfl⟩:=a54 hv
     have hi':i<xs.length:=(gS hx).1
     have htk:xs.take (i+1)=xs.take i++[x]:=by rw [List.take_add_one,hx]; rfl
     have hln:=ae1 (xs.take i)
     have hlt:(xs.take i).length≤100000:=by simp; omega
     have hD3:=ac5 hD s3
     have s13:=s2.trans s3
     refine ⟨_,_,rfl,SqT.of e3,rfl,?_⟩
     walk_at "r"
     refine ⟨d,_,rfl,hD3,?_⟩
     walk_at "r"
     refine ⟨_,Tr.int (x:Int),hD3,⟨by simp [Tr.At],by simp [Tr.h]⟩,by unfold fstF; rw [gL]; omega,fun z hz=>?_,fun hz o' hD'=>?_⟩
     · have hm:=ay3 hf (xs:=xs) (l:=mets (xs.take i)) (x:=x)
       rw [hz] at hm
       have hm:=of_decide_eq_true hm.symm
       rw [htk,a86,met1,if_pos hm]
       exact ⟨hi',s13,hD3,_,_,rfl⟩
     · have hm:=ay3 hf (xs:=xs) (l:=mets (xs.take i)) (x:=x)
       rw [hz] at hm
       have hm:=of_decide_eq_false hm.symm
       rw [htk,a86,met1,if_neg hm]
       refine ⟨hi',s13.updNew fd,?_,_,_,rfl⟩
       have hix:xs.idxOf x=i:=by
        have h1:xs=xs.take i++xs.drop i:=(List.take_append_drop i xs).symm
        have h2:xs.drop i=x::xs.drop (i+1):=by
         obtain ⟨q1,q2⟩:=gS hx
         rw [List.drop_eq_getElem_cons q1,q2]
        rw [h1,List.idxOf_append,if_neg (fun z=>hm ((a45 x _).mpr z)),h2]
        simp
        omega
       unfold fstF at hD' ⊢
       rw [List.map_append,List.map_cons,List.map_nil,hix]
       exact hD'
   · rintro σ H2 ⟨_,s2,hD,y,z,rfl⟩
     rw [a03,List.take_length] at hD
     walk_at "r"
     refine ⟨d,_,rfl,hD,fun p3 H3 f3 s3 e3=>?_⟩
     walk_at "r"
     refine ⟨p3,d,_,rfl,e3,ac5 hD s3,?_⟩
     intro p4 H4 f4 s4 e4
     refine q p4 H4 ((s2.trans s3).free f4) (s2.trans (s3.trans s4)) ?_
     rw [e4]
     unfold fstF natsV
     rw [List.map_map,List.map_map]
     rfl
theorem empties {H:Hp}{acc:List V}{ls:List Addr}{f:Addr}{H1 H2:Hp}(s1:Same H H1) (hn:ls.Nodup) (hf:∀ d∈ls,H d=none) (he:∀ d∈ls,H1 d=some (.lst [])) (f2:H1 f=none) (s2:Same H1 H2) (e2:H2 f=some (.lst (ls.map .ref))):FL H H2 f ls (ls.map fun _=>[]):=by
 refine ⟨s1.trans s2,s1.free f2,(fun z=>by rw [he f z] at f2; cases f2),hn,hf,e2,by simp,fun j d xs h1 h2=>?_⟩
 rw [gM,h1] at h2
 cases h2
 exact s2 _ _ (he d (gI h1))
def b82 (K:W.Frag):Sp:=fun vs H Q _=>∃ (a:Addr) (us:List V) (nw:Nat→List Nat) (n:Nat),vs=[.ref a]∧H a=some (.lst us)∧Lsts H us nw n∧(∀ i,i<n→(nw i).length≤100∧∀ k∈nw i,k<n)∧n≤1000∧∀ f ls cs H',FL H H' f ls cs→cs.length=n→(∀ (b:Nat) (xs:List Nat),cs[b]?=some xs→∀ a,a∈xs↔a<n∧b∈nw a)→Q (.ref f) H'
theorem ar0 (T:Txt K mg t):FnOk P w K mg base CX0 1 t.a_sources_of t.fd_sources_of ["ways"] (b82 K):=by
 refine T.F_sources_of.ok sc_sources_of (fun vs H Q E h=>?_) (fun cdv A outer s H vs Q E hr h=>?_)
 · obtain ⟨a,us,nw,n,rfl,_⟩:=h
   rfl
 · obtain ⟨a,us,nw,n,rfl,ha,hu,hw,hn,q⟩:=h
   refine ⟨_,(@a02 _ _ _ _ _ (ao9 (i:=1) (Nt:=["each"]) (Nf:=[]) (caps:=[]) rfl (a47 (sc:=defScope a57) rfl rfl (by decide +kernel) (by decide +kernel) (by decide +kernel) rfl (by decide +kernel)) (a31 K (pv 0)) (fun _ _ _ _ _=>(a06 (i:=0) (show (["each"]:List Str).Nodup by decide +kernel) rfl (by walk_at "o"))) (fun _ _ _ _ _=>(@a55 _)) (fun _ _ _ _ _=>(@a42 _ _ _ _ (@a01 _))) sc_sources_of.nd rfl (by walk_at "o") rfl)
    (@a02 _ _ _ _ _ (@a74 _ _ _ _ _ _ _ _ PassesOwn.never rfl (ap3 K rfl T.z_enumerate (@a00 _ _ _ _ _ (pv 0) (@a01 _) (by rfl))) (a79 K (n:=2) rfl (a32 (a06 (i:=2) sc_sources_of.nd rfl (by walk_at "o")) (a32 (a06 (i:=3) sc_sources_of.nd rfl (by walk_at "o")) (@a77 _)))) (@a07 _ _ _ (@a74 _ _ _ _ _ _ _ _ PassesOwn.never rfl (a31 K (pv 3)) (a06 (i:=4) sc_sources_of.nd rfl (by walk_at "o")) (@a07 _ _ _ (@a60 _ _ _ _ (@a99 _ K _ _ _ _ _ _ _ _ _ _ _ PySem.F.plainAttrs_list PySem.F.slot_list_append PySem.F.type_list_append a52 (@a39 _ _ _ _ _ _ _ (a30 K) (pv 1) (pv 4) (fun _ _=>rfl)) (@a00 _ _ _ _ _ (pv 2) (@a01 _) (by rfl)) (by rfl) (by rfl) (by rfl) (by rfl) (by rfl) (by rfl)) (by rfl))) (by intro _; rfl))) (by intro _; rfl))
    (@a07 _ _ _ (@a73 _ _ _ _ (pv 1))))),?_⟩
   have sl:(1000000:Nat)≤sizeLine:=le_line (Nat.le_refl _)
   have ul:us.length=n:=hu.1
   walk_at "go"
   refine ⟨⟨_,SqL.of ha⟩,a78 (xs:=us) (by omega) (fun i acc H'=>i≤n∧Same H H'∧∃ ls:List Addr,acc=ls.map .ref∧ls.length=i∧ls.Nodup∧(∀ d∈ls,H d=none)∧∀ d∈ls,H' d=some (.lst [])) ⟨Nat.zero_le _,Same.refl _,[],rfl,rfl,List.nodup_nil,by simp,by simp⟩ (fun i acc H' ⟨_,s',ls,e,el,_⟩=>⟨by rw [e,gL]; omega,SqL.of (s' _ _ ha)⟩) ?_ ?_⟩
   · rintro i v acc H2 hv ⟨hi,s2,ls,rfl,el,hnd,hf,he⟩
     walk_at "r"
     intro p3 H3 f3 s3 e3
     refine ⟨by rw [← ul]; exact (gS hv).1,s2.trans s3,ls++[p3],by simp,by simp [el],aa8 hnd fun z=>(by rw [he p3 z] at f3; cases f3),fun d hd=>?_,fun d hd=>?_⟩
     · rcases gA hd with hd | hd
       · exact hf d hd
       · rw [gG hd]; exact s2.free f3
     · rcases gA hd with hd | hd
       · exact s3 _ _ (he d hd)
       · rw [gG hd]; exact e3
   · rintro acc H2 ⟨_,s2,ls,rfl,el,hnd,hf,he⟩ f H3 f3 s3 e3
     have hFL:=empties (acc:=[]) s2 hnd hf he f3 s3 e3
     rw [ul] at el
     clear he hnd hf
     walk_at "r"
     refine ⟨⟨_,SqL.of (hFL.b _ _ ha)⟩,ap8 (K:=K) (a:=a) (xs:=us) (fun i σ H'=>i≤n∧(∃ cs:List (List Nat),FL H H' f ls cs∧cs.length=n∧(∀ (b:Nat) (xs:List Nat),cs[b]?=some xs→xs.length≤100*i)∧∀ (b:Nat) (xs:List Nat),cs[b]?=some xs→∀ a,a∈xs↔a<i∧b∈nw a)∧∃ y1 y2 y3,σ=[some (.ref a),some (.ref f),y1,y2,y3]) ⟨Nat.zero_le _,⟨_,hFL,by simp [el],fun b xs e=>?_,fun b xs e=>?_⟩,_,_,_,rfl⟩ (fun i σ H' _ ⟨_,⟨cs,h',_⟩,_⟩=>SqL.of (h'.b _ _ ha)) ?_ ?_⟩
     · rw [gM] at e
       obtain ⟨_,_,rfl⟩:=gO e
       simp
     · rw [gM] at e
       obtain ⟨_,_,rfl⟩:=gO e
       simp
     · rintro i v σ H4 pq H5 hv ⟨hi,⟨cs,h4,cl,cb,cm⟩,y1,y2,y3,rfl⟩ s5 e5
       have hi':i<n:=by rw [← ul]; exact (gS hv).1
       obtain ⟨px,hx1,hx2⟩:=hu.2 i hi'
       rw [hv] at hx1
       cases hx1
       have h5:=h4.same s5
       obtain ⟨wl,wb⟩:=hw i hi'
       refine ⟨_,_,rfl,SqT.of e5,rfl,?_⟩
       walk_at "r"
       refine ⟨⟨_,SqL.of (h5.b _ _ hx2)⟩,a76 (K:=K) (a:=px) (xs:=natsV (nw i)) (fun j σ H'=>j≤(nw i).length∧(∃ cs:List (List Nat),FL H H' f ls cs∧cs.length=n∧(∀ (b:Nat) (xs:List Nat),cs[b]?=some xs→xs.length≤100*i+j)∧∀ (b:Nat) (xs:List Nat),cs[b]?=some xs→∀ a,a∈xs↔(a<i∧b∈nw a)∨(a=i∧b∈(nw i).take j))∧∃ y3,σ=[some (.ref a),some (.ref f),some (.int (i:Nat)),some (.ref px),y3]) ⟨Nat.zero_le _,⟨cs,h5,cl,cb,fun b xs e a=>by rw [cm b xs e a]; simp⟩,_,rfl⟩ (fun j σ H' _ ⟨_,⟨cs,h',_⟩,_⟩=>SqL.of (h'.b _ _ hx2)) ?_ ?_⟩
       · rintro j v σ H6 hv ⟨hj,⟨cs,h6,cl,cb,cm⟩,y3,rfl⟩
         obtain ⟨k,hk,rfl⟩:=a54 hv
         have hkn:=wb k (gI hk)
         obtain ⟨xs,hxs⟩:∃ xs,cs[k]?=some xs:=⟨_,gE (by omega)⟩
         obtain ⟨d,hd1,hd2,hd3⟩:=h6.get hxs
         have hjl:=(gS hk).1
         have hb:=cb k xs hxs
         walk_at "r"
         refine a65 (SqL.of h6.e) (a05 hd2) ?_
         walk_at "r"
         refine ab2 (SqL.of hd3) ?_
         walk_at "r"
         refine a64 hd3 (by rw [a03]; omega) ?_
         rw [a66]
         refine ⟨hjl,⟨_,h6.app hxs hd1,by simp [cl],fun b ys e=>?_,fun b ys e a=>?_⟩,_,rfl⟩
         · rw [List.getElem?_set] at e
           by_cases z:k=b
           · rw [if_pos z,if_pos (by omega)] at e
             cases e
             simp
             omega
           · rw [if_neg z] at e
             have:=cb b ys e
             omega
         · rw [List.take_add_one,hk]
           simp only [Option.toList_some,List.mem_append,List.mem_singleton]
           rw [List.getElem?_set] at e
           by_cases z:k=b
           · subst z
             rw [if_pos rfl,if_pos (by omega)] at e
             cases e
             rw [List.mem_append,cm k xs hxs a,List.mem_singleton]
             constructor
             · rintro ((h | h) | h)
               · exact .inl h
               · exact .inr ⟨h.1,.inl h.2⟩
               · exact .inr ⟨h,.inr rfl⟩
             · rintro (h | ⟨h,h' | h'⟩)
               · exact .inl (.inl h)
               · exact .inl (.inr ⟨h,h'⟩)
               · exact .inr h
           · rw [if_neg z] at e
             rw [cm b ys e a]
             constructor
             · rintro (h | h)
               · exact .inl h
               · exact .inr ⟨h.1,.inl h.2⟩
             · rintro (h | ⟨h,h' | h'⟩)
               · exact .inl h
               · exact .inr ⟨h,h'⟩
               · exact absurd h'.symm z
       · rintro σ H6 ⟨hj,⟨cs,h6,cl,cb,cm⟩,y3,rfl⟩
         rw [a03,List.take_length] at cm
         rw [a03] at cb
         refine ⟨hi',⟨cs,h6,cl,fun b xs e=>by have:=cb b xs e; omega,fun b xs e a=>?_⟩,_,_,_,rfl⟩
         rw [cm b xs e a]
         constructor
         · rintro (⟨h,h'⟩ | ⟨rfl,h'⟩)
           · exact ⟨by omega,h'⟩
           · exact ⟨by omega,h'⟩
         · rintro ⟨h,h'⟩
           by_cases z:a=i
           · exact .inr ⟨z,z ▸ h'⟩
           · exact .inl ⟨by omega,h'⟩
     · rintro σ H4 ⟨_,⟨cs,h4,cl,cb,cm⟩,y1,y2,y3,rfl⟩
       rw [ul] at cm
       walk_at "r"
       exact q f ls cs H4 h4 cl cm
def b83 (K:W.Frag):Sp:=fun vs H Q _=>∃ (a:Addr) (gs:List Nat),vs=[.ref a]∧H a=some (.lst (natsV gs))∧(∀ c∈gs,c<(mets gs).length)∧gs.length≤1000∧∀ f ls H',FL H H' f ls (memL gs (mets gs).length)→Q (.ref f) H'
theorem ar1 (T:Txt K mg t):FnOk P w K mg base CX0 2 t.a_members_of t.fd_members_of ["groups"] (b83 K):=by
 have G_firsts:=av5 (P:=P) (w:=w) (base:=base) T
 refine T.F_members_of.ok sc_members_of (fun vs H Q E h=>?_) (fun cdv A outer s H vs Q E hr h=>?_)
 · obtain ⟨a,gs,rfl,_⟩:=h
   rfl
 · obtain ⟨a,gs,rfl,ha,hg,hn,q⟩:=h
   refine ⟨_,(@a02 _ _ _ _ _ (ao9 (i:=1) (Nt:=["number"]) (Nf:=[]) (caps:=[]) rfl (a47 (sc:=defScope a58) rfl rfl (by decide +kernel) (by decide +kernel) (by decide +kernel) rfl (by decide +kernel)) (a31 K (@a41 _ _ _ _ _ _ _ _ _ _ _ _ _ _ _ _ G_firsts (hr.mono (by omega)) rfl T.m_firsts T.F_firsts.kp T.b_firsts .nil a82 (@a00 _ _ _ _ _ (pv 0) (@a01 _) (by rfl)) (by decide) (by rfl) (by rfl))) (fun _ _ _ _ _=>(a06 (i:=0) (show (["number"]:List Str).Nodup by decide +kernel) rfl (by walk_at "o"))) (fun _ _ _ _ _=>(@a55 _)) (fun _ _ _ _ _=>(@a42 _ _ _ _ (@a01 _))) sc_members_of.nd rfl (by walk_at "o") rfl)
    (@a02 _ _ _ _ _ (@a74 _ _ _ _ _ _ _ _ PassesOwn.never rfl (ap3 K rfl T.z_enumerate (@a00 _ _ _ _ _ (pv 0) (@a01 _) (by rfl))) (a79 K (n:=2) rfl (a32 (a06 (i:=2) sc_members_of.nd rfl (by walk_at "o")) (a32 (a06 (i:=3) sc_members_of.nd rfl (by walk_at "o")) (@a77 _)))) (@a07 _ _ _ (@a60 _ _ _ _ (@a99 _ K _ _ _ _ _ _ _ _ _ _ _ PySem.F.plainAttrs_list PySem.F.slot_list_append PySem.F.type_list_append a52 (@a39 _ _ _ _ _ _ _ (a30 K) (pv 1) (pv 3) (fun _ _=>rfl)) (@a00 _ _ _ _ _ (pv 2) (@a01 _) (by rfl)) (by rfl) (by rfl) (by rfl) (by rfl) (by rfl) (by rfl)) (by rfl))) (by intro _; rfl))
    (@a07 _ _ _ (@a73 _ _ _ _ (pv 1))))),?_⟩
   have sl:(1000000:Nat)≤sizeLine:=le_line (Nat.le_refl _)
   have hml:=ae1 gs
   walk_at "go"
   refine ⟨a,gs,rfl,SqL.of ha,by omega,fun pf H1 f1 s1 e1=>?_⟩
   generalize hF:(mets gs).map (fun x=>gs.idxOf x)=F at e1
   have lF:F.length=(mets gs).length:=by rw [← hF,gL]
   clear hF
   walk_at "r"
   refine ⟨⟨_,SqL.of e1⟩,a78 (xs:=natsV F) (by rw [a03]; omega) (fun i acc H'=>i≤F.length∧Same H1 H'∧∃ ls:List Addr,acc=ls.map .ref∧ls.length=i∧ls.Nodup∧(∀ d∈ls,H d=none)∧∀ d∈ls,H' d=some (.lst [])) ⟨Nat.zero_le _,Same.refl _,[],rfl,rfl,List.nodup_nil,by simp,by simp⟩ (fun i acc H' ⟨_,s',ls,e,el,_⟩=>⟨by rw [e,gL]; omega,SqL.of (s' _ _ e1)⟩) ?_ ?_⟩
   · rintro i v acc H2 hv ⟨hi,s2,ls,rfl,el,hnd,hf,he⟩
     walk_at "r"
     intro p3 H3 f3 s3 e3
     refine ⟨by have:=(gS hv).1; rw [a03] at this; exact this,s2.trans s3,ls++[p3],by simp,by simp [el],aa8 hnd fun z=>(by rw [he p3 z] at f3; cases f3),fun d hd=>?_,fun d hd=>?_⟩
     · rcases gA hd with hd | hd
       · exact hf d hd
       · rw [gG hd]; exact (s1.trans s2).free f3
     · rcases gA hd with hd | hd
       · exact s3 _ _ (he d hd)
       · rw [gG hd]; exact e3
   · rintro acc H2 ⟨_,s2,ls,rfl,el,hnd,hf,he⟩ f H3 f3 s3 e3
     have hFL:=empties (acc:=[]) (s1.trans s2) hnd hf he f3 s3 e3
     rw [a03,lF] at el
     clear he hnd hf
     walk_at "r"
     have e0:ls.map (fun _=>([]:List Nat))=memL (gs.take 0) (mets gs).length:=by
      unfold memL
      rw [← el]
      refine List.ext_getElem? fun j=>?_
      simp only [gM,List.take_zero,List.length_nil,List.range_zero,List.filter_nil]
      by_cases hj:j<ls.length
      · rw [List.getElem?_range hj,gE hj]; rfl
      · rw [List.getElem?_eq_none (by omega),List.getElem?_eq_none (by simp; omega)]
     rw [e0] at hFL
     refine ⟨⟨_,SqL.of (hFL.b _ _ ha)⟩,ap8 (K:=K) (a:=a) (xs:=natsV gs) (fun i σ H'=>i≤gs.length∧FL H H' f ls (memL (gs.take i) (mets gs).length)∧∃ y1 y2,σ=[some (.ref a),some (.ref f),y1,y2]) ⟨Nat.zero_le _,hFL,_,_,rfl⟩ (fun i σ H' _ ⟨_,h',_⟩=>SqL.of (h'.b _ _ ha)) ?_ ?_⟩
     · rintro i v σ H4 pq H5 hv ⟨hi,h4,y1,y2,rfl⟩ s5 e5
       obtain ⟨c,hc,rfl⟩:=a54 hv
       have hi':=(gS hc).1
       have hck:=hg c (gI hc)
       have h5:=h4.same s5
       have hxs:(memL (gs.take i) (mets gs).length)[c]?=some ((List.range i).filter fun a=>decide ((gs.take i)[a]?=some c)):=by
        unfold memL
        rw [gM,List.getElem?_range hck]
        simp only [Option.map_some]
        rw [show (gs.take i).length=i by simp; omega]
       obtain ⟨d,hd1,hd2,hd3⟩:=h5.get hxs
       have hlen:((List.range i).filter fun a=>decide ((gs.take i)[a]?=some c)).length≤i:=by
        have:=List.length_filter_le (fun a=>decide ((gs.take i)[a]?=some c)) (List.range i)
        simpa using this
       refine ⟨_,_,rfl,SqT.of e5,rfl,?_⟩
       walk_at "r"
       refine a65 (SqL.of h5.e) (a05 hd2) ?_
       walk_at "r"
       refine ab2 (SqL.of hd3) ?_
       walk_at "r"
       refine a64 hd3 (by rw [a03]; omega) ?_
       rw [a66]
       refine ⟨hi',?_,_,_,rfl⟩
       rw [bg1 hc hck]
       exact h5.app hxs hd1
     · rintro σ H4 ⟨_,h4,y1,y2,rfl⟩
       rw [a03,List.take_length] at h4
       walk_at "r"
       exact q f ls H4 h4
theorem az0 {n j:Nat}(h:j<n):ixN n (j:Nat)=some j:=by
 unfold ixN
 rw [if_pos (by omega),if_pos (by omega)]
 simp
def c87 (C:Addr):Sp:=fun vs H Q _=>∃ (H0:Hp) (x:GA) (nw ns:Nat→List Nat) (n:Nat) (gs:List Nat) (ms ts:List (List Nat)) (qs:List Nat) (a:Nat),vs=[.ref x.p,.int (a:Nat)]∧GrAt C H0 H x nw ns n gs ms ts qs∧a<n∧(nw a).length≤100∧(∀ k∈nw a,k<gs.length) ∧
 ∀ l H',H l=none→Same H H'→H' l=some (.tup (natsV ((nw a).map fun k=>gs.getD k 0)))→Q (.ref l) H'
theorem ad0 (T:Txt K mg t):FnOk P w K mg base CX0 1 t.a_Grouping_led_groups t.fd_Grouping_led_groups ["self","thing"] (c87 t.c_Grouping):=by
 refine T.F_Grouping_led_groups.ok ac9 (fun vs H Q E h=>?_) (fun cdv A outer s H vs Q E hr h=>?_)
 · obtain ⟨H0,x,nw,ns,n,gs,ms,ts,qs,a,rfl,_⟩:=h
   rfl
 · obtain ⟨H0,x,nw,ns,n,gs,ms,ts,qs,a,rfl,hG,ha,hl,hk,q⟩:=h
   refine ⟨_,(@a07 _ _ _ (@a73 _ _ _ _ (@a48 _ _ _ _ _ _ _ _ _ (aj3 K) (by rfl) T.z_tuple ai3 (@a00 _ _ _ _ _ (ab7 (Nt:=["way"]) (Nf:=["self"]) (caps:=[0]) rfl (a47 (sc:=defScope a34) rfl rfl (by decide +kernel) (by decide +kernel) (by decide +kernel) rfl (by decide +kernel)) (a31 K (@a39 _ _ _ _ _ _ _ (a30 K) (a72 K (pv 0) rfl) (pv 1) (fun _ _=>rfl))) (fun _ _ _ _ _=>(a06 (i:=0) (show (["way","self"]:List Str).Nodup by decide +kernel) rfl (by walk_at "o"))) (fun _ _ _ _ _=>(@a55 _)) (fun _ _ _ _ _=>(@a39 _ _ _ _ _ _ _ (a30 K) (a72 K (pv 1) rfl) (pv 0) (fun _ _=>rfl)))) (@a01 _) (by rfl)) (by decide) (by decide) (by rfl) (by rfl)))),?_⟩
   have sl:(1000000:Nat)≤sizeLine:=le_line (Nat.le_refl _)
   obtain ⟨us,w1,w2⟩:=hG.ww
   obtain ⟨pa,w3,w4⟩:=w2.2 a ha
   have w1:=(ad5 w1).1
   have w4:=(ad5 w4).1
   walk_at "go"
   refine ⟨x.p,_,x.dx,_,_,rfl,hG.o,T.cl_Grouping,T.n_Grouping_ways,bw0 x,?_⟩
   walk_at "r"
   refine a65 (SqL.of w1) (a05 w3) ?_
   refine ⟨_,rfl,⟨_,SqL.of w4⟩,a78 (xs:=natsV (nw a)) (by rw [a03]; omega) (fun i acc H'=>H'=H∧i≤(nw a).length∧acc=natsV (((nw a).map fun k=>gs.getD k 0).take i)) ⟨rfl,Nat.zero_le _,rfl⟩ (fun i acc H' ⟨e,_,ea⟩=>⟨by rw [ea,a03]; simp; omega,e ▸ SqL.of w4⟩) ?_ ?_⟩
   · rintro i v acc H2 hv ⟨rfl,hi,rfl⟩
     obtain ⟨k,hk',rfl⟩:=a54 hv
     have hkl:=hk k (gI hk')
     walk_at "r"
     refine ⟨x.p,_,x.dx,_,_,rfl,hG.o,T.cl_Grouping,T.n_Grouping_groups,ag7 x,?_⟩
     walk_at "r"
     refine a65 (SqL.of hG.gg) (ag2 hkl) ?_
     refine ⟨rfl,(gS hk').1,?_⟩
     rw [a66,List.take_add_one,gM,hk']
     rfl
   · rintro acc H2 ⟨rfl,_,rfl⟩ p3 H3 f3 s3 e3
     rw [a03,show ((nw a).map fun k=>gs.getD k 0).take (nw a).length=(nw a).map fun k=>gs.getD k 0 from List.take_of_length_le (by simp)] at e3
     walk_at "r"
     refine ap2 (SqL.of e3) ?_
     intro p4 H4 f4 s4 e4
     walk_at "r"
     exact q p4 H4 (s3.free f4) (s3.trans s4) e4
def b84 (C:Addr):Sp:=fun vs H Q _=>∃ (H0:Hp) (x:GA) (nw ns:Nat→List Nat) (n:Nat) (gs:List Nat) (ms ts:List (List Nat)) (qs:List Nat) (l:Addr) (xs:List Nat),vs=[.ref x.p,.ref l]∧GrAt C H0 H x nw ns n gs ms ts qs∧hds x.own H l=some (.lst (natsV xs))∧(∀ a∈xs,a<gs.length)∧ms.length≤1000∧ts.length≤1000 ∧
 ∀ H',GrAt C H0 H' x nw ns n (reg1 gs xs ms.length) (ms++[xs]) (ts++[[]]) qs→Q .non H'
theorem af6 (T:Txt K mg t):FnOk P w K mg base CX0 1 t.a_Grouping_regroup t.fd_Grouping_regroup ["self","things"] (b84 t.c_Grouping):=by
 refine T.F_Grouping_regroup.ok sc_Grouping_regroup (fun vs H Q E h=>?_) (fun cdv A outer s H vs Q E hr h=>?_)
 · obtain ⟨H0,x,nw,ns,n,gs,ms,ts,qs,l,xs,rfl,_⟩:=h
   rfl
 · obtain ⟨H0,x,nw,ns,n,gs,ms,ts,qs,l,xs,rfl,hG,hl,ha,hm,ht,q⟩:=h
   refine ⟨_,(@a02 _ _ _ _ _ (@a74 _ _ _ _ _ _ _ _ PassesOwn.never rfl (a31 K (pv 1)) (a06 (i:=2) sc_Grouping_regroup.nd rfl (by walk_at "o")) (@a07 _ _ _ (@af9 _ _ _ _ _ _ (@a44 _ _ _ _ _ _ _ _ _ (a95 K) (by rfl) T.z_len aa0 (@a00 _ _ _ _ _ (a72 K (pv 0) rfl) (@a01 _) (by rfl)) (by decide) (by decide) (by rfl) (by rfl)) (al7 (a72 K (pv 0) rfl) (pv 2) ad9) (by rfl) (by rfl) (by rfl))) (by intro _; rfl))
    (@a02 _ _ _ _ _ (@a60 _ _ _ _ (@a99 _ K _ _ _ _ _ _ _ _ _ _ _ PySem.F.plainAttrs_list PySem.F.slot_list_append PySem.F.type_list_append a52 (a72 K (pv 0) rfl) (@a00 _ _ _ _ _ (pv 1) (@a01 _) (by rfl)) (by rfl) (by rfl) (by rfl) (by rfl) (by rfl) (by rfl)) (by rfl))
    (@a07 _ _ _ (@a60 _ _ _ _ (@a99 _ K _ _ _ _ _ _ _ _ _ _ _ PySem.F.plainAttrs_list PySem.F.slot_list_append PySem.F.type_list_append a52 (a72 K (pv 0) rfl) (@a00 _ _ _ _ _ (@b28 _ _) (@a01 _) (by rfl)) (by rfl) (by rfl) (by rfl) (by rfl) (by rfl) (by rfl)) (by rfl))))),?_⟩
   have sl:(1000000:Nat)≤sizeLine:=le_line (Nat.le_refl _)
   walk_at "go"
   refine ⟨⟨_,SqL.of (ad5 hl).1⟩,a76 (K:=K) (a:=l) (xs:=natsV xs) (fun i σ H'=>i≤xs.length∧GrAt t.c_Grouping H0 H' x nw ns n (reg1 gs (xs.take i) ms.length) ms ts qs∧hds x.own H' l=some (.lst (natsV xs))∧∃ y,σ=[some (.ref x.p),some (.ref l),y]) ⟨Nat.zero_le _,hG,hl,_,rfl⟩ (fun i σ H' _ ⟨_,_,h',_⟩=>SqL.of (ad5 h').1) ?_ ?_⟩
   · rintro i v σ H2 hv ⟨hi,h2,hl2,y,rfl⟩
     obtain ⟨k,hk,rfl⟩:=a54 hv
     have hkl:=ha k (gI hk)
     obtain ⟨us,m1,m2⟩:=h2.mm
     walk_at "r"
     refine ⟨x.p,_,x.dx,_,_,rfl,h2.o,T.cl_Grouping,T.n_Grouping_members,ae3 x,?_⟩
     walk_at "r"
     refine ab0 (SqL.of m1) ?_
     rw [m2.1]
     walk_at "r"
     refine ⟨x.p,_,x.dx,_,_,rfl,h2.o,T.cl_Grouping,T.n_Grouping_groups,ag7 x,?_⟩
     walk_at "r"
     refine am4 h2.gg (j:=k) (az0 (by rw [a03,ag6]; exact hkl)) ?_
     have e1:(natsV (reg1 gs (xs.take i) ms.length)).set k (.int (ms.length:Nat))=natsV (reg1 gs (xs.take (i+1)) ms.length):=by
      unfold natsV
      rw [List.take_add_one,hk]
      unfold reg1
      rw [Option.toList_some,List.foldl_append,List.foldl_cons,List.foldl_nil,List.map_set]
     rw [e1]
     exact ⟨(gS hk).1,h2.updG,(KeepL.own x.mg).hd hl2,_,rfl⟩
   · rintro σ H2 ⟨_,h2,hl2,y,rfl⟩
     rw [a03,List.take_length] at h2
     obtain ⟨us,m1,m2⟩:=h2.mm
     walk_at "r"
     refine ⟨x.p,_,x.dx,_,_,rfl,h2.o,T.cl_Grouping,T.n_Grouping_members,ae3 x,?_⟩
     refine ab2 (SqL.of m1) ?_
     walk_at "r"
     refine a64 m1 (by rw [m2.1]; omega) ?_
     have h3:=h2.updM (us':=us++[.ref l]) (ms':=ms++[xs]) (m2.snoc ⟨l,rfl,hl2⟩)
     generalize upd H2 x.m (.lst (us++[.ref l]))=H3 at h3
     obtain ⟨ds,t1,t2,t3,t4⟩:=h3.tt
     walk_at "r"
     refine ⟨x.p,_,x.dx,_,_,rfl,h3.o,T.cl_Grouping,T.n_Grouping_touched,ac0 x,?_⟩
     refine ab2 (SqL.of t1) ?_
     walk_at "r"
     intro d H4 f4 s4 e4
     walk_at "r"
     have h4:=h3.same s4
     refine a64 (s4 _ _ t1) (by rw [gL,t4.1]; omega) ?_
     have hdn:d∉ds:=fun z=>by
      obtain ⟨i,hi,rfl⟩:=List.mem_iff_getElem.mp z
      obtain ⟨kvs,e,_⟩:=t4.2 i _ _ (gE hi) (gE (by rw [← t4.1]; exact hi))
      rw [f4] at e
      cases e
     have h5:=h4.updT (ds':=ds++[d]) (ts':=ts++[[]]) (aa8 t2 hdn) (fun b hb=>by
      rcases gA hb with hb | hb
      · exact t3 b hb
      · rw [gG hb]; exact h3.b.free f4) ((t4.mono fun d y hy=>hy.same s4).snoc ⟨[],e4,rfl⟩)
     rw [List.map_append] at h5
     exact q _ h5
def bn2 (C:Addr):Sp:=fun vs H Q _=>∃ (H0:Hp) (x:GA) (nw ns:Nat→List Nat) (n:Nat) (gs:List Nat) (ms ts:List (List Nat)) (qs:List Nat) (a:Nat),vs=[.ref x.p,.int (a:Nat)]∧GrAt C H0 H x nw ns n gs ms ts qs∧a<n∧gs.length=n∧n≤1000∧ms.length≤1000∧(∀ s∈ns a,s<n)∧(∀ (b c:Nat),gs[b]?=some c→c<ms.length)∧TSt gs ms.length ts qs ∧
 ∀ H' ts' qs',GrAt C H0 H' x nw ns n gs ms ts' qs'→TSt gs ms.length ts' qs'→(∀ b,Tt gs ts' b↔Tt gs ts b∨b∈ns a)→Q .non H'
theorem ab8 (T:Txt K mg t):FnOk P w K mg base CX0 1 t.a_Grouping_touch_sources t.fd_Grouping_touch_sources ["self","thing"] (bn2 t.c_Grouping):=by
 refine T.F_Grouping_touch_sources.ok sc_Grouping_touch_sources (fun vs H Q E h=>?_) (fun cdv A outer s H vs Q E hr h=>?_)
 · obtain ⟨H0,x,nw,ns,n,gs,ms,ts,qs,a,rfl,_⟩:=h
   rfl
 · obtain ⟨H0,x,nw,ns,n,gs,ms,ts,qs,a,rfl,hG,ha,gl,hn,hm,hs,hk,hT,q⟩:=h
   refine ⟨_,(@a07 _ _ _ (@a74 _ _ _ _ _ _ _ _ PassesOwn.never rfl (a31 K (@a39 _ _ _ _ _ _ _ (a30 K) (a72 K (pv 0) rfl) (pv 1) (fun _ _=>rfl))) (a06 (i:=2) sc_Grouping_touch_sources.nd rfl (by walk_at "o")) (@a02 _ _ _ _ _ (@a35 _ _ 3 _ _ _ _ sc_Grouping_touch_sources.nd rfl (by walk_at "o") (@a39 _ _ _ _ _ _ _ (a30 K) (a72 K (pv 0) rfl) (pv 2) (fun _ _=>rfl)) (by rfl) (by walk_at "o"))
    (@ad2 _ _ _ _ _ (@ac8 _ _ _ _ _ _ _ _ (@a81 _ _ _ _ _ _ _ _ b95 (@a44 _ _ _ _ _ _ _ _ _ bv1 (by rfl) T.z_len aa0 (@a00 _ _ _ _ _ (@a39 _ _ _ _ _ _ _ (a30 K) (a72 K (pv 0) rfl) (pv 3) (fun _ _=>rfl)) (@a01 _) (by rfl)) (by decide) (by decide) (by rfl) (by rfl)) (@a09 _ _ _ _) (nomark _)) (@a07 _ _ _ (@a60 _ _ _ _ (@a99 _ K _ _ _ _ _ _ _ _ _ _ _ PySem.F.plainAttrs_list PySem.F.slot_list_append PySem.F.type_list_append a52 (a72 K (pv 0) rfl) (@a00 _ _ _ _ _ (pv 3) (@a01 _) (by rfl)) (by rfl) (by rfl) (by rfl) (by rfl) (by rfl) (by rfl)) (by rfl))) (@a91 _))
    (@a07 _ _ _ (bb4 (by exact aw6 hr) (@a39 _ _ _ _ _ _ _ (a30 K) (a72 K (pv 0) rfl) (pv 3) (fun _ _=>rfl)) (pv 2) (@aw4 _ _ _ _) rfl)))) (by intro _; rfl))),?_⟩
   have sl:(1000000:Nat)≤sizeLine:=le_line (Nat.le_refl _)
   obtain ⟨us,s1,s2⟩:=hG.ss
   obtain ⟨pa,s3,s4⟩:=s2.2 a ha
   walk_at "go"
   refine ⟨x.p,_,x.dx,_,_,rfl,hG.o,T.cl_Grouping,T.n_Grouping_sources,b75 x,?_⟩
   walk_at "r"
   refine a65 (SqL.of (ad5 s1).1) (a05 s3) ?_
   walk_at "r"
   refine ⟨⟨_,SqL.of (ad5 s4).1⟩,a76 (K:=K) (a:=pa) (xs:=natsV (ns a)) (fun i σ H'=>i≤(ns a).length∧(∃ ts' qs',GrAt t.c_Grouping H0 H' x nw ns n gs ms ts' qs'∧TSt gs ms.length ts' qs'∧∀ b,Tt gs ts' b↔Tt gs ts b∨b∈(ns a).take i)∧hds x.own H' pa=some (.lst (natsV (ns a)))∧∃ y z,σ=[some (.ref x.p),some (.int (a:Nat)),y,z]) ⟨Nat.zero_le _,⟨ts,qs,hG,hT,by simp⟩,s4,_,_,rfl⟩ (fun i σ H' _ ⟨_,_,h',_⟩=>SqL.of (ad5 h').1) ?_ ?_⟩
   · rintro i v σ H2 hv ⟨hi,⟨ts2,qs2,h2,hT2,hb2⟩,hl2,y,z,rfl⟩
     obtain ⟨k,hk',rfl⟩:=a54 hv
     have hkn:=hs k (gI hk')
     obtain ⟨c,hc⟩:∃ c,gs[k]?=some c:=⟨_,gE (by omega)⟩
     have hcm:=hk k c hc
     obtain ⟨xs,hx⟩:∃ xs,ts2[c]?=some xs:=⟨_,gE (by rw [hT2.tl]; exact hcm)⟩
     have egk:=af3 hc
     have etc:ts2.getD c []=xs:=by simp [List.getD,hx]
     have hxl:xs.length≤1000:=by
      have:=pigeon n xs (hT2.tn c xs hx) fun b hb=>by
       have:=hT2.tg c xs hx b hb
       rw [← gl]
       exact (gS this).1
      omega
     have hql:qs2.length≤ms.length:=pigeon _ _ hT2.qn hT2.ql
     obtain ⟨n1,n2⟩:=hT2.touch hc hcm
     walk_at "r"
     refine ⟨x.p,_,x.dx,_,_,rfl,h2.o,T.cl_Grouping,T.n_Grouping_groups,ag7 x,?_⟩
     walk_at "r"
     refine a65 (SqL.of h2.gg) (ag2 (by omega)) ?_
     rw [egk]
     walk_at "r"
     refine at9 (fun σ' H'=>GrAt t.c_Grouping H0 H' x nw ns n gs ms ts2 (touQ gs ts2 qs2 k)∧hds x.own H' pa=some (.lst (natsV (ns a)))∧σ'=[some (.ref x.p),some (.int (a:Nat)),some (.int (k:Nat)),some (.int (c:Nat))]) ?_ ?_
     · obtain ⟨d,kvs,vs,u1,u2,u3,u4,_⟩:=h2.putT (a:=k) (v:=.bl true) hx
       walk_at "r"
       refine ⟨x.p,_,x.dx,_,_,rfl,h2.o,T.cl_Grouping,T.n_Grouping_touched,ac0 x,?_⟩
       walk_at "r"
       refine a65 (SqL.of u1) (a05 u2) ?_
       walk_at "r"
       refine ⟨d,kvs,rfl,u3,?_⟩
       rw [u4]
       walk_at "r"
       by_cases hx0:xs=[]
       · refine c39 (by rw [hx0]; rfl) ?_
         walk_at "r"
         refine ⟨x.p,_,x.dx,_,_,rfl,h2.o,T.cl_Grouping,T.n_Grouping_waiting,ah6 x,?_⟩
         refine ab2 (SqL.of h2.qq) ?_
         walk_at "r"
         refine a64 h2.qq (by rw [a03]; omega) ?_
         rw [a66]
         refine ⟨?_,(KeepL.own x.mq).hd hl2,rfl⟩
         unfold touQ
         rw [egk,etc,if_pos hx0]
         exact h2.updQ
       · refine c40 (fun z=>hx0 (List.length_eq_zero_iff.mp (by omega))) ?_
         walk_at "r"
         refine ⟨?_,hl2,rfl⟩
         unfold touQ
         rw [egk,etc,if_neg hx0]
         exact h2
     · rintro σ3 H3 ⟨h3,hl3,rfl⟩
       obtain ⟨d,kvs,vs,u1,u2,u3,u4,u5⟩:=h3.putT (a:=k) (v:=.bl true) hx
       walk_at "r"
       refine ⟨x.p,_,x.dx,_,_,rfl,h3.o,T.cl_Grouping,T.n_Grouping_touched,ac0 x,?_⟩
       walk_at "r"
       refine a65 (SqL.of u1) (a05 u2) ?_
       walk_at "r"
       refine ⟨d,_,rfl,DPut.k (k:=Sum.inl ((k:Nat):Int)) u3 (by omega),?_⟩
       walk_at "r"
       have e1:touT gs ts2 k=ts2.set c (addN xs k):=by
        unfold touT
        rw [egk,etc]
       rw [← e1] at u5
       refine ⟨(gS hk').1,⟨_,_,u5,n1,fun b=>?_⟩,(KeepL.dic u3).hd hl3,_,_,rfl⟩
       rw [n2,hb2,List.take_add_one,hk',Option.toList_some,List.mem_append,List.mem_singleton,or_assoc]
   · rintro σ H2 ⟨hi,⟨ts2,qs2,h2,hT2,hb2⟩,hl2,y,z,rfl⟩
     rw [a03,List.take_length] at hb2
     exact q H2 ts2 qs2 h2 hT2 hb2
def bn3 (K:W.Frag) (C:Addr):Sp:=fun vs H Q _=>∃ (H0:Hp) (x:GA) (nw ns:Nat→List Nat) (n:Nat) (gs:List Nat) (ms ts:List (List Nat)) (qs:List Nat) (c:Nat),vs=[.ref x.p,.int (c:Nat)]∧GrAt C H0 H x nw ns n gs ms ts qs∧GSt n gs ms ts (qs++[c])∧n≤60∧(∀ a,a<n→(nw a).length≤100∧∀ k∈nw a,k<n) ∧
 (∀ a b,gs[a]?=some c→gs[b]?=some c→¬ Tt gs ts a→¬ Tt gs ts b→(nw a).map (fun k=>gs.getD k 0)=(nw b).map fun k=>gs.getD k 0) ∧
 ∀ (l:Addr) (ls:List (Addr×List Nat)) H',H l=none→(∀ y∈ls,H y.1=none)→H' l=some (.lst (ls.map fun y=>.ref y.1))→(∀ y∈ls,H' y.1=some (.lst (natsV y.2)))→PartsOf gs (fun a=>(nw a).map fun k=>gs.getD k 0) c (ls.map (·.2))→GrAt C H0 H' x nw ns n gs ms (ts.set c []) qs→Q (.ref l) H'
theorem ae7 (T:Txt K mg t):FnOk P w K mg base CX0 2 t.a_Grouping_parts_of t.fd_Grouping_parts_of ["self","group"] (bn3 K t.c_Grouping):=by
 have G_Grouping_led_groups:=ad0 (P:=P) (w:=w) (base:=base) T
 refine T.F_Grouping_parts_of.ok sc_Grouping_parts_of (fun vs H Q E h=>?_) (fun cdv A outer s H vs Q E hr h=>?_)
 · obtain ⟨H0,x,nw,ns,n,gs,ms,ts,qs,c,rfl,_⟩:=h
   rfl
 · obtain ⟨H0,x,nw,ns,n,gs,ms,ts,qs,c,rfl,hG,hS,hn,hw,hled,q⟩:=h
   refine ⟨_,(@a02 _ _ _ _ _ (@a35 _ _ 2 _ _ _ _ sc_Grouping_parts_of.nd rfl (by walk_at "o") (@a39 _ _ _ _ _ _ _ (a30 K) (a72 K (pv 0) rfl) (pv 1) (fun _ _=>rfl)) (by rfl) (by walk_at "o"))
    (@a02 _ _ _ _ _ (@af9 _ _ _ _ _ _ (@b28 _ _) (al7 (a72 K (pv 0) rfl) (pv 1) ad9) (by rfl) (by rfl) (by rfl))
    (@a02 _ _ _ _ _ (ao9 (i:=3) (Nt:=["thing"]) (Nf:=["touched"]) (caps:=[2]) rfl (a47 (sc:=defScope a37) rfl rfl (by decide +kernel) (by decide +kernel) (by decide +kernel) rfl (by decide +kernel)) (a31 K (@a39 _ _ _ _ _ _ _ (a30 K) (a72 K (pv 0) rfl) (pv 1) (fun _ _=>rfl))) (fun _ _ _ _ _=>(a06 (i:=0) (show (["thing","touched"]:List Str).Nodup by decide +kernel) rfl (by walk_at "o"))) (fun _ _ _ _ _=>(@aj2 _ _ _ (ai7 (at0 (by exact aw6 hr) (pv 0) (pv 1))))) (fun _ _ _ _ _=>(pv 0)) sc_Grouping_parts_of.nd rfl (by walk_at "o") rfl)
    (@a02 _ _ _ _ _ (@a35 _ _ 4 _ _ _ _ sc_Grouping_parts_of.nd rfl (by walk_at "o") (ap6 w.params) (by rfl) (by walk_at "o"))
    (@a02 _ _ _ _ _ (@a74 _ _ _ _ _ _ _ _ PassesOwn.never rfl (ce0 (pv 2)) (a06 (i:=5) sc_Grouping_parts_of.nd rfl (by walk_at "o")) (@a07 _ _ _ (@a60 _ _ _ _ (@a99 _ K _ _ _ _ _ _ _ _ _ _ _ PySem.F.plainAttrs_list PySem.F.slot_list_append PySem.F.type_list_append a52 (ap7 (P:=w.params) rfl (by exact hr.units) (pv 4) (ag9 (pv 0) T.cl_Grouping T.M_Grouping_led_groups G_Grouping_led_groups (hr.mono (by omega)) T.b_Grouping_led_groups .nil a82 (@a00 _ _ _ _ _ (pv 5) (@a01 _) (by rfl))) (@a42 _ _ _ _ (@a01 _)) ⟨by rfl,by rfl,by rfl,by rfl⟩) (@a00 _ _ _ _ _ (pv 5) (@a01 _) (by rfl)) (by rfl) (by rfl) (by rfl) (by rfl) (by rfl) (by rfl)) (by rfl))) (by intro _; rfl))
    (@ad2 _ _ _ _ _ (@ac8 _ _ _ _ _ _ _ _ (@a81 _ _ _ _ _ _ _ _ bq1 (@a44 _ _ _ _ _ _ _ _ _ (a95 K) (by rfl) T.z_len aa0 (@a00 _ _ _ _ _ (pv 3) (@a01 _) (by rfl)) (by decide) (by decide) (by rfl) (by rfl)) (@a09 _ _ _ _) (nomark _)) (@a07 _ _ _ (@a60 _ _ _ _ (@a99 _ K _ _ _ _ _ _ _ _ _ _ _ PySem.F.plainAttrs_list PySem.F.slot_list_extend PySem.F.type_list_extend ba6 (ap7 (P:=w.params) rfl (by exact hr.units) (pv 4) (ag9 (pv 0) T.cl_Grouping T.M_Grouping_led_groups G_Grouping_led_groups (hr.mono (by omega)) T.b_Grouping_led_groups .nil a82 (@a00 _ _ _ _ _ (@a39 _ _ _ _ _ _ _ (a30 K) (pv 3) (@a09 _ _ _ _) (fun _ _=>rfl)) (@a01 _) (by rfl))) (@a42 _ _ _ _ (@a01 _)) ⟨by rfl,by rfl,by rfl,by rfl⟩) (@a00 _ _ _ _ _ (pv 3) (@a01 _) (by rfl)) (by rfl) (by rfl) (by rfl) (by rfl) (by rfl) (by rfl)) (by rfl))) (@a91 _))
    (@a07 _ _ _ (@a73 _ _ _ _ (@a48 _ _ _ _ _ _ _ _ _ (b32 (P:=w.params) rfl rfl) (by rfl) T.z_list aa9 (@a00 _ _ _ _ _ (b31 (P:=w.params) rfl (pv 4)) (@a01 _) (by rfl)) (by decide) (by decide) (by rfl) (by rfl)))))))))),?_⟩
   have sl:(1000000:Nat)≤sizeLine:=le_line (Nat.le_refl _)
   obtain ⟨led,hled0⟩:∃ led:Nat→List Nat,led=fun a=>(nw a).map fun k=>gs.getD k 0:=⟨_,rfl⟩
   rw [← hled0] at q
   have gl:=hS.gl
   have hck:c<ms.length:=hS.ts.ql c (by simp)
   obtain ⟨xs,hx⟩:∃ xs,ts[c]?=some xs:=⟨_,gE (by rw [hS.ts.tl]; exact hck)⟩
   obtain ⟨M,hM⟩:∃ M,ms[c]?=some M:=⟨_,gE hck⟩
   obtain ⟨Mn,M0,Mm⟩:=hS.me c M hM
   have lt_of:∀ a,gs[a]?=some c→a<n:=fun a e=>by rw [← gl]; exact (gS e).1
   have xn:=hS.ts.tn c xs hx
   have xg:=hS.ts.tg c xs hx
   have xl:xs.length≤n:=pigeon n xs xn fun a ha=>lt_of a (xg a ha)
   have Ml:M.length≤n:=pigeon n M Mn fun a ha=>lt_of a ((Mm a).mp ha)
   obtain ⟨ds,t1,t2,t3,t4⟩:=hG.tt
   obtain ⟨d,hd,hdT⟩:=t4.get hx
   have dm:=gI hd
   have dsl:ds.length=ms.length:=by rw [t4.1,hS.ts.tl]
   walk_at "go"
   refine ⟨x.p,_,x.dx,_,_,rfl,hG.o,T.cl_Grouping,T.n_Grouping_touched,ac0 x,?_⟩
   walk_at "r"
   refine a65 (SqL.of t1) (a05 (by rw [gM,hd]; rfl)) ?_
   walk_at "r"
   intro d1 H1 f1 s1 e1
   walk_at "r"
   have hG1:=hG.same s1
   refine ⟨x.p,_,x.dx,_,_,rfl,hG1.o,T.cl_Grouping,T.n_Grouping_touched,ac0 x,?_⟩
   walk_at "r"
   refine am4 (s1 _ _ t1) (j:=c) (az0 (by rw [gL]; omega)) ?_
   have hd1n:d1∉ds:=fun z=>by
    obtain ⟨i,hi,rfl⟩:=List.mem_iff_getElem.mp z
    obtain ⟨kvs,e,_⟩:=t4.2 i _ _ (gE hi) (gE (by rw [← t4.1]; exact hi))
    rw [f1] at e
    cases e
   have hG2:=hG1.updT (ds':=ds.set c d1) (ts':=ts.set c []) (c82 t2 hd1n) (fun b hb=>by
    rcases List.mem_or_eq_of_mem_set hb with hb | rfl
    · exact t3 b hb
    · exact hG.b.free f1) (b40 (t4.mono fun d y hy=>hy.same s1) ⟨[],e1,rfl⟩)
   have e2:(ds.map V.ref).set c (.ref d1)=(ds.set c d1).map V.ref:=by rw [List.map_set]
   rw [e2]
   have hdT2:TouAt (upd H1 x.t (.lst ((ds.set c d1).map .ref))) d xs:=(hdT.same s1).lst (s1 _ _ t1)
   have et2:upd H1 x.t (.lst ((ds.set c d1).map .ref)) x.t=some (.lst ((ds.set c d1).map .ref)):=a28
   have hfree2:∀ {b:Addr},upd H1 x.t (.lst ((ds.set c d1).map .ref)) b=none→H b=none:=fun {b} e=>s1.free (by
    by_cases z:b=x.t
    · rw [z,a28] at e; cases e
    · rw [a04 z] at e; exact e)
   generalize upd H1 x.t (.lst ((ds.set c d1).map .ref))=H2 at hG2 hdT2 et2 hfree2
   have hdn:V.ref d∉(ds.set c d1).map V.ref:=fun z=>by
    obtain ⟨b,hb,e⟩:=List.mem_map.mp z
    cases e
    obtain ⟨i,hi,e⟩:=List.mem_iff_getElem.mp hb
    rw [List.length_set] at hi
    rw [List.getElem_set] at e
    by_cases z:c=i
    · rw [if_pos z] at e
      exact hd1n (e ▸ dm)
    · rw [if_neg z] at e
      obtain ⟨l2,g2⟩:=gS hd
      have pw:=List.pairwise_iff_getElem.mp t2
      rcases Nat.lt_or_gt_of_ne z with q | q
      · exact pw c i l2 hi q (g2.trans e.symm)
      · exact pw i c hi l2 q (e.trans g2.symm)
   obtain ⟨us,m1,m2⟩:=hG2.mm
   obtain ⟨v,hv,pm,rfl,m3⟩:=m2.get hM
   obtain ⟨kvs,k1,k2,k3⟩:=hdT2.len
   walk_at "r"
   refine ⟨x.p,_,x.dx,_,_,rfl,hG2.o,T.cl_Grouping,T.n_Grouping_members,ae3 x,?_⟩
   walk_at "r"
   refine a65 (SqL.of m1) (a05 hv) ?_
   refine ⟨_,rfl,⟨_,SqL.of (ad5 m3).1⟩,a78 (xs:=natsV M) (by rw [a03]; omega) (fun i acc H'=>H'=H2∧i≤M.length∧acc=natsV ((M.take i).filter fun a=>decide (a∉xs))) ⟨rfl,Nat.zero_le _,rfl⟩ (fun i acc H' ⟨e,_,ea⟩=>⟨by
    rw [ea,a03]
    have:=List.length_filter_le (fun a=>decide (a∉xs)) (M.take i)
    simp at this ⊢
    omega,e ▸ SqL.of (ad5 m3).1⟩) ?_ ?_⟩
   · rintro i v acc H3 hv ⟨rfl,hi,rfl⟩
     obtain ⟨a,ha,rfl⟩:=a54 hv
     have hi':=(gS ha).1
     walk_at "r"
     refine ⟨d,_,rfl,DGet.k (k:=Sum.inl ((a:Nat):Int)) k1,?_⟩
     rw [bf8 k3]
     rw [List.take_add_one,ha,Option.toList_some,List.filter_append]
     by_cases hax:a∈xs
     · refine ⟨false,by simp [hax],?_⟩
       refine ax5 ?_
       exact ⟨rfl,hi',by simp [hax]⟩
     · refine ⟨true,by simp [hax],?_⟩
       refine ax4 ?_
       walk_at "r"
       refine ⟨rfl,hi',?_⟩
       rw [a66]
       simp [hax]
   · rintro acc H3 ⟨rfl,_,rfl⟩
     rw [a03,List.take_length]
     obtain ⟨R,hR⟩:∃ R,R=M.filter fun a=>decide (a∉xs):=⟨_,rfl⟩
     rw [← hR]
     have Rm:∀ a,a∈R↔a∈M∧a∉xs:=fun a=>by rw [hR,List.mem_filter,decide_eq_true_iff]
     have Rn:R.Nodup:=by rw [hR]; exact List.Pairwise.filter _ Mn
     have Rl:R.length≤n:=pigeon n R Rn fun a ha=>lt_of a ((Mm a).mp ((Rm a).mp ha).1)
     clear hR
     intro pr H4 f4 s4 e4
     walk_at "r"
     intro pd o fd hD
     walk_at "r"
     have k4:=s4 _ _ k1
     have hdp:pd≠d:=(a08 k4 fd).symm
     refine ⟨d,kvs,rfl,by rw [a04 hdp.symm]; exact k4,fun o2 H5 hH5=>?_⟩
     have hGB:=(hG2.same s4).frz (o:=.ext (frkP d o2)) k4 (t3 d dm) (s4 _ _ et2) hdn
     have sB:Same (upd H4 d (.ext (frkP d o2))) H5:=fun b u e=>by
      rw [hH5]
      by_cases z:b=d
      · rw [z,a28] at e ⊢; exact e
      · rw [a04 z] at e ⊢
        rw [a04 (a08 e fd)]
        exact e
     have bpd:upd H4 d (.ext (frkP d o2)) pd=none:=by rw [a04 hdp]; exact fd
     have bpr:upd H4 d (.ext (frkP d o2)) pr=some (.lst (natsV R)):=by rw [a04 (ab1 e4 k4 (fun z=>nomatch z))]; exact e4
     have bd:upd H4 d (.ext (frkP d o2)) d=some (.ext (frkP d o2)):=a28
     have bfree:∀ {b:Addr},upd H4 d (.ext (frkP d o2)) b=none→H b=none:=fun {b} e=>hfree2 (s4.free (by
      by_cases z:b=d
      · rw [z,a28] at e; cases e
      · rw [a04 z] at e; exact e))
     have hD5:DtAt w.params H5 pd (csD []):=by
      rw [hH5]
      exact hD.mono (bc4 (by rw [a04 hdp.symm]; exact k4)) (a04 hdp)
     generalize upd H4 d (.ext (frkP d o2))=B at hGB sB bpd bpr bd bfree
     clear hH5 hD
     have key:∀ a,a<n→(nw a).map (fun k=>gs.getD k 0)=led a:=fun a _=>by rw [hled0]
     obtain ⟨Pv,hPv⟩:∃ Pv:Nat→St→Hp→Prop,Pv=(fun i σ H'=>i≤xs.length∧Same B H'∧(∃ cs,DtAt w.params H' pd (csD cs)∧CH B H' cs∧CI led cs (xs.take i))∧∃ y,σ=[some (.ref x.p),some (.int (c:Nat)),some (.ref d),some (.ref pr),some (.ref pd),y]):=⟨_,rfl⟩
     refine c81 Pv (by rw [hPv]; exact ⟨Nat.zero_le _,sB,⟨[],hD5,fun y hy=>absurd hy (by simp),by simpa using CI.nil⟩,_,rfl⟩) (fun i σ H' _ h'=>by rw [hPv] at h'; exact h'.2.1 _ _ bd) ?_ ?_
     · intro i k σ H6 hk hI
       rw [hPv] at hI
       obtain ⟨hi,s6,⟨cs,hD6,hC6,hI6⟩,y,rfl⟩:=hI
       rw [k3,gM] at hk
       obtain ⟨a,ha,rfl⟩:=gO hk
       have hi':=(gS ha).1
       have han:=lt_of a (xg a (gI ha))
       have hG6:=hGB.same s6
       have hfew:=hI6.few
       have htl:(xs.take i).length≤60:=by simp; omega
       have htk:xs.take (i+1)=xs.take i++[a]:=by rw [List.take_add_one,ha]; rfl
       show gName 5 (V.int ((a:Nat):Int)) _ _ _
       walk_at "r"
       refine ⟨pd,_,rfl,hD6,?_⟩
       walk_at "r"
       refine ⟨x.p,x.dx,_,rfl,hG6.o,b76 x (by decide +kernel),?_⟩
       walk_at "r"
       refine ⟨H0,x,nw,ns,n,gs,ms,_,qs,a,rfl,hG6,han,(hw a han).1,(fun k hk=>by rw [gl]; exact (hw a han).2 k hk),fun l7 H7 f7 s7 e7=>?_⟩
       rw [key a han] at e7
       walk_at "r"
       intro pn H8 f8 s8 e8
       have s68:=s7.trans s8
       have hD8:=ac5 hD6 s68
       have hC8:=hC6.same s68
       have sB8:=s6.trans s68
       obtain ⟨φ8,hpd8,_⟩:=hD8.ext'
       refine ⟨_,keyT (led a),hD8,bg2 (s8 _ _ e7),by unfold csD; rw [gL]; omega,fun v hv=>?_,fun hv o' hD'=>?_⟩
       · rcases ak6 (l:=led a) (cs:=cs) with ⟨z,_⟩ | ⟨j,y,hy,hyk,hyv⟩
         · rw [z] at hv; cases hv
         · rw [hyv] at hv
           cases hv
           obtain ⟨b1,b2⟩:=hC8 y (gI hy)
           have hyl:=hfew.2 y (gI hy)
           refine ab2 (SqL.of b2) ?_
           walk_at "r"
           refine a64 b2 (by rw [a03]; omega) ?_
           rw [a66,hPv]
           refine ⟨hi',sB8.updNew b1,⟨_,?_,hC8.old hI6.an hy,?_⟩,_,rfl⟩
           · rw [bg3 hy]
             exact hD8.mono (Tups.upd b2) (a04 (ab1 hpd8 b2 (fun z=>nomatch z)))
           · rw [htk]
             exact hI6.old hy fun b hb=>by rw [gG hb,hyk]
       · have hnk:led a∉cs.map (·.1):=by
          rcases ak6 (l:=led a) (cs:=cs) with ⟨_,z⟩ | ⟨j,y,hy,hyk,hyv⟩
          · exact z
          · rw [hyv] at hv; cases hv
         have npd:pn≠pd:=(a08 ((s7 _ _ (hD6.ext'.choose_spec.1))) f8).symm
         have e9:upd H8 pd o' pn=some (.lst (natsV [])):=by rw [a04 npd]; exact e8
         refine ab2 (SqL.of e9) ?_
         walk_at "r"
         refine a64 e9 (by rw [a03]; simp; omega) ?_
         rw [a66,hPv]
         have bpn:B pn=none:=(s6.trans s7).free f8
         refine ⟨hi',(sB8.updNew bpd).updNew bpn,⟨cs++[(led a,pn,[a])],?_,fun y hy=>?_,?_⟩,_,rfl⟩
         · have:=hD'.mono (Tups.upd (o:=.lst (natsV ([]++[a]))) e9) (a04 npd.symm)
           unfold csD at this ⊢
           rw [List.map_append]
           exact this
         · rcases gA hy with hy | hy
           · obtain ⟨b1,b2⟩:=hC8 y hy
             have z1:y.2.1≠pn:=a08 ((hC6.same s7) y hy).2 f8
             refine ⟨b1,?_⟩
             rw [a04 z1,a04 (ab1 b2 hpd8 (fun z=>nomatch z))]
             exact b2
           · rw [gG hy]
             exact ⟨bpn,a28⟩
         · rw [htk]
           exact hI6.new hnk ((hC6.same s7).no f8) (by simp) fun b hb=>by rw [gG hb]
     · intro σ H6 hI
       rw [hPv] at hI
       obtain ⟨_,s6,⟨cs,hD6,hC6,hI6⟩,y,rfl⟩:=hI
       rw [show (kvs.map (·.1)).length=xs.length by rw [gL]; exact k2,List.take_length] at hI6
       have hG6:=hGB.same s6
       have hfew:=hI6.few
       have unt:∀ b∈R,gs[b]?=some c∧¬ Tt gs ts b:=fun b hb=>by
        obtain ⟨z1,z2⟩:=(Rm b).mp hb
        have hg:=(Mm b).mp z1
        refine ⟨hg,fun ⟨c',xs',g1,g2,g3⟩=>z2 ?_⟩
        rw [hg] at g1
        cases g1
        rw [hx] at g2
        cases g2
        exact g3
       walk_at "r"
       refine at9 (fun σ' H'=>Same B H'∧(∃ cs,DtAt w.params H' pd (csD cs)∧CH B H' cs∧CI led cs (xs++R))∧∃ y,σ'=[some (.ref x.p),some (.int (c:Nat)),some (.ref d),some (.ref pr),some (.ref pd),y]) ?_ ?_
       · walk_at "r"
         refine ab0 (SqL.of (s6 _ _ bpr)) ?_
         rw [a03]
         walk_at "r"
         refine ite2 (fun hc=>?_) (fun hc=>?_)
         · have hR0:0<R.length:=by have:=of_decide_eq_true hc; omega
           obtain ⟨r0,hr0⟩:∃ r0,R[0]?=some r0:=⟨_,gE hR0⟩
           have hr0m:=gI hr0
           have han:=lt_of r0 (unt r0 hr0m).1
           walk_at "r"
           refine ⟨pd,_,rfl,hD6,?_⟩
           walk_at "r"
           refine ⟨x.p,x.dx,_,rfl,hG6.o,b76 x (by decide +kernel),?_⟩
           walk_at "r"
           refine a65 (SqL.of (s6 _ _ bpr)) (a05 (j:=0) (by unfold natsV; rw [gM,hr0]; rfl)) ?_
           walk_at "r"
           refine ⟨H0,x,nw,ns,n,gs,ms,_,qs,r0,rfl,hG6,han,(hw r0 han).1,(fun k hk=>by rw [gl]; exact (hw r0 han).2 k hk),fun l7 H7 f7 s7 e7=>?_⟩
           rw [key r0 han] at e7
           walk_at "r"
           intro pn H8 f8 s8 e8
           have s68:=s7.trans s8
           have hD8:=ac5 hD6 s68
           have hC8:=hC6.same s68
           have sB8:=s6.trans s68
           have er8:=sB8 _ _ bpr
           have allR:∀ b∈R,led b=led r0:=fun b hb=>by
            have:=hled b r0 (unt b hb).1 (unt r0 hr0m).1 (unt b hb).2 (unt r0 hr0m).2
            rw [hled0]
            exact this
           obtain ⟨φ8,hpd8,_⟩:=hD8.ext'
           refine ⟨_,keyT (led r0),hD8,bg2 (s8 _ _ e7),by unfold csD; rw [gL]; omega,fun v hv=>?_,fun hv o' hD'=>?_⟩
           · rcases ak6 (l:=led r0) (cs:=cs) with ⟨z,_⟩ | ⟨j,y,hy,hyk,hyv⟩
             · rw [z] at hv; cases hv
             · rw [hyv] at hv
               cases hv
               obtain ⟨b1,b2⟩:=hC8 y (gI hy)
               have hyl:=hfew.2 y (gI hy)
               refine ab2 (SqL.of b2) ?_
               walk_at "r"
               refine b06 b2 er8 (by rw [a03,a03]; omega) ?_
               rw [show natsV y.2.2++natsV R=natsV (y.2.2++R) by unfold natsV; rw [List.map_append]]
               refine ⟨sB8.updNew b1,⟨_,?_,hC8.old hI6.an hy,hI6.old hy fun b hb=>by rw [allR b hb,hyk]⟩,_,rfl⟩
               rw [bg3 hy]
               exact hD8.mono (Tups.upd b2) (a04 (ab1 hpd8 b2 (fun z=>nomatch z)))
           · have hnk:led r0∉cs.map (·.1):=by
              rcases ak6 (l:=led r0) (cs:=cs) with ⟨_,z⟩ | ⟨j,y,hy,hyk,hyv⟩
              · exact z
              · rw [hyv] at hv; cases hv
             have npd:pn≠pd:=(a08 ((s7 _ _ (hD6.ext'.choose_spec.1))) f8).symm
             have e9:upd H8 pd o' pn=some (.lst (natsV [])):=by rw [a04 npd]; exact e8
             have er9:upd H8 pd o' pr=some (.lst (natsV R)):=by rw [a04 (ab1 er8 hpd8 (fun z=>nomatch z))]; exact er8
             refine ab2 (SqL.of e9) ?_
             walk_at "r"
             refine b06 e9 er9 (by rw [a03,a03]; simp; omega) ?_
             have bpn:B pn=none:=(s6.trans s7).free f8
             refine ⟨(sB8.updNew bpd).updNew bpn,⟨cs++[(led r0,pn,R)],?_,fun y hy=>?_,hI6.new hnk ((hC6.same s7).no f8) (fun z=>by rw [z] at hr0m; cases hr0m) allR⟩,_,rfl⟩
             · have:=hD'.mono (Tups.upd (o:=.lst (natsV []++natsV R)) e9) (a04 npd.symm)
               unfold csD at this ⊢
               rw [List.map_append]
               exact this
             · rcases gA hy with hy | hy
               · obtain ⟨b1,b2⟩:=hC8 y hy
                 have z1:y.2.1≠pn:=a08 ((hC6.same s7) y hy).2 f8
                 refine ⟨b1,?_⟩
                 rw [a04 z1,a04 (ab1 b2 hpd8 (fun z=>nomatch z))]
                 exact b2
               · rw [gG hy]
                 exact ⟨bpn,a28⟩
         · have hR0:R=[]:=List.length_eq_zero_iff.mp (by
            refine Nat.eq_zero_of_not_pos fun z=>hc ?_
            exact decide_eq_true (by omega))
           walk_at "r"
           refine ⟨s6,⟨cs,hD6,hC6,?_⟩,_,rfl⟩
           rw [hR0,List.append_nil]
           exact hI6
       · rintro σ7 H7 ⟨s7,⟨cs,hD7,hC7,hI7⟩,y,rfl⟩
         walk_at "r"
         refine ⟨pd,_,rfl,hD7,fun p8 H8 f8 s8 e8=>?_⟩
         walk_at "r"
         refine ⟨p8,pd,_,rfl,e8,ac5 hD7 s8,?_⟩
         intro p9 H9 f9 s9 e9
         have s79:=s8.trans s9
         have hzn:(xs++R).Nodup:=List.nodup_append.mpr ⟨xn,Rn,fun a ha b hb z=>((Rm b).mp hb).2 (z ▸ ha)⟩
         have hzm:∀ a,a∈xs++R↔gs[a]?=some c:=fun a=>by
          rw [List.mem_append]
          constructor
          · rintro (z | z)
            · exact xg a z
            · exact (Mm a).mp ((Rm a).mp z).1
          · intro z
            by_cases w:a∈xs
            · exact .inl w
            · exact .inr ((Rm a).mpr ⟨(Mm a).mpr z,w⟩)
         refine q p9 (cs.map fun y=>(y.2.1,y.2.2)) H9 (bfree ((s7.trans s8).free f9)) (fun y hy=>?_) ?_ (fun y hy=>?_) ?_ ((hGB.same s7).same s79)
         · obtain ⟨z,hz,rfl⟩:=List.mem_map.mp hy
           exact bfree (hC7 z hz).1
         · rw [e9]
           unfold csD
           rw [List.map_map,List.map_map]
           rfl
         · obtain ⟨z,hz,rfl⟩:=List.mem_map.mp hy
           exact s79 _ _ (hC7 z hz).2
         · have:=hI7.parts hzn hzm
           rw [List.map_map]
           exact this
def bw3 (K:W.Frag) (C:Addr):Sp:=fun vs H Q _=>∃ (α:Type) (lab:Nat→α) (w:Nat→Nat→Nat) (many:Nat) (H0:Hp) (x:GA) (nw ns:Nat→List Nat) (n:Nat) (gs:List Nat) (ms ts:List (List Nat)) (qs:List Nat) (c:Nat),vs=[.ref x.p,.int (c:Nat)]∧GrAt C H0 H x nw ns n gs ms ts qs∧GSt n gs ms ts (qs++[c])∧Grp lab w n many (fun a=>gs.getD a 0) (Tt gs ts)∧n≤60∧many≤100 ∧
 (∀ a,a<n→nw a=(List.range many).map (w a))∧(∀ a j,a<n→j<many→w a j<n)∧(∀ b,b<n→∀ a,a∈ns b↔a<n∧b∈nw a) ∧
 ∀ H' gs' ms' ts' qs',GrAt C H0 H' x nw ns n gs' ms' ts' qs'→GSt n gs' ms' ts' qs'→Grp lab w n many (fun a=>gs'.getD a 0) (Tt gs' ts')→(ms.length<ms'.length∨(ms'.length=ms.length∧qs'=qs))→Q .non H'
theorem ai1 (T:Txt K mg t):FnOk P w K mg base CX0 3 t.a_Grouping_part t.fd_Grouping_part ["self","group"] (bw3 K t.c_Grouping):=by
 have G_Grouping_parts_of:=ae7 (P:=P) (w:=w) (base:=base) T
 have G_Grouping_regroup:=af6 (P:=P) (w:=w) (base:=base) T
 have G_Grouping_touch_sources:=ab8 (P:=P) (w:=w) (base:=base) T
 refine T.F_Grouping_part.ok sc_Grouping_part (fun vs H Q E h=>?_) (fun cdv A outer s H vs Q E hr h=>?_)
 · obtain ⟨α,lab,ww,many,H0,x,nw,ns,n,gs,ms,ts,qs,c,rfl,_⟩:=h
   rfl
 · obtain ⟨α,lab,ww,many,H0,x,nw,ns,n,gs,ms,ts,qs,c,rfl,hG,hS,hR,hn,hmany,hnw,hww,hns,q⟩:=h
   refine ⟨_,(@a02 _ _ _ _ _ (@a35 _ _ 2 _ _ _ _ sc_Grouping_part.nd rfl (by walk_at "o") (b73 K (by rfl) (by rfl) T.z_sorted bb8 (by rfl) T.z_len aa0 (@a00 _ _ _ _ _ (ag9 (pv 0) T.cl_Grouping T.M_Grouping_parts_of G_Grouping_parts_of (hr.mono (by omega)) T.b_Grouping_parts_of .nil a82 (@a00 _ _ _ _ _ (pv 1) (@a01 _) (by rfl))) (@a01 _) (by rfl)) (by rfl)) (by rfl) (by walk_at "o"))
    (@a02 _ _ _ _ _ (@af9 _ _ _ _ _ _ (bb7 K PySem.F.plainAttrs_list PySem.F.slot_list_pop PySem.F.type_list_pop bo6 (pv 2)) (al7 (a72 K (pv 0) rfl) (pv 1) ad9) (by rfl) (by rfl) (by rfl))
    (@a02 _ _ _ _ _ (@a74 _ _ _ _ _ _ _ _ PassesOwn.never rfl (a31 K (pv 2)) (a06 (i:=3) sc_Grouping_part.nd rfl (by walk_at "o")) (@a07 _ _ _ (@a60 _ _ _ _ (ag9 (pv 0) T.cl_Grouping T.M_Grouping_regroup G_Grouping_regroup (hr.mono (by omega)) T.b_Grouping_regroup .nil a82 (@a00 _ _ _ _ _ (pv 3) (@a01 _) (by rfl))) (by rfl))) (by intro _; rfl))
    (@a07 _ _ _ (@a74 _ _ _ _ _ _ _ _ PassesOwn.never rfl (a31 K (pv 2)) (a06 (i:=3) sc_Grouping_part.nd rfl (by walk_at "o")) (@a07 _ _ _ (@a74 _ _ _ _ _ _ _ _ PassesOwn.never rfl (a31 K (pv 3)) (a06 (i:=4) sc_Grouping_part.nd rfl (by walk_at "o")) (@a07 _ _ _ (@a60 _ _ _ _ (ag9 (pv 0) T.cl_Grouping T.M_Grouping_touch_sources G_Grouping_touch_sources (hr.mono (by omega)) T.b_Grouping_touch_sources .nil a82 (@a00 _ _ _ _ _ (pv 4) (@a01 _) (by rfl))) (by rfl))) (by intro _; rfl))) (by intro _; rfl)))))),?_⟩
   have sl:(1000000:Nat)≤sizeLine:=le_line (Nat.le_refl _)
   have gl:=hS.gl
   have hck:c<ms.length:=hS.ts.ql c (by simp)
   have hfew:=hS.few
   have gx:∀ a,a<n→gs[a]?=some (gs.getD a 0):=fun a ha=>by
    have:a<gs.length:=by omega
    simp [List.getD,gE this]
   have lt_of:∀ {a d:Nat},gs[a]?=some d→a<n:=fun e=>by rw [← gl]; exact (gS e).1
   have led_iff:∀ a b,a<n→b<n→((nw a).map (fun k=>gs.getD k 0)=(nw b).map (fun k=>gs.getD k 0)↔∀ j,j<many→gs.getD (ww a j) 0=gs.getD (ww b j) 0):=fun a b ha hb=>by
    rw [hnw a ha,hnw b hb,List.map_map,List.map_map]
    constructor
    · intro e j hj
      exact List.map_inj_left.mp e j (List.mem_range.mpr hj)
    · intro e
      exact List.map_inj_left.mpr fun j hj=>e j (List.mem_range.mp hj)
   walk_at "go"
   unfold tSortLen
   walk_at "r"
   refine ⟨x.p,x.dx,_,rfl,hG.o,b76 x (by decide +kernel),?_⟩
   walk_at "r"
   refine ⟨H0,x,nw,ns,n,gs,ms,ts,qs,c,rfl,hG,hS,hn,fun a ha=>⟨by rw [hnw a ha]; simpa using hmany,fun k hk=>?_⟩,fun a b ha hb na nb=>(led_iff a b (lt_of ha) (lt_of hb)).mpr (hR.led a b (lt_of ha) (lt_of hb) (by rw [af3 ha,af3 hb]) na nb),fun l ls H1 fl fls el els hP hG1=>?_⟩
   · rw [hnw a ha] at hk
     obtain ⟨j,hj,rfl⟩:=List.mem_map.mp hk
     exact hww a j ha (List.mem_range.mp hj)
   walk_at "r"
   have hpf:=hP.few
   rw [gL] at hpf
   refine ⟨l,ls.map (fun y=>(y.1,natsV y.2)),rfl,SqL.of (by rw [List.map_map]; exact el),fun y hy=>?_,by rw [gL]; omega,fun p sls H2 f2 s2 e2 pm _=>?_⟩
   · obtain ⟨z,hz,rfl⟩:=List.mem_map.mp hy
     exact els z hz
   obtain ⟨ls2,hp2,rfl⟩:=bm6 pm rfl
   have hP2:=hP.perm (hp2.symm.map (·.2))
   obtain ⟨M,hM⟩:∃ M,ms[c]?=some M:=⟨_,gE hck⟩
   obtain ⟨Mn,M0,Mm⟩:=hS.me c M hM
   obtain ⟨a0,ha0⟩:=List.exists_mem_of_ne_nil M M0
   have hne:ls2≠[]:=fun z=>hP2.some ((Mm a0).mp ha0) (by rw [z]; rfl)
   obtain ⟨r2,bb,rfl⟩:∃ r b,ls2=r++[b]:=⟨ls2.dropLast,ls2.getLast hne,(List.dropLast_concat_getLast hne).symm⟩
   obtain ⟨bl,big⟩:=bb
   have hin:∀ y∈r2++[(bl,big)],H y.1=none∧H1 y.1=some (.lst (natsV y.2)):=fun y hy=>⟨fls y (hp2.mem_iff.mp hy),els y (hp2.mem_iff.mp hy)⟩
   rw [List.map_append,List.map_cons,List.map_nil] at hP2
   obtain ⟨rs,hrs⟩:∃ rs,rs=r2.map (·.2):=⟨_,rfl⟩
   rw [← hrs] at hP2
   simp only [List.map_append,List.map_cons,List.map_nil,List.map_map] at e2
   clear pm hp2 hP els fls el hne
   walk_at "r"
   refine ab2 (SqL.of e2) ?_
   walk_at "r"
   refine c45 e2 ?_
   have s3:Same H1 (upd H2 p (.lst (r2.map ((fun x=>V.ref x.1)∘fun y=>(y.1,natsV y.2))))):=s2.updNew f2
   have e3:upd H2 p (.lst (r2.map ((fun x=>V.ref x.1)∘fun y=>(y.1,natsV y.2)))) p=some (.lst (r2.map fun y=>V.ref y.1)):=a28
   generalize upd H2 p (.lst (r2.map ((fun x=>V.ref x.1)∘fun y=>(y.1,natsV y.2))))=H3 at s3 e3
   have hG3:=hG1.same s3
   obtain ⟨us,m1,m2⟩:=hG3.mm
   have pno:p∉x.own:=hG1.new f2
   have hNL:NL (hds x.own H3) (.ref bl) big:=by
    obtain ⟨z1,z2⟩:=hin (bl,big) (by simp)
    exact ⟨bl,rfl,a98 (s3 _ _ z2) (hG.new z1)⟩
   walk_at "r"
   refine ⟨x.p,_,x.dx,_,_,rfl,hG3.o,T.cl_Grouping,T.n_Grouping_members,ae3 x,?_⟩
   walk_at "r"
   refine am4 m1 (j:=c) (az0 (by rw [m2.1]; exact hck)) ?_
   have hG4:=hG3.updM (us':=us.set c (.ref bl)) (ms':=ms.set c big) (b40 m2 hNL)
   have kp:KeepL x H3 (upd H3 x.m (.lst (us.set c (.ref bl)))):=.own x.mm
   generalize upd H3 x.m (.lst (us.set c (.ref bl)))=H4 at hG4 kp
   obtain ⟨B,hGB,sB0,hB⟩:=hG4.fix
   have hBp:B p=some (.lst (r2.map fun y=>V.ref y.1)):=hB _ _ pno (fun _ z=>nomatch z) (kp _ _ pno (fun _ z=>nomatch z) e3)
   have hBy:∀ y∈r2,y.1∉x.own∧B y.1=some (.lst (natsV y.2)):=fun y hy=>by
    obtain ⟨z1,z2⟩:=hin y (List.mem_append_left _ hy)
    have z3:=hG.new z1
    exact ⟨z3,hB _ _ z3 (fun _ z=>nomatch z) (kp _ _ z3 (fun _ z=>nomatch z) (s3 _ _ z2))⟩
   have rl:r2.length≤60:=by
    have:=hP2.few
    simp [hrs] at this
    omega
   have rsl:rs.length=r2.length:=by rw [hrs,gL]
   have rsm:∀ xs∈rs,∀ a∈xs,gs[a]?=some c:=fun xs hxs a ha=>(hP2.me a).mp (by
    rw [List.flatten_append]
    exact List.mem_append_left _ (List.mem_flatten.mpr ⟨xs,hxs,ha⟩))
   clear hG3 hG1 hin m1 m2 e3 e2 hNL
   walk_at "r"
   obtain ⟨Pv,hPv⟩:∃ Pv:Nat→St→Hp→Prop,Pv=(fun i σ H'=>i≤r2.length∧GrAt t.c_Grouping B H' x nw ns n (regA gs (rs.take i) ms.length) (ms.set c big++rs.take i) (ts.set c []++(rs.take i).map fun _=>[]) qs∧∃ y z,σ=[some (.ref x.p),some (.int (c:Nat)),some (.ref p),y,z]):=⟨_,rfl⟩
   refine ⟨⟨_,SqL.of (hGB.b _ _ hBp)⟩,a76 (K:=K) (a:=p) (xs:=r2.map fun y=>V.ref y.1) Pv (by rw [hPv]; exact ⟨Nat.zero_le _,by simpa [regA] using hGB,_,_,rfl⟩) (fun i σ H' _ h'=>by rw [hPv] at h'; exact SqL.of (h'.2.1.b _ _ hBp)) ?_ ?_⟩
   · intro i v σ H5 hv hI
     rw [hPv] at hI
     obtain ⟨hi,h5,y,z,rfl⟩:=hI
     rw [gM] at hv
     obtain ⟨yy,hyy,rfl⟩:=gO hv
     obtain ⟨z1,z2⟩:=hBy yy (gI hyy)
     have hi':=(gS hyy).1
     have hrsi:rs[i]?=some yy.2:=by rw [hrs,gM,hyy]; rfl
     have tl:=hS.ts.tl
     walk_at "r"
     refine ⟨x.p,x.dx,_,rfl,h5.o,b76 x (by decide +kernel),?_⟩
     walk_at "r"
     refine ⟨B,x,nw,ns,n,_,_,_,qs,yy.1,yy.2,rfl,h5,a98 (h5.b _ _ z2) z1,fun a ha=>?_,by simp; omega,by simp; omega,fun H6 h6=>?_⟩
     · rw [aq4]
       exact (gS (rsm yy.2 (gI hrsi) a ha)).1
     · walk_at "r"
       rw [hPv]
       refine ⟨hi',?_,_,_,rfl⟩
       rw [List.take_add_one,hrsi,Option.toList_some,av0,List.map_append,←List.append_assoc,←List.append_assoc]
       rw [List.length_append,List.length_set] at h6
       exact h6
   · intro σ H5 hI
     rw [hPv] at hI
     obtain ⟨_,h5,y,z,rfl⟩:=hI
     clear hPv Pv
     rw [gL,←rsl,List.take_length] at h5
     have hS':=hS.part hP2
     obtain ⟨gs',hgs'⟩:∃ g,g=regA gs rs ms.length:=⟨_,rfl⟩
     obtain ⟨ms',hms'⟩:∃ m,m=ms.set c big++rs:=⟨_,rfl⟩
     obtain ⟨ts',hts'⟩:∃ t,t=ts.set c []++rs.map fun _=>([]:List Nat):=⟨_,rfl⟩
     have hml:ms'.length=ms.length+rs.length:=by rw [hms']; simp
     rw [← hgs',←hms',←hts'] at h5 hS'
     have hf':=hS'.few
     walk_at "r"
     obtain ⟨Pv,hPv⟩:∃ Pv:Nat→St→Hp→Prop,Pv=(fun i σ H'=>i≤r2.length∧(∃ ts2 qs2,GrAt t.c_Grouping B H' x nw ns n gs' ms' ts2 qs2∧TSt gs' ms'.length ts2 qs2∧(rs=[]→qs2=qs)∧∀ b,Tt gs' ts2 b↔Tt gs' ts' b∨∃ a∈(rs.take i).flatten,b∈ns a)∧∃ y z,σ=[some (.ref x.p),some (.int (c:Nat)),some (.ref p),y,z]):=⟨_,rfl⟩
     refine ⟨⟨_,SqL.of (h5.b _ _ hBp)⟩,a76 (K:=K) (a:=p) (xs:=r2.map fun y=>V.ref y.1) Pv (by rw [hPv]; exact ⟨Nat.zero_le _,⟨ts',qs,h5,hS'.ts,fun _=>rfl,by simp⟩,_,_,rfl⟩) (fun i σ H' _ h'=>by rw [hPv] at h'; obtain ⟨_,⟨_,_,h',_⟩,_⟩:=h'; exact SqL.of (h'.b _ _ hBp)) ?_ ?_⟩
     · intro i v σ H6 hv hI
       rw [hPv] at hI
       obtain ⟨hi,⟨ts2,qs2,h6,hT6,hq6,hb6⟩,y,z,rfl⟩:=hI
       rw [gM] at hv
       obtain ⟨yy,hyy,rfl⟩:=gO hv
       obtain ⟨z1,z2⟩:=hBy yy (gI hyy)
       have hi':=(gS hyy).1
       have hrsi:rs[i]?=some yy.2:=by rw [hrs,gM,hyy]; rfl
       have hrm:=gI hrsi
       have hrne:rs≠[]:=fun z=>by rw [z] at hrm; cases hrm
       walk_at "r"
       obtain ⟨Pw,hPw⟩:∃ Pw:Nat→St→Hp→Prop,Pw=(fun j σ H'=>j≤yy.2.length∧(∃ ts2 qs2,GrAt t.c_Grouping B H' x nw ns n gs' ms' ts2 qs2∧TSt gs' ms'.length ts2 qs2∧∀ b,Tt gs' ts2 b↔Tt gs' ts' b∨∃ a∈(rs.take i).flatten++yy.2.take j,b∈ns a)∧∃ z,σ=[some (.ref x.p),some (.int (c:Nat)),some (.ref p),some (.ref yy.1),z]):=⟨_,rfl⟩
       refine ⟨⟨_,SqL.of (h6.b _ _ z2)⟩,a76 (K:=K) (a:=yy.1) (xs:=natsV yy.2) Pw (by rw [hPw]; exact ⟨Nat.zero_le _,⟨ts2,qs2,h6,hT6,by simpa using hb6⟩,_,rfl⟩) (fun i σ H' _ h'=>by rw [hPw] at h'; obtain ⟨_,⟨_,_,h',_⟩,_⟩:=h'; exact SqL.of (h'.b _ _ z2)) ?_ ?_⟩
       · intro j v σ H7 hv hI
         rw [hPw] at hI
         obtain ⟨hj,⟨ts3,qs3,h7,hT7,hb7⟩,z,rfl⟩:=hI
         obtain ⟨a,ha,rfl⟩:=a54 hv
         have han:=lt_of (rsm yy.2 hrm a (gI ha))
         walk_at "r"
         refine ⟨x.p,x.dx,_,rfl,h7.o,b76 x (by decide +kernel),?_⟩
         walk_at "r"
         refine ⟨B,x,nw,ns,n,gs',ms',ts3,qs3,a,rfl,h7,han,hS'.gl,by omega,by omega,fun s hs=>((hns a han s).mp hs).1,hS'.gk,hT7,fun H8 ts4 qs4 h8 hT8 hb8=>?_⟩
         walk_at "r"
         rw [hPw]
         refine ⟨(gS ha).1,⟨ts4,qs4,h8,hT8,fun b=>?_⟩,_,rfl⟩
         rw [hb8,hb7,List.take_add_one,ha,Option.toList_some,←List.append_assoc,or_assoc]
         refine or_congr Iff.rfl ?_
         constructor
         · rintro (⟨e,h1,h2⟩ | h1)
           · exact ⟨e,List.mem_append_left _ h1,h2⟩
           · exact ⟨a,by simp,h1⟩
         · rintro ⟨e,h1,h2⟩
           rcases gA h1 with h1 | h1
           · exact .inl ⟨e,h1,h2⟩
           · exact .inr (gG h1 ▸ h2)
       · intro σ H7 hI
         rw [hPw] at hI
         obtain ⟨_,⟨ts3,qs3,h7,hT7,hb7⟩,z,rfl⟩:=hI
         rw [a03,List.take_length] at hb7
         rw [hPv]
         refine ⟨hi',⟨ts3,qs3,h7,hT7,fun z=>absurd z hrne,?_⟩,_,_,rfl⟩
         rw [List.take_add_one,hrsi,Option.toList_some,List.flatten_append,List.flatten_cons,List.flatten_nil,List.append_nil]
         exact hb7
     · intro σ H6 hI
       rw [hPv] at hI
       obtain ⟨_,⟨ts2,qs2,h6,hT6,hq6,hb6⟩,y,z,rfl⟩:=hI
       rw [gL,←rsl,List.take_length] at hb6
       refine q H6 gs' ms' ts2 qs2 (h6.to sB0) ⟨hS'.gl,hS'.gk,hS'.me,hT6⟩ ?_ ?_
       · rw [hgs'] at hb6 ⊢
         refine bm3 hR hS hP2 hww led_iff (fun a h1 h2=>?_) (fun a j ha hj h1=>?_)
         · refine (hb6 a).mpr (.inl ?_)
           obtain ⟨c',xs,g1,g2,g3⟩:=h1
           rw [af3 g1] at h2
           have hl':c'<ts.length:=(gS g2).1
           refine ⟨c',xs,(af2 hS hP2).mpr (.inl ⟨fun z=>?_,g1⟩),?_,g3⟩
           · obtain ⟨xs',z1,z2⟩:=List.mem_flatten.mp z
             have:=rsm xs' z1 a z2
             rw [g1] at this
             exact h2 (Option.some.inj this)
           · rw [hts',List.getElem?_append_left (by simpa using hl'),List.getElem?_set,if_neg (Ne.symm h2)]
             exact g2
         · refine (hb6 a).mpr (.inr ⟨ww a j,h1,(hns _ (hww a j ha hj) a).mpr ⟨ha,?_⟩⟩)
           rw [hnw a ha]
           exact List.mem_map_of_mem (List.mem_range.mpr hj)
       · rw [hml]
         by_cases z:rs=[]
         · exact .inr ⟨by rw [z]; rfl,hq6 z⟩
         · have:=List.length_pos_iff.mpr z
           exact .inl (by omega)
def bw4 (K:W.Frag) (C:Addr):Sp:=fun vs H Q _=>∃ (H0:Hp) (p dx la wa:Addr) (us ws:List V) (α:Type) (_:DecidableEq α) (f:α→Tr) (labs:List α) (nw:Nat→List Nat) (n:Nat),vs=[.ref p,.ref la,.ref wa]∧H p=some (.ins C dx [])∧Same H0 H∧H0 p=none∧H la=some (.lst us)∧Tr.AtsB H (labs.map f) us∧(∀ a b,f a=f b→a=b)∧(∀ x,(f x).h≤8)∧labs.length=n∧H wa=some (.lst ws)∧Lsts H ws nw n∧n≤60∧(∀ a,a<n→(nw a).length≤100∧∀ k∈nw a,k<n) ∧
 ∀ x ns H',x.p=p→GrAt C H0 H' x nw ns n (canon labs) (memL (canon labs) (mets labs).length) (memL (canon labs) (mets labs).length) (List.range (mets labs).length)→(∀ b,b<n→∀ a,a∈ns b↔a<n∧b∈nw a)→Q .non H'
theorem ae8 (T:Txt K mg t):FnOk P w K mg base CX0 3 t.a_Grouping___init__ t.fd_Grouping___init__ ["self","labels","ways"] (bw4 K t.c_Grouping):=by
 have G_members_of:=ar1 (P:=P) (w:=w) (base:=base) T
 have G_numbered:=ak9 (P:=P) (w:=w) (base:=base) T
 have G_sources_of:=ar0 (P:=P) (w:=w) (base:=base) T
 refine T.F_Grouping___init__.ok ae6 (fun vs H Q E h=>?_) (fun cdv A outer s H vs Q E hr h=>?_)
 · obtain ⟨H0,p,dx,la,wa,us,ws,α,dα,f,labs,nw,n,rfl,_⟩:=h
   rfl
 · obtain ⟨H0,p,dx,la,wa,us,ws,α,dα,f,labs,nw,n,rfl,hp,hb,h0p,hla,hus,hf,h8,hln,hwa,hws,hn,hw,q⟩:=h
   refine ⟨_,(@a02 _ _ _ _ _ (ah3 K (pv 0) (pv 2) rfl)
    (@a02 _ _ _ _ _ (ah3 K (pv 0) (@a41 _ _ _ _ _ _ _ _ _ _ _ _ _ _ _ _ G_sources_of (hr.mono (by omega)) rfl T.m_sources_of T.F_sources_of.kp T.b_sources_of .nil a82 (@a00 _ _ _ _ _ (pv 2) (@a01 _) (by rfl)) (by decide) (by rfl) (by rfl)) rfl)
    (@a02 _ _ _ _ _ (ah3 K (pv 0) (@a41 _ _ _ _ _ _ _ _ _ _ _ _ _ _ _ _ G_numbered (hr.mono (by omega)) rfl T.m_numbered T.F_numbered.kp T.b_numbered .nil a82 (@a00 _ _ _ _ _ (pv 1) (@a01 _) (by rfl)) (by decide) (by rfl) (by rfl)) rfl)
    (@a02 _ _ _ _ _ (ah3 K (pv 0) (@a41 _ _ _ _ _ _ _ _ _ _ _ _ _ _ _ _ G_members_of (hr.mono (by omega)) rfl T.m_members_of T.F_members_of.kp T.b_members_of .nil a82 (@a00 _ _ _ _ _ (a72 K (pv 0) rfl) (@a01 _) (by rfl)) (by decide) (by rfl) (by rfl)) rfl)
    (@a02 _ _ _ _ _ (ah3 K (pv 0) (ab7 (Nt:=["things"]) (Nf:=[]) (caps:=[]) rfl (a47 (sc:=defScope a36) rfl rfl (by decide +kernel) (by decide +kernel) (by decide +kernel) rfl (by decide +kernel)) (a31 K (a72 K (pv 0) rfl)) (fun _ _ _ _ _=>(a06 (i:=0) (show (["things"]:List Str).Nodup by decide +kernel) rfl (by walk_at "o"))) (fun _ _ _ _ _=>(@a55 _)) (fun _ _ _ _ _=>(@a48 _ _ _ _ _ _ _ _ _ (b08 K) (by rfl) T.z_dict ax3 (@a00 _ _ _ _ _ (ab7 (Nt:=["thing"]) (Nf:=[]) (caps:=[]) rfl (a47 rfl rfl (by decide +kernel) (by decide +kernel) (fun y hy h=>absurd h ((show ∀ y∈_,y.2≠NameKind.free by decide +kernel) y hy)) rfl (by decide +kernel)) (a31 K (pv 0)) (fun _ _ _ _ _=>(a06 (i:=0) (show (["thing"]:List Str).Nodup by decide +kernel) rfl (by walk_at "o"))) (fun _ _ _ _ _=>(@a55 _)) (fun _ _ _ _ _=>(@a46 _ _ _ _ _ (@a00 _ _ _ _ _ (pv 0) (@a00 _ _ _ _ _ (@aw4 _ _ _ _) (@a01 _) (by rfl)) (by rfl))))) (@a01 _) (by rfl)) (by decide) (by decide) (by rfl) (by rfl)))) rfl)
    (@a07 _ _ _ (ah3 K (pv 0) (@a48 _ _ _ _ _ _ _ _ _ (bl5 rfl) (by rfl) T.z_list aa9 (@a00 _ _ _ _ _ (@a48 _ _ _ _ _ _ _ _ _ bd9 (by rfl) T.z_range bj9 (@a00 _ _ _ _ _ (@a44 _ _ _ _ _ _ _ _ _ (a95 K) (by rfl) T.z_len aa0 (@a00 _ _ _ _ _ (a72 K (pv 0) rfl) (@a01 _) (by rfl)) (by decide) (by decide) (by rfl) (by rfl)) (@a01 _) (by rfl)) (by decide) (by decide) (by rfl) (by rfl)) (@a01 _) (by rfl)) (by decide) (by decide) (by rfl) (by rfl)) rfl))))))),?_⟩
   have sl:(1000000:Nat)≤sizeLine:=le_line (Nat.le_refl _)
   have hml:=ae1 labs
   have nlp:∀ {Hx:Hp}{fs:List (Str×V)}{a:Addr}{vs:List V},Hx p=some (.ins t.c_Grouping dx fs)→Hx a=some (.lst vs)→a≠p:=fun e1 e2=>ab1 e2 e1 (fun z=>nomatch z)
   walk_at "go"
   refine ⟨p,_,dx,_,rfl,hp,T.cl_Grouping,T.n_Grouping_ways,by simp,?_⟩
   have kA:But p H (upd H p (.ins t.c_Grouping dx (gF1 wa))):=But.refl.upd
   have p1:upd H p (.ins t.c_Grouping dx (gF1 wa)) p=some (.ins t.c_Grouping dx (gF1 wa)):=a28
   have tA:Tups H (upd H p (.ins t.c_Grouping dx (gF1 wa))):=au2 hp
   show tSeq _ _ _ _ (upd H p (.ins t.c_Grouping dx (gF1 wa)))
   generalize upd H p (.ins t.c_Grouping dx (gF1 wa))=H1 at kA p1 tA
   have hwa1:=kA _ _ (nlp hp hwa) hwa
   have hws1:Lsts H1 ws nw n:=⟨hws.1,fun i hi=>by
    obtain ⟨b,h1,h2⟩:=hws.2 i hi
    exact ⟨b,h1,kA _ _ (nlp hp h2) h2⟩⟩
   walk_at "r"
   refine ⟨wa,ws,nw,n,rfl,hwa1,hws1,hw,by omega,fun fs ls cs H2 hFL hcl hcm=>?_⟩
   walk_at "r"
   have p2:=hFL.b _ _ p1
   refine ⟨p,_,dx,_,rfl,p2,T.cl_Grouping,T.n_Grouping_sources,(by have:=a69 "ways" (V.ref wa) []; unfold gF1; simp at this ⊢; omega),?_⟩
   have kB:But p H2 (upd H2 p (.ins t.c_Grouping dx (gF2 wa fs))):=But.refl.upd
   have p3:upd H2 p (.ins t.c_Grouping dx (gF2 wa fs)) p=some (.ins t.c_Grouping dx (gF2 wa fs)):=a28
   have tB:Tups H2 (upd H2 p (.ins t.c_Grouping dx (gF2 wa fs))):=au2 p2
   show tSeq _ _ _ _ (upd H2 p (.ins t.c_Grouping dx (gF2 wa fs)))
   generalize upd H2 p (.ins t.c_Grouping dx (gF2 wa fs))=H3 at kB p3 tB
   have k03:But p H H3:=kA.trans (hFL.b.but.trans kB)
   have t03:Tups H H3:=tA.trans (hFL.b.tups.trans tB)
   walk_at "r"
   refine ⟨la,us,α,dα,f,labs,rfl,SqL.of (k03 _ _ (nlp hp hla) hla),hus.tups t03,hf,h8,by omega,fun g H4 f4 s4 e4=>?_⟩
   walk_at "r"
   have p4:=s4 _ _ p3
   refine ⟨p,_,dx,_,rfl,p4,T.cl_Grouping,T.n_Grouping_groups,(by have h1:=a69 "ways" (V.ref wa) []; have h2:=a69 "sources" (V.ref fs) (gF1 wa); unfold gF2; unfold gF1 at h2 ⊢; simp at h1; omega),?_⟩
   have kC:But p H4 (upd H4 p (.ins t.c_Grouping dx (gF3 wa fs g))):=But.refl.upd
   have p5:upd H4 p (.ins t.c_Grouping dx (gF3 wa fs g)) p=some (.ins t.c_Grouping dx (gF3 wa fs g)):=a28
   show tSeq _ _ _ _ (upd H4 p (.ins t.c_Grouping dx (gF3 wa fs g)))
   generalize upd H4 p (.ins t.c_Grouping dx (gF3 wa fs g))=H5 at kC p5
   have hgp:g≠p:=nlp p4 e4
   have e5:=kC _ _ hgp e4
   walk_at "r"
   refine ⟨p,_,dx,_,_,rfl,p5,T.cl_Grouping,T.n_Grouping_groups,am7 _ _ _,?_⟩
   walk_at "r"
   have emc:(mets (canon labs)).length=(mets labs).length:=by rw [ae2 labs.length rfl,List.length_range]
   refine ⟨g,canon labs,rfl,e5,fun c hc=>by rw [emc]; exact aq3 hc,by rw [ab9]; omega,fun m mls H6 hFM=>?_⟩
   rw [emc] at hFM
   walk_at "r"
   have p6:=hFM.b _ _ p5
   have len3:(gF3 wa fs g).length≤3:=by
    have h1:=a69 "ways" (V.ref wa) []
    have h2:=a69 "sources" (V.ref fs) (gF1 wa)
    have h3:=a69 "groups" (V.ref g) (gF2 wa fs)
    unfold gF3
    unfold gF2 at h3 ⊢
    unfold gF1 at h3 h2 ⊢
    simp at h1
    omega
   refine ⟨p,_,dx,_,rfl,p6,T.cl_Grouping,T.n_Grouping_members,by omega,?_⟩
   have kD:But p H6 (upd H6 p (.ins t.c_Grouping dx (gF4 wa fs g m))):=But.refl.upd
   have p7:upd H6 p (.ins t.c_Grouping dx (gF4 wa fs g m)) p=some (.ins t.c_Grouping dx (gF4 wa fs g m)):=a28
   show tSeq _ _ _ _ (upd H6 p (.ins t.c_Grouping dx (gF4 wa fs g m)))
   generalize upd H6 p (.ins t.c_Grouping dx (gF4 wa fs g m))=H7 at kD p7
   have e7:=kD _ _ (nlp p6 hFM.e) hFM.e
   obtain ⟨K0,hK0⟩:∃ ms,ms=memL (canon labs) (mets labs).length:=⟨_,rfl⟩
   rw [← hK0] at hFM
   have mlen:mls.length=K0.length:=hFM.at_.1
   have K0l:K0.length=(mets labs).length:=by rw [hK0]; simp [memL]
   have hin7:∀ (i:Nat) (d:Addr),mls[i]?=some d→∃ xs,K0[i]?=some xs∧xs.Nodup∧xs.length≤n∧H7 d=some (.lst (natsV xs)):=fun i d hd=>by
    have hi:i<K0.length:=by rw [← mlen]; exact (gS hd).1
    obtain ⟨xs,e⟩:∃ xs,K0[i]?=some xs:=⟨_,gE hi⟩
    have e':=hFM.at_.2 i d _ hd e
    have hx:=e
    rw [hK0] at hx
    obtain ⟨_,x1,x2⟩:=ad4 hx
    exact ⟨xs,e,x1,pigeon n _ x1 (fun a ha=>by
     have:=(gS ((x2 a).mp ha)).1
     rw [ab9] at this
     omega),kD _ _ (nlp p6 e') e'⟩
   walk_at "r"
   refine ⟨p,_,dx,_,_,rfl,p7,T.cl_Grouping,T.n_Grouping_members,ak4 _ _ _ _,?_⟩
   walk_at "r"
   refine ⟨⟨_,SqL.of e7⟩,a78 (xs:=mls.map V.ref) (by rw [gL]; omega) (fun i acc H'=>i≤mls.length∧Same H7 H'∧∃ ds:List Addr,acc=ds.map .ref∧ds.length=i∧ds.Nodup∧(∀ d∈ds,H7 d=none)∧Each (TouAt H') ds (K0.take i)) ⟨Nat.zero_le _,Same.refl _,[],rfl,rfl,List.nodup_nil,by simp,by simpa using Each.nil⟩ (fun i acc H' ⟨_,s',ds,e,el,_⟩=>⟨by rw [e,gL]; omega,SqL.of (s' _ _ e7)⟩) ?_ ?_⟩
   · rintro i v acc H8 hv ⟨hi,s8,ds,rfl,el,hnd,hfr,hE⟩
     rw [gM] at hv
     obtain ⟨d,hd,rfl⟩:=gO hv
     obtain ⟨xs,hxs,xn,xl,hdl⟩:=hin7 i d hd
     walk_at "r"
     refine ⟨⟨_,SqL.of (s8 _ _ hdl)⟩,a78 (xs:=natsV xs) (by rw [a03]; omega) (fun j acc H'=>j≤xs.length∧Same H8 H'∧acc.length=j∧PrK H' acc ((xs.take j).map fun (x:Nat)=>(Sum.inl (x:Int),V.bl true))) ⟨Nat.zero_le _,Same.refl _,rfl,.nil⟩ (fun j acc H' ⟨_,s',e,_⟩=>⟨by omega,SqL.of ((s8.trans s') _ _ hdl)⟩) ?_ ?_⟩
     · rintro j v acc H9 hv ⟨hj,s9,ea,hpr⟩
       obtain ⟨a,ha,rfl⟩:=a54 hv
       walk_at "r"
       intro pt H10 f10 s10 e10
       refine ⟨(gS ha).1,s9.trans s10,by simp [ea],?_⟩
       rw [List.take_add_one,ha,Option.toList_some,List.map_append]
       exact (hpr.mono s10.tups).snoc (k:=Sum.inl (a:Int)) e10
     · rintro acc H9 ⟨_,s9,ea,hpr⟩ pl H10 f10 s10 e10
       rw [a03,List.take_length] at hpr
       walk_at "r"
       refine bc2 (SqL.of e10) (hpr.mono s10.tups) ?_
       intro pd H11 f11 s11 e11
       have s811:=s9.trans (s10.trans s11)
       refine ⟨(gS hd).1,s8.trans s811,ds++[pd],by simp,by simp [el],aa8 hnd fun z=>?_,fun b hb=>?_,?_⟩
       · obtain ⟨j,hj,ej⟩:=List.mem_iff_getElem.mp z
         have hj':j<(K0.take i).length:=by rw [← hE.1]; exact hj
         obtain ⟨kvs,g1,_⟩:=hE.2 j _ _ (gE hj) (gE hj')
         rw [ej] at g1
         have:=(s9.trans s10) _ _ g1
         rw [f11] at this
         cases this
       · rcases gA hb with hb | hb
         · exact hfr b hb
         · rw [gG hb]; exact (s8.trans (s9.trans s10)).free f11
       · rw [List.take_add_one,hxs,Option.toList_some]
         exact (hE.mono fun d y hy=>hy.same s811).snoc ⟨_,e11,bg4 xn⟩
   · rintro acc H8 ⟨_,s8,ds,rfl,el,hnd,hfr,hE⟩ tt H9 f9 s9 e9
     rw [gL] at el
     rw [gL,mlen,List.take_length] at hE
     walk_at "r"
     have p9:=(s8.trans s9) _ _ p7
     have len4:(gF4 wa fs g m).length≤4:=by
      have h4:=a69 "members" (V.ref m) (gF3 wa fs g)
      unfold gF4
      omega
     refine ⟨p,_,dx,_,rfl,p9,T.cl_Grouping,T.n_Grouping_touched,by omega,?_⟩
     have kE:But p H9 (upd H9 p (.ins t.c_Grouping dx (gF5 wa fs g m tt))):=But.refl.upd
     have p10:upd H9 p (.ins t.c_Grouping dx (gF5 wa fs g m tt)) p=some (.ins t.c_Grouping dx (gF5 wa fs g m tt)):=a28
     show sFld _ _ _ _ _ _ (upd H9 p (.ins t.c_Grouping dx (gF5 wa fs g m tt)))
     generalize upd H9 p (.ins t.c_Grouping dx (gF5 wa fs g m tt))=H10 at kE p10
     have hmp:m≠p:=nlp p6 hFM.e
     have em10:H10 m=some (.lst (mls.map .ref)):=kE _ _ hmp ((s8.trans s9) _ _ e7)
     walk_at "r"
     refine ⟨p,_,dx,_,_,rfl,p10,T.cl_Grouping,T.n_Grouping_members,ak5 _ _ _ _ _,?_⟩
     walk_at "r"
     refine ab0 (SqL.of em10) ?_
     rw [gL,mlen,K0l]
     walk_at "r"
     refine bl6 (by omega) ?_
     intro pg H11 f11 s11 e11
     walk_at "r"
     refine bt7 e11 (by omega) ?_
     intro qa H12 f12 s12 e12
     walk_at "r"
     have s1012:=s11.trans s12
     have p12:=s1012 _ _ p10
     have len5:(gF5 wa fs g m tt).length≤5:=by
      have h4:=a69 "touched" (V.ref tt) (gF4 wa fs g m)
      unfold gF5
      omega
     refine ⟨p,_,dx,_,rfl,p12,T.cl_Grouping,T.n_Grouping_waiting,by omega,?_⟩
     have kF:But p H12 (upd H12 p (.ins t.c_Grouping dx (gF ⟨p,dx,wa,fs,g,m,tt,qa⟩))):=But.refl.upd
     have p13:upd H12 p (.ins t.c_Grouping dx (gF ⟨p,dx,wa,fs,g,m,tt,qa⟩)) p=some (.ins t.c_Grouping dx (gF ⟨p,dx,wa,fs,g,m,tt,qa⟩)):=a28
     have tF:∀ {d:Addr}{xs:List Nat},TouAt H12 d xs→TouAt (upd H12 p (.ins t.c_Grouping dx (gF ⟨p,dx,wa,fs,g,m,tt,qa⟩))) d xs:=fun {d xs} ⟨kvs,e1,e2⟩=>⟨kvs,by rw [a04 (ab1 e1 p12 (fun z=>nomatch z))]; exact e1,e2⟩
     have tE:∀ {d:Addr}{xs:List Nat},TouAt H9 d xs→TouAt H10 d xs:=fun {d xs} ⟨kvs,e1,e2⟩=>⟨kvs,kE _ _ (ab1 e1 p9 (fun z=>nomatch z)) e1,e2⟩
     show Q V.non (upd H12 p (.ins t.c_Grouping dx (gF ⟨p,dx,wa,fs,g,m,tt,qa⟩)))
     generalize upd H12 p (.ins t.c_Grouping dx (gF ⟨p,dx,wa,fs,g,m,tt,qa⟩))=H13 at kF p13 tF
     have htp:tt≠p:=nlp p9 e9
     have hqp:qa≠p:=nlp p12 e12
     have k1013:But p H10 H13:=s1012.but.trans kF
     have k913:But p H9 H13:=kE.trans k1013
     have k613:But p H6 H13:=kD.trans ((s8.trans s9).but.trans k913)
     have k413:But p H4 H13:=kC.trans (hFM.b.but.trans k613)
     have k213:But p H2 H13:=kB.trans (s4.but.trans k413)
     have k013:But p H H13:=kA.trans (hFL.b.but.trans k213)
     have k02:But p H H2:=kA.trans hFL.b.but
     have k35:But p H3 H5:=s4.but.trans kC
     have k58:But p H5 H8:=hFM.b.but.trans (kD.trans s8.but)
     have k811:But p H8 H11:=s9.but.trans (kE.trans s11.but)
     have p8:=s8 _ _ p7
     have p11:=s11 _ _ p10
     have own:∀ {b:Addr},b≠p→b≠g→b≠m→b≠tt→b≠qa→b∉(GA.mk p dx wa fs g m tt qa).own:=fun _ z1 z2 z3 z4=>by simp [GA.own,z1,z2,z3,z4]
     have old2:∀ {b:Addr}{vs:List V},H2 b=some (.lst vs)→hds (GA.mk p dx wa fs g m tt qa).own H13 b=some (.lst vs):=fun {b vs} e=>by
      have hbp:=nlp p2 e
      have e3:=kB _ _ hbp e
      have e5':=k35 _ _ hbp e3
      have e8':=k58 _ _ hbp e5'
      exact a98 (k213 _ _ hbp e) (own hbp (a08 e3 f4) (a08 e5' hFM.f0) (a08 e8' f9) (a08 (k811 _ _ hbp e8') f12))
     have fr0:∀ {b:Addr},H2 b=none→H0 b=none:=fun f=>hb.free (k02.none p2 f)
     have fg2:H2 g=none:=kB.none p3 f4
     have fm5:H5 m=none:=hFM.f0
     have k25:But p H2 H5:=kB.trans k35
     have fm2:H2 m=none:=k25.none p5 fm5
     have k28:But p H2 H8:=k25.trans k58
     have ft2:H2 tt=none:=k28.none p8 f9
     have fq2:H2 qa=none:=(k28.trans k811).none p11 f12
     have k27:But p H2 H7:=k25.trans (hFM.b.but.trans kD)
     have gm:g≠m:=a08 e5 fm5
     have g8:=k58 _ _ hgp e5
     have m8:=s8 _ _ e7
     have gt:g≠tt:=a08 g8 f9
     have mt:m≠tt:=a08 m8 f9
     have gq:g≠qa:=a08 (k811 _ _ hgp g8) f12
     have mq:m≠qa:=a08 (k811 _ _ hmp m8) f12
     have k911:But p H9 H11:=kE.trans s11.but
     have tq:tt≠qa:=a08 (k911 _ _ htp e9) f12
     refine q ⟨p,dx,wa,fs,g,m,tt,qa⟩ (fun i=>cs.getD i []) H13 rfl ⟨fun b o e=>k013 _ _ (a08 e h0p) (hb _ _ e),fun a ha=>?_,?_,p13,⟨ws,?_,hws.1,fun i hi=>?_⟩,⟨ls.map .ref,old2 hFL.e,?_⟩,k413 _ _ hgp e4,⟨mls.map .ref,k613 _ _ hmp hFM.e,by rw [gL,mlen,hK0],fun i v xs h1 h2=>?_⟩,⟨ds,k913 _ _ htp e9,hnd,fun d hd=>fr0 (k27.none p7 (hfr d hd)),?_⟩,kF _ _ hqp e12⟩ (fun b hb' a=>?_)
     · simp only [GA.own,List.mem_cons,List.not_mem_nil,or_false] at ha
       rcases ha with rfl | rfl | rfl | rfl
       · exact fr0 fg2
       · exact fr0 fm2
       · exact fr0 ft2
       · exact fr0 fq2
     · simp only [GA.own,List.nodup_cons,List.mem_cons,List.not_mem_nil,or_false,not_or,not_false_eq_true,List.nodup_nil,and_true]
       exact ⟨⟨gm,gt,gq⟩,⟨mt,mq⟩,tq⟩
     · exact old2 (k02 _ _ (nlp hp hwa) hwa)
     · obtain ⟨b,h1,h2⟩:=hws.2 i hi
       exact ⟨b,h1,old2 (k02 _ _ (nlp hp h2) h2)⟩
     · have:=hFL.lsts
       rw [hcl] at this
       exact ⟨this.1,fun i hi=>by
        obtain ⟨b,h1,h2⟩:=this.2 i hi
        exact ⟨b,h1,old2 h2⟩⟩
     · rw [gM] at h1
       obtain ⟨d,hd,rfl⟩:=gO h1
       rw [← hK0] at h2
       have hd6:=hFM.at_.2 i d xs hd h2
       have hdm:=gI hd
       have hdp:=nlp p6 hd6
       have hd8:H8 d=some (.lst (natsV xs)):=s8 _ _ (kD _ _ hdp hd6)
       exact ⟨d,rfl,a98 (k613 _ _ hdp hd6) (own hdp (fun z=>by rw [z] at hdm; have:=hFM.fr g hdm; rw [e5] at this; cases this) (fun z=>hFM.nf (z ▸ hdm)) (a08 hd8 f9) (a08 (k811 _ _ hdp hd8) f12))⟩
     · rw [← hK0]
       exact hE.mono fun d y hy=>tF ((tE (hy.same s9)).same s1012)
     · have hbl:b<cs.length:=by omega
       have e:=gE hbl
       show a∈cs.getD b []↔_
       rw [show cs.getD b []=cs[b] by simp [List.getD,e]]
       exact hcm b _ e a
def c88 (K:W.Frag):Sp:=fun vs H Q _=>∃ (la wa:Addr) (us ws:List V) (α:Type) (_:DecidableEq α) (f:α→Tr) (labs:List α) (ww:Nat→Nat→Nat) (many:Nat) (nw:Nat→List Nat) (n:Nat),vs=[.ref la,.ref wa]∧H la=some (.lst us)∧Tr.AtsB H (labs.map f) us∧(∀ a b,f a=f b→a=b)∧(∀ x,(f x).h≤8)∧labs.length=n∧H wa=some (.lst ws)∧Lsts H ws nw n∧n≤60∧many≤100∧(∀ a,a<n→nw a=(List.range many).map (ww a))∧(∀ a j,a<n→j<many→ww a j<n) ∧
 ∀ l H',H l=none→Same H H'→H' l=some (.lst (natsV (likeN (fun a=>labs[a]?) ww many (List.range n))))→Q (.ref l) H'
theorem al0 (T:Txt K mg t):FnOk P w K mg base CX0 5 t.a_put_together t.fd_put_together ["labels","ways"] (c88 K):=by
 have G_Grouping___init__:=ae8 (P:=P) (w:=w) (base:=base) T
 have G_Grouping_part:=ai1 (P:=P) (w:=w) (base:=base) T
 have G_numbered:=ak9 (P:=P) (w:=w) (base:=base) T
 refine T.F_put_together.ok sc_put_together (fun vs H Q E h=>?_) (fun cdv A outer s H vs Q E hr h=>?_)
 · obtain ⟨la,wa,us,ws,α,dα,f,labs,ww,many,nw,n,rfl,_⟩:=h
   rfl
 · obtain ⟨la,wa,us,ws,α,dα,f,labs,ww,many,nw,n,rfl,hla,hus,hf,h8,hln,hwa,hws,hn,hmany,hnw,hww,q⟩:=h
   refine ⟨_,(@a02 _ _ _ _ _ (@a35 _ _ 2 _ _ _ _ sc_put_together.nd rfl (by walk_at "o") (bq6 T.mk_Grouping G_Grouping___init__ (hr.mono (by omega)) rfl T.m_Grouping T.b_Grouping___init__ .nil a82 (@a00 _ _ _ _ _ (pv 0) (@a00 _ _ _ _ _ (pv 1) (@a01 _) (by rfl)) (by rfl))) (by rfl) (by walk_at "o"))
    (@a02 _ _ _ _ _ (@ag0 _ _ _ _ _ _ PassesOwn.never (@a81 _ _ _ _ _ _ _ _ bq1 (@a44 _ _ _ _ _ _ _ _ _ (a95 K) (by rfl) T.z_len aa0 (@a00 _ _ _ _ _ (a72 K (pv 2) rfl) (@a01 _) (by rfl)) (by decide) (by decide) (by rfl) (by rfl)) (@a09 _ _ _ _) (nomark _)) (@a07 _ _ _ (@a60 _ _ _ _ (ag9 (pv 2) T.cl_Grouping T.M_Grouping_part G_Grouping_part (hr.mono (by omega)) T.b_Grouping_part .nil a82 (@a00 _ _ _ _ _ (bb7 K PySem.F.plainAttrs_list PySem.F.slot_list_pop PySem.F.type_list_pop bo6 (a72 K (pv 2) rfl)) (@a01 _) (by rfl))) (by rfl))))
    (@a07 _ _ _ (@a73 _ _ _ _ (@a41 _ _ _ _ _ _ _ _ _ _ _ _ _ _ _ _ G_numbered (hr.mono (by omega)) rfl T.m_numbered T.F_numbered.kp T.b_numbered .nil a82 (@a00 _ _ _ _ _ (a72 K (pv 2) rfl) (@a01 _) (by rfl)) (by decide) (by rfl) (by rfl)))))),?_⟩
   have sl:(1000000:Nat)≤sizeLine:=le_line (Nat.le_refl _)
   walk_at "go"
   intro p dx fp fdx hne
   have s1:Same H (upd (upd H dx (.own p)) p (.ins t.c_Grouping dx [])):=(Same.new fdx).trans (Same.new (by rw [a04 (Ne.symm hne)]; exact fp))
   refine ⟨H,p,dx,la,wa,us,ws,α,dα,f,labs,nw,n,rfl,a28,s1,fp,s1 _ _ hla,hus.tups s1.tups,hf,h8,hln,s1 _ _ hwa,hws.mono s1,hn,fun a ha=>⟨by rw [hnw a ha]; simpa using hmany,fun k hk=>?_⟩,fun x ns H2 hxp hG hns=>⟨rfl,?_⟩⟩
   · rw [hnw a ha] at hk
     obtain ⟨j,hj,rfl⟩:=List.mem_map.mp hk
     exact hww a j ha (List.mem_range.mp hj)
   subst hxp
   walk_at "r"
   subst hln
   have hS:=bf6 labs
   have hR:=bf7 (w:=ww) (many:=many) labs
   obtain ⟨Pv,hPv⟩:∃ Pv:Nat→St→Hp→Prop,Pv=(fun m σ H'=>σ=[some (.ref la),some (.ref wa),some (.ref x.p)]∧∃ gs ms ts qs,m=(labs.length - ms.length)*(labs.length+1)+qs.length∧GrAt t.c_Grouping H H' x nw ns labs.length gs ms ts qs∧GSt labs.length gs ms ts qs∧Grp (fun a=>labs[a]?) ww labs.length many (fun a=>gs.getD a 0) (Tt gs ts)):=⟨_,rfl⟩
   refine aj5 Pv _ (by rw [hPv]; exact ⟨rfl,_,_,_,_,rfl,hG,hS,hR⟩) ?_
   intro m σ H3 hI
   rw [hPv] at hI
   obtain ⟨rfl,gs,ms,ts,qs,rfl,h3,hS3,hR3⟩:=hI
   clear hG hS hR
   walk_at "r"
   refine ⟨x.p,_,x.dx,_,_,rfl,h3.o,T.cl_Grouping,T.n_Grouping_waiting,ah6 x,?_⟩
   walk_at "r"
   refine ab0 (SqL.of h3.qq) ?_
   rw [a03]
   walk_at "r"
   refine ite2 (fun hc=>?_) (fun hc=>?_)
   · have hq0:0<qs.length:=by have:=of_decide_eq_true hc; omega
     obtain ⟨qs,c,rfl,_⟩:=aq2 (n:=qs.length - 1) (l:=qs) (by omega)
     refine ⟨fun σ' H'=>σ'=[some (.ref la),some (.ref wa),some (.ref x.p)]∧∃ gs' ms' ts' qs',GrAt t.c_Grouping H H' x nw ns labs.length gs' ms' ts' qs'∧GSt labs.length gs' ms' ts' qs'∧Grp (fun a=>labs[a]?) ww labs.length many (fun a=>gs'.getD a 0) (Tt gs' ts')∧(ms.length<ms'.length∨(ms'.length=ms.length∧qs'=qs)),fun σ' H' h'=>?_,?_⟩
     · obtain ⟨rfl,gs',ms',ts',qs',g1,g2,g3,g4⟩:=h'
       rw [hPv]
       refine ⟨_,?_,rfl,gs',ms',ts',qs',rfl,g1,g2,g3⟩
       have k1:=g2.few
       have k2:=g2.wait
       have k3:=hS3.few
       simp only [List.length_append,List.length_cons,List.length_nil]
       rcases g4 with g4 | ⟨g4,g5⟩
       · have:(labs.length - ms'.length+1)*(labs.length+1)≤(labs.length - ms.length)*(labs.length+1):=Nat.mul_le_mul_right _ (by omega)
         rw [Nat.add_mul] at this
         omega
       · rw [g4,g5]
         omega
     · walk_at "r"
       refine ⟨x.p,x.dx,_,rfl,h3.o,b76 x (by decide +kernel),?_⟩
       walk_at "r"
       refine ⟨x.p,_,x.dx,_,_,rfl,h3.o,T.cl_Grouping,T.n_Grouping_waiting,ah6 x,?_⟩
       have eq:=h3.qq
       rw [show natsV (qs++[c])=natsV qs++[.int (c:Nat)] from (a66 qs c).symm] at eq
       refine ab2 (SqL.of eq) ?_
       walk_at "r"
       refine c45 eq ?_
       walk_at "r"
       refine ⟨_,fun a=>labs[a]?,ww,many,H,x,nw,ns,labs.length,gs,ms,ts,qs,c,rfl,h3.updQ,hS3,hR3,hn,hmany,hnw,hww,hns,fun H' gs' ms' ts' qs' g1 g2 g3 g4=>?_⟩
       walk_at "r"
       exact ⟨rfl,gs',ms',ts',qs',g1,g2,g3,g4⟩
   · have hq0:qs=[]:=List.length_eq_zero_iff.mp (by
      refine Nat.eq_zero_of_not_pos fun z=>hc ?_
      exact decide_eq_true (by omega))
     subst hq0
     walk_at "r"
     refine ⟨x.p,_,x.dx,_,_,rfl,h3.o,T.cl_Grouping,T.n_Grouping_groups,ag7 x,?_⟩
     walk_at "r"
     have gl:=hS3.gl
     refine ⟨x.g,natsV gs,Nat,inferInstance,fun k=>Tr.int (k:Int),gs,rfl,SqL.of h3.gg,av1 gs,(fun a b e=>by have:=Tr.int.inj e; omega),fun a=>by simp [Tr.h],by omega,fun l H4 f4 s4 e4=>?_⟩
     refine q l H4 (h3.b.free f4) (h3.b.trans s4) ?_
     rw [e4]
     congr 3
     exact bv9 gl fun a b ha hb=>bv8 hR3 hS3 hww ha hb
def bn4 (K:W.Frag):Sp:=fun vs H Q _=>∃ (v:V) (r:RRoom),vs=[v]∧RoomAt H v r∧r.2.length≤1000∧∀ u H',Same H H'→(labT (r.1,r.2.map (·.1))).AtB H' u→Q u H'
theorem az1 (T:Txt K mg t):FnOk P w K mg base CX0 1 t.a_label_of t.fd_label_of ["room"] (bn4 K):=by
 refine T.F_label_of.ok ay7 (fun vs H Q E h=>?_) (fun cdv A outer s H vs Q E hr h=>?_)
 · obtain ⟨v,r,rfl,_⟩:=h
   rfl
 · obtain ⟨v,r,rfl,hv,hl,q⟩:=h
   refine ⟨_,(@a07 _ _ _ (@a73 _ _ _ _ (@a46 _ _ _ _ _ (@a00 _ _ _ _ _ (@a39 _ _ _ _ _ _ _ (a43 K) (pv 0) (@a09 _ _ _ _) (fun _ _=>rfl)) (@a00 _ _ _ _ _ (@a48 _ _ _ _ _ _ _ _ _ (aj3 K) (by rfl) T.z_tuple ai3 (@a00 _ _ _ _ _ (ab7 (Nt:=["said","way"]) (Nf:=[]) (caps:=[]) rfl (a47 (sc:=defScope a88) rfl rfl (by decide +kernel) (by decide +kernel) (by decide +kernel) rfl (by decide +kernel)) (a31 K (@a39 _ _ _ _ _ _ _ (a43 K) (pv 0) (@a09 _ _ _ _) (fun _ _=>rfl))) (fun _ _ _ _ _=>(a79 K (n:=2) rfl (a32 (a06 (i:=0) (show (["said","way"]:List Str).Nodup by decide +kernel) rfl (by walk_at "o")) (a32 (a06 (i:=1) (show (["said","way"]:List Str).Nodup by decide +kernel) rfl (by walk_at "o")) (@a77 _))))) (fun _ _ _ _ _=>(@a55 _)) (fun _ _ _ _ _=>(@a48 _ _ _ _ _ _ _ _ _ (aj3 K) (by rfl) T.z_tuple ai3 (@a00 _ _ _ _ _ (pv 0) (@a01 _) (by rfl)) (by decide) (by decide) (by rfl) (by rfl)))) (@a01 _) (by rfl)) (by decide) (by decide) (by rfl) (by rfl)) (@a01 _) (by rfl)) (by rfl))))),?_⟩
   obtain ⟨b,g,ps,rfl,hb,hg,hps⟩:=hv
   have pl:ps.length=r.2.length:=hps.1
   walk_at "go"
   refine a96 (SqT.of hb) (a05 (j:=0) rfl) ?_
   walk_at "r"
   refine a96 (SqT.of hb) (a05 (j:=1) rfl) ?_
   walk_at "r"
   refine ⟨⟨_,SqL.of hg⟩,ae0 (xs:=ps) (le_line (by omega)) (fun i acc H'=>i≤r.2.length∧acc.length=i∧Same H H'∧Tr.AtsB H' ((r.2.take i).map fun x=>Tr.tup (x.1.map Tr.str)) acc) ⟨Nat.zero_le _,rfl,Same.refl _,rfl⟩ (fun i acc H' ⟨_,e,s',_⟩=>⟨by omega,SqL.of (s' _ _ hg)⟩) ?_ ?_⟩
   · rintro i x acc H' hx ⟨hi,ea,s',hat⟩
     have hi':i<r.2.length:=by rw [← pl]; exact (gS hx).1
     obtain ⟨w0,hw⟩:∃ w0,r.2[i]?=some w0:=⟨_,gE hi'⟩
     obtain ⟨k,sl,rfl,hk,hsl'⟩:=hps.2 i x w0 hx hw
     refine ⟨k,_,_,rfl,SqT.of (s' _ _ hk),?_⟩
     walk_at "r"
     refine ap2 (SqL.of (s' _ _ hsl')) ?_
     intro p1 H1 f1 s1 e1
     refine ⟨hi',by simp [ea],s'.trans s1,?_⟩
     rw [List.take_add_one,hw,Option.toList_some,List.map_append]
     refine (hat.tups s1.tups).snoc ?_
     simp only [Tr.AtB]
     exact ⟨p1,_,rfl,e1,b43 _⟩
   · rintro acc H' ⟨_,ea,s',hat⟩ p1 H1 f1 s1 e1
     rw [pl,List.take_length] at hat
     walk_at "r"
     refine ap2 (SqL.of e1) ?_
     intro p2 H2 f2 s2 e2
     walk_at "r"
     intro p3 H3 f3 s3 e3
     refine q _ H3 (s'.trans (s1.trans (s2.trans s3))) ?_
     unfold labT
     simp only [Tr.AtB,Tr.AtsB,List.map_map]
     refine ⟨p3,_,rfl,e3,_,_,rfl,.inr ⟨r.1,rfl,rfl⟩,_,_,rfl,⟨p2,acc,rfl,s3 _ _ e2,?_⟩,rfl⟩
     exact hat.tups (s1.trans (s2.trans s3)).tups
def strW (s:Str):Tw:=.sc (.str s)
def rowW (r:RRow):Tw:=.tup [.lst (r.1.map strW),.sc (.int (r.2:Nat))]
def roomW (r:RRoom):Tw:=.tup [.sc (.bl r.1),.lst (r.2.map rowW)]
theorem strs_w {H:Hp}:∀ {ss:List Str}{vs:List V}{fs:List Addr},Tw.Ats H (ss.map strW) vs fs↔vs=strsV ss∧fs=[]
 | [],vs,fs=>by simp [Tw.Ats,strsV]
 | s::ss,vs,fs=>by
   simp only [List.map_cons,Tw.Ats,strW,Tw.At]
   constructor
   · rintro ⟨v,ws,f,g,rfl,rfl,⟨rfl,_,rfl⟩,h⟩
     obtain ⟨rfl,rfl⟩:=strs_w.mp h
     exact ⟨rfl,rfl⟩
   · rintro ⟨rfl,rfl⟩
     exact ⟨_,_,[],[],rfl,rfl,⟨rfl,True.intro,rfl⟩,strs_w.mpr ⟨rfl,rfl⟩⟩
theorem row_w {H:Hp}{r:RRow}{v:V}{fs:List Addr}:(rowW r).At H v fs↔∃ k sl,v=.ref k∧H k=some (.tup [.ref sl,.int (r.2:Nat)])∧H sl=some (.lst (strsV r.1))∧fs=[sl]:=by
 simp only [rowW,Tw.At,Tw.Ats]
 constructor
 · rintro ⟨a,vs,rfl,e,v,ws,f,g,rfl,rfl,⟨sl,us,gs,rfl,e2,h,rfl⟩,v',ws',f',g',rfl,rfl,⟨rfl,_,rfl⟩,rfl,rfl⟩
   obtain ⟨rfl,rfl⟩:=strs_w.mp h
   exact ⟨a,sl,rfl,e,e2,rfl⟩
 · rintro ⟨k,sl,rfl,e,e2,rfl⟩
   exact ⟨k,_,rfl,e,_,_,[sl],[],rfl,rfl,⟨sl,_,[],rfl,e2,strs_w.mpr ⟨rfl,rfl⟩,rfl⟩,_,_,[],[],rfl,rfl,⟨rfl,True.intro,rfl⟩,rfl,rfl⟩
theorem room_w {H:Hp}{r:RRoom}{v:V}{fs:List Addr}:(roomW r).At H v fs↔∃ q g ps gs,v=.ref q∧H q=some (.tup [.bl r.1,.ref g])∧H g=some (.lst ps)∧Tw.Ats H (r.2.map rowW) ps gs∧fs=g::gs:=by
 simp only [roomW,Tw.At,Tw.Ats]
 constructor
 · rintro ⟨a,vs,rfl,e,v,ws,f,g,rfl,rfl,⟨rfl,_,rfl⟩,v',ws',f',g',rfl,rfl,⟨sl,us,gs,rfl,e2,h,rfl⟩,rfl,rfl⟩
   exact ⟨a,sl,us,gs,rfl,e,e2,h,by simp⟩
 · rintro ⟨q,g,ps,gs,rfl,e,e2,h,rfl⟩
   exact ⟨q,_,rfl,e,_,_,[],g::gs,rfl,rfl,⟨rfl,True.intro,rfl⟩,_,_,g::gs,[],rfl,by simp,⟨g,ps,gs,rfl,e2,h,rfl⟩,rfl,rfl⟩
mutual
theorem Tw.At.there {H:Hp}:∀ {x:Tw}{v:V}{fs:List Addr},x.At H v fs→∀ a∈fs,∃ xs,H a=some (.lst xs)
 | .sc _,v,fs,h,a,ha=>by
   simp only [Tw.At] at h
   rw [h.2.2] at ha
   cases ha
 | .tup xs,v,fs,h,a,ha=>by
   simp only [Tw.At] at h
   obtain ⟨_,vs,_,_,h⟩:=h
   exact Tw.Ats.there h a ha
 | .lst xs,v,fs,h,a,ha=>by
   simp only [Tw.At] at h
   obtain ⟨l,vs,gs,_,e,h,rfl⟩:=h
   rcases List.mem_cons.mp ha with rfl | ha
   · exact ⟨_,e⟩
   · exact Tw.Ats.there h a ha
theorem Tw.Ats.there {H:Hp}:∀ {xs:List Tw}{vs:List V}{fs:List Addr},Tw.Ats H xs vs fs→∀ a∈fs,∃ xs,H a=some (.lst xs)
 | [],vs,fs,h,a,ha=>by
   simp only [Tw.Ats] at h
   rw [h.2] at ha
   cases ha
 | x::xs,vs,fs,h,a,ha=>by
   simp only [Tw.Ats] at h
   obtain ⟨v,ws,f,g,_,rfl,h1,h2⟩:=h
   rcases gA ha with ha | ha
   · exact Tw.At.there h1 a ha
   · exact Tw.Ats.there h2 a ha
end
theorem ae4 {H:Hp}{xs:List Tw}{vs:List V}{fs:List Addr}(h:Tw.Ats H xs vs fs) {a:Addr}(ha:a∈fs) (hn:H a=none):False:=by
 obtain ⟨ys,e⟩:=Tw.Ats.there h a ha
 rw [hn] at e
 cases e
theorem bh5 {a b:List Addr}(h1:a.Nodup) (h2:b.Nodup) (h:∀ x∈a,x∈b→False):(a++b).Nodup:=List.nodup_append.mpr ⟨h1,h2,fun x hx y hy e=>h x hx (e ▸ hy)⟩
theorem bh6 {H:Hp}:∀ {rows:List RRow}{ps:List V}{fs:List Addr},Tw.Ats H (rows.map rowW) ps fs→Each (RowAt H) ps rows
 | [],ps,fs,h=>by
   simp only [List.map_nil,Tw.Ats] at h
   rw [h.1]
   exact .nil
 | r::rows,ps,fs,h=>by
   simp only [List.map_cons,Tw.Ats] at h
   obtain ⟨v,ws,f,g,rfl,rfl,h1,h2⟩:=h
   obtain ⟨k,sl,rfl,e1,e2,_⟩:=row_w.mp h1
   have h3:=bh6 h2
   refine ⟨by simp [h3.1],fun i a b x y=>?_⟩
   cases i with
   | zero =>
     cases x
     cases y
     exact ⟨k,sl,rfl,e1,e2⟩
   | succ i=>exact h3.2 i a b x y
theorem bw5 {H:Hp}{r:RRoom}{v:V}{fs:List Addr}(h:(roomW r).At H v fs):RoomAt H v r:=by
 obtain ⟨q,g,ps,gs,rfl,e1,e2,h3,_⟩:=room_w.mp h
 exact ⟨q,g,ps,rfl,e1,e2,bh6 h3⟩
theorem ae5 {H:Hp}:∀ {rs:List RRoom}{vs:List V}{fs:List Addr},Tw.Ats H (rs.map roomW) vs fs→Each (RoomAt H) vs rs
 | [],ps,fs,h=>by
   simp only [List.map_nil,Tw.Ats] at h
   rw [h.1]
   exact .nil
 | r::rows,ps,fs,h=>by
   simp only [List.map_cons,Tw.Ats] at h
   obtain ⟨v,ws,f,g,rfl,rfl,h1,h2⟩:=h
   have h3:=ae5 h2
   refine ⟨by simp [h3.1],fun i a b x y=>?_⟩
   cases i with
   | zero =>
     cases x
     cases y
     exact bw5 h1
   | succ i=>exact h3.2 i a b x y
def bw6 (K:W.Frag):Sp:=fun vs H Q _=>∃ (v:V) (l:Addr) (us:List V) (g:Nat→Nat) (r:RRoom),vs=[v,.ref l]∧RoomAt H v r∧H l=some (.lst us)∧(∀ x∈r.2,us[x.2]?=some (.int (g x.2:Nat)))∧r.2.length≤1000∧∀ u fs H',Same H H'→(roomW (r.1,r.2.map fun x=>(x.1,g x.2))).At H' u fs→fs.Nodup→(∀ a∈fs,H a=none)→Q u H'
theorem av6 (T:Txt K mg t):FnOk P w K mg base CX0 1 t.a_room_with t.fd_room_with ["room","numbers"] (bw6 K):=by
 refine T.F_room_with.ok av4 (fun vs H Q E h=>?_) (fun cdv A outer s H vs Q E hr h=>?_)
 · obtain ⟨v,l,us,g,r,rfl,_⟩:=h
   rfl
 · obtain ⟨v,l,us,g,r,rfl,hv,hl,hm,hr2,q⟩:=h
   refine ⟨_,(@a07 _ _ _ (@a73 _ _ _ _ (@a46 _ _ _ _ _ (@a00 _ _ _ _ _ (@a39 _ _ _ _ _ _ _ (a43 K) (pv 0) (@a09 _ _ _ _) (fun _ _=>rfl)) (@a00 _ _ _ _ _ (ab7 (Nt:=["said","way"]) (Nf:=["numbers"]) (caps:=[1]) rfl (a47 (sc:=defScope a70) rfl rfl (by decide +kernel) (by decide +kernel) (by decide +kernel) rfl (by decide +kernel)) (a31 K (@a39 _ _ _ _ _ _ _ (a43 K) (pv 0) (@a09 _ _ _ _) (fun _ _=>rfl))) (fun _ _ _ _ _=>(a79 K (n:=2) rfl (a32 (a06 (i:=0) (show (["said","way","numbers"]:List Str).Nodup by decide +kernel) rfl (by walk_at "o")) (a32 (a06 (i:=1) (show (["said","way","numbers"]:List Str).Nodup by decide +kernel) rfl (by walk_at "o")) (@a77 _))))) (fun _ _ _ _ _=>(@a55 _)) (fun _ _ _ _ _=>(@a46 _ _ _ _ _ (@a00 _ _ _ _ _ (@a48 _ _ _ _ _ _ _ _ _ (ab4 K) (by rfl) T.z_list aa9 (@a00 _ _ _ _ _ (pv 0) (@a01 _) (by rfl)) (by decide) (by decide) (by rfl) (by rfl)) (@a00 _ _ _ _ _ (@a39 _ _ _ _ _ _ _ (a30 K) (pv 2) (pv 1) (fun _ _=>rfl)) (@a01 _) (by rfl)) (by rfl))))) (@a01 _) (by rfl)) (by rfl))))),?_⟩
   obtain ⟨b,gg,ps,rfl,hb,hg,hps⟩:=hv
   have pl:ps.length=r.2.length:=hps.1
   walk_at "go"
   refine a96 (SqT.of hb) (a05 (j:=0) rfl) ?_
   walk_at "r"
   refine a96 (SqT.of hb) (a05 (j:=1) rfl) ?_
   walk_at "r"
   refine ⟨⟨_,SqL.of hg⟩,ae0 (xs:=ps) (le_line (by omega)) (fun i acc H'=>i≤r.2.length∧acc.length=i∧Same H H'∧∃ fs,Tw.Ats H' (((r.2.take i).map fun x=>(x.1,g x.2)).map rowW) acc fs∧fs.Nodup∧∀ a∈fs,H a=none) ⟨Nat.zero_le _,rfl,Same.refl _,[],by simp [Tw.Ats],by simp,by simp⟩ (fun i acc H' ⟨_,e,s',_⟩=>⟨by omega,SqL.of (s' _ _ hg)⟩) ?_ ?_⟩
   · rintro i x acc H' hx ⟨hi,ea,s',fs,hat,hfn,hff⟩
     have hi':i<r.2.length:=by rw [← pl]; exact (gS hx).1
     obtain ⟨w0,hw⟩:∃ w0,r.2[i]?=some w0:=⟨_,gE hi'⟩
     obtain ⟨k,sl,rfl,hk,hsl'⟩:=hps.2 i x w0 hx hw
     have hwm:=hm w0 (gI hw)
     refine ⟨k,_,_,rfl,SqT.of (s' _ _ hk),?_⟩
     walk_at "r"
     refine ad1 (SqL.of (s' _ _ hsl')) ?_
     intro p1 H1 f1 s1 e1
     walk_at "r"
     refine a65 (SqL.of ((s'.trans s1) _ _ hl)) (a05 hwm) ?_
     walk_at "r"
     intro p2 H2 f2 s2 e2
     refine ⟨hi',by simp [ea],s'.trans (s1.trans s2),fs++[p1],?_,bh5 hfn (by simp) fun a ha hb=>?_,fun a ha=>?_⟩
     · rw [List.take_add_one,hw,Option.toList_some,List.map_append,List.map_append]
       exact (hat.same (s1.trans s2)).snoc (row_w.mpr ⟨p2,p1,rfl,e2,s2 _ _ e1,rfl⟩)
     · rw [gG hb] at ha
       exact ae4 hat ha f1
     · rcases gA ha with ha | ha
       · exact hff a ha
       · rw [gG ha]
         exact s'.free f1
   · rintro acc H' ⟨_,ea,s',fs,hat,hfn,hff⟩ p1 H1 f1 s1 e1
     rw [pl,List.take_length] at hat
     walk_at "r"
     intro p2 H2 f2 s2 e2
     refine q _ (p1::fs) H2 (s'.trans (s1.trans s2)) (room_w.mpr ⟨p2,p1,acc,fs,rfl,e2,s2 _ _ e1,hat.same (s1.trans s2),rfl⟩) (List.nodup_cons.mpr ⟨fun z=>ae4 hat z f1,hfn⟩) fun a ha=>?_
     rcases List.mem_cons.mp ha with rfl | ha
     · exact s'.free f1
     · exact hff a ha
structure LeastAt (B H:Hp) (pr pn:Addr) (us:List V) (sy:List Str) (rs:List RRoom):Prop where
 ex:∃ pt pa pb pc lv gs,H pr=some (.tup [.ref pt,.ref pn])∧H pt=some (.tup [.ref pa,.ref pb,.ref pc])∧H pa=some (.lst us)∧H pb=some (.lst (strsV sy))∧H pc=some (.lst lv)∧Tw.Ats H ((lstR rs us.length).map roomW) lv gs∧H pn=some (.lst (waysV (numR rs us.length)))∧([pa,pb,pc,pn]++gs).Nodup∧∀ a∈[pa,pb,pc,pn]++gs,B a=none
def bn5 (K:W.Frag):Sp:=fun vs H Q _=>∃ (tt a b c:Addr) (us rvs:List V) (sy:List Str) (rs:List RRoom),vs=[.ref tt]∧H tt=some (.tup [.ref a,.ref b,.ref c])∧H a=some (.lst us)∧H b=some (.lst (strsV sy))∧H c=some (.lst rvs)∧Each (RoomAt H) rvs rs∧TblOk us.length rs∧0<rs.length∧rs.length≤60∧∀ pr pn H',Same H H'→LeastAt H H' pr pn us sy rs→Q (.ref pr) H'
theorem ab6 {rs:List RRoom}{x:Nat}(h:x<rs.length):rs[x]?=some (roomA rs x):=by unfold roomA; simp [h]
theorem al4 (T:Txt K mg t):FnOk P w K mg base CX0 6 t.a_least_table t.fd_least_table ["table"] (bn5 K):=by
 have G_firsts:=av5 (P:=P) (w:=w) (base:=base) T
 have G_found_from:=aq9 (P:=P) (w:=w) (base:=base) T
 have G_label_of:=az1 (P:=P) (w:=w) (base:=base) T
 have G_put_together:=al0 (P:=P) (w:=w) (base:=base) T
 have G_room_with:=av6 (P:=P) (w:=w) (base:=base) T
 refine T.F_least_table.ok sc_least_table (fun vs H Q E h=>?_) (fun cdv A outer s H vs Q E hr h=>?_)
 · obtain ⟨tt,a,b,c,us,rvs,sy,rs,rfl,_⟩:=h
   rfl
 · obtain ⟨tt,a,b,c,us,rvs,sy,rs,rfl,h1,h2,h3,h4,h5,ok,r0,r60,q⟩:=h
   refine ⟨_,(@a02 _ _ _ _ _ (@a35 _ _ 1 _ _ _ _ sc_least_table.nd rfl (by walk_at "o") (@a39 _ _ _ _ _ _ _ (a43 K) (pv 0) (@a09 _ _ _ _) (fun _ _=>rfl)) (by rfl) (by walk_at "o"))
    (@a02 _ _ _ _ _ (@a35 _ _ 2 _ _ _ _ sc_least_table.nd rfl (by walk_at "o") (ab7 (Nt:=["room"]) (Nf:=[]) (caps:=[]) rfl (a47 (sc:=defScope a38) rfl rfl (by decide +kernel) (by decide +kernel) (by decide +kernel) rfl (by decide +kernel)) (a31 K (pv 1)) (fun _ _ _ _ _=>(a06 (i:=0) (show (["room"]:List Str).Nodup by decide +kernel) rfl (by walk_at "o"))) (fun _ _ _ _ _=>(@a55 _)) (fun _ _ _ _ _=>(ab7 (Nt:=["row"]) (Nf:=[]) (caps:=[]) rfl (a47 rfl rfl (by decide +kernel) (by decide +kernel) (fun y hy h=>absurd h ((show ∀ y∈_,y.2≠NameKind.free by decide +kernel) y hy)) rfl (by decide +kernel)) (a31 K (@a39 _ _ _ _ _ _ _ (a43 K) (pv 0) (@a09 _ _ _ _) (fun _ _=>rfl))) (fun _ _ _ _ _=>(a06 (i:=0) (show (["row"]:List Str).Nodup by decide +kernel) rfl (by walk_at "o"))) (fun _ _ _ _ _=>(@a55 _)) (fun _ _ _ _ _=>(@a39 _ _ _ _ _ _ _ (a43 K) (pv 0) (@a09 _ _ _ _) (fun _ _=>rfl)))))) (by rfl) (by walk_at "o"))
    (@a02 _ _ _ _ _ (@a35 _ _ 3 _ _ _ _ sc_least_table.nd rfl (by walk_at "o") (@a41 _ _ _ _ _ _ _ _ _ _ _ _ _ _ _ _ G_found_from (hr.mono (by omega)) rfl T.m_found_from T.F_found_from.kp T.b_found_from .nil a82 (@a00 _ _ _ _ _ (pv 2) (@a00 _ _ _ _ _ (@a09 _ _ _ _) (@a01 _) (by rfl)) (by rfl)) (by decide) (by rfl) (by rfl)) (by rfl) (by walk_at "o"))
    (@a02 _ _ _ _ _ (@a35 _ _ 4 _ _ _ _ sc_least_table.nd rfl (by walk_at "o") (@a48 _ _ _ _ _ _ _ _ _ (b08 K) (by rfl) T.z_dict ax3 (@a00 _ _ _ _ _ (ab7 (Nt:=["place","room"]) (Nf:=[]) (caps:=[]) rfl (a47 (sc:=defScope a38) rfl rfl (by decide +kernel) (by decide +kernel) (by decide +kernel) rfl (by decide +kernel)) (ap3 K rfl T.z_enumerate (@a00 _ _ _ _ _ (pv 3) (@a01 _) (by rfl))) (fun _ _ _ _ _=>(a79 K (n:=2) rfl (a32 (a06 (i:=0) (show (["place","room"]:List Str).Nodup by decide +kernel) rfl (by walk_at "o")) (a32 (a06 (i:=1) (show (["place","room"]:List Str).Nodup by decide +kernel) rfl (by walk_at "o")) (@a77 _))))) (fun _ _ _ _ _=>(@a55 _)) (fun _ _ _ _ _=>(@a46 _ _ _ _ _ (@a00 _ _ _ _ _ (pv 1) (@a00 _ _ _ _ _ (pv 0) (@a01 _) (by rfl)) (by rfl))))) (@a01 _) (by rfl)) (by decide) (by decide) (by rfl) (by rfl)) (by rfl) (by walk_at "o"))
    (@a02 _ _ _ _ _ (@a35 _ _ 5 _ _ _ _ sc_least_table.nd rfl (by walk_at "o") (@a41 _ _ _ _ _ _ _ _ _ _ _ _ _ _ _ _ G_put_together (hr.mono (by omega)) rfl T.m_put_together T.F_put_together.kp T.b_put_together .nil a82 (@a00 _ _ _ _ _ (ab7 (Nt:=["room"]) (Nf:=["rooms"]) (caps:=[1]) rfl (a47 (sc:=defScope a38) rfl rfl (by decide +kernel) (by decide +kernel) (by decide +kernel) rfl (by decide +kernel)) (a31 K (pv 3)) (fun _ _ _ _ _=>(a06 (i:=0) (show (["room","rooms"]:List Str).Nodup by decide +kernel) rfl (by walk_at "o"))) (fun _ _ _ _ _=>(@a55 _)) (fun _ _ _ _ _=>(@a41 _ _ _ _ _ _ _ _ _ _ _ _ _ _ _ _ G_label_of (hr.mono (by omega)) rfl T.m_label_of T.F_label_of.kp T.b_label_of .nil a82 (@a00 _ _ _ _ _ (@a39 _ _ _ _ _ _ _ (a30 K) (pv 1) (pv 0) (fun _ _=>rfl)) (@a01 _) (by rfl)) (by decide) (by rfl) (by rfl)))) (@a00 _ _ _ _ _ (ab7 (Nt:=["room"]) (Nf:=["ways","places"]) (caps:=[2,4]) rfl (a47 (sc:=defScope a38) rfl rfl (by decide +kernel) (by decide +kernel) (by decide +kernel) rfl (by decide +kernel)) (a31 K (pv 3)) (fun _ _ _ _ _=>(a06 (i:=0) (show (["room","ways","places"]:List Str).Nodup by decide +kernel) rfl (by walk_at "o"))) (fun _ _ _ _ _=>(@a55 _)) (fun _ _ _ _ _=>(ab7 (Nt:=["way"]) (Nf:=["places"]) (caps:=[2]) rfl (a47 (be0 (sc0:=defScope a38) rfl) rfl (by decide +kernel) (by decide +kernel) (by decide +kernel) rfl (by decide +kernel)) (a31 K (@a39 _ _ _ _ _ _ _ (a30 K) (pv 1) (pv 0) (fun _ _=>rfl))) (fun _ _ _ _ _=>(a06 (i:=0) (show (["way","places"]:List Str).Nodup by decide +kernel) rfl (by walk_at "o"))) (fun _ _ _ _ _=>(@a55 _)) (fun _ _ _ _ _=>(@bb3 _ _ _ _ _ _ (by exact aw6 hr) (pv 1) (pv 0) (fun _ _=>rfl)))))) (@a01 _) (by rfl)) (by rfl)) (by decide) (by rfl) (by rfl)) (by rfl) (by walk_at "o"))
    (@a02 _ _ _ _ _ (@a35 _ _ 6 _ _ _ _ sc_least_table.nd rfl (by walk_at "o") (ab7 (Nt:=["room"]) (Nf:=["places","groups"]) (caps:=[4,5]) rfl (a47 (sc:=defScope a38) rfl rfl (by decide +kernel) (by decide +kernel) (by decide +kernel) rfl (by decide +kernel)) (a94 rfl T.z_range (@a00 _ _ _ _ _ (@a44 _ _ _ _ _ _ _ _ _ (a95 K) (by rfl) T.z_len aa0 (@a00 _ _ _ _ _ (pv 1) (@a01 _) (by rfl)) (by decide) (by decide) (by rfl) (by rfl)) (@a01 _) (by rfl))) (fun _ _ _ _ _=>(a06 (i:=0) (show (["room","places","groups"]:List Str).Nodup by decide +kernel) rfl (by walk_at "o"))) (fun _ _ _ _ _=>(@a55 _)) (fun _ _ _ _ _=>(@bi4 _ _ _ _ _ _ _ _ (ai7 (bz9 (by exact aw6 hr) (pv 0) (pv 1))) (@a39 _ _ _ _ _ _ _ (a30 K) (pv 2) (@bb3 _ _ _ _ _ _ (by exact aw6 hr) (pv 1) (pv 0) (fun _ _=>rfl)) (fun _ _=>rfl)) (@az6 _ _ _)))) (by rfl) (by walk_at "o"))
    (@a02 _ _ _ _ _ (ao9 (i:=7) (Nt:=["place"]) (Nf:=["rooms","found","numbers"]) (caps:=[1,3,6]) rfl (a47 (sc:=defScope a38) rfl rfl (by decide +kernel) (by decide +kernel) (by decide +kernel) rfl (by decide +kernel)) (a31 K (@a41 _ _ _ _ _ _ _ _ _ _ _ _ _ _ _ _ G_firsts (hr.mono (by omega)) rfl T.m_firsts T.F_firsts.kp T.b_firsts .nil a82 (@a00 _ _ _ _ _ (pv 5) (@a01 _) (by rfl)) (by decide) (by rfl) (by rfl))) (fun _ _ _ _ _=>(a06 (i:=0) (show (["place","rooms","found","numbers"]:List Str).Nodup by decide +kernel) rfl (by walk_at "o"))) (fun _ _ _ _ _=>(@a55 _)) (fun _ _ _ _ _=>(@a41 _ _ _ _ _ _ _ _ _ _ _ _ _ _ _ _ G_room_with (hr.mono (by omega)) rfl T.m_room_with T.F_room_with.kp T.b_room_with .nil a82 (@a00 _ _ _ _ _ (@a39 _ _ _ _ _ _ _ (a30 K) (pv 1) (@a39 _ _ _ _ _ _ _ (a30 K) (pv 2) (pv 0) (fun _ _=>rfl)) (fun _ _=>rfl)) (@a00 _ _ _ _ _ (pv 3) (@a01 _) (by rfl)) (by rfl)) (by decide) (by rfl) (by rfl))) sc_least_table.nd rfl (by walk_at "o") rfl)
    (@a07 _ _ _ (@a73 _ _ _ _ (@a46 _ _ _ _ _ (@a00 _ _ _ _ _ (@a46 _ _ _ _ _ (@a00 _ _ _ _ _ (@a48 _ _ _ _ _ _ _ _ _ (ab4 K) (by rfl) T.z_list aa9 (@a00 _ _ _ _ _ (@a39 _ _ _ _ _ _ _ (a43 K) (pv 0) (@a09 _ _ _ _) (fun _ _=>rfl)) (@a01 _) (by rfl)) (by decide) (by decide) (by rfl) (by rfl)) (@a00 _ _ _ _ _ (@a48 _ _ _ _ _ _ _ _ _ (ab4 K) (by rfl) T.z_list aa9 (@a00 _ _ _ _ _ (@a39 _ _ _ _ _ _ _ (a43 K) (pv 0) (@a09 _ _ _ _) (fun _ _=>rfl)) (@a01 _) (by rfl)) (by decide) (by decide) (by rfl) (by rfl)) (@a00 _ _ _ _ _ (pv 7) (@a01 _) (by rfl)) (by rfl)) (by rfl))) (@a00 _ _ _ _ _ (pv 6) (@a01 _) (by rfl)) (by rfl)))))))))))),?_⟩
   have sl:(1000000:Nat)≤sizeLine:=le_line (Nat.le_refl _)
   have hrl:rvs.length=rs.length:=h5.1
   have nm:=ok.nm
   have room:∀ {x:Nat},x<rs.length→∃ v,rvs[x]?=some v∧RoomAt H v (roomA rs x):=fun hx=>h5.get (ab6 hx)
   walk_at "go"
   refine a96 (SqT.of h1) (a05 (j:=2) rfl) ?_
   walk_at "r"
   refine ⟨⟨_,SqL.of h4⟩,a78 (xs:=rvs) (by omega) (fun i acc H'=>i≤rs.length∧Same H H'∧acc.length=i∧∀ j,j<i→∃ p,acc[j]?=some (.ref p)∧H' p=some (.lst (natsV (nxR rs j)))) ⟨Nat.zero_le _,Same.refl _,rfl,fun j hj=>absurd hj (Nat.not_lt_zero _)⟩ (fun i acc H' ⟨_,s',e,_⟩=>⟨by omega,SqL.of (s' _ _ h4)⟩) ?_ ?_⟩
   · rintro i v acc H1 hv ⟨hi,s1,ea,hacc⟩
     have hi':i<rs.length:=by rw [← hrl]; exact (gS hv).1
     obtain ⟨v',hv',b1,g,ps,rfl,hb1,hg,hps⟩:=room hi'
     rw [hv] at hv'
     cases hv'
     have pl:ps.length=us.length:=by
      rw [hps.1]
      exact (ok.rows _ (gI (ab6 hi'))).1
     walk_at "r"
     refine a96 (SqT.of (s1 _ _ hb1)) (a05 (j:=1) rfl) ?_
     walk_at "r"
     refine ⟨⟨_,SqL.of (s1 _ _ hg)⟩,a78 (xs:=ps) (by omega) (fun j acc H'=>H'=H1∧j≤ps.length∧acc=natsV ((nxR rs i).take j)) ⟨rfl,Nat.zero_le _,rfl⟩ (fun j acc H' ⟨e,_,ea⟩=>⟨by rw [ea,a03]; simp; omega,e ▸ SqL.of (s1 _ _ hg)⟩) ?_ ?_⟩
     · rintro j w0 acc H2 hw ⟨rfl,hj,rfl⟩
       have hj':=(gS hw).1
       obtain ⟨w1,hw1⟩:∃ w1,(roomA rs i).2[j]?=some w1:=⟨_,gE (by rw [← hps.1]; exact hj')⟩
       obtain ⟨k,sl',rfl,hk,_⟩:=hps.2 j w0 w1 hw hw1
       walk_at "r"
       refine a96 (SqT.of (s1 _ _ hk)) (a05 (j:=1) rfl) ?_
       refine ⟨rfl,hj',?_⟩
       unfold nxR
       rw [a66,List.take_add_one,gM,hw1]
       rfl
     · rintro acc' H2 ⟨rfl,_,rfl⟩ p3 H3 f3 s3 e3
       rw [pl,show (nxR rs i).take us.length=nxR rs i from List.take_of_length_le (Nat.le_of_eq (ac2 ok hi').1)] at e3
       refine ⟨hi',s1.trans s3,by simp [ea],fun j hj=>?_⟩
       by_cases z:j<i
       · obtain ⟨p,z1,z2⟩:=hacc j z
         exact ⟨p,by rw [List.getElem?_append_left (by omega)]; exact z1,s3 _ _ z2⟩
       · have:j=i:=by omega
         subst this
         exact ⟨p3,by rw [List.getElem?_append_right (by omega),ea]; simp,e3⟩
   · rintro ws H1 ⟨_,s1,ea,hacc⟩ pw H2 f2 s2 e2
     have hws:Lsts H2 ws (nxR rs) rs.length:=⟨by omega,fun j hj=>by
      obtain ⟨p,z1,z2⟩:=hacc j (by omega)
      exact ⟨p,z1,s2 _ _ z2⟩⟩
     have s02:=s1.trans s2
     clear hacc
     walk_at "r"
     have hB:=af0 ok r0
     have hfl:=hB.few
     refine ⟨pw,ws,nxR rs,rs.length,0,rfl,e2,hws,r0,by omega,fun k hk j hj=>(ac2 ok hk).2 j hj,fun pf H3 f3 s3 e3=>?_⟩
     have e3:H3 pf=some (.lst (natsV (fdR rs))):=e3
     have s03:=s02.trans s3
     walk_at "r"
     refine ⟨⟨_,SqL.of e3⟩,bs4 (xs:=natsV (fdR rs)) (by rw [a03]; omega) (fun i acc H'=>i≤(fdR rs).length∧Same H3 H'∧acc.length=i∧PrK H' acc (plF ((fdR rs).take i) 0)) ⟨Nat.zero_le _,Same.refl _,rfl,.nil⟩ (fun i acc H' ⟨_,s',e,_⟩=>⟨by omega,SqL.of (s' _ _ e3)⟩) ?_ ?_⟩
     · rintro i v acc H4 H5 hv ⟨hi,s4,ea,hpr⟩ s5
       obtain ⟨x,hx,rfl⟩:=a54 hv
       have hi':=(gS hx).1
       walk_at "r"
       intro p6 H6 f6 s6 e6
       refine ⟨hi',s4.trans (s5.trans s6),by simp [ea],?_⟩
       rw [List.take_add_one,hx,Option.toList_some,b44,show 0+((fdR rs).take i).length=i by simp; omega]
       exact (hpr.mono (s5.trans s6).tups).snoc (k:=Sum.inl (x:Int)) e6
     · rintro acc H4 ⟨_,s4,ea,hpr⟩ p5 H5 f5 s5 e5
       rw [a03,List.take_length] at hpr
       walk_at "r"
       refine bc2 (SqL.of e5) (hpr.mono s5.tups) ?_
       intro pp H6 f6 s6 e6
       have hval:∀ x:Nat,valV (mergeK [] (plF (fdR rs) 0)) (Sum.inl (x:Int))=if x∈fdR rs then some (.int ((fdR rs).idxOf x:Nat)) else none:=fun x=>by
        rw [bg7 hB.nd]
        simp [b00]
       generalize mergeK [] (plF (fdR rs) 0)=kvs at hval e6
       have s36:=s4.trans (s5.trans s6)
       have s06:=s03.trans s36
       clear hpr
       walk_at "r"
       have e36:=s36 _ _ e3
       refine ⟨⟨_,SqL.of e36⟩,a78 (xs:=natsV (fdR rs)) (by rw [a03]; omega) (fun i acc H'=>i≤(fdR rs).length∧Same H6 H'∧acc.length=i∧Tr.AtsB H' (((fdR rs).take i).map fun x=>labT (labR rs us.length x)) acc) ⟨Nat.zero_le _,Same.refl _,rfl,rfl⟩ (fun i acc H' ⟨_,s',e,_⟩=>⟨by omega,SqL.of (s' _ _ e36)⟩) ?_ ?_⟩
       · rintro i v acc H7 hv ⟨hi,s7,ea,hat⟩
         obtain ⟨x,hx,rfl⟩:=a54 hv
         have hi':=(gS hx).1
         have hxl:=hB.lt x (gI hx)
         obtain ⟨v,hv1,hv2⟩:=room hxl
         have s07:=s06.trans s7
         walk_at "r"
         refine a65 (SqL.of (s07 _ _ h4)) (a05 hv1) ?_
         walk_at "r"
         have hrow:=(ok.rows _ (gI (ab6 hxl))).1
         refine ⟨v,roomA rs x,rfl,hv2.same s07,by omega,fun u H8 s8 hu=>?_⟩
         refine ⟨hi',s7.trans s8,by simp [ea],?_⟩
         rw [List.take_add_one,hx,Option.toList_some,List.map_append]
         refine (hat.tups s8.tups).snoc ?_
         have:labR rs us.length x=((roomA rs x).1,(roomA rs x).2.map (·.1)):=by
          unfold labR
          congr 1
          refine List.ext_getElem? fun j=>?_
          by_cases hj:j<us.length
          · rw [gM,List.getElem?_range hj,gM,(ah4 ok hxl hj).2.2]
            rfl
          · rw [List.getElem?_eq_none (by simp; omega),List.getElem?_eq_none (by simp; omega)]
         show Tr.AtB H8 (labT (labR rs us.length x)) u
         rw [this]
         exact hu
       · rintro lbs H7 ⟨_,s7,el,hat⟩ pl H8 f8 s8 e8
         rw [a03,List.take_length] at hat
         have hat:=hat.tups s8.tups
         have s68:=s7.trans s8
         have s08:=s06.trans s68
         have e38:=s68 _ _ e36
         have e68:=s68 _ _ e6
         walk_at "r"
         refine ⟨⟨_,SqL.of e38⟩,a78 (xs:=natsV (fdR rs)) (by rw [a03]; omega) (fun i acc H'=>i≤(fdR rs).length∧Same H8 H'∧acc.length=i∧∀ j,j<i→∃ p,acc[j]?=some (.ref p)∧H' p=some (.lst (natsV (nwP rs j)))) ⟨Nat.zero_le _,Same.refl _,rfl,fun j hj=>absurd hj (Nat.not_lt_zero _)⟩ (fun i acc H' ⟨_,s',e,_⟩=>⟨by omega,SqL.of (s' _ _ e38)⟩) ?_ ?_⟩
         · rintro i v acc H9 hv ⟨hi,s9,ea,hacc⟩
           obtain ⟨x,hx,rfl⟩:=a54 hv
           have hi':=(gS hx).1
           have hxm:=gI hx
           have hxl:=hB.lt x hxm
           have hcl:=hB.cl i x hi' hx
           have s29:=s3.trans (s36.trans (s68.trans s9))
           obtain ⟨px,w1,w2⟩:=hws.2 x hxl
           walk_at "r"
           refine a65 (SqL.of (s29 _ _ e2)) (a05 w1) ?_
           walk_at "r"
           have w2:=s29 _ _ w2
           have hnl:=(ac2 ok hxl).1
           refine ⟨⟨_,SqL.of w2⟩,a78 (xs:=natsV (nxR rs x)) (by rw [a03]; omega) (fun j acc H'=>H'=H9∧j≤(nxR rs x).length∧acc=natsV (((nxR rs x).map fun x=>(fdR rs).idxOf x).take j)) ⟨rfl,Nat.zero_le _,rfl⟩ (fun j acc H' ⟨e,_,ea⟩=>⟨by rw [ea,a03]; simp; omega,e ▸ SqL.of w2⟩) ?_ ?_⟩
           · rintro j v acc H10 hv ⟨rfl,hj,rfl⟩
             obtain ⟨k,hk,rfl⟩:=a54 hv
             have hkm:=hcl k (gI hk)
             walk_at "r"
             refine ⟨pp,.int ((fdR rs).idxOf k:Nat),rfl,(by have:=DGet.k (k:=Sum.inl ((k:Nat):Int)) (s9 _ _ e68); rw [hval,if_pos hkm] at this; exact this),?_⟩
             refine ⟨rfl,(gS hk).1,?_⟩
             rw [a66,List.take_add_one,gM,hk]
             rfl
           · rintro acc' H10 ⟨rfl,_,rfl⟩ p11 H11 f11 s11 e11
             rw [a03,show ((nxR rs x).map fun x=>(fdR rs).idxOf x).take (nxR rs x).length=nwP rs i from by
              unfold nwP
              rw [af3 hx,List.take_of_length_le (by simp)]] at e11
             refine ⟨hi',s9.trans s11,by simp [ea],fun j hj=>?_⟩
             by_cases z:j<i
             · obtain ⟨p,z1,z2⟩:=hacc j z
               exact ⟨p,by rw [List.getElem?_append_left (by omega)]; exact z1,s11 _ _ z2⟩
             · have:j=i:=by omega
               subst this
               exact ⟨p11,by rw [List.getElem?_append_right (by omega),ea]; simp,e11⟩
         · rintro ws2 H9 ⟨_,s9,ea2,hacc⟩ pw2 H10 f10 s10 e10
           rw [a03] at hacc ea2
           have s810:=s9.trans s10
           have hws2:Lsts H10 ws2 (nwP rs) (fdR rs).length:=⟨ea2,fun j hj=>by
            obtain ⟨p,z1,z2⟩:=hacc j hj
            exact ⟨p,z1,s10 _ _ z2⟩⟩
           clear hacc
           walk_at "r"
           refine ⟨pl,pw2,lbs,ws2,Bool×List (List Str),(fun _ _=>Classical.propDecidable _),labT,(fdR rs).map (labR rs us.length),wwP rs,us.length,nwP rs,(fdR rs).length,rfl,s810 _ _ e8,by rw [List.map_map]; exact hat.tups s810.tups,(fun a b=>bm7),c83,by simp,e10,hws2,by omega,nm,fun a ha=>(bg9 ok r0 ha).1,fun a j ha hj=>((bg9 ok r0 ha).2 j hj).1,fun pg H11 f11 s11 e11=>?_⟩
           rw [b78 ok r0] at e11
           have s011:=s08.trans (s810.trans s11)
           have s811:=s810.trans s11
           have s611:=s68.trans s811
           clear hat hws2
           walk_at "r"
           refine ab0 (SqL.of (s011 _ _ h4)) ?_
           rw [hrl]
           walk_at "r"
           rw [Int.toNat_natCast]
           have e511:=s611 _ _ e6
           refine ap0 (lo:=0) (n:=rs.length) (by omega) (fun i acc H'=>H'=H11∧i≤rs.length∧acc=waysV ((numR rs us.length).take i)) ⟨rfl,Nat.zero_le _,rfl⟩ (fun i acc H' ⟨_,hi,e⟩=>by rw [e]; simp [waysV]; omega) ?_ ?_
           · rintro i acc H12 hi ⟨rfl,_,rfl⟩
             rw [show (0:Int)+((i:Nat):Int)=((i:Nat):Int) by omega]
             have hnx:(numR rs us.length).take (i+1)=(numR rs us.length).take i++[if i∈fdR rs then some (numOf rs us.length i) else none]:=by rw [List.take_add_one,ay6 hi]; rfl
             walk_at "r"
             refine ⟨pp,_,rfl,DGet.k (k:=Sum.inl ((i:Nat):Int)) e511,?_⟩
             rw [hval]
             by_cases hm:i∈fdR rs
             · rw [if_pos hm] at hnx ⊢
               refine ⟨true,rfl,ax4 ?_⟩
               walk_at "r"
               refine ⟨pp,.int ((fdR rs).idxOf i:Nat),rfl,(by have:=DGet.k (k:=Sum.inl ((i:Nat):Int)) e511; rw [hval,if_pos hm] at this; exact this),?_⟩
               have hix:=List.idxOf_lt_length_of_mem hm
               refine a65 (SqL.of e11) (ag2 (by rw [ak7]; exact hix)) ?_
               refine ⟨rfl,hi,?_⟩
               rw [hnx]
               unfold waysV
               rw [List.map_append]
               rfl
             · rw [if_neg hm] at hnx ⊢
               refine ⟨false,rfl,ax5 ?_⟩
               walk_at "r"
               refine ⟨rfl,hi,?_⟩
               rw [hnx]
               unfold waysV
               rw [List.map_append]
               rfl
           · rintro acc H12 ⟨rfl,_,rfl⟩ pn H13 f13 s13 e13
             rw [show (numR rs us.length).take rs.length=numR rs us.length from List.take_of_length_le (by simp [numR])] at e13
             walk_at "r"
             have gl:=ak7 rs us.length
             refine ⟨pg,gsR rs us.length,rfl,SqL.of (s13 _ _ e11),by omega,fun pz H14 f14 s14 e14=>?_⟩
             have e14:H14 pz=some (.lst (natsV (fsR rs us.length))):=e14
             walk_at "r"
             have fl:(fsR rs us.length).length≤60:=by
              have:=ae1 (gsR rs us.length)
              simp [fsR]
              omega
             have s1114:=s13.trans s14
             refine ⟨⟨_,SqL.of e14⟩,a78 (xs:=natsV (fsR rs us.length)) (by rw [a03]; omega) (fun i acc H'=>i≤(fsR rs us.length).length∧Same H14 H'∧acc.length=i∧∃ gs,Tw.Ats H' (((lstR rs us.length).take i).map roomW) acc gs∧gs.Nodup∧∀ a∈gs,H14 a=none) ⟨Nat.zero_le _,Same.refl _,rfl,[],by simp [Tw.Ats],by simp,by simp⟩ (fun i acc H' ⟨_,s',e,_⟩=>⟨by omega,SqL.of (s' _ _ e14)⟩) ?_ ?_⟩
             · rintro i v acc H15 hv ⟨hi,s15,ea,gs,hE,hgn,hgf⟩
               obtain ⟨pl0,hpl,rfl⟩:=a54 hv
               have hi':=(gS hpl).1
               have hpf:pl0<(fdR rs).length:=by
                have:=gI hpl
                unfold fsR at this
                obtain ⟨k,hk,rfl⟩:=List.mem_map.mp this
                rw [← gl]
                exact List.idxOf_lt_length_of_mem ((a45 _ _).mp hk)
               obtain ⟨hy,hym⟩:=b45 hpf
               have hyl:=hB.lt _ hym
               have hcl:=hB.cl pl0 _ hpf hy
               generalize hyy:(fdR rs).getD pl0 0=y at hy hym hyl hcl
               obtain ⟨v,hv1,hv2⟩:=room hyl
               have s015:=s011.trans (s1114.trans s15)
               have s315:=s36.trans (s611.trans (s1114.trans s15))
               walk_at "r"
               refine a65 (SqL.of (s315 _ _ e3)) (ag2 hpf) ?_
               rw [hyy]
               refine a65 (SqL.of (s015 _ _ h4)) (a05 hv1) ?_
               walk_at "r"
               have hrow:=(ok.rows _ (gI (ab6 hyl)))
               refine ⟨v,pn,_,numOf rs us.length,roomA rs y,rfl,hv2.same s015,(s14.trans s15) _ _ e13,fun x hx=>?_,by omega,fun u fs H16 s16 hu hfn hff=>?_⟩
               · have hxm:x.2∈fdR rs:=hcl x.2 (List.mem_map_of_mem hx)
                 have:=b46 (ay6 (many:=us.length) (hrow.2 x hx))
                 rw [if_pos hxm] at this
                 exact this
               · refine ⟨hi',s15.trans s16,by simp [ea],gs++fs,?_,bh5 hgn hfn fun a ha hb=>ae4 hE ha (hff a hb),fun a ha=>?_⟩
                 rotate_left
                 · rcases gA ha with ha | ha
                   · exact hgf a ha
                   · exact s15.free (hff a ha)
                 rw [List.take_add_one,show (lstR rs us.length)[i]?=some (rwR rs us.length (roomA rs y)) by unfold lstR; rw [gM,hpl]; simp only [Option.map_some]; rw [hyy],Option.toList_some]
                 rw [List.map_append]
                 exact (hE.same s16).snoc hu
             · rintro lv H15 ⟨_,s15,ea3,gs,hE,hgn,hgf⟩ pc H16 f16 s16 e16
               rw [a03,show (lstR rs us.length).take (fsR rs us.length).length=lstR rs us.length from List.take_of_length_le (by simp [lstR])] at hE
               have s016:=s011.trans (s1114.trans (s15.trans s16))
               walk_at "r"
               refine a96 (SqT.of (s016 _ _ h1)) (a05 (j:=0) rfl) ?_
               walk_at "r"
               refine ad1 (SqL.of (s016 _ _ h2)) ?_
               intro p17 H17 f17 s17 e17
               walk_at "r"
               refine a96 (SqT.of ((s016.trans s17) _ _ h1)) (a05 (j:=1) rfl) ?_
               walk_at "r"
               refine ad1 (SqL.of ((s016.trans s17) _ _ h3)) ?_
               intro p18 H18 f18 s18 e18
               walk_at "r"
               intro p19 H19 f19 s19 e19
               walk_at "r"
               intro p20 H20 f20 s20 e20
               have s1620:=s17.trans (s18.trans (s19.trans s20))
               exact q p20 pn H20 (s016.trans s1620) (by
                refine ⟨p19,p17,p18,pc,lv,gs,e20,s20 _ _ e19,(s18.trans (s19.trans s20)) _ _ e17,(s19.trans s20) _ _ e18,s1620 _ _ e16,hE.same (s16.trans s1620),(s14.trans (s15.trans (s16.trans s1620))) _ _ e13,?_,?_⟩
                · have n1:∀ a∈gs,a≠pc:=fun a ha z=>ae4 hE (z ▸ ha) f16
                  have n2:∀ a∈gs,a≠p17:=fun a ha z=>ae4 (hE.same s16) (z ▸ ha) f17
                  have n3:∀ a∈gs,a≠p18:=fun a ha z=>ae4 (hE.same (s16.trans s17)) (z ▸ ha) f18
                  have n4:∀ a∈gs,a≠pn:=fun a ha z=>by
                   have:=hgf a ha
                   rw [z,s14 _ _ e13] at this
                   cases this
                  have m1:p17≠pc:=(a08 e16 f17).symm
                  have m2:p18≠pc:=(a08 (s17 _ _ e16) f18).symm
                  have m3:p18≠p17:=(a08 e17 f18).symm
                  have epn:=(s14.trans s15) _ _ e13
                  have m4:pc≠pn:=(a08 epn f16).symm
                  have m5:p17≠pn:=(a08 (s16 _ _ epn) f17).symm
                  have m6:p18≠pn:=(a08 ((s16.trans s17) _ _ epn) f18).symm
                  refine bh5 (by simp [m3.symm,m1,m5,m2,m6,m4]) hgn fun a ha hb=>?_
                  simp only [List.mem_cons,List.not_mem_nil,or_false] at ha
                  rcases ha with rfl | rfl | rfl | rfl
                  · exact n2 _ hb rfl
                  · exact n3 _ hb rfl
                  · exact n1 _ hb rfl
                  · exact n4 _ hb rfl
                · intro a ha
                  have s014:=s011.trans s1114
                  have s015:=s014.trans s15
                  rcases gA ha with ha | ha
                  · simp only [List.mem_cons,List.not_mem_nil,or_false] at ha
                    rcases ha with rfl | rfl | rfl | rfl
                    · exact s016.free f17
                    · exact (s016.trans s17).free f18
                    · exact s015.free f16
                    · exact s011.free f13
                  · exact s014.free (hgf a ha)
)
def bw7 (K:W.Frag):Sp:=fun vs H Q _=>∃ (a:Addr) (ns:List Int),vs=[.ref a]∧SqL K H a (ns.map V.int)∧ns.length≤63∧∀ d l H',H d=none→H l=none→Same H H'→Deck H' d l 0→Q (.ref d) H'
theorem az2 (T:Txt K mg t):FnOk P w K mg base CX0 1 t.a__law_deck t.fd__law_deck ["script"] (bw7 K):=by
 refine T.F__law_deck.ok ay8 (fun vs H Q E h=>?_) (fun cdv A outer s H vs Q E hr h=>?_)
 · obtain ⟨a,ns,rfl,_⟩:=h
   rfl
 · obtain ⟨a,ns,rfl,hS,hl,q⟩:=h
   refine ⟨_,(@a07 _ _ _ (@a73 _ _ _ _ (@a42 _ _ _ _ (@a00 _ _ _ _ _ (ab7 (Nt:=["cell"]) (Nf:=[]) (caps:=[]) rfl (a47 (sc:=defScope a89) rfl rfl (by decide +kernel) (by decide +kernel) (by decide +kernel) rfl (by decide +kernel)) (a31 K (@az9 _ _ _ _ _ _ _ _ _ _ (b04 K) (pv 0) (@ba2 _) (@ba3 _ _ _ (@a09 _ _ _ _)))) (fun _ _ _ _ _=>(a06 (i:=0) (show (["cell"]:List Str).Nodup by decide +kernel) rfl (by walk_at "o"))) (fun _ _ _ _ _=>(@a55 _)) (fun _ _ _ _ _=>(@a90 _ _ _ _ _ _ _ _ ao4 (pv 0) (@a09 _ _ _ _)))) (@a00 _ _ _ _ _ (@a09 _ _ _ _) (@a00 _ _ _ _ _ (@a90 _ _ _ _ _ _ _ _ aa4 (@a44 _ _ _ _ _ _ _ _ _ (bt4 K) (by rfl) T.z_sum c06 (@a00 _ _ _ _ _ (@az9 _ _ _ _ _ _ _ _ _ _ (b04 K) (pv 0) (@ba2 _) (@ba3 _ _ _ (@a09 _ _ _ _))) (@a01 _) (by rfl)) (by decide) (by decide) (by rfl) (by rfl)) (@a09 _ _ _ _)) (@a01 _) (by rfl)) (by rfl)) (by rfl))))),?_⟩
   walk_at "go"
   refine c37 hS ?_
   intro p1 H1 f1 s1 e1
   rw [show cutV (ns.map V.int) none (some 63)=(ns.take 63).map V.int from bo9 (k:=63)] at e1
   have hls:(ns.take 63).length≤63:=by simp; omega
   generalize ns.take 63=ls at e1 hls
   refine ⟨p1,rfl,⟨_,SqL.of e1⟩,a78 (xs:=ls.map V.int) (le_line (by simp; omega)) (fun i acc H'=>H'=H1∧i≤ls.length∧acc=(ls.take i).map (fun z=>V.int (z / 2))) ⟨rfl,Nat.zero_le _,rfl⟩ (fun i acc H' ⟨e0,hi,e⟩=>⟨by rw [e]; simp only [gL,List.length_take]; omega,e0 ▸ SqL.of e1⟩) ?_ ?_⟩
   · rintro i x acc H' hx ⟨rfl,hi,rfl⟩
     obtain ⟨z,hz,rfl⟩:∃ z,ls[i]?=some z∧x=V.int z:=by
      rw [gM] at hx
      obtain ⟨z,hz,rfl⟩:=gO hx
      exact ⟨z,hz,rfl⟩
     walk_at "r"
     refine ⟨rfl,(gS hz).1,?_⟩
     rw [List.take_add_one,hz]
     simp
   · rintro acc H' ⟨rfl,_,rfl⟩
     intro p2 H2 f2 s2 e2
     walk_at "r"
     refine c37 ((s1.trans s2).seq hS) ?_
     intro p3 H3 f3 s3 e3
     rw [show cutV (ns.map V.int) none (some 1)=(ns.take 1).map V.int from bo9 (k:=1)] at e3
     walk_at "r"
     refine cc5 (SqL.of e3) ?_
     walk_at "r"
     intro p4 H4 f4 s4 e4
     have s14:=s1.trans (s2.trans (s3.trans s4))
     refine q p4 p2 H4 ((s1.trans (s2.trans s3)).free f4) (s1.free f2) s14 ⟨ls.map (· / 2),_,e4,?_,by simp; omega⟩
     have:=(s3.trans s4) _ _ e2
     rw [this,gL,List.take_length,List.map_map]
     rfl
theorem ac7 (x:Int) {m:Nat}(h:0<m):∃ r:Nat,r<m∧x % (m:Int)=(r:Nat):=⟨(x % (m:Int)).toNat,by
 have h1:=Int.emod_nonneg x (show (m:Int)≠0 by omega)
 have h2:=Int.emod_lt_of_pos x (show (0:Int)<(m:Int) by omega)
 omega,by
 have h1:=Int.emod_nonneg x (show (m:Int)≠0 by omega)
 omega⟩
theorem cb {i j:Int}(h1:-1000000000000000000<i) (h2:i<1000000000000000000):CBig i j:=.inr (.inl ⟨by omega,by omega⟩)
theorem bw8 {H:Hp}{d l:Addr}{o:HO}:Off d l H (upd H d o):=fun b u h1 _ e=>by rw [a04 h1]; exact e
def bw9 (K:W.Frag):Sp:=fun vs H Q _=>∃ (d l:Addr) (n:Nat),vs=[.ref d]∧Deck H d l n∧n≤100000∧∀ (r:Nat) H',r<1000000000→Off d l H H'→Deck H' d l (n+1)→Q (.int (r:Nat)) H'
theorem af7 (T:Txt K mg t):FnOk P w K mg base CX0 1 t.a__law_next t.fd__law_next ["deck"] (bw9 K):=by
 refine T.F__law_next.ok sc_law_next (fun vs H Q E h=>?_) (fun cdv A outer s H vs Q E hr h=>?_)
 · obtain ⟨d,l,n,rfl,_⟩:=h
   rfl
 · obtain ⟨d,l,n,rfl,k,hn,q⟩:=h
   refine ⟨_,(@a02 _ _ _ _ _ (@a35 _ _ 1 _ _ _ _ sc_law_next.nd rfl (by walk_at "o") (@a39 _ _ _ _ _ _ _ (a30 K) (pv 0) (@a09 _ _ _ _) (fun _ _=>rfl)) (by rfl) (by walk_at "o"))
    (@a02 _ _ _ _ _ (@af9 _ _ _ _ _ _ (@a90 _ _ _ _ _ _ _ _ aa2 (pv 1) (@a09 _ _ _ _)) (al7 (pv 0) (@a09 _ _ _ _) ad9) (by rfl) (by rfl) (by rfl))
    (@a02 _ _ _ _ _ (@a35 _ _ 2 _ _ _ _ sc_law_next.nd rfl (by walk_at "o") (@a44 _ _ _ _ _ _ _ _ _ b72 (by rfl) T.z_max c07 (@a00 _ _ _ _ _ (@a09 _ _ _ _) (@a00 _ _ _ _ _ (@a44 _ _ _ _ _ _ _ _ _ (a95 K) (by rfl) T.z_len aa0 (@a00 _ _ _ _ _ (@a39 _ _ _ _ _ _ _ (a30 K) (pv 0) (@a09 _ _ _ _) (fun _ _=>rfl)) (@a01 _) (by rfl)) (by decide) (by decide) (by rfl) (by rfl)) (@a01 _) (by rfl)) (by rfl)) (by decide) (by decide) (by rfl) (by rfl)) (by rfl) (by walk_at "o"))
    (@a02 _ _ _ _ _ (@a35 _ _ 3 _ _ _ _ sc_law_next.nd rfl (by walk_at "o") (@a09 _ _ _ _) (by rfl) (by walk_at "o"))
    (@ad2 _ _ _ _ _ (@ac8 _ _ _ _ _ _ _ _ (@a81 _ _ _ _ _ _ _ _ (au1 K (by exact hr.units)) (@a39 _ _ _ _ _ _ _ (a30 K) (pv 0) (@a09 _ _ _ _) (fun _ _=>rfl)) (@a42 _ _ _ _ (@a01 _)) (nomark _)) (@a07 _ _ _ (@a35 _ _ 3 _ _ _ _ sc_law_next.nd rfl (by walk_at "o") (@a39 _ _ _ _ _ _ _ (a30 K) (@a39 _ _ _ _ _ _ _ (a30 K) (pv 0) (@a09 _ _ _ _) (fun _ _=>rfl)) (@a90 _ _ _ _ _ _ _ _ aa4 (pv 1) (pv 2)) (fun _ _=>rfl)) (by rfl) (by walk_at "o"))) (@a91 _))
    (@a02 _ _ _ _ _ (@ac8 _ _ _ _ _ _ _ _ (@a81 _ _ _ _ _ _ _ _ b95 (@a39 _ _ _ _ _ _ _ (a30 K) (pv 0) (@a09 _ _ _ _) (fun _ _=>rfl)) (@a09 _ _ _ _) (nomark _)) (@a02 _ _ _ _ _ (@a74 _ _ _ _ _ _ _ _ PassesOwn.never rfl (a94 rfl T.z_range (@a00 _ _ _ _ _ (@a44 _ _ _ _ _ _ _ _ _ b68 (by rfl) T.z_min bo8 (@a00 _ _ _ _ _ (@a09 _ _ _ _) (@a00 _ _ _ _ _ (@a90 _ _ _ _ _ _ _ _ ao4 (pv 1) (pv 2)) (@a01 _) (by rfl)) (by rfl)) (by decide) (by decide) (by rfl) (by rfl)) (@a01 _) (by rfl))) (a06 (i:=4) sc_law_next.nd rfl (by walk_at "o")) (@a07 _ _ _ (@a35 _ _ 3 _ _ _ _ sc_law_next.nd rfl (by walk_at "o") (@a90 _ _ _ _ _ _ _ _ ao4 (pv 3) (@a09 _ _ _ _)) (by rfl) (by walk_at "o"))) (by intro _; rfl))
     (@a07 _ _ _ (@a73 _ _ _ _ (@a90 _ _ _ _ _ _ _ _ aa4 (pv 3) (@a09 _ _ _ _))))) (@a91 _))
    (@a02 _ _ _ _ _ (@a35 _ _ 5 _ _ _ _ sc_law_next.nd rfl (by walk_at "o") (@a90 _ _ _ _ _ _ _ _ aa4 (@a90 _ _ _ _ _ _ _ _ aa2 (@a90 _ _ _ _ _ _ _ _ aa2 (@a90 _ _ _ _ _ _ _ _ aa4 (pv 3) (@a09 _ _ _ _)) (@a90 _ _ _ _ _ _ _ _ ai2 (@a90 _ _ _ _ _ _ _ _ ai2 (@a09 _ _ _ _) (@a90 _ _ _ _ _ _ _ _ aa2 (pv 1) (@a09 _ _ _ _))) (@a90 _ _ _ _ _ _ _ _ aa2 (pv 1) (@a09 _ _ _ _)))) (@a09 _ _ _ _)) (@a09 _ _ _ _)) (by rfl) (by walk_at "o"))
    (@a02 _ _ _ _ _ (@a35 _ _ 5 _ _ _ _ sc_law_next.nd rfl (by walk_at "o") (@a90 _ _ _ _ _ _ _ _ aa4 (@a90 _ _ _ _ _ _ _ _ ai2 (pv 5) (pv 5)) (@a09 _ _ _ _)) (by rfl) (by walk_at "o"))
    (@a07 _ _ _ (@a73 _ _ _ _ (@a90 _ _ _ _ _ _ _ _ ao4 (@a90 _ _ _ _ _ _ _ _ aa4 (@a90 _ _ _ _ _ _ _ _ ai2 (pv 5) (@a09 _ _ _ _)) (@a09 _ _ _ _)) (@a09 _ _ _ _)))))))))))),?_⟩
   have hne:=k.ne
   obtain ⟨ms,z,h1,h2,h3⟩:=k.ex
   walk_at "go"
   refine a65 (SqL.of h1) (a05 (j:=1) rfl) ?_
   walk_at "r"
   refine am4 h1 (j:=1) rfl ?_
   have h2':upd H d (.lst ([V.ref l,V.int (n:Nat),V.int z].set 1 (V.int ((n:Int)+1)))) l=some (.lst (ms.map V.int)):=by rw [a04 (Ne.symm hne)]; exact h2
   have hD:Deck (upd H d (.lst ([V.ref l,V.int (n:Nat),V.int z].set 1 (V.int ((n:Int)+1))))) d l (n+1):=⟨ms,z,a28,h2',h3⟩
   have oD:Off d l H (upd H d (.lst ([V.ref l,V.int (n:Nat),V.int z].set 1 (V.int ((n:Int)+1))))):=bw8
   have h1':upd H d (.lst ([V.ref l,V.int (n:Nat),V.int z].set 1 (V.int ((n:Int)+1)))) d=some (.lst [V.ref l,V.int ((n:Int)+1),V.int z]):=a28
   generalize upd H d (.lst ([V.ref l,V.int (n:Nat),V.int z].set 1 (V.int ((n:Int)+1))))=H1 at h2' hD oD h1'
   walk_at "r"
   refine a65 (SqL.of h1') (a05 (j:=0) rfl) ?_
   walk_at "r"
   refine ab0 (SqL.of h2') ?_
   rw [gL]
   walk_at "r"
   refine c76 ?_
   walk_at "r"
   obtain ⟨m,hm,em⟩:∃ m:Nat,0<m∧max 1 (ms.length:Int)=(m:Nat):=⟨max 1 ms.length,by omega,by omega⟩
   have hml:0<ms.length→m=ms.length:=fun h=>by omega
   rw [em]
   refine at9 (fun σ' H'=>∃ c:Int,Same H1 H'∧σ'=[some (.ref d),some (.int (n:Nat)),some (.int (m:Nat)),some (.int c),none,none]) ?_ ?_
   · walk_at "r"
     refine a65 (SqL.of h1') (a05 (j:=0) rfl) ?_
     walk_at "r"
     intro p2 H2 f2 s2 e2
     refine bd6 (SqL.of (s2 _ _ h2')) (SqL.of e2) ?_
     walk_at "r"
     cases hms:ms with
     | nil =>
       refine ax5 ?_
       exact ⟨0,s2,rfl⟩
     | cons m0 mr =>
       refine ax4 ?_
       have hlen:0<ms.length:=by rw [hms]; simp
       walk_at "r"
       refine a65 (SqL.of (s2 _ _ h1')) (a05 (j:=0) rfl) ?_
       walk_at "r"
       obtain ⟨p,hp,ep⟩:=ac7 (n:Int) hm
       rw [ep]
       have hat:atI (ms.map V.int) (p:Nat)=some (.int (ms[p]'(by have:=hml hlen; omega))):=a05 (by simp [show p<ms.length by have:=hml hlen; omega])
       refine a65 (SqL.of (s2 _ _ h2')) hat ?_
       exact ⟨_,s2,rfl⟩
   · rintro σ' H2 ⟨c,s2,rfl⟩
     walk_at "r"
     refine a65 (SqL.of (s2 _ _ h1')) (a05 (j:=2) rfl) ?_
     walk_at "r"
     refine ite2 (fun hc=>?_) (fun hc=>?_)
     · walk_at "r"
       refine i_rI (show CDiv _ _ from ⟨by omega,by omega⟩) ?_
       walk_at "r"
       have hq0:0≤(n:Int) / (m:Nat):=Int.ediv_nonneg (by omega) (by omega)
       refine ⟨by omega,by omega,?_⟩
       generalize (min 60 ((n:Int) / (m:Nat))).toNat=b
       refine aa7 (lo:=0) (n:=b) (fun i σ H'=>H'=H2∧∃ (c:Int) (y:Option V),σ=[some (.ref d),some (.int (n:Nat)),some (.int (m:Nat)),some (.int c),y,none]) ⟨rfl,c,_,rfl⟩ ?_ ?_
       · rintro i σ H3 hi ⟨rfl,c,y,rfl⟩
         walk_at "r"
         exact ⟨rfl,_,_,rfl⟩
       · rintro σ H3 ⟨rfl,c,y,rfl⟩
         walk_at "r"
         obtain ⟨r,hr,e⟩:=ac7 c (m:=1000003) (by decide)
         rw [show c % 1000003=((r:Nat):Int) from e]
         exact q r _ (by omega) (oD.trans s2.off) (hD.same s2)
     · walk_at "r"
       refine ai4 (cb (by omega) (by omega)) ?_
       walk_at "r"
       generalize c % 2147483629+51437*((n:Int)+1)*((n:Int)+3)+1409=x
       have b1:=Int.emod_nonneg x (show (2147483629:Int)≠0 by decide)
       have b2:=Int.emod_lt_of_pos x (show (0:Int)<2147483629 by decide)
       refine ai4 (cb (by omega) (by omega)) ?_
       walk_at "r"
       generalize x % 2147483629*(x % 2147483629) % 2147483587=y
       have c1:=Int.emod_nonneg (y*69621) (show (2147483647:Int)≠0 by decide)
       have c2:=Int.emod_lt_of_pos (y*69621) (show (0:Int)<2147483647 by decide)
       try refine i_rI (show CDiv _ _ from ⟨by omega,by omega⟩) ?_
       obtain ⟨r,hr⟩:∃ r:Nat,y*69621 % 2147483647 / 4=(r:Nat):=⟨(y*69621 % 2147483647 / 4).toNat,by omega⟩
       rw [hr]
       exact q r _ (by omega) (oD.trans s2.off) (hD.same s2)
theorem at2 {b:Bool}:atI [V.int 2,.int 7] (if b then 1 else 0)=some (.int (if b then 7 else 2:Nat)):=by
 cases b
 · exact a05 (j:=0) rfl
 · exact a05 (j:=1) rfl
def bx0 (K:W.Frag):Sp:=fun vs H Q _=>∃ (d l:Addr) (n:Nat) (b:Bool),vs=[.ref d,.int (if b then 1 else 0)]∧Deck H d l n∧n≤90000∧∀ p ss H',H p=none→H' p=some (.lst (strsV ss))→ss.length≤2→Off d l H H'→Deck H' d l (n+1)→Q (.ref p) H'
theorem at7 {a b c d e f g:Addr}{r:Nat}(h:r<7):∃ x,atI [V.ref a,.ref b,.ref c,.ref d,.ref e,.ref f,.ref g] (r:Nat)=some (.ref x)∧(x=a∨x=b∨x=c∨x=d∨x=e∨x=f∨x=g):=by
 have:r=0∨r=1∨r=2∨r=3∨r=4∨r=5∨r=6:=by omega
 rcases this with rfl | rfl | rfl | rfl | rfl | rfl | rfl
 · exact ⟨_,a05 (j:=0) rfl,by simp⟩
 · exact ⟨_,a05 (j:=1) rfl,by simp⟩
 · exact ⟨_,a05 (j:=2) rfl,by simp⟩
 · exact ⟨_,a05 (j:=3) rfl,by simp⟩
 · exact ⟨_,a05 (j:=4) rfl,by simp⟩
 · exact ⟨_,a05 (j:=5) rfl,by simp⟩
 · exact ⟨_,a05 (j:=6) rfl,by simp⟩
theorem az3 (T:Txt K mg t):FnOk P w K mg base CX0 2 t.a__law_said t.fd__law_said ["deck","rich"] (bx0 K):=by
 have G__law_next:=af7 (P:=P) (w:=w) (base:=base) T
 refine T.F__law_said.ok sc_law_said (fun vs H Q E h=>?_) (fun cdv A outer s H vs Q E hr h=>?_)
 · obtain ⟨d,l,n,b,rfl,_⟩:=h
   rfl
 · obtain ⟨d,l,n,b,rfl,k,hn,q⟩:=h
   refine ⟨_,(@a02 _ _ _ _ _ (@a35 _ _ 2 _ _ _ _ sc_law_said.nd rfl (by walk_at "o") (@a42 _ _ _ _ (@a00 _ _ _ _ _ (@a42 _ _ _ _ (@a01 _)) (@a00 _ _ _ _ _ (@a42 _ _ _ _ (@a00 _ _ _ _ _ (@aa3 _ _ _ _) (@a01 _) (by rfl))) (@a00 _ _ _ _ _ (@a42 _ _ _ _ (@a00 _ _ _ _ _ (@aa3 _ _ _ _) (@a01 _) (by rfl))) (@a00 _ _ _ _ _ (@a42 _ _ _ _ (@a00 _ _ _ _ _ (@aa3 _ _ _ _) (@a00 _ _ _ _ _ (@aa3 _ _ _ _) (@a01 _) (by rfl)) (by rfl))) (@a00 _ _ _ _ _ (@a42 _ _ _ _ (@a00 _ _ _ _ _ (@aa3 _ _ _ _) (@a01 _) (by rfl))) (@a00 _ _ _ _ _ (@a42 _ _ _ _ (@a01 _)) (@a00 _ _ _ _ _ (@a42 _ _ _ _ (@a00 _ _ _ _ _ (@aa3 _ _ _ _) (@a00 _ _ _ _ _ (@aa3 _ _ _ _) (@a01 _) (by rfl)) (by rfl))) (@a01 _) (by rfl)) (by rfl)) (by rfl)) (by rfl)) (by rfl)) (by rfl)) (by rfl))) (by rfl) (by walk_at "o"))
    (@a07 _ _ _ (@a73 _ _ _ _ (@a48 _ _ _ _ _ _ _ _ _ (ab4 K) (by rfl) T.z_list aa9 (@a00 _ _ _ _ _ (@a39 _ _ _ _ _ _ _ (a30 K) (pv 2) (@a90 _ _ _ _ _ _ _ _ aa4 (@a41 _ _ _ _ _ _ _ _ _ _ _ _ _ _ _ _ G__law_next (hr.mono (by omega)) rfl T.m__law_next T.F__law_next.kp T.b__law_next .nil a82 (@a00 _ _ _ _ _ (pv 0) (@a01 _) (by rfl)) (by decide) (by rfl) (by rfl)) (@a39 _ _ _ _ _ _ _ (a30 K) (@a42 _ _ _ _ (@a00 _ _ _ _ _ (@a09 _ _ _ _) (@a00 _ _ _ _ _ (@a09 _ _ _ _) (@a01 _) (by rfl)) (by rfl))) (pv 1) (fun _ _=>rfl))) (fun _ _=>rfl)) (@a01 _) (by rfl)) (by decide) (by decide) (by rfl) (by rfl))))),?_⟩
   walk_at "go"
   intro p1 H1 f1 s1 e1
   walk_at "r"
   intro p2 H2 f2 s2 e2
   walk_at "r"
   intro p3 H3 f3 s3 e3
   walk_at "r"
   intro p4 H4 f4 s4 e4
   walk_at "r"
   intro p5 H5 f5 s5 e5
   walk_at "r"
   intro p6 H6 f6 s6 e6
   walk_at "r"
   intro p7 H7 f7 s7 e7
   walk_at "r"
   intro p8 H8 f8 s8 e8
   walk_at "r"
   have t7:=s8
   have t6:=s7.trans t7
   have t5:=s6.trans t6
   have t4:=s5.trans t5
   have t3:=s4.trans t4
   have t2:=s3.trans t3
   have t1:=s2.trans t2
   have t0:=s1.trans t1
   have k1:=k.same s1
   have k2:=k1.same s2
   have k3:=k2.same s3
   have k4:=k3.same s4
   have k5:=k4.same s5
   have k6:=k5.same s6
   have k7:=k6.same s7
   have k8:=k7.same s8
   refine ⟨d,l,n,rfl,k8,by omega,fun r H9 hr9 o9 k9=>?_⟩
   walk_at "r"
   intro p10 H10 f10 s10 e10
   walk_at "r"
   refine a65 (SqL.of e10) at2 ?_
   walk_at "r"
   have hb7:0<(if b then 7 else 2:Nat)∧(if b then 7 else 2:Nat)≤7:=by cases b <;> simp
   refine i_rI (by omega) ?_
   obtain ⟨r2,hr2,er2⟩:=ac7 (r:Int) hb7.1
   rw [er2]
   obtain ⟨x,hx,ho⟩:=at7 (a:=p1) (b:=p2) (c:=p3) (d:=p4) (e:=p5) (f:=p6) (g:=p7) (r:=r2) (by omega)
   have g8:=s10 _ _ (o9 _ _ (k7.new f8).1 (k7.new f8).2 e8)
   refine a65 (SqL.of g8) hx ?_
   walk_at "r"
   obtain ⟨ss,hs,hl⟩:∃ ss:List Str,H10 x=some (.lst (strsV ss))∧ss.length≤2:=by
    rcases ho with rfl | rfl | rfl | rfl | rfl | rfl | rfl
    · exact ⟨[],s10 _ _ (o9 _ _ (k.new f1).1 (k.new f1).2 (t1 _ _ e1)),by simp⟩
    · exact ⟨["a"],s10 _ _ (o9 _ _ (k1.new f2).1 (k1.new f2).2 (t2 _ _ e2)),by simp⟩
    · exact ⟨["b"],s10 _ _ (o9 _ _ (k2.new f3).1 (k2.new f3).2 (t3 _ _ e3)),by simp⟩
    · exact ⟨["a","b"],s10 _ _ (o9 _ _ (k3.new f4).1 (k3.new f4).2 (t4 _ _ e4)),by simp⟩
    · exact ⟨["3:a"],s10 _ _ (o9 _ _ (k4.new f5).1 (k4.new f5).2 (t5 _ _ e5)),by simp⟩
    · exact ⟨[],s10 _ _ (o9 _ _ (k5.new f6).1 (k5.new f6).2 (t6 _ _ e6)),by simp⟩
    · exact ⟨["b","a"],s10 _ _ (o9 _ _ (k6.new f7).1 (k6.new f7).2 (t7 _ _ e7)),by simp⟩
   refine ad1 (SqL.of hs) ?_
   intro p11 H11 f11 s11 e11
   have oA:Off d l H H10:=(t0.off.trans o9).trans s10.off
   exact q p11 ss H11 (oA.free (k9.same s10) f11) e11 hl (oA.trans s11.off) ((k9.same s10).same s11)
abbrev EvAt (H:Hp):V→Tr→Prop:=fun v e=>e.At H v []∧e.h≤4
theorem EvAt.same {H H':Hp}{v:V}{e:Tr}(h:EvAt H v e) (s:Same H H'):EvAt H' v e:=⟨ah2 h.1 s.tups,h.2⟩
theorem ev2 {H:Hp}{a:Addr}{k:Str}{i:Int}(h:H a=some (.tup [.str k,.int i])):EvAt H (.ref a) (.tup [.str k,.int i]):=by
 refine ⟨?_,by simp [Tr.h,Tr.hs]⟩
 simp only [Tr.At,Tr.Ats]
 exact ⟨a,_,rfl,h,_,_,[],[],rfl,rfl,⟨rfl,rfl⟩,_,_,[],[],rfl,rfl,⟨rfl,rfl⟩,rfl,rfl⟩
theorem ev2s {H:Hp}{a:Addr}{k i:Str}(h:H a=some (.tup [.str k,.str i])):EvAt H (.ref a) (.tup [.str k,.str i]):=by
 refine ⟨?_,by simp [Tr.h,Tr.hs]⟩
 simp only [Tr.At,Tr.Ats]
 exact ⟨a,_,rfl,h,_,_,[],[],rfl,rfl,⟨rfl,rfl⟩,_,_,[],[],rfl,rfl,⟨rfl,rfl⟩,rfl,rfl⟩
theorem ev1 {H:Hp}{a:Addr}{k:Str}(h:H a=some (.tup [.str k])):EvAt H (.ref a) (.tup [.str k]):=by
 refine ⟨?_,by simp [Tr.h,Tr.hs]⟩
 simp only [Tr.At,Tr.Ats]
 exact ⟨a,_,rfl,h,_,_,[],[],rfl,rfl,⟨rfl,rfl⟩,rfl,rfl⟩
theorem EvAt.tups {H H':Hp}{v:V}{e:Tr}(h:EvAt H v e) (s:Tups H H'):EvAt H' v e:=⟨ah2 h.1 s,h.2⟩
theorem b50 {H:Hp}{us:List V}{ets:List Tr}(h:Each (EvAt H) us ets):Tr.Ats H ets us []∧Tr.hs ets≤4:=by
 induction ets generalizing us with
 | nil =>
   obtain rfl:=List.length_eq_zero_iff.mp h.1
   simp [Tr.Ats,Tr.hs]
 | cons e ets ih =>
   cases us with
   | nil=>have:=h.1; simp at this
   | cons v us =>
     obtain ⟨h2,h3⟩:=ih (us:=us) ⟨by have:=h.1; simpa using this,fun i a b x y=>h.2 (i+1) a b x y⟩
     have h4:=h.2 0 v e rfl rfl
     simp only [Tr.Ats,Tr.hs]
     exact ⟨⟨v,us,[],[],rfl,rfl,h4.1,h2⟩,by have:=h4.2; omega⟩
structure EvS (H H':Hp) (d l pe pl ta tb:Addr) (n m:Nat):Prop where
 off:Off d l H H'
 src:H' pl=some (.lst [.ref ta,.ref tb])∧H' ta=some (.tup [.str "key",.int 4])∧H' tb=some (.tup [.str "word",.int 3])
 ev:∃ us ets,H' pe=some (.lst us)∧0<us.length∧us.length≤m∧Each (EvAt H') us ets
 deck:∃ n',n'≤n∧Deck H' d l n'
theorem EvS.next {H H' H2:Hp}{d l pe pl ta tb:Addr}{n n' m:Nat}(h:EvS H H' d l pe pl ta tb n m) (k:Deck H' d l n') (hp:pe≠d∧pe≠l) (hl:pl≠d∧pl≠l) (o:Off d l H' H2) (k2:Deck H2 d l (n'+1)) (hn:n'≤n):EvS H H2 d l pe pl ta tb (n+1) m:=by
 have tu:=o.tups k
 obtain ⟨a1,a2,a3⟩:=h.src
 obtain ⟨us,ets,b1,b2,b3,b4⟩:=h.ev
 exact ⟨h.off.trans o,⟨o _ _ hl.1 hl.2 a1,tu _ _ a2,tu _ _ a3⟩,⟨us,ets,o _ _ hp.1 hp.2 b1,b2,b3,b4.mono fun v x hx=>hx.tups tu⟩,n'+1,by omega,k2⟩
theorem EvS.same {H H' H2:Hp}{d l pe pl ta tb:Addr}{n m:Nat}(h:EvS H H' d l pe pl ta tb n m) (s:Same H' H2):EvS H H2 d l pe pl ta tb n m:=by
 obtain ⟨a1,a2,a3⟩:=h.src
 obtain ⟨us,ets,b1,b2,b3,b4⟩:=h.ev
 obtain ⟨n',hn,k⟩:=h.deck
 exact ⟨h.off.trans s.off,⟨s _ _ a1,s _ _ a2,s _ _ a3⟩,⟨us,ets,s _ _ b1,b2,b3,b4.mono fun v x hx=>hx.same s⟩,n',hn,k.same s⟩
theorem EvS.app {H H':Hp}{d l pe pl ta tb:Addr}{n m:Nat}{us:List V}{ets:List Tr}{v:V}{e:Tr}(h:EvS H H' d l pe pl ta tb n m) (hf:H pe=none) (hp:pe≠d∧pe≠l) (hl:pl≠pe) (b1:H' pe=some (.lst us)) (b3:us.length≤m) (b4:Each (EvAt H') us ets) (hv:EvAt H' v e) :
 EvS H (upd H' pe (.lst (us++[v]))) d l pe pl ta tb n (m+1):=by
 have tu:Tups H' (upd H' pe (.lst (us++[v]))):=Tups.upd b1
 obtain ⟨a1,a2,a3⟩:=h.src
 obtain ⟨n',hn,k⟩:=h.deck
 obtain ⟨ms,z,k1,k2,k3⟩:=k.ex
 refine ⟨fun b o h1 h2 e=>?_,⟨by rw [a04 hl]; exact a1,tu _ _ a2,tu _ _ a3⟩,⟨us++[v],ets++[e],a28,by simp,by simp; omega,(b4.mono fun v x hx=>hx.tups tu).snoc (hv.tups tu)⟩,n',hn,ms,z,by rw [a04 (Ne.symm hp.1)]; exact k1,by rw [a04 (Ne.symm hp.2)]; exact k2,k3⟩
 rw [a04 (fun z=>by rw [z,hf] at e; cases e)]
 exact h.off b o h1 h2 e
theorem EvS.more {H H':Hp}{d l pe pl ta tb:Addr}{n m n2 m2:Nat}(h:EvS H H' d l pe pl ta tb n m) (h1:n≤n2) (h2:m≤m2):EvS H H' d l pe pl ta tb n2 m2:=by
 obtain ⟨us,ets,b1,b2,b3,b4⟩:=h.ev
 obtain ⟨n',hn,k⟩:=h.deck
 exact ⟨h.off,h.src,⟨us,ets,b1,b2,by omega,b4⟩,n',by omega,k⟩
theorem at5s {r:Nat}{a b c d e:Str}(h:r<5):∃ s:Str,atI [V.str a,.str b,.str c,.str d,.str e] (r:Nat)=some (.str s):=by
 have:r=0∨r=1∨r=2∨r=3∨r=4:=by omega
 rcases this with rfl | rfl | rfl | rfl | rfl
 · exact ⟨_,a05 rfl⟩
 · exact ⟨_,a05 rfl⟩
 · exact ⟨_,a05 rfl⟩
 · exact ⟨_,a05 rfl⟩
 · exact ⟨_,a05 rfl⟩
def bh7 (K:W.Frag):Sp:=fun vs H Q _=>∃ (d l:Addr) (n:Nat),vs=[.ref d]∧Deck H d l n∧n≤90000 ∧
 ∀ p us ets H' n',H p=none→H' p=some (.lst us)→0<us.length→us.length≤7→Each (EvAt H') us ets→Off d l H H'→n'≤n+10→Deck H' d l n'→Q (.ref p) H'
theorem ar2 (T:Txt K mg t):FnOk P w K mg base CX0 2 t.a__law_events t.fd__law_events ["deck"] (bh7 K):=by
 have G__law_next:=af7 (P:=P) (w:=w) (base:=base) T
 refine T.F__law_events.ok sc_law_events (fun vs H Q E h=>?_) (fun cdv A outer s H vs Q E hr h=>?_)
 · obtain ⟨d,l,n,rfl,_⟩:=h
   rfl
 · obtain ⟨d,l,n,rfl,k,hn,q⟩:=h
   refine ⟨_,(@a02 _ _ _ _ _ (@a35 _ _ 1 _ _ _ _ sc_law_events.nd rfl (by walk_at "o") (@a42 _ _ _ _ (@a00 _ _ _ _ _ (@a46 _ _ _ _ _ (@a00 _ _ _ _ _ (@aa3 _ _ _ _) (@a01 _) (by rfl))) (@a01 _) (by rfl))) (by rfl) (by walk_at "o"))
    (@a02 _ _ _ _ _ (@a74 _ _ _ _ _ _ _ _ PassesOwn.never rfl (a31 K (@a42 _ _ _ _ (@a00 _ _ _ _ _ (@a46 _ _ _ _ _ (@a00 _ _ _ _ _ (@aa3 _ _ _ _) (@a00 _ _ _ _ _ (@a09 _ _ _ _) (@a01 _) (by rfl)) (by rfl))) (@a00 _ _ _ _ _ (@a46 _ _ _ _ _ (@a00 _ _ _ _ _ (@aa3 _ _ _ _) (@a00 _ _ _ _ _ (@a09 _ _ _ _) (@a01 _) (by rfl)) (by rfl))) (@a01 _) (by rfl)) (by rfl)))) (a79 K (n:=2) rfl (a32 (a06 (i:=2) sc_law_events.nd rfl (by walk_at "o")) (a32 (a06 (i:=3) sc_law_events.nd rfl (by walk_at "o")) (@a77 _)))) (@a07 _ _ _ (@a74 _ _ _ _ _ _ _ _ PassesOwn.never rfl (a94 rfl T.z_range (@a00 _ _ _ _ _ (@a90 _ _ _ _ _ _ _ _ aa4 (@a41 _ _ _ _ _ _ _ _ _ _ _ _ _ _ _ _ G__law_next (hr.mono (by omega)) rfl T.m__law_next T.F__law_next.kp T.b__law_next .nil a82 (@a00 _ _ _ _ _ (pv 0) (@a01 _) (by rfl)) (by decide) (by rfl) (by rfl)) (pv 3)) (@a01 _) (by rfl))) (a06 (i:=4) sc_law_events.nd rfl (by walk_at "o")) (@a02 _ _ _ _ _ (@a35 _ _ 5 _ _ _ _ sc_law_events.nd rfl (by walk_at "o") (@a90 _ _ _ _ _ _ _ _ aa4 (@a41 _ _ _ _ _ _ _ _ _ _ _ _ _ _ _ _ G__law_next (hr.mono (by omega)) rfl T.m__law_next T.F__law_next.kp T.b__law_next .nil a82 (@a00 _ _ _ _ _ (pv 0) (@a01 _) (by rfl)) (by decide) (by rfl) (by rfl)) (@a09 _ _ _ _)) (by rfl) (by walk_at "o"))
     (@ad2 _ _ _ _ _ (@ac8 _ _ _ _ _ _ _ _ (@a81 _ _ _ _ _ _ _ _ b95 (pv 2) (@aa3 _ _ _ _) (nomark _)) (@a07 _ _ _ (@a35 _ _ 5 _ _ _ _ sc_law_events.nd rfl (by walk_at "o") (@a39 _ _ _ _ _ _ _ (a30 K) (@a42 _ _ _ _ (@a00 _ _ _ _ _ (@aa3 _ _ _ _) (@a00 _ _ _ _ _ (@aa3 _ _ _ _) (@a00 _ _ _ _ _ (@aa3 _ _ _ _) (@a00 _ _ _ _ _ (@aa3 _ _ _ _) (@a00 _ _ _ _ _ (@aa3 _ _ _ _) (@a01 _) (by rfl)) (by rfl)) (by rfl)) (by rfl)) (by rfl))) (@a90 _ _ _ _ _ _ _ _ aa4 (pv 5) (@a09 _ _ _ _)) (fun _ _=>rfl)) (by rfl) (by walk_at "o"))) (@a91 _))
     (@a07 _ _ _ (@ac8 _ _ _ _ _ _ _ _ (@a81 _ _ _ _ _ _ _ _ (am6 K (by exact hr.units)) (@a46 _ _ _ _ _ (@a00 _ _ _ _ _ (pv 2) (@a00 _ _ _ _ _ (pv 5) (@a01 _) (by rfl)) (by rfl))) (pv 1) (by with_unfolding_all rfl)) (@a07 _ _ _ (@a60 _ _ _ _ (@a99 _ K _ _ _ _ _ _ _ _ _ _ _ PySem.F.plainAttrs_list PySem.F.slot_list_append PySem.F.type_list_append a52 (pv 1) (@a00 _ _ _ _ _ (@a46 _ _ _ _ _ (@a00 _ _ _ _ _ (pv 2) (@a00 _ _ _ _ _ (pv 5) (@a01 _) (by rfl)) (by rfl))) (@a01 _) (by rfl)) (by rfl) (by rfl) (by rfl) (by rfl) (by rfl) (by rfl)) (by rfl))) (@a91 _))))) (by intro _; rfl))) (by intro _; rfl))
    (@a07 _ _ _ (@a73 _ _ _ _ (pv 1))))),?_⟩
   have sl:(1000000:Nat)≤sizeLine:=le_line (Nat.le_refl _)
   walk_at "go"
   intro p1 H1 f1 s1 e1
   walk_at "r"
   intro pe H2 f2 s2 e2
   walk_at "r"
   intro ta H3 f3 s3 e3
   walk_at "r"
   intro tb H4 f4 s4 e4
   walk_at "r"
   intro pl H5 f5 s5 e5
   have s25:=s3.trans (s4.trans s5)
   have fe:H pe=none:=s1.free f2
   have fl:H pl=none:=(s1.trans (s2.trans (s3.trans s4))).free f5
   have ne:pl≠pe:=fun z=>by rw [z,(s3.trans s4) _ _ e2] at f5; cases f5
   have E5:EvS H H5 d l pe pl ta tb n 1:=⟨(s1.trans (s2.trans s25)).off,⟨e5,(s4.trans s5) _ _ e3,s5 _ _ e4⟩,⟨_,[_],s25 _ _ e2,by simp,by simp,Each.nil.snoc ((ev1 e1).same (s2.trans s25))⟩,n,Nat.le_refl _,k.same (s1.trans (s2.trans s25))⟩
   walk_at "r"
   have hpe:=k.new fe
   have hpl:=k.new fl
   refine ⟨⟨_,SqL.of e5⟩,a76 (xs:=[V.ref ta,V.ref tb]) (fun i σ H'=>EvS H H' d l pe pl ta tb (n+4*i) (1+3*i)∧i≤2∧∃ y2 y3 y4 y5,σ=[some (.ref d),some (.ref pe),y2,y3,y4,y5]) ⟨E5,by omega,_,_,_,_,rfl⟩ (fun i σ H' _ ⟨h,_⟩=>SqL.of h.src.1) ?_ ?_⟩
   · rintro i x σ H6 hx ⟨E6,hi,y2,y3,y4,y5,rfl⟩
     obtain ⟨c,kd,mm,rfl,hc,hm,hm4,hi2⟩:∃ (c:Addr) (kd:Str) (mm:Nat),x=.ref c∧H6 c=some (.tup [.str kd,.int (mm:Nat)])∧3≤mm∧mm≤4∧i<2:=by
      obtain ⟨a1,a2,a3⟩:=E6.src
      have hi2:=(gS hx).1
      obtain rfl | rfl:i=0∨i=1:=by simp at hi2; omega
      · cases hx
        exact ⟨ta,_,4,rfl,a2,by decide,by decide,by decide⟩
      · cases hx
        exact ⟨tb,_,3,rfl,a3,by decide,by decide,by decide⟩
     refine ae9 (SqT.of hc) rfl ?_
     walk_at "r"
     obtain ⟨n1,hn1,k6⟩:=E6.deck
     refine ⟨d,l,n1,rfl,k6,by omega,fun r H7 hr7 o7 k7=>?_⟩
     have E7:=E6.next k6 hpe hpl o7 k7 hn1
     walk_at "r"
     obtain ⟨b,hb,eb⟩:=ac7 (r:Int) (m:=mm) (by omega)
     rw [eb]
     refine ⟨by omega,by omega,?_⟩
     rw [Int.toNat_natCast]
     refine aa7 (lo:=0) (n:=b) (fun j σ H'=>EvS H H' d l pe pl ta tb (n+4*i+1+j) (1+3*i+j)∧∃ y4 y5,σ=[some (.ref d),some (.ref pe),some (.str kd),some (.int (mm:Nat)),y4,y5]) ⟨E7,_,_,rfl⟩ ?_ ?_
     · rintro j σ H8 hj ⟨E8,y4,y5,rfl⟩
       walk_at "r"
       obtain ⟨n2,hn2,k8⟩:=E8.deck
       refine ⟨d,l,n2,rfl,k8,by omega,fun r2 H9 hr9 o9 k9=>?_⟩
       have E9:=E8.next k8 hpe hpl o9 k9 hn2
       walk_at "r"
       obtain ⟨wh,hwh,ewh⟩:=ac7 (r2:Int) (m:=10) (by decide)
       rw [show (r2:Int) % 10=((wh:Nat):Int) from ewh]
       refine at9 (fun σ' H'=>EvS H H' d l pe pl ta tb (n+4*i+1+j+1) (1+3*i+j)∧∃ (v:V) (e:Tr) (y4:Option V),(∀ (H'':Hp) (a:Addr),H'' a=some (.tup [.str kd,v])→EvAt H'' (.ref a) e)∧σ'=[some (.ref d),some (.ref pe),some (.str kd),some (.int (mm:Nat)),y4,some v]) ?_ ?_
       · walk_at "r"
         refine ite2 (fun hc=>?_) (fun hc=>?_)
         · walk_at "r"
           intro p10 H10 f10 s10 e10
           walk_at "r"
           obtain ⟨r5,h5,e5'⟩:=ac7 (wh:Int) (m:=5) (by decide)
           rw [show (wh:Int) % 5=((r5:Nat):Int) from e5']
           obtain ⟨sx,hsx⟩:=at5s (a:="no") (b:="yes") (c:="x") (d:="a") (e:="zz") h5
           refine a65 (SqL.of e10) hsx ?_
           exact ⟨E9.same s10,.str sx,_,_,fun H'' a h=>ev2s h,rfl⟩
         · exact ⟨E9,.int (wh:Nat),_,_,fun H'' a h=>ev2 h,rfl⟩
       · rintro σ' H10 ⟨E10,v,e,y4,hv,rfl⟩
         walk_at "r"
         intro p11 H11 f11 s11 e11
         walk_at "r"
         have E11:=E10.same s11
         obtain ⟨us,ets,b1,b2,b3,b4⟩:=E11.ev
         obtain ⟨c1,c2⟩:=b50 b4
         refine b30 (hv _ _ e11).1 (SqL.of b1) c1 (by have:=(hv _ _ e11).2; omega) (by omega) ?_
         walk_at "r"
         refine ite2 (fun hc=>?_) (fun hc=>?_)
         · walk_at "r"
           refine ab2 (SqL.of b1) ?_
           walk_at "r"
           intro p12 H12 f12 s12 e12
           walk_at "r"
           refine a64 (s12 _ _ b1) (by omega) ?_
           exact ⟨(EvS.app (E11.same s12) fe hpe ne (s12 _ _ b1) b3 (b4.mono fun v x h=>h.same s12) (hv _ _ e12)).more (by omega) (by omega),_,_,rfl⟩
         · exact ⟨E11.more (by omega) (by omega),_,_,rfl⟩
     · rintro σ H8 ⟨E8,y4,y5,rfl⟩
       exact ⟨E8.more (by omega) (by omega),by omega,_,_,_,_,rfl⟩
   · rintro σ H6 ⟨E6,_,y2,y3,y4,y5,rfl⟩
     walk_at "r"
     obtain ⟨us,ets,b1,b2,b3,b4⟩:=E6.ev
     obtain ⟨n',hn',k'⟩:=E6.deck
     simp only [List.length_cons,List.length_nil] at b3 hn'
     exact q pe us ets H6 n' fe b1 b2 (by omega) b4 E6.off (by omega) k'
structure Tab (G:Hp) (tt:Addr) (us:List V) (ets:List Tr) (rs:List RRoom) (sy:List Str):Prop where
 ex:∃ a b c rvs,G tt=some (.tup [.ref a,.ref b,.ref c])∧G a=some (.lst us)∧G b=some (.lst (strsV sy))∧G c=some (.lst rvs)∧Each (RoomAt G) rvs rs
 ev:Each (EvAt G) us ets
theorem Tab.same {G G':Hp}{tt:Addr}{us:List V}{ets:List Tr}{rs:List RRoom}{sy:List Str}(h:Tab G tt us ets rs sy) (s:Same G G'):Tab G' tt us ets rs sy:=by
 obtain ⟨a,b,c,rvs,h1,h2,h3,h4,h5⟩:=h.ex
 exact ⟨⟨a,b,c,rvs,s _ _ h1,s _ _ h2,s _ _ h3,s _ _ h4,h5.mono fun v x hx=>hx.same s⟩,h.ev.mono fun v x hx=>hx.same s⟩
structure TabOk (us:List V) (rs:List RRoom):Prop where
 ok:TblOk us.length rs
 u0:0<us.length
 u7:us.length≤7
 r0:0<rs.length
 r14:rs.length≤14
theorem at4 {r:Nat}(h:r<4):∃ m:Nat,0<m∧m≤14∧atI [V.int 5,.int 9,.int 9,.int 14] (r:Nat)=some (.int (m:Nat)):=by
 have:r=0∨r=1∨r=2∨r=3:=by omega
 rcases this with rfl | rfl | rfl | rfl
 · exact ⟨5,by decide,by decide,a05 rfl⟩
 · exact ⟨9,by decide,by decide,a05 rfl⟩
 · exact ⟨9,by decide,by decide,a05 rfl⟩
 · exact ⟨14,by decide,by decide,a05 rfl⟩
def bn6 (K:W.Frag):Sp:=fun vs H Q _=>∃ (d l:Addr) (n:Nat),vs=[.ref d]∧Deck H d l n∧n≤80000 ∧
 ∀ tt us ets rs sy H' n',Tab (hds [d,l] H') tt us ets rs sy→TabOk us rs→(sy.length≤2∧∀ r∈rs,∀ x∈r.2,x.1.length≤2)→Off d l H H'→n'≤n+1000→Deck H' d l n'→Q (.ref tt) H'
theorem av7 (T:Txt K mg t):FnOk P w K mg base CX0 3 t.a__law_table t.fd__law_table ["deck"] (bn6 K):=by
 have G__law_events:=ar2 (P:=P) (w:=w) (base:=base) T
 have G__law_next:=af7 (P:=P) (w:=w) (base:=base) T
 have G__law_said:=az3 (P:=P) (w:=w) (base:=base) T
 refine T.F__law_table.ok sc_law_table (fun vs H Q E h=>?_) (fun cdv A outer s H vs Q E hr h=>?_)
 · obtain ⟨d,l,n,rfl,_⟩:=h
   rfl
 · obtain ⟨d,l,n,rfl,k,hn,q⟩:=h
   refine ⟨_,(@a02 _ _ _ _ _ (@a35 _ _ 1 _ _ _ _ sc_law_table.nd rfl (by walk_at "o") (@a41 _ _ _ _ _ _ _ _ _ _ _ _ _ _ _ _ G__law_events (hr.mono (by omega)) rfl T.m__law_events T.F__law_events.kp T.b__law_events .nil a82 (@a00 _ _ _ _ _ (pv 0) (@a01 _) (by rfl)) (by decide) (by rfl) (by rfl)) (by rfl) (by walk_at "o"))
    (@a02 _ _ _ _ _ (@a35 _ _ 2 _ _ _ _ sc_law_table.nd rfl (by walk_at "o") (@a90 _ _ _ _ _ _ _ _ aa2 (@a09 _ _ _ _) (@a90 _ _ _ _ _ _ _ _ aa4 (@a41 _ _ _ _ _ _ _ _ _ _ _ _ _ _ _ _ G__law_next (hr.mono (by omega)) rfl T.m__law_next T.F__law_next.kp T.b__law_next .nil a82 (@a00 _ _ _ _ _ (pv 0) (@a01 _) (by rfl)) (by decide) (by rfl) (by rfl)) (@a39 _ _ _ _ _ _ _ (a30 K) (@a42 _ _ _ _ (@a00 _ _ _ _ _ (@a09 _ _ _ _) (@a00 _ _ _ _ _ (@a09 _ _ _ _) (@a00 _ _ _ _ _ (@a09 _ _ _ _) (@a00 _ _ _ _ _ (@a09 _ _ _ _) (@a01 _) (by rfl)) (by rfl)) (by rfl)) (by rfl))) (@a90 _ _ _ _ _ _ _ _ aa4 (@a41 _ _ _ _ _ _ _ _ _ _ _ _ _ _ _ _ G__law_next (hr.mono (by omega)) rfl T.m__law_next T.F__law_next.kp T.b__law_next .nil a82 (@a00 _ _ _ _ _ (pv 0) (@a01 _) (by rfl)) (by decide) (by rfl) (by rfl)) (@a09 _ _ _ _)) (fun _ _=>rfl)))) (by rfl) (by walk_at "o"))
    (@a02 _ _ _ _ _ (@a35 _ _ 3 _ _ _ _ sc_law_table.nd rfl (by walk_at "o") (@a48 _ _ _ _ _ _ _ _ _ c05 (by rfl) T.z_int c08 (@a00 _ _ _ _ _ (@ai8 _ _ _ _ _ _ _ _ b95 (@a90 _ _ _ _ _ _ _ _ aa4 (@a41 _ _ _ _ _ _ _ _ _ _ _ _ _ _ _ _ G__law_next (hr.mono (by omega)) rfl T.m__law_next T.F__law_next.kp T.b__law_next .nil a82 (@a00 _ _ _ _ _ (pv 0) (@a01 _) (by rfl)) (by decide) (by rfl) (by rfl)) (@a09 _ _ _ _)) (@a09 _ _ _ _) (nomark _)) (@a01 _) (by rfl)) (by decide) (by decide) (by rfl) (by rfl)) (by rfl) (by walk_at "o"))
    (@a02 _ _ _ _ _ (@a35 _ _ 4 _ _ _ _ sc_law_table.nd rfl (by walk_at "o") (@a41 _ _ _ _ _ _ _ _ _ _ _ _ _ _ _ _ G__law_said (hr.mono (by omega)) rfl T.m__law_said T.F__law_said.kp T.b__law_said .nil a82 (@a00 _ _ _ _ _ (pv 0) (@a00 _ _ _ _ _ (@a09 _ _ _ _) (@a01 _) (by rfl)) (by rfl)) (by decide) (by rfl) (by rfl)) (by rfl) (by walk_at "o"))
    (@a02 _ _ _ _ _ (@a35 _ _ 5 _ _ _ _ sc_law_table.nd rfl (by walk_at "o") (@a42 _ _ _ _ (@a01 _)) (by rfl) (by walk_at "o"))
    (@a02 _ _ _ _ _ (@a74 _ _ _ _ _ _ _ _ PassesOwn.never rfl (a94 rfl T.z_range (@a00 _ _ _ _ _ (pv 2) (@a01 _) (by rfl))) (a06 (i:=6) sc_law_table.nd rfl (by walk_at "o")) (@a02 _ _ _ _ _ (@a35 _ _ 7 _ _ _ _ sc_law_table.nd rfl (by walk_at "o") (@ai8 _ _ _ _ _ _ _ _ b95 (@a90 _ _ _ _ _ _ _ _ aa4 (@a41 _ _ _ _ _ _ _ _ _ _ _ _ _ _ _ _ G__law_next (hr.mono (by omega)) rfl T.m__law_next T.F__law_next.kp T.b__law_next .nil a82 (@a00 _ _ _ _ _ (pv 0) (@a01 _) (by rfl)) (by decide) (by rfl) (by rfl)) (@a09 _ _ _ _)) (@a09 _ _ _ _) (nomark _)) (by rfl) (by walk_at "o"))
     (@a02 _ _ _ _ _ (ao9 (i:=8) (Nt:=["event"]) (Nf:=["room"]) (caps:=[6]) rfl (a47 (sc:=defScope a62) rfl rfl (by decide +kernel) (by decide +kernel) (by decide +kernel) rfl (by decide +kernel)) (a31 K (pv 1)) (fun _ _ _ _ _=>(a06 (i:=0) (show (["event","room"]:List Str).Nodup by decide +kernel) rfl (by walk_at "o"))) (fun _ _ _ _ _=>(@a55 _)) (fun _ _ _ _ _=>(@a46 _ _ _ _ _ (@a00 _ _ _ _ _ (@a42 _ _ _ _ (@a01 _)) (@a00 _ _ _ _ _ (pv 1) (@a01 _) (by rfl)) (by rfl)))) sc_law_table.nd rfl (by walk_at "o") rfl)
     (@ad2 _ _ _ _ _ (@ac8 _ _ _ _ _ _ _ _ (@az7 _ _ _ _ (ah0 K (pv 7) (fun _=>rfl))) (@a07 _ _ _ (ao9 (i:=8) (Nt:=["event"]) (Nf:=["deck","rich","many"]) (caps:=[0,3,2]) rfl (a47 (sc:=defScope a62) rfl rfl (by decide +kernel) (by decide +kernel) (by decide +kernel) rfl (by decide +kernel)) (a31 K (pv 1)) (fun _ _ _ _ _=>(a06 (i:=0) (show (["event","deck","rich","many"]:List Str).Nodup by decide +kernel) rfl (by walk_at "o"))) (fun _ _ _ _ _=>(@a55 _)) (fun _ _ _ _ _=>(@a46 _ _ _ _ _ (@a00 _ _ _ _ _ (@a41 _ _ _ _ _ _ _ _ _ _ _ _ _ _ _ _ G__law_said (hr.mono (by omega)) rfl T.m__law_said T.F__law_said.kp T.b__law_said .nil a82 (@a00 _ _ _ _ _ (pv 1) (@a00 _ _ _ _ _ (pv 2) (@a01 _) (by rfl)) (by rfl)) (by decide) (by rfl) (by rfl)) (@a00 _ _ _ _ _ (@a90 _ _ _ _ _ _ _ _ aa4 (@a41 _ _ _ _ _ _ _ _ _ _ _ _ _ _ _ _ G__law_next (hr.mono (by omega)) rfl T.m__law_next T.F__law_next.kp T.b__law_next .nil a82 (@a00 _ _ _ _ _ (pv 1) (@a01 _) (by rfl)) (by decide) (by rfl) (by rfl)) (pv 3)) (@a01 _) (by rfl)) (by rfl)))) sc_law_table.nd rfl (by walk_at "o") rfl)) (@a91 _))
     (@a07 _ _ _ (@a60 _ _ _ _ (@a99 _ K _ _ _ _ _ _ _ _ _ _ _ PySem.F.plainAttrs_list PySem.F.slot_list_append PySem.F.type_list_append a52 (pv 5) (@a00 _ _ _ _ _ (@a46 _ _ _ _ _ (@a00 _ _ _ _ _ (pv 7) (@a00 _ _ _ _ _ (pv 8) (@a01 _) (by rfl)) (by rfl))) (@a01 _) (by rfl)) (by rfl) (by rfl) (by rfl) (by rfl) (by rfl) (by rfl)) (by rfl)))))) (by intro _; rfl))
    (@a07 _ _ _ (@a73 _ _ _ _ (@a46 _ _ _ _ _ (@a00 _ _ _ _ _ (pv 1) (@a00 _ _ _ _ _ (pv 4) (@a00 _ _ _ _ _ (pv 5) (@a01 _) (by rfl)) (by rfl)) (by rfl))))))))))),?_⟩
   have sl:(1000000:Nat)≤sizeLine:=le_line (Nat.le_refl _)
   walk_at "go"
   refine ⟨d,l,n,rfl,k,by omega,fun pe us ets H1 n1 f1 e1 u0 u7 hev o1 hn1 k1=>?_⟩
   walk_at "r"
   refine ⟨d,l,n1,rfl,k1,by omega,fun r2 H2 hr2 o2 k2=>?_⟩
   walk_at "r"
   intro p3 H3 f3 s3 e3
   walk_at "r"
   refine ⟨d,l,_,rfl,k2.same s3,by omega,fun r4 H4 hr4 o4 k4=>?_⟩
   walk_at "r"
   obtain ⟨x4,hx4,ex4⟩:=ac7 (r4:Int) (m:=4) (by decide)
   rw [show (r4:Int) % 4=((x4:Nat):Int) from ex4]
   obtain ⟨mm,hm0,hm14,hat⟩:=at4 hx4
   obtain ⟨z1,z2⟩:=k2.new f3
   refine a65 (SqL.of (o4 _ _ z1 z2 e3)) hat ?_
   walk_at "r"
   obtain ⟨mb,hmb,emb⟩:=ac7 (r2:Int) (m:=mm) hm0
   rw [emb]
   walk_at "r"
   refine ⟨d,l,_,rfl,k4,by omega,fun r5 H5 hr5 o5 k5=>?_⟩
   walk_at "r"
   generalize hrich:decide ((r5:Int) % 3=0)=rb
   refine ⟨d,l,_,true,rfl,k5,by omega,fun pb sy H6 f6 e6 hsy o6 k6=>?_⟩
   walk_at "r"
   intro pc H7 f7 s7 e7
   walk_at "r"
   have o17:Off d l H1 H7:=o2.trans (s3.off.trans (o4.trans (o5.trans (o6.trans s7.off))))
   have hpe:=k.new f1
   have hpb:=k5.new f6
   have hpc:=k6.new f7
   have k7:=k6.same s7
   have e17:=o17 _ _ hpe.1 hpe.2 e1
   have hev7:Each (EvAt H7) us ets:=hev.mono fun v x h=>h.tups (o17.tups k1)
   have e67:=s7 _ _ e6
   have npe:pe≠pc:=fun z=>by rw [z] at e17; rw [e7] at e17; cases e17; exact absurd u0 (by simp)
   have npb:pb≠pc:=fun z=>by rw [z,f7] at e6; cases e6
   have kp7:Off d l H H7:=o1.trans o17
   have hk7:=kp7.free k7 (p:=pc)
   have fc:H pc=none:=by
    cases e:H pc with
    | none=>rfl
    | some o=>have:=(o1.trans (o2.trans (s3.off.trans (o4.trans (o5.trans o6))))) _ _ hpc.1 hpc.2 e; rw [f7] at this; cases this
   generalize hN:n1+1+1+1+1=N at k7
   rw [show (1+(mb:Int)).toNat=mb+1 by omega]
   obtain ⟨Pv,hPv⟩:∃ Pv:Nat→St→Hp→Prop,Pv=(fun i σ H'=>(∀ b o,b∉[d,l,pc]→H7 b=some o→H' b=some o)∧(∃ m,m≤N+i*20∧Deck H' d l m)∧(∃ rvs rs,H' pc=some (.lst rvs)∧rs.length=i∧Each (RoomAt (hds [d,l,pc] H')) rvs rs∧∀ r∈rs,r.2.length=us.length∧∀ x∈r.2,x.2<mb+1∧x.1.length≤2) ∧
    ∃ y6 y7 y8,σ=[some (.ref d),some (.ref pe),some (.int (1+(mb:Int))),some (.int (if rb then 1 else 0)),some (.ref pb),some (.ref pc),y6,y7,y8]):=⟨_,rfl⟩
   refine aa7 (lo:=0) (n:=mb+1) Pv (by rw [hPv]; exact ⟨fun _ _ _ e=>e,⟨N,by omega,k7⟩,⟨[],[],e7,rfl,Each.nil,by simp⟩,_,_,_,rfl⟩) ?_ ?_
   · intro i σ H8 hi hI
     rw [hPv] at hI
     obtain ⟨kp8,⟨m,hm,k8⟩,⟨rvs,rs,ec8,hrl,hrs,hro⟩,y6,y7,y8,rfl⟩:=hI
     rw [Int.zero_add]
     walk_at "r"
     refine ⟨d,l,m,rfl,k8,by omega,fun r9 H9 hr9 o9 k9=>?_⟩
     walk_at "r"
     have npe3:pe∉[d,l,pc]:=by simp [hpe.1,hpe.2,npe]
     have e9:=o9 _ _ hpe.1 hpe.2 (kp8 _ _ npe3 e17)
     have ec9:=o9 _ _ hpc.1 hpc.2 ec8
     generalize decide ((r9:Int) % 7=0)=ov
     have hin:d∈[d,l,pc]∧l∈[d,l,pc]:=by simp
     have new3:∀ {Hx:Hp}{p:Addr}{m:Nat},Deck Hx d l m→Hx pc=some (.lst rvs)→Hx p=none→p∉[d,l,pc]:=fun kx ex fx=>by
      have:=kx.new fx
      simp only [List.mem_cons,List.not_mem_nil,or_false,not_or]
      exact ⟨this.1,this.2,fun z=>by rw [z,ex] at fx; cases fx⟩
     refine ⟨⟨_,SqL.of e9⟩,a78 (xs:=us) (le_line (by omega)) (fun j acc H'=>j≤us.length∧acc.length=j∧Same H9 H'∧∃ rws:List RRow,Each (RowAt (hds [d,l,pc] H')) acc rws∧∀ x∈rws,x.2<mb+1∧x.1.length≤2) ⟨Nat.zero_le _,rfl,Same.refl _,[],Each.nil,by simp⟩ (fun j acc H' ⟨_,e,s',_⟩=>⟨by omega,SqL.of (s' _ _ e9)⟩) ?_ ?_⟩
     · rintro j x acc H10 hx ⟨hj,ea,s10,rws,h1,h2⟩
       walk_at "r"
       intro p11 H11 f11 s11 e11
       walk_at "r"
       intro p12 H12 f12 s12 e12
       have k10:=k9.same s10
       have n11:=new3 k10 (s10 _ _ ec9) f11
       have n12:=new3 (k10.same s11) (s11 _ _ (s10 _ _ ec9)) f12
       have sm:=aq8 hin.1 hin.2 (s11.trans s12).off (H:=H10) (H':=H12)
       refine ⟨(gS hx).1,by simp [ea],s10.trans (s11.trans s12),rws++[([],i)],(h1.mono fun v x h=>h.same sm).snoc ⟨p12,p11,rfl,a98 e12 n12,a98 (s12 _ _ e11) n11⟩,fun x hx=>?_⟩
       rcases gA hx with hx | hx
       · exact h2 x hx
       · rw [gG hx]
         exact ⟨hi,Nat.zero_le _⟩
     · rintro acc H10 ⟨_,ea,s10,rws,h1,h2⟩ p11 H11 f11 s11 e11
       have s911:=s10.trans s11
       have k11:=k9.same s911
       have n11:=new3 (k9.same s10) (s10 _ _ ec9) f11
       walk_at "r"
       refine at9 (fun σ' H'=>Off d l H9 H'∧(∃ m',m'≤m+20∧Deck H' d l m')∧∃ g ps rws,H' g=some (.lst ps)∧g∉[d,l,pc]∧Each (RowAt (hds [d,l,pc] H')) ps rws∧rws.length=us.length∧(∀ x∈rws,x.2<mb+1∧x.1.length≤2) ∧
        σ'=[some (.ref d),some (.ref pe),some (.int (1+(mb:Int))),some (.int (if rb then 1 else 0)),some (.ref pb),some (.ref pc),some (.int (i:Nat)),some (.bl ov),some (.ref g)]) ?_ ?_
       · walk_at "r"
         cases ov with
         | true =>
           refine ax5 ?_
           exact ⟨s911.off,⟨m+1,by omega,k11⟩,p11,acc,rws,e11,n11,h1.mono fun v x h=>h.same (aq8 hin.1 hin.2 s11.off),by rw [← h1.1,ea],h2,rfl⟩
         | false =>
           refine ax4 ?_
           walk_at "r"
           refine ⟨⟨_,SqL.of (s911 _ _ e9)⟩,a78 (xs:=us) (le_line (by omega)) (fun j acc H'=>j≤us.length∧acc.length=j∧Off d l H9 H'∧Deck H' d l (m+1+2*j)∧∃ rws:List RRow,Each (RowAt (hds [d,l,pc] H')) acc rws∧∀ x∈rws,x.2<mb+1∧x.1.length≤2) ⟨Nat.zero_le _,rfl,s911.off,k11,[],Each.nil,by simp⟩ (fun j acc H' ⟨_,e,o',_⟩=>⟨by omega,SqL.of (o' _ _ hpe.1 hpe.2 e9)⟩) ?_ ?_⟩
           · rintro j x acc H12 hx ⟨hj,ea,o12,k12,rws,h1,h2⟩
             have hj':=(gS hx).1
             walk_at "r"
             refine ⟨d,l,_,rb,rfl,k12,by omega,fun p13 ss H13 f13 e13 hss o13 k13=>?_⟩
             walk_at "r"
             refine ⟨d,l,_,rfl,k13,by omega,fun r14 H14 hr14 o14 k14=>?_⟩
             walk_at "r"
             obtain ⟨to,hto,eto⟩:=ac7 (r14:Int) (m:=mb+1) (by omega)
             rw [show (r14:Int) % (1+(mb:Int))=((to:Nat):Int) by rw [← eto]; congr 1; omega]
             walk_at "r"
             intro p15 H15 f15 s15 e15
             have ec12:=o12 _ _ hpc.1 hpc.2 ec9
             have ec14:=o14 _ _ hpc.1 hpc.2 (o13 _ _ hpc.1 hpc.2 ec12)
             have n13:=new3 k12 ec12 f13
             have n15:=new3 k14 ec14 f15
             have e13':=s15 _ _ (o14 _ _ (fun z=>n13 (by simp [z])) (fun z=>n13 (by simp [z])) e13)
             have sm:=aq8 hin.1 hin.2 (o13.trans (o14.trans s15.off)) (H:=H12) (H':=H15)
             refine ⟨hj',by simp [ea],o12.trans (o13.trans (o14.trans s15.off)),(k14.same s15),rws++[(ss,to)],(h1.mono fun v x h=>h.same sm).snoc ⟨p15,p13,rfl,a98 e15 n15,a98 e13' n13⟩,fun x hx=>?_⟩
             rcases gA hx with hx | hx
             · exact h2 x hx
             · rw [gG hx]
               exact ⟨hto,hss⟩
           · rintro acc H12 ⟨_,ea,o12,k12,rws,h1,h2⟩ p13 H13 f13 s13 e13
             have n13:=new3 k12 (o12 _ _ hpc.1 hpc.2 ec9) f13
             exact ⟨o12.trans s13.off,⟨_,by omega,k12.same s13⟩,p13,acc,rws,e13,n13,h1.mono fun v x h=>h.same (aq8 hin.1 hin.2 s13.off),by rw [← h1.1,ea],h2,rfl⟩
       · rintro σ' H12 ⟨o12,⟨m',hm',k12⟩,g,ps,rws,eg,ng,h1,hrw,h2,rfl⟩
         have ec12:=o12 _ _ hpc.1 hpc.2 ec9
         walk_at "r"
         refine ab2 (SqL.of ec12) ?_
         walk_at "r"
         intro p13 H13 f13 s13 e13
         walk_at "r"
         have n13:=new3 k12 ec12 f13
         have ec13:=s13 _ _ ec12
         have hl:rvs.length=i:=by rw [hrs.1,hrl]
         refine a64 ec13 (by omega) ?_
         rw [hPv]
         have sm:∀ {Hx:Hp},(∀ b o,b∉[d,l,pc]→Hx b=some o→H13 b=some o)→Same (hds [d,l,pc] Hx) (hds [d,l,pc] (upd H13 pc (.lst (rvs++[.ref p13])))):=fun hh=>aq7 (fun _ z=>z) fun b o hb e=>by
          rw [a04 (fun z=>hb (by simp [z]))]
          exact hh b o hb e
         have o813:∀ b o,b∉[d,l,pc]→H8 b=some o→H13 b=some o:=fun b o hb e=>s13 _ _ (o12 _ _ (fun z=>hb (by simp [z])) (fun z=>hb (by simp [z])) (o9 _ _ (fun z=>hb (by simp [z])) (fun z=>hb (by simp [z])) e))
         refine ⟨fun b o hb e=>?_,⟨m',by omega,?_⟩,⟨_,rs++[(ov,rws)],a28,by simp [hrl],(hrs.mono fun v x h=>h.same (sm o813)).snoc ⟨p13,g,ps,rfl,?_,?_,h1.mono fun v x h=>h.same (sm fun b o _ e=>s13 _ _ e)⟩,fun r hr=>?_⟩,_,_,_,rfl⟩
         · rw [a04 (fun z=>hb (by simp [z]))]
           exact o813 b o hb (kp8 b o hb e)
         · obtain ⟨ms,z,g1,g2,g3⟩:=(k12.same s13).ex
           exact ⟨ms,z,by rw [a04 hpc.1.symm]; exact g1,by rw [a04 hpc.2.symm]; exact g2,g3⟩
         · exact a98 (by rw [a04 (fun z=>n13 (by simp [z]))]; exact e13) n13
         · exact a98 (by rw [a04 (fun z=>ng (by simp [z]))]; exact s13 _ _ eg) ng
         · rcases gA hr with hr | hr
           · exact hro r hr
           · rw [gG hr]
             exact ⟨hrw,h2⟩
   · intro σ H8 hI
     rw [hPv] at hI
     obtain ⟨kp8,⟨m,hm,k8⟩,⟨rvs,rs,ec8,hrl,hrs,hro⟩,y6,y7,y8,rfl⟩:=hI
     walk_at "r"
     intro pt H9 f9 s9 e9
     have k9:=k8.same s9
     have hpt:=k8.new f9
     have o79:∀ b o,b∉[d,l,pc]→H7 b=some o→H9 b=some o:=fun b o hb e=>s9 _ _ (kp8 b o hb e)
     have t79:Tups H7 H9:=fun b ys e=>by
      obtain ⟨ms,z,g1,g2,_⟩:=k7.ex
      refine o79 b _ ?_ e
      simp only [List.mem_cons,List.not_mem_nil,or_false,not_or]
      exact ⟨ab1 e g1 (fun z=>nomatch z),ab1 e g2 (fun z=>nomatch z),ab1 e e7 (fun z=>nomatch z)⟩
     have two:∀ {x:Addr},x≠d∧x≠l→x∉[d,l]:=fun h=>by simp [h.1,h.2]
     have ev9:Each (EvAt (hds [d,l] H9)) us ets:=by
      refine hev7.mono fun v x h=>h.tups fun b ys e=>a98 (t79 _ _ e) ?_
      obtain ⟨ms,z,g1,g2,_⟩:=k7.ex
      exact two ⟨ab1 e g1 (fun z=>nomatch z),ab1 e g2 (fun z=>nomatch z)⟩
     refine q pt us ets rs sy H9 m ⟨⟨pe,pb,pc,rvs,a98 e9 (two hpt),a98 (o79 _ _ (by simp [hpe.1,hpe.2,npe]) e17) (two hpe),a98 (o79 _ _ (by simp [hpb.1,hpb.2,npb]) e67) (two hpb),a98 (s9 _ _ ec8) (two hpc),hrs.mono fun v x h=>h.same (aq7 (by simp) fun b o _ e=>s9 _ _ e)⟩,ev9⟩ ⟨⟨by omega,by omega,fun r hr=>⟨(hro r hr).1,fun x hx=>by have:=((hro r hr).2 x hx).1; omega⟩⟩,u0,u7,by omega,by omega⟩ ⟨hsy,fun r hr x hx=>((hro r hr).2 x hx).2⟩ (fun b o h1 h2 e=>?_) (by omega) k9
     refine s9 _ _ (kp8 b o ?_ (kp7 b o h1 h2 e))
     simp only [List.mem_cons,List.not_mem_nil,or_false,not_or]
     exact ⟨h1,h2,fun z=>by rw [z,fc] at e; cases e⟩
theorem TblAt.room {H:Hp}{c:Addr}{rvs:List V}{rs:List RRoom}{x:Nat}(h:Each (RoomAt H) rvs rs) (hx:x<rs.length):∃ q g ps,rvs[x]?=some (.ref q)∧H q=some (.tup [.bl (roomA rs x).1,.ref g])∧H g=some (.lst ps)∧Each (RowAt H) ps (roomA rs x).2:=by
 have e:rs[x]?=some (roomA rs x):=by unfold roomA; simp [hx]
 obtain ⟨v,h1,q,g,ps,rfl,h2,h3,h4⟩:=h.get e
 exact ⟨q,g,ps,h1,h2,h3,h4⟩
def LenAt (P:Params) (H:Hp) (a:Addr) (N:Nat) (dv:Pr→Option Nat) (sz:Nat):Prop:=∃ kvs,DtAt P H a kvs∧(∀ x∈kvs,∃ p:Pr,p.1<N∧p.2<N∧x.1=pairT p)∧(∀ p:Pr,valV kvs (pairT p)=(dv p).map fun n=>V.int (n:Nat))∧kvs.length=sz
theorem LenAt.same {P:Params}{H H':Hp}{a:Addr}{N:Nat}{dv:Pr→Option Nat}{sz:Nat}(h:LenAt P H a N dv sz) (s:Same H H'):LenAt P H' a N dv sz:=by
 obtain ⟨kvs,h1,h2⟩:=h
 exact ⟨kvs,ac5 h1 s,h2⟩
theorem ag8 {H:Hp}{rvs:List V}{rs:List RRoom}{many x j:Nat}(h:Each (RoomAt H) rvs rs) (ok:TblOk many rs) (hx:x<rs.length):∃ q g ps,rvs[x]?=some (.ref q)∧H q=some (.tup [.bl (roomA rs x).1,.ref g])∧H g=some (.lst ps)∧ps.length=many ∧
 ∀ j,j<many→∃ k sl,ps[j]?=some (.ref k)∧H k=some (.tup [.ref sl,.int ((rowA rs x j).2:Nat)])∧H sl=some (.lst (strsV (rowA rs x j).1))∧(rowA rs x j).2<rs.length:=by
 obtain ⟨q,g,ps,h1,h2,h3,h4⟩:=TblAt.room (c:=0) h hx
 have hm:roomA rs x∈rs:=by unfold roomA; simp [hx]
 obtain ⟨o1,o2⟩:=ok.rows _ hm
 refine ⟨q,g,ps,h1,h2,h3,by rw [h4.1,o1],fun j hj=>?_⟩
 have e:(roomA rs x).2[j]?=some (rowA rs x j):=by unfold rowA; simp [o1,hj]
 obtain ⟨v,g1,k,sl,rfl,g2,g3⟩:=h4.get e
 exact ⟨k,sl,g1,g2,g3,o2 _ (gI e)⟩
def bn7 (P:Params):Sp:=fun vs H Q _=>∃ (c a:Addr) (x y many sz:Nat) (rvs:List V) (rs:List RRoom) (dv:Pr→Option Nat),vs=[.ref c,.int (x:Nat),.int (y:Nat),.ref a]∧H c=some (.lst rvs)∧Each (RoomAt H) rvs rs∧TblOk many rs∧x<rs.length∧y<rs.length∧LenAt P H a rs.length dv sz ∧
 (∀ H',Same H H'→(∀ j m,¬ Cand rs many dv (x,y) j m)→Q .non H')∧(∀ H' j M,Same H H'→Cand rs many dv (x,y) j M→(∀ j m,Cand rs many dv (x,y) j m→M≤m)→Q (.int (M:Nat)) H')
theorem al1 (T:Txt K mg t):FnOk P w K mg base CX0 1 t.a__law_shortest t.fd__law_shortest ["rooms","one","other","lengths"] (bn7 w.params):=by
 refine T.F__law_shortest.ok sc_law_shortest (fun vs H Q E h=>?_) (fun cdv A outer s H vs Q E hr h=>?_)
 · obtain ⟨c,a,x,y,many,sz,rvs,rs,dv,rfl,_⟩:=h
   rfl
 · obtain ⟨c,a,x,y,many,sz,rvs,rs,dv,rfl,hc,hrs,ok,hx,hy,hD,q0,q1⟩:=h
   refine ⟨_,(@a02 _ _ _ _ _ (@a35 _ _ 4 _ _ _ _ sc_law_shortest.nd rfl (by walk_at "o") (@a42 _ _ _ _ (@a01 _)) (by rfl) (by walk_at "o"))
    (@a02 _ _ _ _ _ (@a74 _ _ _ _ _ _ _ _ PassesOwn.never rfl (c58 K rfl T.z_zip (@a00 _ _ _ _ _ (@a39 _ _ _ _ _ _ _ (a43 K) (@a39 _ _ _ _ _ _ _ (a30 K) (pv 0) (pv 1) (fun _ _=>rfl)) (@a09 _ _ _ _) (fun _ _=>rfl)) (@a00 _ _ _ _ _ (@a39 _ _ _ _ _ _ _ (a43 K) (@a39 _ _ _ _ _ _ _ (a30 K) (pv 0) (pv 2) (fun _ _=>rfl)) (@a09 _ _ _ _) (fun _ _=>rfl)) (@a01 _) (by rfl)) (by rfl))) (a79 K (n:=2) rfl (a32 (a06 (i:=5) sc_law_shortest.nd rfl (by walk_at "o")) (a32 (a06 (i:=6) sc_law_shortest.nd rfl (by walk_at "o")) (@a77 _)))) (@a07 _ _ _ (@ac8 _ _ _ _ _ _ _ _ (@a81 _ _ _ _ _ _ _ _ (bs3 K (by exact hr.units0)) (@a39 _ _ _ _ _ _ _ (a43 K) (pv 5) (@a09 _ _ _ _) (fun _ _=>rfl)) (@a39 _ _ _ _ _ _ _ (a43 K) (pv 6) (@a09 _ _ _ _) (fun _ _=>rfl)) (nomark _)) (@a07 _ _ _ (@a60 _ _ _ _ (@a99 _ K _ _ _ _ _ _ _ _ _ _ _ PySem.F.plainAttrs_list PySem.F.slot_list_append PySem.F.type_list_append a52 (pv 4) (@a00 _ _ _ _ _ (@a09 _ _ _ _) (@a01 _) (by rfl)) (by rfl) (by rfl) (by rfl) (by rfl) (by rfl) (by rfl)) (by rfl))) (@a07 _ _ _ (@ac8 _ _ _ _ _ _ _ _ (ai7 (c62 (P:=w.params) rfl (by exact hr.units) (@a46 _ _ _ _ _ (@a00 _ _ _ _ _ (@a39 _ _ _ _ _ _ _ (a43 K) (pv 5) (@a09 _ _ _ _) (fun _ _=>rfl)) (@a00 _ _ _ _ _ (@a39 _ _ _ _ _ _ _ (a43 K) (pv 6) (@a09 _ _ _ _) (fun _ _=>rfl)) (@a01 _) (by rfl)) (by rfl))) (pv 3))) (@a07 _ _ _ (@a60 _ _ _ _ (@a99 _ K _ _ _ _ _ _ _ _ _ _ _ PySem.F.plainAttrs_list PySem.F.slot_list_append PySem.F.type_list_append a52 (pv 4) (@a00 _ _ _ _ _ (@a90 _ _ _ _ _ _ _ _ aa2 (@a09 _ _ _ _) (bt2 (P:=w.params) rfl (by exact hr.units) (pv 3) (@a46 _ _ _ _ _ (@a00 _ _ _ _ _ (@a39 _ _ _ _ _ _ _ (a43 K) (pv 5) (@a09 _ _ _ _) (fun _ _=>rfl)) (@a00 _ _ _ _ _ (@a39 _ _ _ _ _ _ _ (a43 K) (pv 6) (@a09 _ _ _ _) (fun _ _=>rfl)) (@a01 _) (by rfl)) (by rfl))) (fun _ _=>rfl))) (@a01 _) (by rfl)) (by rfl) (by rfl) (by rfl) (by rfl) (by rfl) (by rfl)) (by rfl))) (@a91 _))))) (by intro _; rfl))
    (@a07 _ _ _ (@a73 _ _ _ _ (bu3 K (by rfl) (by rfl) (by rfl) T.z_min bo8 (@a00 _ _ _ _ _ (pv 4) (@a01 _) (by rfl)) (bq7 (@az6 _ _ _) bz3) (by rfl)))))),?_⟩
   have sl:(1000000:Nat)≤sizeLine:=le_line (Nat.le_refl _)
   have hm100:=ok.nm
   obtain ⟨qx,gx,psx,x1,x2,x3,x4,x5⟩:=ag8 (j:=0) hrs ok hx
   obtain ⟨qy,gy,psy,y1,y2,y3,y4,y5⟩:=ag8 (j:=0) hrs ok hy
   walk_at "go"
   intro ps H1 f1 s1 e1
   walk_at "r"
   refine a65 (SqL.of (s1 _ _ hc)) (a05 (j:=x) x1) ?_
   walk_at "r"
   refine a96 (SqT.of (s1 _ _ x2)) (a05 (j:=1) rfl) ?_
   walk_at "r"
   refine a65 (SqL.of (s1 _ _ hc)) (a05 (j:=y) y1) ?_
   walk_at "r"
   refine a96 (SqT.of (s1 _ _ y2)) (a05 (j:=1) rfl) ?_
   walk_at "r"
   refine ⟨gx,gy,rfl,⟨_,SqL.of (s1 _ _ x3)⟩,⟨_,SqL.of (s1 _ _ y3)⟩,bs7 (K:=K) (xs:=psx) (ys:=psy) (by rw [x4,y4]) (fun i σ H'=>Same H H'∧(∃ ns:List Int,H' ps=some (.lst (ns.map V.int))∧ns.length≤i∧∀ z:Int,z∈ns↔∃ j,j<i∧∃ m:Nat,z=(m:Nat)∧Cand rs many dv (x,y) j m)∧∃ z5 z6,σ=[some (.ref c),some (.int (x:Nat)),some (.int (y:Nat)),some (.ref a),some (.ref ps),z5,z6])
    ⟨s1,⟨[],e1,by simp,by simp⟩,_,_,rfl⟩ (fun i σ H' _ ⟨s',_⟩=>⟨SqL.of (s' _ _ x3),SqL.of (s' _ _ y3)⟩) ?_ ?_⟩
   · rintro i vx vy σ H2 qp H3 hvx hvy ⟨s2,⟨ns,e2,hnl,hns⟩,z5,z6,rfl⟩ s3 e3
     have hi:i<many:=by rw [← x4]; exact (gS hvx).1
     obtain ⟨kx,sx,c1,c2,c3,c4⟩:=x5 i hi
     obtain ⟨ky,sy,d1,d2,d3,d4⟩:=y5 i hi
     rw [hvx] at c1
     rw [hvy] at d1
     cases c1
     cases d1
     have s03:=s2.trans s3
     have e23:=s3 _ _ e2
     refine ae9 (SqT.of e3) rfl ?_
     walk_at "r"
     refine a96 (SqT.of (s03 _ _ c2)) (a05 (j:=0) rfl) ?_
     walk_at "r"
     refine a96 (SqT.of (s03 _ _ d2)) (a05 (j:=0) rfl) ?_
     walk_at "r"
     refine cc0 (SqL.of (s03 _ _ c3)) (SqL.of (s03 _ _ d3)) ?_
     walk_at "r"
     have app:∀ {H4:Hp}(m:Nat),Same H H4→H4 ps=some (.lst (ns.map V.int))→Cand rs many dv (x,y) i m→(∀ m',Cand rs many dv (x,y) i m'→m'=m)→Same H (upd H4 ps (.lst (ns.map V.int++[.int (m:Nat)]))) ∧
      ∃ ns':List Int,upd H4 ps (.lst (ns.map V.int++[.int (m:Nat)])) ps=some (.lst (ns'.map V.int))∧ns'.length≤i+1∧∀ z:Int,z∈ns'↔∃ j,j<i+1∧∃ m:Nat,z=(m:Nat)∧Cand rs many dv (x,y) j m:=by
      intro H4 m s4 e4 hcd hun
      refine ⟨fun b o e=>?_,ns++[(m:Int)],by rw [a28]; simp,by simp; omega,fun z=>?_⟩
      · rw [a04 (fun z=>by rw [z,f1] at e; cases e)]
        exact s4 _ _ e
      · rw [List.mem_append,hns,List.mem_singleton]
        constructor
        · rintro (⟨j,hj,m',h1,h2⟩ | rfl)
          · exact ⟨j,by omega,m',h1,h2⟩
          · exact ⟨i,by omega,m,rfl,hcd⟩
        · rintro ⟨j,hj,m',h1,h2⟩
          by_cases hji:j=i
          · subst hji
            exact .inr (by rw [h1,hun m' h2])
          · exact .inl ⟨j,by omega,m',h1,h2⟩
     by_cases hsd:SaidUn rs (x,y) i
     · refine at5 hsd ?_
       walk_at "r"
       refine ab2 (SqL.of e23) ?_
       walk_at "r"
       refine a64 e23 (by simp; omega) ?_
       obtain ⟨a1,a2⟩:=app (H4:=H3) 1 s03 e23 ⟨hi,.inl ⟨hsd,rfl⟩⟩ fun m' h=>by
        rcases h.2 with ⟨_,h⟩ | ⟨h,_⟩
        · exact h
        · exact absurd hsd h
       exact ⟨a1,a2,_,_,rfl⟩
     · have hse:(rowA rs x i).1=(rowA rs y i).1:=Classical.not_not.mp hsd
       refine at6 hse ?_
       walk_at "r"
       refine a96 (SqT.of (s03 _ _ c2)) (a05 (j:=1) rfl) ?_
       walk_at "r"
       refine a96 (SqT.of (s03 _ _ d2)) (a05 (j:=1) rfl) ?_
       walk_at "r"
       intro p4 H4 f4 s4 e4
       walk_at "r"
       have s04:=s03.trans s4
       obtain ⟨kvs,g1,g2,g3,g4⟩:=hD.same s04
       refine ⟨a,kvs,pairT (nextP rs (x,y) i),rfl,g1,PairAt.key ⟨p4,rfl,e4⟩,?_⟩
       rw [g3]
       cases hdv:dv (nextP rs (x,y) i) with
       | none =>
         refine ⟨false,rfl,ax5 ?_⟩
         refine ⟨s04,⟨ns,s4 _ _ e23,by omega,fun z=>(hns z).trans ⟨fun ⟨j,hj,h⟩=>⟨j,by omega,h⟩,fun ⟨j,hj,m,h1,h2⟩=>⟨j,?_,m,h1,h2⟩⟩⟩,_,_,rfl⟩
         have:j≠i:=fun z=>by
          subst z
          rcases h2.2 with ⟨h3,_⟩ | ⟨_,n,h3,_⟩
          · exact hsd h3
          · rw [hdv] at h3; cases h3
         omega
       | some n =>
         refine ⟨true,rfl,ax4 ?_⟩
         walk_at "r"
         refine ab2 (SqL.of (s4 _ _ e23)) ?_
         walk_at "r"
         refine a96 (SqT.of (s04 _ _ c2)) (a05 (j:=1) rfl) ?_
         walk_at "r"
         refine a96 (SqT.of (s04 _ _ d2)) (a05 (j:=1) rfl) ?_
         walk_at "r"
         intro p5 H5 f5 s5 e5
         walk_at "r"
         refine ⟨a,kvs,pairT (nextP rs (x,y) i),.int (n:Nat),rfl,ac5 g1 s5,PairAt.key ⟨p5,rfl,e5⟩,by rw [g3,hdv]; rfl,?_⟩
         walk_at "r"
         refine a64 (s5 _ _ (s4 _ _ e23)) (by simp; omega) ?_
         obtain ⟨a1,a2⟩:=app (H4:=H5) (1+n) (s04.trans s5) (s5 _ _ (s4 _ _ e23)) ⟨hi,.inr ⟨hsd,n,hdv,rfl⟩⟩ fun m' h=>by
          rcases h.2 with ⟨h,_⟩ | ⟨_,n',h1,h2⟩
          · exact absurd h hsd
          · rw [hdv] at h1; cases h1; exact h2
         rw [show ((1+n:Nat):Int)=1+(n:Int) by omega] at a1 a2
         exact ⟨a1,a2,_,_,rfl⟩
   · rintro σ H2 ⟨s2,⟨ns,e2,hnl,hns⟩,z5,z6,rfl⟩
     walk_at "r"
     unfold tMinD
     walk_at "r"
     rw [x4] at hns
     refine c74 (SqL.of e2) (fun h0=>?_) fun M hM hle=>?_
     · refine q0 H2 s2 fun j m hcd=>?_
       have:=(hns (m:Nat)).mpr ⟨j,hcd.1,m,rfl,hcd⟩
       rw [h0] at this
       simp at this
     · obtain ⟨j,hj,m,rfl,hcd⟩:=(hns M).mp hM
       refine q1 H2 j m s2 hcd fun j' m' hc'=>?_
       have:=hle _ ((hns (m':Nat)).mpr ⟨j',hc'.1,m',rfl,hc'⟩)
       omega
def pr (N i j:Nat) (p:Pr):Prop:=p.2<N∧(p.1<i∨(p.1=i∧p.2<j))
theorem ad6 {N i j:Nat}{p:Pr}(hj:j<N):pr N i (j+1) p↔pr N i j p∨p=(i,j):=by
 obtain ⟨a,b⟩:=p
 simp only [pr,Prod.mk.injEq]
 omega
theorem pr_row {N i:Nat}{p:Pr}:pr N i N p↔pr N (i+1) 0 p:=by
 obtain ⟨a,b⟩:=p
 simp only [pr]
 omega
theorem pr_end {N:Nat}{p:Pr}:pr N N 0 p↔p.1<N∧p.2<N:=by
 obtain ⟨a,b⟩:=p
 simp only [pr]
 omega
theorem c89 {N i j:Nat}:¬ pr N i j (i,j):=by
 simp only [pr]
 omega
section
variable {P:Params}{H:Hp}{a:Addr}{N sz:Nat}{dv:Pr→Option Nat}
theorem bx1 {kvs:List (Tr×V)}{t:Tr}(h:valV kvs t=none):∀ x∈kvs,x.1≠t:=by
 intro x hx e
 unfold valV at h
 rw [Option.map_eq_none_iff,List.find?_eq_none] at h
 have:=h x hx
 simp [e] at this
theorem b51 {kvs:List (Tr×V)}{t:Tr}{v:V}(h:valV kvs t=none):putK kvs t v=kvs++[(t,v)]:=by
 unfold putK
 rw [if_neg]
 intro z
 obtain ⟨x,hx,e⟩:=List.any_eq_true.mp z
 exact bx1 h x hx (of_decide_eq_true e)
theorem LenAt.put {H':Hp}{p:Pr}{n:Nat}{kvs:List (Tr×V)}(h2:∀ x∈kvs,∃ p:Pr,p.1<N∧p.2<N∧x.1=pairT p) (h3:∀ p:Pr,valV kvs (pairT p)=(dv p).map fun n=>V.int (n:Nat)) (h4:kvs.length=sz) (hp:p.1<N∧p.2<N) (hn:dv p=none)
 (g:DtAt P H' a (putK kvs (pairT p) (.int (n:Nat)))):LenAt P H' a N (fun q=>if q=p then some n else dv q) (sz+1):=by
 have hv:valV kvs (pairT p)=none:=by rw [h3,hn]; rfl
 refine ⟨_,g,?_,fun q=>?_,?_⟩
 · rw [b51 hv]
   intro x hx
   rcases gA hx with hx | hx
   · exact h2 x hx
   · rw [gG hx]
     exact ⟨p,hp.1,hp.2,rfl⟩
 · rw [ao8]
   dsimp only
   by_cases e:q=p
   · rw [if_pos (by rw [e]),if_pos e]
     rfl
   · rw [if_neg (fun z=>e (pairT_inj.mp z)),if_neg e]
     exact h3 q
 · rw [b51 hv]
   simp [h4]
def code (N:Nat):Tr→Nat
 | .tup [.int i,.int j]=>i.toNat*N+j.toNat
 | _=>0
theorem c90 {kvs:List (Tr×V)}(g:DtAt P H a kvs):(kvs.map (·.1)).Nodup:=by
 obtain ⟨m,rfl,_,_,e⟩:=g
 rw [List.map_map]
 exact e
theorem LenAt.le (h:LenAt P H a N dv sz):sz≤N*N:=by
 obtain ⟨kvs,g,h2,_,rfl⟩:=h
 have nd:=c90 g
 have:(kvs.map fun x=>code N x.1).Nodup:=by
  rw [List.nodup_iff_pairwise_ne,List.pairwise_map] at nd ⊢
  refine List.Pairwise.imp_of_mem (fun {x y} hx hy h e=>h ?_) nd
  obtain ⟨p,p1,p2,ep⟩:=h2 x hx
  obtain ⟨q,q1,q2,eq⟩:=h2 y hy
  rw [ep,eq] at e ⊢
  simp only [pairT,code,Int.toNat_natCast] at e
  have e1:p.1=q.1:=by
   have a1:(p.1*N+p.2) / N=p.1:=by rw [Nat.mul_comm,Nat.mul_add_div (by omega),Nat.div_eq_of_lt p2,Nat.add_zero]
   have a2:(q.1*N+q.2) / N=q.1:=by rw [Nat.mul_comm,Nat.mul_add_div (by omega),Nat.div_eq_of_lt q2,Nat.add_zero]
   rw [← a1,←a2,e]
  rw [pairT_inj]
  rw [e1] at e
  exact Prod.ext e1 (by omega)
 have:=pigeon (N*N) _ this fun k hk=>by
  obtain ⟨x,hx,rfl⟩:=List.mem_map.mp hk
  obtain ⟨p,p1,p2,ep⟩:=h2 x hx
  rw [ep]
  simp only [pairT,code,Int.toNat_natCast]
  have:(p.1+1)*N≤N*N:=Nat.mul_le_mul_right N p1
  rw [Nat.add_mul] at this
  omega
 simpa using this
theorem LenAt.nds (hN:N≤14) {kvs:List (Tr×V)}(g:DtAt P H a kvs) (h2:∀ x∈kvs,∃ p:Pr,p.1<N∧p.2<N∧x.1=pairT p):(kvs.map fun x=>x.1.hash P).Nodup:=bu2 hN (fun x hx=>by
 obtain ⟨p,p1,p2,e⟩:=h2 x hx
 exact ⟨p.1,p.2,p1,p2,e⟩) (c90 g)
theorem LenAt.keep {H':Hp}{f:Addr}{o:HO}(h:LenAt P H a N dv sz) (ne:a≠f) (tu:Tups H (upd H f o)):LenAt P (upd H f o) a N dv sz:=by
 obtain ⟨kvs,g,h2⟩:=h
 exact ⟨kvs,g.mono tu (a04 ne),h2⟩
end
def bx2 (P:Params):Sp:=fun vs H Q _=>∃ (c:Addr) (many:Nat) (rvs:List V) (rs:List RRoom),vs=[.ref c]∧H c=some (.lst rvs)∧Each (RoomAt H) rvs rs∧TblOk many rs∧rs.length≤14 ∧
 ∀ a dv sz H',H a=none→Same H H'→LenAt P H' a rs.length dv sz→(∀ p:Pr,p.1<rs.length→p.2<rs.length→∀ n,dv p=some n↔MinL rs many p n)→(∀ p:Pr,p.1<rs.length→p.2<rs.length→∀ n,dv p=some n→n≤196)→Q (.ref a) H'
theorem al5 (T:Txt K mg t):FnOk P w K mg base CX0 2 t.a__law_lengths t.fd__law_lengths ["rooms"] (bx2 w.params):=by
 have G__law_shortest:=al1 (P:=P) (w:=w) (base:=base) T
 refine T.F__law_lengths.ok sc_law_lengths (fun vs H Q E h=>?_) (fun cdv A outer s H vs Q E hr h=>?_)
 · obtain ⟨c,many,rvs,rs,rfl,_⟩:=h
   rfl
 · obtain ⟨c,many,rvs,rs,rfl,hc,hrs,ok,h14,q⟩:=h
   refine ⟨_,(@a02 _ _ _ _ _ (@a35 _ _ 1 _ _ _ _ sc_law_lengths.nd rfl (by walk_at "o") (@a44 _ _ _ _ _ _ _ _ _ (a95 K) (by rfl) T.z_len aa0 (@a00 _ _ _ _ _ (pv 0) (@a01 _) (by rfl)) (by decide) (by decide) (by rfl) (by rfl)) (by rfl) (by walk_at "o"))
    (@a02 _ _ _ _ _ (@a35 _ _ 2 _ _ _ _ sc_law_lengths.nd rfl (by walk_at "o") (ap6 w.params) (by rfl) (by walk_at "o"))
    (@a02 _ _ _ _ _ (@a74 _ _ _ _ _ _ _ _ PassesOwn.never rfl (a94 rfl T.z_range (@a00 _ _ _ _ _ (pv 1) (@a01 _) (by rfl))) (a06 (i:=3) sc_law_lengths.nd rfl (by walk_at "o")) (@a07 _ _ _ (@a74 _ _ _ _ _ _ _ _ PassesOwn.never rfl (a94 rfl T.z_range (@a00 _ _ _ _ _ (pv 1) (@a01 _) (by rfl))) (a06 (i:=4) sc_law_lengths.nd rfl (by walk_at "o")) (@a07 _ _ _ (@ac8 _ _ _ _ _ _ _ _ (@a81 _ _ _ _ _ _ _ _ c97 (@a39 _ _ _ _ _ _ _ (a43 K) (@a39 _ _ _ _ _ _ _ (a30 K) (pv 0) (pv 3) (fun _ _=>rfl)) (@a09 _ _ _ _) (fun _ _=>rfl)) (@a39 _ _ _ _ _ _ _ (a43 K) (@a39 _ _ _ _ _ _ _ (a30 K) (pv 0) (pv 4) (fun _ _=>rfl)) (@a09 _ _ _ _) (fun _ _=>rfl)) (nomark _)) (@a07 _ _ _ (bd3 (P:=w.params) rfl (by exact hr.units) (pv 2) (@a46 _ _ _ _ _ (@a00 _ _ _ _ _ (pv 3) (@a00 _ _ _ _ _ (pv 4) (@a01 _) (by rfl)) (by rfl))) (@a09 _ _ _ _) rfl)) (@a91 _))) (by intro _; rfl))) (by intro _; rfl))
    (@a02 _ _ _ _ _ (@a35 _ _ 5 _ _ _ _ sc_law_lengths.nd rfl (by walk_at "o") (@a09 _ _ _ _) (by rfl) (by walk_at "o"))
    (@a02 _ _ _ _ _ (@ag0 _ _ _ _ _ _ PassesOwn.never (@a81 _ _ _ _ _ _ _ _ bq1 (pv 5) (@a09 _ _ _ _) (nomark _)) (@a02 _ _ _ _ _ (@a35 _ _ 5 _ _ _ _ sc_law_lengths.nd rfl (by walk_at "o") (@a09 _ _ _ _) (by rfl) (by walk_at "o"))
     (@a02 _ _ _ _ _ (@a35 _ _ 6 _ _ _ _ sc_law_lengths.nd rfl (by walk_at "o") (@a48 _ _ _ _ _ _ _ _ _ (bm0 (P:=w.params) rfl) (by rfl) T.z_dict ax3 (@a00 _ _ _ _ _ (pv 2) (@a01 _) (by rfl)) (by decide) (by decide) (by rfl) (by rfl)) (by rfl) (by walk_at "o"))
     (@a02 _ _ _ _ _ (@a74 _ _ _ _ _ _ _ _ PassesOwn.never rfl (a94 rfl T.z_range (@a00 _ _ _ _ _ (pv 1) (@a01 _) (by rfl))) (a06 (i:=3) sc_law_lengths.nd rfl (by walk_at "o")) (@a07 _ _ _ (@a74 _ _ _ _ _ _ _ _ PassesOwn.never rfl (a94 rfl T.z_range (@a00 _ _ _ _ _ (pv 1) (@a01 _) (by rfl))) (a06 (i:=4) sc_law_lengths.nd rfl (by walk_at "o")) (@a07 _ _ _ (@ac8 _ _ _ _ _ _ _ _ (ai7 (ak0 (P:=w.params) rfl (by exact hr.units) (@a46 _ _ _ _ _ (@a00 _ _ _ _ _ (pv 3) (@a00 _ _ _ _ _ (pv 4) (@a01 _) (by rfl)) (by rfl))) (pv 2))) (@a02 _ _ _ _ _ (@a35 _ _ 7 _ _ _ _ sc_law_lengths.nd rfl (by walk_at "o") (@a41 _ _ _ _ _ _ _ _ _ _ _ _ _ _ _ _ G__law_shortest (hr.mono (by omega)) rfl T.m__law_shortest T.F__law_shortest.kp T.b__law_shortest .nil a82 (@a00 _ _ _ _ _ (pv 0) (@a00 _ _ _ _ _ (pv 3) (@a00 _ _ _ _ _ (pv 4) (@a00 _ _ _ _ _ (pv 2) (@a01 _) (by rfl)) (by rfl)) (by rfl)) (by rfl)) (by decide) (by rfl) (by rfl)) (by rfl) (by walk_at "o"))
      (@a07 _ _ _ (@ac8 _ _ _ _ _ _ _ _ (@a81 _ _ _ _ _ _ _ _ bk1 (pv 7) (@az6 _ _ _) (nomark _)) (@a02 _ _ _ _ _ (bd3 (P:=w.params) rfl (by exact hr.units) (pv 6) (@a46 _ _ _ _ _ (@a00 _ _ _ _ _ (pv 3) (@a00 _ _ _ _ _ (pv 4) (@a01 _) (by rfl)) (by rfl))) (pv 7) rfl)
       (@a07 _ _ _ (@a35 _ _ 5 _ _ _ _ sc_law_lengths.nd rfl (by walk_at "o") (@a90 _ _ _ _ _ _ _ _ aa2 (pv 5) (@a09 _ _ _ _)) (by rfl) (by walk_at "o")))) (@a91 _)))) (@a91 _))) (by intro _; rfl))) (by intro _; rfl))
     (@a07 _ _ _ (@a35 _ _ 2 _ _ _ _ sc_law_lengths.nd rfl (by walk_at "o") (pv 6) (by rfl) (by walk_at "o")))))))
    (@a07 _ _ _ (@a73 _ _ _ _ (pv 2)))))))),?_⟩
   have sl:(1000000:Nat)≤sizeLine:=le_line (Nat.le_refl _)
   have hl:rvs.length=rs.length:=hrs.1
   walk_at "go"
   refine ab0 (SqL.of hc) ?_
   rw [hl]
   walk_at "r"
   intro pa o1 f1 d1
   have s1:Same H (upd H pa o1):=Same.new f1
   have L1:LenAt w.params (upd H pa o1) pa rs.length (fun _=>none) 0:=⟨[],d1,by simp,fun p=>rfl,rfl⟩
   generalize upd H pa o1=H1 at s1 L1 d1
   clear d1
   have hN2:rs.length*rs.length≤196:=Nat.mul_le_mul h14 h14
   generalize hNN:rs.length=N at *
   walk_at "r"
   rw [Int.toNat_natCast]
   have room:∀ {H':Hp}{x:Nat},Same H H'→x<N→∃ q g,rvs[x]?=some (.ref q)∧H' q=some (.tup [.bl (roomA rs x).1,.ref g]):=fun s' hx=>by
    obtain ⟨q,g,ps,h1,h2,_⟩:=ag8 (j:=0) hrs ok (by rw [hNN]; exact hx)
    exact ⟨q,g,h1,s' _ _ h2⟩
   obtain ⟨Pv,hPv⟩:∃ Pv:Nat→Nat→St→Hp→Prop,Pv=(fun i j σ H'=>Same H H'∧(∃ dv sz,LenAt w.params H' pa N dv sz∧∀ p n,dv p=some n↔n=0∧pr N i j p∧(roomA rs p.1).1≠(roomA rs p.2).1)∧∃ y3 y4,σ=[some (.ref c),some (.int (N:Nat)),some (.ref pa),y3,y4,none,none,none]):=⟨_,rfl⟩
   refine aa7 (lo:=0) (n:=N) (fun i=>Pv i 0) (by rw [hPv]; exact ⟨s1,⟨_,_,L1,fun p n=>⟨(fun z=>nomatch z),fun ⟨_,z,_⟩=>by simp only [pr] at z; omega⟩⟩,_,_,rfl⟩) ?_ ?_
   · intro i σ H2 hi hI
     rw [hPv] at hI
     obtain ⟨s2,⟨dv,sz,La2,hdv⟩,y3,y4,rfl⟩:=hI
     rw [Int.zero_add]
     walk_at "r"
     rw [Int.toNat_natCast]
     obtain ⟨Pw,hPw⟩:∃ Pw:Nat→St→Hp→Prop,Pw=(fun j σ H'=>Same H H'∧(∃ dv sz,LenAt w.params H' pa N dv sz∧∀ p n,dv p=some n↔n=0∧pr N i j p∧(roomA rs p.1).1≠(roomA rs p.2).1)∧∃ y4,σ=[some (.ref c),some (.int (N:Nat)),some (.ref pa),some (.int (i:Nat)),y4,none,none,none]):=⟨_,rfl⟩
     refine aa7 (lo:=0) (n:=N) Pw (by rw [hPw]; exact ⟨s2,⟨dv,sz,La2,hdv⟩,_,rfl⟩) ?_ ?_
     · intro j σ H3 hj hI
       rw [hPw] at hI
       obtain ⟨s3,⟨dv,sz,L3,hdv⟩,y4,rfl⟩:=hI
       rw [Int.zero_add]
       obtain ⟨q1,g1,a1,a2⟩:=room s3 hi
       obtain ⟨q2,g2,b1,b2⟩:=room s3 hj
       walk_at "r"
       refine a65 (SqL.of (s3 _ _ hc)) (a05 (j:=i) a1) ?_
       walk_at "r"
       refine a96 (SqT.of a2) (a05 (j:=0) rfl) ?_
       walk_at "r"
       refine a65 (SqL.of (s3 _ _ hc)) (a05 (j:=j) b1) ?_
       walk_at "r"
       refine a96 (SqT.of b2) (a05 (j:=0) rfl) ?_
       walk_at "r"
       by_cases hf:(roomA rs i).1=(roomA rs j).1
       · refine at6 hf ?_
         rw [hPw]
         refine ⟨s3,⟨dv,sz,L3,fun p n=>(hdv p n).trans ?_⟩,_,rfl⟩
         constructor
         · rintro ⟨h1,h2,h3⟩
           exact ⟨h1,(ad6 hj).mpr (.inl h2),h3⟩
         · rintro ⟨h1,h2,h3⟩
           rcases (ad6 hj).mp h2 with h2 | rfl
           · exact ⟨h1,h2,h3⟩
           · exact absurd hf h3
       · refine at5 hf ?_
         walk_at "r"
         intro p4 H4 f4 s4 e4
         obtain ⟨kvs,k1,k2,k3,k4⟩:=L3.same s4
         have hsz:=(L3.same s4).le
         have hno:dv (i,j)=none:=by
          cases e:dv (i,j) with
          | none=>rfl
          | some n=>exact absurd ((hdv _ _).mp e).2.1 c89
         refine ⟨pa,kvs,pairT (i,j),rfl,k1,PairAt.key ⟨p4,rfl,e4⟩,by omega,fun o5 d5=>?_⟩
         obtain ⟨φ,ex⟩:=k1.ext
         rw [hPw]
         refine ⟨fun b o e=>?_,⟨_,_,LenAt.put k2 k3 k4 ⟨hi,hj⟩ hno (n:=0) d5,fun p n=>?_⟩,_,rfl⟩
         · rw [a04 (fun z=>by rw [z,f1] at e; cases e)]
           exact s4 _ _ (s3 _ _ e)
         · rw [ad6 hj]
           by_cases e:p=(i,j)
           · subst e
             rw [if_pos rfl]
             constructor
             · intro z
               cases z
               exact ⟨rfl,.inr rfl,hf⟩
             · rintro ⟨rfl,_⟩
               rfl
           · rw [if_neg e,hdv]
             simp only [e,or_false]
     · intro σ H3 hI
       rw [hPw] at hI
       obtain ⟨s3,⟨dv,sz,L3,hdv⟩,y4,rfl⟩:=hI
       rw [hPv]
       exact ⟨s3,⟨dv,sz,L3,fun p n=>by rw [hdv,pr_row]⟩,_,_,rfl⟩
   · intro σ H2 hI
     rw [hPv] at hI
     obtain ⟨s2,⟨dv0,sz0,La2,hdv0⟩,y3,y4,rfl⟩:=hI
     have R0:Rnd rs many N 0 dv0:=fun p h1 h2 n=>by
      rw [hdv0,pr_end]
      constructor
      · rintro ⟨rfl,_,h⟩
        exact ⟨MinL.zero.mpr h,Nat.le_refl _⟩
      · rintro ⟨h,hn⟩
        obtain rfl:n=0:=by omega
        exact ⟨rfl,⟨h1,h2⟩,MinL.zero.mp h⟩
     clear hPv hdv0
     walk_at "r"
     have hnx:∀ p:Pr,p.1<N→p.2<N→∀ j,j<many→(nextP rs p j).1<N∧(nextP rs p j).2<N:=fun p h1 h2 j hj=>by
      obtain ⟨_,_,_,_,_,_,_,g1⟩:=ag8 (j:=0) hrs ok (x:=p.1) (by rw [hNN]; exact h1)
      obtain ⟨_,_,_,_,_,_,_,g2⟩:=ag8 (j:=0) hrs ok (x:=p.2) (by rw [hNN]; exact h2)
      obtain ⟨_,_,_,_,_,e1⟩:=g1 j hj
      obtain ⟨_,_,_,_,_,e2⟩:=g2 j hj
      rw [hNN] at e1 e2
      exact ⟨e1,e2⟩
     obtain ⟨W,hW⟩:∃ W:Nat→St→Hp→Prop,W=(fun m σ H'=>Same H H'∧∃ (a:Addr) (dv:Pr→Option Nat) (sz k mo:Nat) (y3 y4 y6 y7:Option V),H a=none∧LenAt w.params H' a N dv sz∧Rnd rs many N k dv∧(mo=0→∀ p:Pr,p.1<N→p.2<N→∀ n,dv p=some n↔MinL rs many p n)∧m=2*(N*N - sz)+(if 0<mo then 1 else 0)∧mo≤196∧(0<mo→k≤sz)∧(∀ p:Pr,p.1<N→p.2<N→∀ n,dv p=some n→n≤sz) ∧
      σ=[some (.ref c),some (.int (N:Nat)),some (.ref a),y3,y4,some (.int (mo:Nat)),y6,y7]):=⟨_,rfl⟩
     refine aj5 W (2*(N*N - sz0)+1) (by rw [hW]; exact ⟨s2,pa,dv0,sz0,0,1,_,_,_,_,f1,La2,R0,(fun z=>absurd z (by decide)),rfl,by decide,(fun _=>Nat.zero_le _),(fun p h1 h2 n h=>by have:=((R0 p h1 h2 n).mp h).2; omega),rfl⟩) ?_
     intro m σ H3 hI
     rw [hW] at hI
     obtain ⟨s3,a,dv,sz,k,mo,y3,y4,y6,y7,fa,La3,R,hcl,hm,hmo,hk,hval,rfl⟩:=hI
     walk_at "r"
     refine ite2 (fun hw=>?_) (fun hw=>?_)
     · have hmo0:0<mo:=by have:=of_decide_eq_true hw; omega
       refine ⟨fun σ' H'=>∃ m',m'<m∧W m' σ' H',fun σ' H' z=>z,?_⟩
       walk_at "r"
       obtain ⟨kvs,k1,k2,k3,k4⟩:=La3
       refine bu0 k1 (fun x hx=>by
        obtain ⟨p,_,_,e⟩:=k2 x hx
        exact ⟨_,e⟩) (LenAt.nds h14 k1 k2) fun pf of ff df=>?_
       have s34:Same H3 (upd H3 pf of):=Same.new ff
       have La4:LenAt w.params (upd H3 pf of) a N dv sz:=LenAt.same ⟨kvs,k1,k2,k3,k4⟩ s34
       have Lf4:LenAt w.params (upd H3 pf of) pf N dv sz:=⟨kvs,df,k2,k3,k4⟩
       have nea:a≠pf:=by
        obtain ⟨φ,ex⟩:=k1.ext
        intro z
        rw [z,ff] at ex
        cases ex
       have fH:H pf=none:=s3.free ff
       have s04:=s3.trans s34
       generalize upd H3 pf of=H4 at s34 La4 Lf4 df s04
       clear df k1 k2 k3 k4 kvs
       walk_at "r"
       rw [Int.toNat_natCast]
       obtain ⟨Pv,hPv⟩:∃ Pv:Nat→Nat→St→Hp→Prop,Pv=(fun i j σ H'=>Same H H'∧LenAt w.params H' a N dv sz∧(∃ dw mo,LenAt w.params H' pf N dw (sz+mo)∧(∀ p n,dw p=some n↔dv p=some n∨(pr N i j p∧dv p=none∧MinL rs many p n∧n≤k+1))∧(mo=0→∀ p,pr N i j p→p.1<N→¬ MinL rs many p (k+1)) ∧
        ∃ y3 y4 y7,σ=[some (.ref c),some (.int (N:Nat)),some (.ref a),y3,y4,some (.int (mo:Nat)),some (.ref pf),y7])):=⟨_,rfl⟩
       refine aa7 (lo:=0) (n:=N) (fun i=>Pv i 0) (by rw [hPv]; exact ⟨s04,La4,dv,0,Lf4,fun p n=>⟨.inl,fun z=>z.elim (fun z=>z) fun ⟨z,_⟩=>by simp only [pr] at z; omega⟩,(fun _ p z=>by simp only [pr] at z; omega),_,_,_,rfl⟩) ?_ ?_
       · intro i σ H5 hi hI
         rw [hPv] at hI
         obtain ⟨s5,La5,dw,mo',Lf5,hdw,hmz,y3,y4,y7,rfl⟩:=hI
         rw [Int.zero_add]
         walk_at "r"
         rw [Int.toNat_natCast]
         obtain ⟨Pw,hPw⟩:∃ Pw:Nat→St→Hp→Prop,Pw=(fun j σ H'=>Same H H'∧LenAt w.params H' a N dv sz∧(∃ dw mo,LenAt w.params H' pf N dw (sz+mo)∧(∀ p n,dw p=some n↔dv p=some n∨(pr N i j p∧dv p=none∧MinL rs many p n∧n≤k+1))∧(mo=0→∀ p,pr N i j p→p.1<N→¬ MinL rs many p (k+1)) ∧
          ∃ y4 y7,σ=[some (.ref c),some (.int (N:Nat)),some (.ref a),some (.int (i:Nat)),y4,some (.int (mo:Nat)),some (.ref pf),y7])):=⟨_,rfl⟩
         refine aa7 (lo:=0) (n:=N) Pw (by rw [hPw]; exact ⟨s5,La5,dw,mo',Lf5,hdw,hmz,_,_,rfl⟩) ?_ ?_
         · intro j σ H6 hj hI
           rw [hPw] at hI
           obtain ⟨s6,La6,dw,mo',Lf6,hdw,hmz,y4,y7,rfl⟩:=hI
           rw [Int.zero_add]
           walk_at "r"
           intro p7 H7 f7 s7 e7
           walk_at "r"
           obtain ⟨kvs,k1,k2,k3,k4⟩:=La6.same s7
           refine ⟨a,kvs,pairT (i,j),rfl,k1,PairAt.key ⟨p7,rfl,e7⟩,?_⟩
           rw [k3]
           have La7:=La6.same s7
           have Lf7:=Lf6.same s7
           have s07:=s6.trans s7
           cases hdv:dv (i,j) with
           | some n =>
             refine ⟨false,rfl,ax5 ?_⟩
             rw [hPw]
             refine ⟨s07,La7,dw,mo',Lf7,fun p n'=>(hdw p n').trans ?_,fun z p hp hp1=>?_,_,_,rfl⟩
             · rw [ad6 hj]
               constructor
               · rintro (h | ⟨h1,h2⟩)
                 · exact .inl h
                 · exact .inr ⟨.inl h1,h2⟩
               · rintro (h | ⟨h1 | rfl,h2⟩)
                 · exact .inl h
                 · exact .inr ⟨h1,h2⟩
                 · rw [hdv] at h2; exact absurd h2.1 (by simp)
             · rcases (ad6 hj).mp hp with h | rfl
               · exact hmz z p h hp1
               · intro hM
                 obtain ⟨g1,g2⟩:=(R (i,j) hi hj n).mp hdv
                 have:=g1.one hM
                 omega
           | none =>
             refine ⟨true,rfl,ax4 ?_⟩
             walk_at "r"
             refine ⟨c,a,i,j,many,sz,rvs,rs,dv,rfl,s07 _ _ hc,hrs.mono (fun v x h=>h.same s07),ok,by rw [hNN]; exact hi,by rw [hNN]; exact hj,by rw [hNN]; exact La7,fun H8 s8 hno=>?_,fun H8 jj M s8 hcd hmin=>?_⟩
             · walk_at "r"
               refine at6 rfl ?_
               rw [hPw]
               have hz:=R.noCand hnx (p:=(i,j)) hi hj hdv hno
               refine ⟨s07.trans s8,La7.same s8,dw,mo',Lf7.same s8,fun p n'=>(hdw p n').trans ?_,fun z p hp hp1=>?_,_,_,rfl⟩
               · rw [ad6 hj]
                 constructor
                 · rintro (h | ⟨h1,h2⟩)
                   · exact .inl h
                   · exact .inr ⟨.inl h1,h2⟩
                 · rintro (h | ⟨h1 | rfl,h2⟩)
                   · exact .inl h
                   · exact .inr ⟨h1,h2⟩
                   · exact absurd ⟨h2.2.1,h2.2.2⟩ (hz n')
               · rcases (ad6 hj).mp hp with h | rfl
                 · exact hmz z p h hp1
                 · exact fun hM=>hz (k+1) ⟨hM,Nat.le_refl _⟩
             · walk_at "r"
               refine at5 (fun z=>nomatch z) ?_
               walk_at "r"
               intro p9 H9 f9 s9 e9
               obtain ⟨hM1,hM2⟩:=R.cand hnx hi hj hdv hcd hmin
               obtain ⟨kvf,l1,l2,l3,l4⟩:=(Lf7.same s8).same s9
               have hno:dw (i,j)=none:=by
                cases e:dw (i,j) with
                | none=>rfl
                | some n =>
                  rcases (hdw _ _).mp e with h | ⟨h,_⟩
                  · rw [hdv] at h; cases h
                  · exact absurd h c89
               have hsz:=((Lf7.same s8).same s9).le
               refine ⟨pf,kvf,pairT (i,j),rfl,l1,PairAt.key ⟨p9,rfl,e9⟩,by omega,fun o10 d10=>?_⟩
               obtain ⟨φ,ex⟩:=l1.ext
               have s09:=s07.trans (s8.trans s9)
               walk_at "r"
               rw [hPw]
               refine ⟨fun b o e=>?_,LenAt.keep (H':=H9) ((La7.same s8).same s9) nea (ag4 ex),_,mo'+1,LenAt.put l2 l3 l4 ⟨hi,hj⟩ hno (n:=M) d10,fun p n'=>?_,(fun z=>absurd z (by omega)),_,_,rfl⟩
               · rw [a04 (fun z=>by rw [z,fH] at e; cases e)]
                 exact s09 _ _ e
               · rw [ad6 hj]
                 by_cases e:p=(i,j)
                 · subst e
                   rw [if_pos rfl]
                   constructor
                   · intro z
                     cases z
                     exact .inr ⟨.inr rfl,hdv,hM1,hM2⟩
                   · rintro (h | ⟨_,_,h3,_⟩)
                     · rw [hdv] at h; cases h
                     · rw [hM1.one h3]
                 · rw [if_neg e,hdw]
                   simp only [e,or_false]
         · intro σ H6 hI
           rw [hPw] at hI
           obtain ⟨s6,La6,dw,mo',Lf6,hdw,hmz,y4,y7,rfl⟩:=hI
           rw [hPv]
           exact ⟨s6,La6,dw,mo',Lf6,fun p n=>by rw [hdw,pr_row],fun z p hp=>hmz z p (pr_row.mpr hp),_,_,_,rfl⟩
       · intro σ H5 hI
         rw [hPv] at hI
         obtain ⟨s5,La5,dw,mo',Lf5,hdw,hmz,y3,y4,y7,rfl⟩:=hI
         have hle:=Lf5.le
         walk_at "r"
         refine ⟨2*(N*N - (sz+mo'))+(if 0<mo' then 1 else 0),?_,?_⟩
         · rw [hm,if_pos hmo0]
           by_cases z:mo'=0
           · subst z
             simp
           · rw [if_pos (by omega)]
             omega
         · rw [hW]
           refine ⟨s5,pf,dw,sz+mo',k+1,mo',_,_,_,_,fH,Lf5,fun p h1 h2 n=>?_,fun z p h1 h2 n=>?_,rfl,by omega,fun z=>by have:=hk hmo0; omega,fun p h1 h2 n h=>?_,rfl⟩
           · rw [hdw,pr_end]
             constructor
             · rintro (h | ⟨_,_,h3,h4⟩)
               · obtain ⟨g1,g2⟩:=(R p h1 h2 n).mp h
                 exact ⟨g1,by omega⟩
               · exact ⟨h3,h4⟩
             · rintro ⟨g1,g2⟩
               cases e:dv p with
               | some n' =>
                 obtain ⟨g3,g4⟩:=(R p h1 h2 n').mp e
                 exact .inl (by rw [g1.one g3])
               | none=>exact .inr ⟨⟨h1,h2⟩,rfl,g1,g2⟩
           · have hd:=R.done hnx (fun p h1 h2=>hmz z p (pr_end.mpr ⟨h1,h2⟩) h1) h1 h2 n
             rw [hdw,←hd]
             constructor
             · rintro (h | ⟨_,h2',h3,h4⟩)
               · exact h
               · exact h3
             · exact .inl
           · have hk0:=hk hmo0
             rcases (hdw p n).mp h with h | ⟨g1,g2,g3,g4⟩
             · have:=hval p h1 h2 n h
               omega
             · by_cases z:mo'=0
               · have hn:n=k+1:=by
                  by_cases hnk:n≤k
                  · rw [(R p h1 h2 n).mpr ⟨g3,hnk⟩] at g2
                    cases g2
                  · omega
                 exact absurd (hn ▸ g3) (hmz z p g1 h1)
               · omega
     · have hmo0:mo=0:=by
        have:¬ (0<(mo:Int)):=fun z=>hw (decide_eq_true z)
        omega
       walk_at "r"
       exact q a dv sz H3 fa s3 La3 (hcl hmo0) fun p h1 h2 n h=>Nat.le_trans (hval p h1 h2 n h) (Nat.le_trans La3.le hN2)
theorem ah9 {α:Type}{f:α→Tw}{k:Nat}:∀ {l:List α},(∀ x∈l,(f x).h≤k)→Tw.hs (l.map f)≤k
 | [],_=>by simp [Tw.hs]
 | x::l,h=>by
   have h1:=h x List.mem_cons_self
   have h2:=ah9 (l:=l) fun y hy=>h y (List.mem_cons_of_mem _ hy)
   simp only [List.map_cons,Tw.hs]
   omega
theorem c91 (r:RRow):(rowW r).h≤3:=by
 have:=ah9 (f:=strW) (k:=0) (l:=r.1) fun x _=>by simp [strW,Tw.h]
 simp only [rowW,Tw.h,Tw.hs]
 omega
theorem bh8 (r:RRoom):(roomW r).h≤6:=by
 have:=ah9 (f:=rowW) (k:=3) (l:=r.2) fun x _=>c91 x
 simp only [roomW,Tw.h,Tw.hs]
 omega
theorem az4 {α:Type}{R:V→α→Prop}{G:Hp}{f:α→Tw}(h:∀ v x,R v x→∃ fs,(f x).At G v fs):∀ {xs:List α}{vs:List V},Each R vs xs→∃ fs,Tw.Ats G (xs.map f) vs fs
 | [],vs,e=>by
   obtain rfl:=List.length_eq_zero_iff.mp e.1
   exact ⟨[],by simp [Tw.Ats]⟩
 | x::xs,[],e=>by have:=e.1; simp at this
 | x::xs,v::vs,e=>by
   obtain ⟨f1,h1⟩:=h v x (e.2 0 v x rfl rfl)
   obtain ⟨f2,h2⟩:=az4 h (xs:=xs) (vs:=vs) ⟨by have:=e.1; simpa using this,fun i a b c d=>e.2 (i+1) a b c d⟩
   exact ⟨f1++f2,by
    simp only [List.map_cons,Tw.Ats]
    exact ⟨v,vs,f1,f2,rfl,rfl,h1,h2⟩⟩
theorem bx3 {G:Hp}{v:V}{r:RRoom}(h:RoomAt G v r):∃ fs,(roomW r).At G v fs:=by
 obtain ⟨q,g,ps,rfl,h1,h2,h3⟩:=h
 obtain ⟨fs,h4⟩:=az4 (f:=rowW) (fun v x hx=>by
  obtain ⟨k,sl,rfl,g1,g2⟩:=hx
  exact ⟨[sl],row_w.mpr ⟨k,sl,rfl,g1,g2,rfl⟩⟩) h3
 exact ⟨g::fs,room_w.mpr ⟨q,g,ps,fs,rfl,h1,h2,h4,rfl⟩⟩
theorem Tab.tw {G:Hp}{tt:Addr}{us:List V}{ets:List Tr}{rs:List RRoom}{sy:List Str}(h:Tab G tt us ets rs sy):∃ fs,(Tw.tup [.lst (toWs ets),.lst (sy.map strW),.lst (rs.map roomW)]).At G (.ref tt) fs:=by
 obtain ⟨a,b,c,rvs,h1,h2,h3,h4,h5⟩:=h.ex
 obtain ⟨fs,h6⟩:=az4 (f:=roomW) (fun v x hx=>bx3 hx) h5
 refine ⟨([a]++([b]++((c::fs)++[]))),?_⟩
 simp only [Tw.At,Tw.Ats]
 exact ⟨tt,_,rfl,h1,_,_,[a],_,rfl,rfl,⟨a,us,[],rfl,h2,ap9 (b50 h.ev).1,rfl⟩,_,_,[b],_,rfl,rfl,⟨b,_,[],rfl,h3,strs_w.mpr ⟨rfl,rfl⟩,rfl⟩,_,_,c::fs,[],rfl,rfl,⟨c,rvs,fs,rfl,h4,h6,rfl⟩,rfl,rfl⟩
theorem c92 {G:Hp}{us:List V}{ets:List Tr}{rs:List RRoom}{sy:List Str}(h:Each (EvAt G) us ets):Tw.hs [.lst (toWs ets),.lst (sy.map strW),.lst (rs.map roomW)]≤50:=by
 have h1:=(b50 h).2
 have h2:=ah9 (f:=strW) (k:=0) (l:=sy) fun x _=>by simp [strW,Tw.h]
 have h3:=ah9 (f:=roomW) (k:=6) (l:=rs) fun x _=>bh8 x
 simp only [Tw.hs,Tw.h,au4]
 omega
theorem bh9 {rs:List RRoom}{many:Nat}{dv:Pr→Option Nat}(hdv:∀ p:Pr,p.1<rs.length→p.2<rs.length→∀ n,dv p=some n↔MinL rs many p n) {f x:Nat}(hf:f<rs.length) (hx:x<rs.length):dv (f,x)=none↔clR rs many f=clR rs many x:=by
 rw [clR_eq,be9]
 constructor
 · rintro h ⟨u,h1,h2⟩
   obtain ⟨n,_,hm⟩:=MinL.of h1 h2
   rw [(hdv (f,x) hf hx n).mpr hm] at h
   cases h
 · intro h
   cases e:dv (f,x) with
   | none=>rfl
   | some n =>
     obtain ⟨w,h1,h2,_⟩:=((hdv (f,x) hf hx n).mp e).has
     exact absurd ⟨w,h1,h2⟩ h
noncomputable def smF (rs:List RRoom) (many:Nat) (F:List Nat) (x i:Nat):List Nat:=(List.range i).filter fun k=>decide (clR rs many (F.getD k 0)=clR rs many x)
theorem b52 (rs:List RRoom) (many:Nat) (F:List Nat) (x i:Nat):smF rs many F x (i+1)=smF rs many F x i++(if clR rs many (F.getD i 0)=clR rs many x then [i] else []):=by
 unfold smF
 rw [List.range_succ,List.filter_append,List.filter_cons,List.filter_nil]
 congr 1
 simp
theorem bi0 (rs:List RRoom) (many:Nat) (F:List Nat) (x i:Nat):(smF rs many F x i).length≤i:=by
 unfold smF
 have:=List.length_filter_le (fun k=>decide (clR rs many (F.getD k 0)=clR rs many x)) (List.range i)
 simpa using this
theorem smF_nil {rs:List RRoom}{many:Nat}{F:List Nat}{x:Nat}:smF rs many F x F.length=[]↔clR rs many x∉F.map (clR rs many):=by
 unfold smF
 rw [List.filter_eq_nil_iff]
 constructor
 · intro h z
   obtain ⟨f,hf,e⟩:=List.mem_map.mp z
   obtain ⟨k,hk,rfl⟩:=List.mem_iff_getElem.mp hf
   refine h k (List.mem_range.mpr hk) ?_
   rw [List.getD_eq_getElem?_getD,gE hk]
   exact decide_eq_true e
 · intro h k hk z
   have hk':=List.mem_range.mp hk
   rw [List.getD_eq_getElem?_getD,gE hk'] at z
   exact h (List.mem_map.mpr ⟨_,List.getElem_mem hk',of_decide_eq_true z⟩)
theorem bx4 {rs:List RRoom}{many q:Nat}(ok:TblOk many rs) (h0:0<rs.length) (hq:(FR rs many q).map (clR rs many)=mets ((fdR rs).map (clR rs many))) {x:Nat}(hx:x∈fdR rs):∃ lr,smF rs many (FR rs many q) x (FR rs many q).length=numOf rs many x::lr:=by
 have b:=af0 ok h0
 cases e:smF rs many (FR rs many q) x (FR rs many q).length with
 | nil =>
   exfalso
   refine smF_nil.mp e ?_
   rw [hq,a45]
   exact List.mem_map_of_mem hx
 | cons l lr =>
   refine ⟨lr,?_⟩
   have hm:l∈smF rs many (FR rs many q) x (FR rs many q).length:=by rw [e]; exact List.mem_cons_self
   unfold smF at hm
   obtain ⟨h1,h2⟩:=List.mem_filter.mp hm
   have hl:=List.mem_range.mp h1
   obtain ⟨f,hf⟩:∃ f,(FR rs many q)[l]?=some f:=⟨_,gE hl⟩
   rw [List.getD_eq_getElem?_getD,hf] at h2
   have h3:clR rs many f=clR rs many x:=of_decide_eq_true h2
   have h4:=(bg6 (many:=many) b.nd (b79 ok h0 q f (gI hf)) hx).mpr (clR_eq.mp h3)
   rw [bp3 ok h0 hq hf] at h4
   rw [h4]
theorem ar3 {cl:Nat→(Nat→Prop)}:∀ (ks F:List Nat),(addC cl F ks).length≤F.length+ks.length
 | [],F=>Nat.le_refl _
 | k::ks,F=>by
   have h:=ar3 (cl:=cl) ks (add1 cl F k)
   have h2:(add1 cl F k).length≤F.length+1:=by
    unfold add1
    split <;> simp
   show (addC cl (add1 cl F k) ks).length≤_
   simp only [List.length_cons]
   omega
theorem bi1 {rs:List RRoom}{many:Nat}(ok:TblOk many rs) (h0:0<rs.length) (n:Nat):∀ x∈FR rs many n,x<rs.length:=bn0 h0 (fun k hk=>(ac2 ok hk).2) n
theorem c93 {rs:List RRoom}{many:Nat}(ok:TblOk many rs) (h0:0<rs.length):∀ n,(FR rs many n).length≤1+n*many
 | 0=>by show 1≤_; omega
 | n+1=>by
   have h:=c93 ok h0 n
   have hm:(FR rs many n).getD n 0<rs.length:=by
    rw [List.getD_eq_getElem?_getD]
    cases e:(FR rs many n)[n]? with
    | none=>exact h0
    | some z=>exact bi1 ok h0 n z (gI e)
   have h2:=ar3 (cl:=clR rs many) (nxR rs ((FR rs many n).getD n 0)) (FR rs many n)
   rw [(ac2 ok hm).1] at h2
   refine Nat.le_trans h2 ?_
   rw [Nat.succ_mul]
   omega
noncomputable def nmS (rs:List RRoom) (many:Nat) (S:List Nat):List (Option Nat):=(List.range rs.length).map fun x=>if x∈S∨x=0 then some (numOf rs many x) else none
theorem al2 (rs:List RRoom) (many:Nat) (S:List Nat):(nmS rs many S).length=rs.length:=by simp [nmS]
theorem av8 {rs:List RRoom}{many x:Nat}{S:List Nat}(h:x<rs.length):(nmS rs many S)[x]?=some (if x∈S∨x=0 then some (numOf rs many x) else none):=by simp [nmS,h]
theorem bn8 {rs:List RRoom}{many:Nat}(ok:TblOk many rs) (h0:0<rs.length):(waysV (List.replicate rs.length none)).set 0 (.int 0)=waysV (nmS rs many []):=by
 have b:=af0 ok h0
 unfold waysV
 apply List.ext_getElem?
 intro k
 rw [List.getElem?_set]
 by_cases e:0=k
 · subst e
   rw [if_pos rfl,if_pos (by simp; exact h0),gM,av8 h0,if_pos (.inr rfl),ce1 b.nd]
   rfl
 · rw [if_neg e,gM,gM]
   by_cases hk:k<rs.length
   · rw [av8 hk,if_neg (by simp; omega),List.getElem?_replicate,if_pos hk]
   · rw [List.getElem?_eq_none (by simp; omega),List.getElem?_eq_none (by rw [al2]; omega)]
theorem bx5 {rs:List RRoom}{many x:Nat}{S:List Nat}(h:x<rs.length):(waysV (nmS rs many S)).set x (.int (numOf rs many x:Nat))=waysV (nmS rs many (S++[x])):=by
 unfold waysV
 apply List.ext_getElem?
 intro k
 rw [List.getElem?_set]
 by_cases e:x=k
 · subst e
   rw [if_pos rfl,if_pos (by simp [al2]; exact h),gM,av8 h,if_pos (by simp)]
   rfl
 · rw [if_neg e,gM,gM]
   by_cases hk:k<rs.length
   · rw [av8 hk,av8 hk]
     have:(k∈S++[x]∨k=0)↔(k∈S∨k=0):=by simp [Ne.symm e]
     simp only [this]
   · rw [List.getElem?_eq_none (by rw [al2]; omega),List.getElem?_eq_none (by rw [al2]; omega)]
theorem bx6 {rs:List RRoom}{many:Nat}:nmS rs many (fdR rs)=numR rs many:=by
 unfold nmS numR
 refine List.map_congr_left fun x _=>?_
 have h0:(0:Nat)∈fdR rs:=gI (b77 rs)
 by_cases h:x∈fdR rs
 · rw [if_pos (.inl h),if_pos h]
 · rw [if_neg (fun z=>z.elim h fun z=>h (z ▸ h0)),if_neg h]
theorem b53 {H:Hp}(l:List Nat):Tr.Ats H ((l.map fun n:Nat=>(n:Int)).map Tr.int) (natsV l) []:=by
 have e:natsV l=(l.map fun n:Nat=>(n:Int)).map V.int:=by
  unfold natsV
  rw [List.map_map]
  rfl
 rw [e]
 exact b07 _
theorem nats_mem {l:List Nat}{x:Nat}:Tr.int (x:Nat)∈(l.map fun n:Nat=>(n:Int)).map Tr.int↔x∈l:=by
 rw [List.map_map,List.mem_map]
 constructor
 · rintro ⟨y,hy,e⟩
   have:(y:Int)=x:=Tr.int.inj e
   rw [← Int.ofNat.inj this]
   exact hy
 · intro h
   exact ⟨x,h,rfl⟩
def bx7 (K:W.Frag) (P:Params):Sp:=fun vs H Q _=>∃ (tt e b c:Addr) (us rvs:List V) (sy:List Str) (rs:List RRoom),vs=[.ref tt]∧H tt=some (.tup [.ref e,.ref b,.ref c])∧H e=some (.lst us)∧H b=some (.lst (strsV sy))∧H c=some (.lst rvs)∧Each (RoomAt H) rvs rs∧TblOk us.length rs∧0<rs.length∧rs.length≤14 ∧
 ∀ pr pt pf pn fv gs H',Same H H'→H' pr=some (.tup [.ref pt,.ref pn])→H' pt=some (.tup [.ref e,.ref b,.ref pf])→H' pf=some (.lst fv)→Tw.Ats H' ((lstR rs us.length).map roomW) fv gs→H' pn=some (.lst (waysV (numR rs us.length)))→Q (.ref pr) H'
theorem b85 (T:Txt K mg t):FnOk P w K mg base CX0 3 t.a__law_due t.fd__law_due ["table"] (bx7 K w.params):=by
 have G__law_lengths:=al5 (P:=P) (w:=w) (base:=base) T
 refine T.F__law_due.ok sc_law_due (fun vs H Q E h=>?_) (fun cdv A outer s H vs Q E hr h=>?_)
 · obtain ⟨tt,e,b,c,us,rvs,sy,rs,rfl,_⟩:=h
   rfl
 · obtain ⟨tt,e,b,c,us,rvs,sy,rs,rfl,h1,h2,h3,h4,hE,ok,r0,r14,q⟩:=h
   refine ⟨_,(@a02 _ _ _ _ _ (@af9 _ _ _ _ _ _ (pv 0) (a79 K (n:=3) rfl (a32 (a06 (i:=1) sc_law_due.nd rfl (by walk_at "o")) (a32 (a06 (i:=2) sc_law_due.nd rfl (by walk_at "o")) (a32 (a06 (i:=3) sc_law_due.nd rfl (by walk_at "o")) (@a77 _))))) (by rfl) (by rfl) (by rfl))
    (@a02 _ _ _ _ _ (@a35 _ _ 4 _ _ _ _ sc_law_due.nd rfl (by walk_at "o") (@a41 _ _ _ _ _ _ _ _ _ _ _ _ _ _ _ _ G__law_lengths (hr.mono (by omega)) rfl T.m__law_lengths T.F__law_lengths.kp T.b__law_lengths .nil a82 (@a00 _ _ _ _ _ (pv 3) (@a01 _) (by rfl)) (by decide) (by rfl) (by rfl)) (by rfl) (by walk_at "o"))
    (@a02 _ _ _ _ _ (@a35 _ _ 5 _ _ _ _ sc_law_due.nd rfl (by walk_at "o") (@a42 _ _ _ _ (@a00 _ _ _ _ _ (@a09 _ _ _ _) (@a01 _) (by rfl))) (by rfl) (by walk_at "o"))
    (@a02 _ _ _ _ _ (@a35 _ _ 6 _ _ _ _ sc_law_due.nd rfl (by walk_at "o") (@a90 _ _ _ _ _ _ _ _ bk3 (@a42 _ _ _ _ (@a00 _ _ _ _ _ (@az6 _ _ _) (@a01 _) (by rfl))) (@a44 _ _ _ _ _ _ _ _ _ (a95 K) (by rfl) T.z_len aa0 (@a00 _ _ _ _ _ (pv 3) (@a01 _) (by rfl)) (by decide) (by decide) (by rfl) (by rfl))) (by rfl) (by walk_at "o"))
    (@a02 _ _ _ _ _ (@af9 _ _ _ _ _ _ (@a09 _ _ _ _) (al7 (pv 6) (@a09 _ _ _ _) ad9) (by rfl) (by rfl) (by rfl))
    (@a02 _ _ _ _ _ (@a35 _ _ 7 _ _ _ _ sc_law_due.nd rfl (by walk_at "o") (@a09 _ _ _ _) (by rfl) (by walk_at "o"))
    (@a02 _ _ _ _ _ (@ag0 _ _ _ _ _ _ PassesOwn.never (@a81 _ _ _ _ _ _ _ _ bq0 (pv 7) (@a44 _ _ _ _ _ _ _ _ _ (a95 K) (by rfl) T.z_len aa0 (@a00 _ _ _ _ _ (pv 5) (@a01 _) (by rfl)) (by decide) (by decide) (by rfl) (by rfl)) (nomark _)) (@a02 _ _ _ _ _ (@a74 _ _ _ _ _ _ _ _ PassesOwn.never rfl (a31 K (@a39 _ _ _ _ _ _ _ (a43 K) (@a39 _ _ _ _ _ _ _ (a30 K) (pv 3) (@a39 _ _ _ _ _ _ _ (a30 K) (pv 5) (pv 7) (fun _ _=>rfl)) (fun _ _=>rfl)) (@a09 _ _ _ _) (fun _ _=>rfl))) (a79 K (n:=2) rfl (a32 (a06 (i:=8) sc_law_due.nd rfl (by walk_at "o")) (a32 (a06 (i:=9) sc_law_due.nd rfl (by walk_at "o")) (@a77 _)))) (@a02 _ _ _ _ _ (ao9 (i:=10) (Nt:=["k"]) (Nf:=["firsts_v","there","lengths"]) (caps:=[5,9,4]) rfl (a47 (sc:=defScope a85) rfl rfl (by decide +kernel) (by decide +kernel) (by decide +kernel) rfl (by decide +kernel)) (a94 rfl T.z_range (@a00 _ _ _ _ _ (@a44 _ _ _ _ _ _ _ _ _ (a95 K) (by rfl) T.z_len aa0 (@a00 _ _ _ _ _ (pv 5) (@a01 _) (by rfl)) (by decide) (by decide) (by rfl) (by rfl)) (@a01 _) (by rfl))) (fun _ _ _ _ _=>(a06 (i:=0) (show (["k","firsts_v","there","lengths"]:List Str).Nodup by decide +kernel) rfl (by walk_at "o"))) (fun _ _ _ _ _=>(@aj2 _ _ _ (ai7 (ak0 (P:=w.params) rfl (by exact hr.units) (@a46 _ _ _ _ _ (@a00 _ _ _ _ _ (@a39 _ _ _ _ _ _ _ (a30 K) (pv 1) (pv 0) (fun _ _=>rfl)) (@a00 _ _ _ _ _ (pv 2) (@a01 _) (by rfl)) (by rfl))) (pv 3))))) (fun _ _ _ _ _=>(pv 0)) sc_law_due.nd rfl (by walk_at "o") rfl)
     (@a07 _ _ _ (@ac8 _ _ _ _ _ _ _ _ (@a81 _ _ _ _ _ _ _ _ (au0 K (by exact hr.units)) (pv 10) (@a42 _ _ _ _ (@a01 _)) (nomark _)) (@a07 _ _ _ (@a60 _ _ _ _ (@a99 _ K _ _ _ _ _ _ _ _ _ _ _ PySem.F.plainAttrs_list PySem.F.slot_list_append PySem.F.type_list_append a52 (pv 5) (@a00 _ _ _ _ _ (pv 9) (@a01 _) (by rfl)) (by rfl) (by rfl) (by rfl) (by rfl) (by rfl) (by rfl)) (by rfl))) (@a91 _)))) (by intro _; rfl))
     (@a07 _ _ _ (@a35 _ _ 7 _ _ _ _ sc_law_due.nd rfl (by walk_at "o") (@a90 _ _ _ _ _ _ _ _ aa2 (pv 7) (@a09 _ _ _ _)) (by rfl) (by walk_at "o")))))
    (@a02 _ _ _ _ _ (@a35 _ _ 11 _ _ _ _ sc_law_due.nd rfl (by walk_at "o") (@a42 _ _ _ _ (@a00 _ _ _ _ _ (@a09 _ _ _ _) (@a01 _) (by rfl))) (by rfl) (by walk_at "o"))
    (@a02 _ _ _ _ _ (@a35 _ _ 7 _ _ _ _ sc_law_due.nd rfl (by walk_at "o") (@a09 _ _ _ _) (by rfl) (by walk_at "o"))
    (@a02 _ _ _ _ _ (@ag0 _ _ _ _ _ _ PassesOwn.never (@a81 _ _ _ _ _ _ _ _ bq0 (pv 7) (@a44 _ _ _ _ _ _ _ _ _ (a95 K) (by rfl) T.z_len aa0 (@a00 _ _ _ _ _ (pv 11) (@a01 _) (by rfl)) (by decide) (by decide) (by rfl) (by rfl)) (nomark _)) (@a02 _ _ _ _ _ (ao9 (i:=10) (Nt:=["k"]) (Nf:=["firsts_v","ways","at","lengths"]) (caps:=[5,11,7,4]) rfl (a47 (sc:=defScope a85) rfl rfl (by decide +kernel) (by decide +kernel) (by decide +kernel) rfl (by decide +kernel)) (a94 rfl T.z_range (@a00 _ _ _ _ _ (@a44 _ _ _ _ _ _ _ _ _ (a95 K) (by rfl) T.z_len aa0 (@a00 _ _ _ _ _ (pv 5) (@a01 _) (by rfl)) (by decide) (by decide) (by rfl) (by rfl)) (@a01 _) (by rfl))) (fun _ _ _ _ _=>(a06 (i:=0) (show (["k","firsts_v","ways","at","lengths"]:List Str).Nodup by decide +kernel) rfl (by walk_at "o"))) (fun _ _ _ _ _=>(@aj2 _ _ _ (ai7 (ak0 (P:=w.params) rfl (by exact hr.units) (@a46 _ _ _ _ _ (@a00 _ _ _ _ _ (@a39 _ _ _ _ _ _ _ (a30 K) (pv 1) (pv 0) (fun _ _=>rfl)) (@a00 _ _ _ _ _ (@a39 _ _ _ _ _ _ _ (a30 K) (pv 2) (pv 3) (fun _ _=>rfl)) (@a01 _) (by rfl)) (by rfl))) (pv 4))))) (fun _ _ _ _ _=>(pv 0)) sc_law_due.nd rfl (by walk_at "o") rfl)
     (@a02 _ _ _ _ _ (@af9 _ _ _ _ _ _ (@a39 _ _ _ _ _ _ _ (a30 K) (pv 10) (@a09 _ _ _ _) (fun _ _=>rfl)) (al7 (pv 6) (@a39 _ _ _ _ _ _ _ (a30 K) (pv 11) (pv 7) (fun _ _=>rfl)) ad9) (by rfl) (by rfl) (by rfl))
     (@a02 _ _ _ _ _ (@a74 _ _ _ _ _ _ _ _ PassesOwn.never rfl (a31 K (@a39 _ _ _ _ _ _ _ (a43 K) (@a39 _ _ _ _ _ _ _ (a30 K) (pv 3) (@a39 _ _ _ _ _ _ _ (a30 K) (pv 11) (pv 7) (fun _ _=>rfl)) (fun _ _=>rfl)) (@a09 _ _ _ _) (fun _ _=>rfl))) (a79 K (n:=2) rfl (a32 (a06 (i:=8) sc_law_due.nd rfl (by walk_at "o")) (a32 (a06 (i:=9) sc_law_due.nd rfl (by walk_at "o")) (@a77 _)))) (@a07 _ _ _ (@ac8 _ _ _ _ _ _ _ _ (@a81 _ _ _ _ _ _ _ _ (am6 K (by exact hr.units)) (pv 9) (pv 11) (by with_unfolding_all rfl)) (@a07 _ _ _ (@a60 _ _ _ _ (@a99 _ K _ _ _ _ _ _ _ _ _ _ _ PySem.F.plainAttrs_list PySem.F.slot_list_append PySem.F.type_list_append a52 (pv 11) (@a00 _ _ _ _ _ (pv 9) (@a01 _) (by rfl)) (by rfl) (by rfl) (by rfl) (by rfl) (by rfl) (by rfl)) (by rfl))) (@a91 _))) (by intro _; rfl))
     (@a07 _ _ _ (@a35 _ _ 7 _ _ _ _ sc_law_due.nd rfl (by walk_at "o") (@a90 _ _ _ _ _ _ _ _ aa2 (pv 7) (@a09 _ _ _ _)) (by rfl) (by walk_at "o")))))))
    (@a02 _ _ _ _ _ (@a35 _ _ 12 _ _ _ _ sc_law_due.nd rfl (by walk_at "o") (@a42 _ _ _ _ (@a01 _)) (by rfl) (by walk_at "o"))
    (@a02 _ _ _ _ _ (@a74 _ _ _ _ _ _ _ _ PassesOwn.never rfl (a31 K (pv 5)) (a06 (i:=13) sc_law_due.nd rfl (by walk_at "o")) (@a07 _ _ _ (@a60 _ _ _ _ (@a99 _ K _ _ _ _ _ _ _ _ _ _ _ PySem.F.plainAttrs_list PySem.F.slot_list_append PySem.F.type_list_append a52 (pv 12) (@a00 _ _ _ _ _ (@a46 _ _ _ _ _ (@a00 _ _ _ _ _ (@a39 _ _ _ _ _ _ _ (a43 K) (@a39 _ _ _ _ _ _ _ (a30 K) (pv 3) (pv 13) (fun _ _=>rfl)) (@a09 _ _ _ _) (fun _ _=>rfl)) (@a00 _ _ _ _ _ (ab7 (Nt:=["said","there"]) (Nf:=["numbers"]) (caps:=[6]) rfl (a47 (sc:=defScope a85) rfl rfl (by decide +kernel) (by decide +kernel) (by decide +kernel) rfl (by decide +kernel)) (a31 K (@a39 _ _ _ _ _ _ _ (a43 K) (@a39 _ _ _ _ _ _ _ (a30 K) (pv 3) (pv 13) (fun _ _=>rfl)) (@a09 _ _ _ _) (fun _ _=>rfl))) (fun _ _ _ _ _=>(a79 K (n:=2) rfl (a32 (a06 (i:=0) (show (["said","there","numbers"]:List Str).Nodup by decide +kernel) rfl (by walk_at "o")) (a32 (a06 (i:=1) (show (["said","there","numbers"]:List Str).Nodup by decide +kernel) rfl (by walk_at "o")) (@a77 _))))) (fun _ _ _ _ _=>(@a55 _)) (fun _ _ _ _ _=>(@a46 _ _ _ _ _ (@a00 _ _ _ _ _ (@a48 _ _ _ _ _ _ _ _ _ (ab4 K) (by rfl) T.z_list aa9 (@a00 _ _ _ _ _ (pv 0) (@a01 _) (by rfl)) (by decide) (by decide) (by rfl) (by rfl)) (@a00 _ _ _ _ _ (@a39 _ _ _ _ _ _ _ (a30 K) (pv 2) (pv 1) (fun _ _=>rfl)) (@a01 _) (by rfl)) (by rfl))))) (@a01 _) (by rfl)) (by rfl))) (@a01 _) (by rfl)) (by rfl) (by rfl) (by rfl) (by rfl) (by rfl) (by rfl)) (by rfl))) (by intro _; rfl))
    (@a07 _ _ _ (@a73 _ _ _ _ (@a46 _ _ _ _ _ (@a00 _ _ _ _ _ (@a46 _ _ _ _ _ (@a00 _ _ _ _ _ (pv 1) (@a00 _ _ _ _ _ (pv 2) (@a00 _ _ _ _ _ (pv 12) (@a01 _) (by rfl)) (by rfl)) (by rfl))) (@a00 _ _ _ _ _ (pv 6) (@a01 _) (by rfl)) (by rfl))))))))))))))))),?_⟩
   have sl:(1000000:Nat)≤sizeLine:=le_line (Nat.le_refl _)
   have nm:=ok.nm
   have rl:rvs.length=rs.length:=hE.1
   walk_at "go"
   refine ae9 (SqT.of h1) rfl ?_
   walk_at "r"
   refine ⟨c,us.length,rvs,rs,rfl,h4,hE,ok,r14,fun d dv sz H1 f1 s1 hL hdv _=>?_⟩
   walk_at "r"
   intro pf H2 f2 s2 e2
   walk_at "r"
   intro p3 H3 f3 s3 e3
   walk_at "r"
   refine ab0 (SqL.of ((s1.trans (s2.trans s3)) _ _ h4)) ?_
   rw [rl]
   walk_at "r"
   refine bc6 e3 (by omega) ?_
   intro pn H4 f4 s4 e4
   walk_at "r"
   have s24:=s3.trans s4
   have s14:=s2.trans s24
   have fpf:H1 pf=none:=f2
   have fpn:H1 pn=none:=(s2.trans s3).free f4
   have npn:pf≠pn:=a08 (s3 _ _ e2) f4
   refine am4 e4 (j:=0) (by unfold ixN; rw [show (waysV (List.replicate rs.length none)).length=rs.length by simp [waysV],if_pos (by omega),if_pos (by omega)]; rfl) ?_
   rw [bn8 ok r0]
   have s15:Same H1 (upd H4 pn (.lst (waysV (nmS rs us.length [])))):=s14.updNew fpn
   have epf5:upd H4 pn (.lst (waysV (nmS rs us.length []))) pf=some (.lst (natsV (FR rs us.length 0))):=by rw [a04 npn]; exact s24 _ _ e2
   have epn5:upd H4 pn (.lst (waysV (nmS rs us.length []))) pn=some (.lst (waysV (nmS rs us.length []))):=a28
   generalize upd H4 pn (.lst (waysV (nmS rs us.length [])))=H5 at s15 epf5 epn5
   obtain ⟨q0,ql,qlt,qe⟩:=c85 ok r0
   have q14:q0≤14:=by
    have h1:=bh3 qe
    have h2:=(bh0 ok r0).1
    omega
   have hE1:=hE.mono fun v x (h:RoomAt H v x)=>h.same s1
   have h41:=s1 _ _ h4
   obtain ⟨kvs,hd,hkv1,hkv2,hkv3⟩:=hL
   have hval:∀ {f x:Nat},f<rs.length→x<rs.length→(clR rs us.length f=clR rs us.length x→valV kvs (pairT (f,x))=none)∧(clR rs us.length f≠clR rs us.length x→∃ n:Nat,valV kvs (pairT (f,x))=some (.int (n:Nat))):=fun {f x} hf hx=>⟨fun z=>by rw [hkv2,(bh9 hdv hf hx).mpr z]; rfl,fun z=>by
    cases e:dv (f,x) with
    | none=>exact absurd ((bh9 hdv hf hx).mp e) z
    | some n=>exact ⟨n,by rw [hkv2,e]; rfl⟩⟩
   walk_at "r"
   obtain ⟨W,hW⟩:∃ W:Nat→St→Hp→Prop,W=(fun m σ H'=>∃ n,m=q0 - n∧n≤q0∧Same H1 H'∧H' pf=some (.lst (natsV (FR rs us.length n)))∧H' pn=some (.lst (waysV (nmS rs us.length [])))∧∃ y8 y9 y10,σ=[some (.ref tt),some (.ref e),some (.ref b),some (.ref c),some (.ref d),some (.ref pf),some (.ref pn),some (.int (n:Nat)),y8,y9,y10,none,none,none]):=⟨_,rfl⟩
   refine aj5 W q0 (by rw [hW]; exact ⟨0,rfl,Nat.zero_le _,s15,epf5,epn5,_,_,_,rfl⟩) ?_
   intro m σ H' hI
   rw [hW] at hI
   obtain ⟨n,rfl,hnq,s',epf,epn,y8,y9,y10,rfl⟩:=hI
   walk_at "r"
   refine ab0 (SqL.of epf) ?_
   rw [a03]
   walk_at "r"
   by_cases hlt:n<q0
   · have hnl:=qlt n hlt
     rw [if_pos (decide_eq_true (by omega))]
     refine ⟨fun σ' H''=>W (q0 - (n+1)) σ' H'',fun σ' H'' h=>⟨_,by omega,h⟩,?_⟩
     obtain ⟨f,hf⟩:∃ f,(FR rs us.length n)[n]?=some f:=⟨_,gE hnl⟩
     have hfl:=bi1 ok r0 n f (gI hf)
     have hFn:FR rs us.length (n+1)=addC (clR rs us.length) (FR rs us.length n) (nxR rs f):=by
      show addC _ _ (nxR rs ((FR rs us.length n).getD n 0))=_
      rw [List.getD_eq_getElem?_getD,hf]
      rfl
     have hFb:=c93 ok r0 n
     have hnxl:=(ac2 ok hfl).1
     have hnb:n*us.length≤14*100:=Nat.mul_le_mul (by omega) nm
     obtain ⟨qx,g,ps,x1,x2,x3,x4,x5⟩:=ag8 (j:=0) hE1 ok hfl
     walk_at "r"
     refine a65 (SqL.of epf) (a05 (j:=n) (v:=.int (f:Nat)) (by unfold natsV; rw [gM,hf]; rfl)) ?_
     walk_at "r"
     refine a65 (SqL.of (s' _ _ h41)) (a05 (j:=f) x1) ?_
     walk_at "r"
     refine a96 (SqT.of (s' _ _ x2)) (a05 (j:=1) rfl) ?_
     walk_at "r"
     refine ⟨⟨_,SqL.of (s' _ _ x3)⟩,a76 (K:=K) (a:=g) (xs:=ps) (fun j σ H''=>j≤us.length∧Same H1 H''∧H'' pf=some (.lst (natsV (addC (clR rs us.length) (FR rs us.length n) ((nxR rs f).take j))))∧H'' pn=some (.lst (waysV (nmS rs us.length [])))∧∃ y8 y9 y10,σ=[some (.ref tt),some (.ref e),some (.ref b),some (.ref c),some (.ref d),some (.ref pf),some (.ref pn),some (.int (n:Nat)),y8,y9,y10,none,none,none]) ⟨Nat.zero_le _,s',epf,epn,_,_,_,rfl⟩ (fun j σ H'' _ ⟨_,s'',_⟩=>SqL.of (s'' _ _ x3)) ?_ ?_⟩
     · rintro j v σ H6 hv ⟨hj,s6,epf6,epn6,y8,y9,y10,rfl⟩
       have hj':j<us.length:=by rw [← x4]; exact (gS hv).1
       obtain ⟨k,sl0,z1,z2,z3,z4⟩:=x5 j hj'
       rw [hv] at z1
       cases z1
       have hnj:(nxR rs f)[j]?=some (rowA rs f j).2:=by rw [af5 ok hfl,gM,List.getElem?_range hj']; rfl
       have hal:=ar3 (cl:=clR rs us.length) ((nxR rs f).take j) (FR rs us.length n)
       rw [List.length_take] at hal
       have hFm:∀ y∈addC (clR rs us.length) (FR rs us.length n) ((nxR rs f).take j),y<rs.length:=ai6 (P:=fun y=>y<rs.length) _ _ (bi1 ok r0 n) fun y hy=>(ac2 ok hfl).2 y (List.mem_of_mem_take hy)
       have htk:addC (clR rs us.length) (FR rs us.length n) ((nxR rs f).take (j+1))=add1 (clR rs us.length) (addC (clR rs us.length) (FR rs us.length n) ((nxR rs f).take j)) (rowA rs f j).2:=by
        rw [List.take_add_one,hnj]
        exact bh1 _ _ _
       generalize (rowA rs f j).2=x at z2 z4 htk
       generalize addC (clR rs us.length) (FR rs us.length n) ((nxR rs f).take j)=F at epf6 hal hFm htk
       refine ae9 (SqT.of (s6 _ _ z2)) rfl ?_
       walk_at "r"
       refine ab0 (SqL.of epf6) ?_
       rw [a03]
       walk_at "r"
       rw [Int.toNat_natCast]
       refine ap0 (lo:=0) (n:=F.length) (by omega) (fun i acc H'=>i≤F.length∧Same H6 H'∧acc=natsV (smF rs us.length F x i)) ⟨Nat.zero_le _,Same.refl _,rfl⟩ (fun i acc H' ⟨_,_,e⟩=>by rw [e,a03]; exact bi0 _ _ _ _ _) ?_ ?_
       · rintro i acc H7 hi ⟨_,s7,rfl⟩
         rw [Int.zero_add]
         obtain ⟨y,hy⟩:∃ y,F[i]?=some y:=⟨_,gE hi⟩
         have hyl:=hFm y (gI hy)
         have hgd:F.getD i 0=y:=by rw [List.getD_eq_getElem?_getD,hy]; rfl
         rw [b52,hgd]
         walk_at "r"
         refine a65 (SqL.of (s7 _ _ epf6)) (a05 (j:=i) (v:=.int (y:Nat)) (by unfold natsV; rw [gM,hy]; rfl)) ?_
         walk_at "r"
         intro p8 H8 f8 s8 e8
         walk_at "r"
         have s68:=s7.trans s8
         refine ⟨d,kvs,pairT (y,x),rfl,ac5 hd (s6.trans s68),PairAt.key ⟨p8,rfl,e8⟩,?_⟩
         obtain ⟨v1,v2⟩:=hval hyl z4
         by_cases hc:clR rs us.length y=clR rs us.length x
         · rw [v1 hc]
           refine ⟨true,rfl,?_⟩
           rw [if_pos rfl,if_pos hc]
           walk_at "r"
           exact ⟨hi,s68,by simp [natsV]⟩
         · obtain ⟨nn,v2⟩:=v2 hc
           rw [v2]
           refine ⟨false,rfl,?_⟩
           rw [if_neg (by simp),if_neg hc]
           exact ⟨hi,s68,by simp⟩
       rintro acc H7 ⟨_,s7,rfl⟩ p8 H8 f8 s8 e8
       walk_at "r"
       intro p9 H9 f9 s9 e9
       refine bd5 (SqL.of (s9 _ _ e8)) (SqL.of e9) ?_
       walk_at "r"
       have s69:=s7.trans (s8.trans s9)
       have epf9:=s69 _ _ epf6
       have epn9:=s69 _ _ epn6
       rw [htk]
       unfold add1
       by_cases hc:clR rs us.length x∈F.map (clR rs us.length)
       · have hne:smF rs us.length F x F.length≠[]:=fun z=>smF_nil.mp z hc
         rw [if_neg (by cases h:smF rs us.length F x F.length with | nil=>exact absurd h hne | cons a b=>simp [natsV]),if_pos hc]
         walk_at "r"
         exact ⟨hj',s6.trans s69,epf9,epn9,_,_,_,rfl⟩
       · rw [if_pos (by rw [smF_nil.mpr hc]; rfl),if_neg hc]
         walk_at "r"
         refine ab2 (SqL.of epf9) ?_
         walk_at "r"
         refine a64 epf9 (by rw [a03]; omega) ?_
         refine ⟨hj',(s6.trans s69).updNew fpf,by rw [a28]; simp [natsV],by rw [a04 npn.symm]; exact epn9,_,_,_,rfl⟩
     rintro σ H6 ⟨_,s6,epf6,epn6,y8,y9,y10,rfl⟩
     rw [x4,List.take_of_length_le (by omega),←hFn] at epf6
     walk_at "r"
     rw [hW]
     exact ⟨n+1,rfl,hlt,s6,epf6,epn6,_,_,_,rfl⟩
   obtain rfl:n=q0:=by omega
   rw [if_neg (by rw [ql]; simp)]
   clear hW W
   walk_at "r"
   intro pw H7 f7 s7 e7
   walk_at "r"
   have npw1:pf≠pw:=a08 epf f7
   have npw2:pn≠pw:=a08 epn f7
   have f1pw:H1 pw=none:=s'.free f7
   have nx0:∀ k,k<rs.length→∀ j∈nxR rs k,j<rs.length:=fun k hk=>(ac2 ok hk).2
   obtain ⟨W,hW⟩:∃ W:Nat→St→Hp→Prop,W=(fun m σ H'=>∃ (p:Nat) (row:List Nat) (fuel:Nat),m=rs.length+1 - p∧bfs (nxR rs) fuel p row=fdR rs∧Bf (nxR rs) rs.length p row∧rs.length+1≤fuel+p∧Same H1 H'∧H' pf=some (.lst (natsV (FR rs us.length n)))∧H' pn=some (.lst (waysV (nmS rs us.length (row.take p))))∧H' pw=some (.lst (natsV row))∧∃ y8 y9 y10,σ=[some (.ref tt),some (.ref e),some (.ref b),some (.ref c),some (.ref d),some (.ref pf),some (.ref pn),some (.int (p:Nat)),y8,y9,y10,some (.ref pw),none,none]):=⟨_,rfl⟩
   refine aj5 W (rs.length+1) (by rw [hW]; exact ⟨0,[0],rs.length+1,rfl,rfl,⟨by simp,fun k hk=>by rw [gG hk]; exact r0,Nat.zero_le _,fun i k hi=>absurd hi (Nat.not_lt_zero _)⟩,by omega,s'.trans s7,s7 _ _ epf,s7 _ _ epn,e7,_,_,_,rfl⟩) ?_
   intro m σ H8 hI
   rw [hW] at hI
   obtain ⟨p,row,fuel,rfl,hbf,hB,hfu,s8,epf8,epn8,epw8,y8,y9,y10,rfl⟩:=hI
   have hfew:=hB.few
   have hFl:=ql
   walk_at "r"
   refine ab0 (SqL.of epw8) ?_
   rw [a03]
   walk_at "r"
   by_cases hlt:p<row.length
   · rw [if_pos (decide_eq_true (by omega))]
     refine ⟨fun σ' H''=>W (rs.length+1 - (p+1)) σ' H'',fun σ' H'' h=>⟨_,by omega,h⟩,?_⟩
     obtain ⟨x,hx⟩:∃ x,row[p]?=some x:=⟨_,gE hlt⟩
     have hxl:=hB.lt x (gI hx)
     have hxf:x∈fdR rs:=by
      obtain ⟨t',ht'⟩:=ay5 (nx:=nxR rs) fuel p row
      rw [← hbf,ht']
      exact List.mem_append_left _ (gI hx)
     have hxv:∀ {H':Hp},True→atI (natsV row) ((p:Nat):Int)=some (.int (x:Nat)):=fun _=>a05 (j:=p) (by unfold natsV; rw [gM,hx]; rfl)
     walk_at "r"
     refine ab0 (SqL.of epf8) ?_
     rw [a03]
     walk_at "r"
     rw [Int.toNat_natCast]
     refine ap0 (lo:=0) (n:=(FR rs us.length n).length) (by omega) (fun i acc H'=>i≤(FR rs us.length n).length∧Same H8 H'∧acc=natsV (smF rs us.length (FR rs us.length n) x i)) ⟨Nat.zero_le _,Same.refl _,rfl⟩ (fun i acc H' ⟨_,_,e⟩=>by rw [e,a03]; exact bi0 _ _ _ _ _) ?_ ?_
     · rintro i acc H9 hi ⟨_,s9,rfl⟩
       rw [Int.zero_add]
       obtain ⟨y,hy⟩:∃ y,(FR rs us.length n)[i]?=some y:=⟨_,gE hi⟩
       have hyl:=bi1 ok r0 n y (gI hy)
       have hgd:(FR rs us.length n).getD i 0=y:=by rw [List.getD_eq_getElem?_getD,hy]; rfl
       rw [b52,hgd]
       walk_at "r"
       refine a65 (SqL.of (s9 _ _ epf8)) (a05 (j:=i) (v:=.int (y:Nat)) (by unfold natsV; rw [gM,hy]; rfl)) ?_
       walk_at "r"
       refine a65 (SqL.of (s9 _ _ epw8)) (hxv (H':=H9) True.intro) ?_
       walk_at "r"
       intro p10 H10 f10 s10 e10
       walk_at "r"
       have s810:=s9.trans s10
       refine ⟨d,kvs,pairT (y,x),rfl,ac5 hd (s8.trans s810),PairAt.key ⟨p10,rfl,e10⟩,?_⟩
       obtain ⟨v1,v2⟩:=hval hyl hxl
       by_cases hc:clR rs us.length y=clR rs us.length x
       · rw [v1 hc]
         refine ⟨true,rfl,?_⟩
         rw [if_pos rfl,if_pos hc]
         walk_at "r"
         exact ⟨hi,s810,by simp [natsV]⟩
       · obtain ⟨nn,v2⟩:=v2 hc
         rw [v2]
         refine ⟨false,rfl,?_⟩
         rw [if_neg (by simp),if_neg hc]
         exact ⟨hi,s810,by simp⟩
     rintro acc H9 ⟨_,s9,rfl⟩ ps10 H10 f10 s10 e10
     obtain ⟨lr,hlr⟩:=bx4 ok r0 qe hxf
     rw [hlr] at e10
     walk_at "r"
     have s810:=s9.trans s10
     refine a65 (SqL.of e10) (a05 (j:=0) (v:=.int (numOf rs us.length x:Nat)) rfl) ?_
     walk_at "r"
     refine a65 (SqL.of (s810 _ _ epw8)) (hxv (H':=H9) True.intro) ?_
     walk_at "r"
     have epn10:=s810 _ _ epn8
     refine am4 epn10 (j:=x) (by unfold ixN; rw [show (waysV (nmS rs us.length (row.take p))).length=rs.length by simp [waysV,al2],if_pos (by omega),if_pos (by omega)]; simp) ?_
     rw [bx5 hxl]
     have htk:row.take p++[x]=row.take (p+1):=by rw [List.take_add_one,hx]; rfl
     rw [htk]
     have s11:Same H1 (upd H10 pn (.lst (waysV (nmS rs us.length (row.take (p+1)))))):=(s8.trans s810).updNew fpn
     have epn11:upd H10 pn (.lst (waysV (nmS rs us.length (row.take (p+1))))) pn=some (.lst (waysV (nmS rs us.length (row.take (p+1))))):=a28
     have epf11:upd H10 pn (.lst (waysV (nmS rs us.length (row.take (p+1))))) pf=some (.lst (natsV (FR rs us.length n))):=by rw [a04 npn]; exact s810 _ _ epf8
     have epw11:upd H10 pn (.lst (waysV (nmS rs us.length (row.take (p+1))))) pw=some (.lst (natsV row)):=by rw [a04 npw2.symm]; exact s810 _ _ epw8
     generalize upd H10 pn (.lst (waysV (nmS rs us.length (row.take (p+1)))))=H11 at s11 epn11 epf11 epw11
     obtain ⟨qx,g,ps,x1,x2,x3,x4,x5⟩:=ag8 (j:=0) hE1 ok hxl
     have hnxl:=(ac2 ok hxl).1
     walk_at "r"
     refine a65 (SqL.of epw11) (hxv (H':=H9) True.intro) ?_
     walk_at "r"
     refine a65 (SqL.of (s11 _ _ h41)) (a05 (j:=x) x1) ?_
     walk_at "r"
     refine a96 (SqT.of (s11 _ _ x2)) (a05 (j:=1) rfl) ?_
     walk_at "r"
     refine ⟨⟨_,SqL.of (s11 _ _ x3)⟩,a76 (K:=K) (a:=g) (xs:=ps) (fun j σ H''=>j≤us.length∧Same H1 H''∧H'' pf=some (.lst (natsV (FR rs us.length n)))∧H'' pn=some (.lst (waysV (nmS rs us.length (row.take (p+1)))))∧H'' pw=some (.lst (natsV (addAll row ((nxR rs x).take j))))∧∃ y8 y9 y10,σ=[some (.ref tt),some (.ref e),some (.ref b),some (.ref c),some (.ref d),some (.ref pf),some (.ref pn),some (.int (p:Nat)),y8,y9,y10,some (.ref pw),none,none]) ⟨Nat.zero_le _,s11,epf11,epn11,epw11,_,_,_,rfl⟩ (fun j σ H'' _ ⟨_,s'',_⟩=>SqL.of (s'' _ _ x3)) ?_ ?_⟩
     · rintro j v σ H12 hv ⟨hj,s12,epf12,epn12,epw12,y8,y9,y10,rfl⟩
       have hj':j<us.length:=by rw [← x4]; exact (gS hv).1
       obtain ⟨k,sl0,z1,z2,z3,z4⟩:=x5 j hj'
       rw [hv] at z1
       cases z1
       have hnj:(nxR rs x)[j]?=some (rowA rs x j).2:=by rw [af5 ok hxl,gM,List.getElem?_range hj']; rfl
       obtain ⟨_,hnd,hlt',_⟩:=aj6 hB.nd hB.lt ((nxR rs x).take j) fun y hy=>nx0 x hxl y (List.mem_of_mem_take hy)
       have hpg:=pigeon rs.length _ hnd hlt'
       have htk2:addAll row ((nxR rs x).take (j+1))=if (rowA rs x j).2∈addAll row ((nxR rs x).take j) then addAll row ((nxR rs x).take j) else addAll row ((nxR rs x).take j)++[(rowA rs x j).2]:=by
        rw [List.take_add_one,hnj]
        exact aa1 _ _ _
       generalize (rowA rs x j).2=y at z2 z4 htk2
       generalize addAll row ((nxR rs x).take j)=row2 at epw12 hpg htk2
       refine ae9 (SqT.of (s12 _ _ z2)) rfl ?_
       walk_at "r"
       refine b30 (t:=Tr.int (y:Nat)) bp0 (SqL.of epw12) (b53 row2) (by simp [Tr.h]) (by rw [ax6]; omega) ?_
       walk_at "r"
       by_cases hm:y∈row2
       · rw [if_pos hm] at htk2
         refine at6 (nats_mem.mpr hm) ?_
         walk_at "r"
         rw [htk2]
         exact ⟨hj',s12,epf12,epn12,epw12,_,_,_,rfl⟩
       · rw [if_neg hm] at htk2
         refine at5 (fun z=>hm (nats_mem.mp z)) ?_
         walk_at "r"
         refine ab2 (SqL.of epw12) ?_
         walk_at "r"
         refine a64 epw12 (by rw [a03]; omega) ?_
         rw [htk2]
         exact ⟨hj',s12.updNew f1pw,by rw [a04 npw1]; exact epf12,by rw [a04 npw2]; exact epn12,by rw [a28]; simp [natsV],_,_,_,rfl⟩
     rintro σ H12 ⟨_,s12,epf12,epn12,epw12,y8,y9,y10,rfl⟩
     rw [x4,List.take_of_length_le (by omega)] at epw12
     have hB2:=hB.step hx (nx0 x hxl)
     obtain ⟨tl',htl'⟩:=ac1 (nxR rs x) row
     have htk3:(addAll row (nxR rs x)).take (p+1)=row.take (p+1):=by rw [htl',List.take_append_of_le_length (by omega)]
     walk_at "r"
     rw [hW]
     cases fuel with
     | zero=>exact absurd (Nat.le_trans hB.le hfew) (by omega)
     | succ fuel =>
       rw [bc5 hx] at hbf
       exact ⟨p+1,addAll row (nxR rs x),fuel,rfl,hbf,hB2,by omega,s12,epf12,by rw [htk3]; exact epn12,epw12,_,_,_,rfl⟩
   rw [if_neg (by simp; omega)]
   have hpe:p=row.length:=by have:=hB.le; omega
   rw [ap4 (by omega)] at hbf
   rw [hpe,List.take_length,hbf,bx6] at epn8
   clear hW W
   walk_at "r"
   intro pd H9 f9 s9 e9
   walk_at "r"
   have epf9:=s9 _ _ epf8
   have epn9:=s9 _ _ epn8
   have s19:=s8.trans s9
   refine ⟨⟨_,SqL.of epf9⟩,a76 (K:=K) (a:=pf) (xs:=natsV (FR rs us.length n)) (fun i σ H'=>i≤(FR rs us.length n).length∧Same H8 H'∧(∃ acc gs,H' pd=some (.lst acc)∧acc.length=i∧Tw.Ats H' ((((FR rs us.length n).take i).map fun f=>rwR rs us.length (roomA rs f)).map roomW) acc gs∧∀ a∈gs,a≠pd)∧∃ y13,σ=[some (.ref tt),some (.ref e),some (.ref b),some (.ref c),some (.ref d),some (.ref pf),some (.ref pn),some (.int (p:Nat)),y8,y9,y10,some (.ref pw),some (.ref pd),y13]) ⟨Nat.zero_le _,s9,⟨[],[],e9,rfl,by simp [Tw.Ats],by simp⟩,_,rfl⟩ (fun i σ H' _ ⟨_,s',_⟩=>SqL.of (s' _ _ epf8)) ?_ ?_⟩
   · rintro i v σ H10 hv ⟨hi,s10,⟨acc,gs,epd10,hal,hat,hgs⟩,y13,rfl⟩
     obtain ⟨f,hf,rfl⟩:=a54 hv
     have hi':=(gS hf).1
     have hfl:=bi1 ok r0 n f (gI hf)
     have hfm:=b79 ok r0 n f (gI hf)
     have s110:=s8.trans s10
     obtain ⟨qx,g,ps,x1,x2,x3,x4,x5⟩:=ag8 (j:=0) hE1 ok hfl
     have hrl2:(roomA rs f).2.length=us.length:=(ok.rows _ (gI (ab6 hfl))).1
     walk_at "r"
     refine ab2 (SqL.of epd10) ?_
     walk_at "r"
     refine a65 (SqL.of (s110 _ _ h41)) (a05 (j:=f) x1) ?_
     walk_at "r"
     refine a96 (SqT.of (s110 _ _ x2)) (a05 (j:=0) rfl) ?_
     walk_at "r"
     refine a65 (SqL.of (s110 _ _ h41)) (a05 (j:=f) x1) ?_
     walk_at "r"
     refine a96 (SqT.of (s110 _ _ x2)) (a05 (j:=1) rfl) ?_
     walk_at "r"
     refine ⟨⟨_,SqL.of (s110 _ _ x3)⟩,ae0 (xs:=ps) (by omega) (fun j acc' H'=>j≤us.length∧acc'.length=j∧Same H10 H'∧∃ fs,Tw.Ats H' ((((roomA rs f).2.take j).map fun x=>(x.1,numOf rs us.length x.2)).map rowW) acc' fs∧∀ a∈fs,H10 a=none) ⟨Nat.zero_le _,rfl,Same.refl _,[],by simp [Tw.Ats],by simp⟩ (fun j acc' H' ⟨_,e,s',_⟩=>⟨by omega,SqL.of (s' _ _ (s110 _ _ x3))⟩) ?_ ?_⟩
     · rintro j v acc' H11 hv ⟨hj,ea,s11,fs,hat',hfs⟩
       have hj':j<us.length:=by rw [← x4]; exact (gS hv).1
       obtain ⟨k,sl0,z1,z2,z3,z4⟩:=x5 j hj'
       rw [hv] at z1
       cases z1
       have s111:=s110.trans s11
       have hym:=ak8 ok r0 hfm hj'
       have hvn:=b46 (ay6 (many:=us.length) z4)
       rw [if_pos hym] at hvn
       refine ⟨k,_,_,rfl,SqT.of (s111 _ _ z2),?_⟩
       walk_at "r"
       refine ad1 (SqL.of (s111 _ _ z3)) ?_
       intro p12 H12 f12 s12 e12
       walk_at "r"
       refine a65 (SqL.of ((s10.trans (s11.trans s12)) _ _ epn8)) (a05 hvn) ?_
       walk_at "r"
       intro p13 H13 f13 s13 e13
       refine ⟨hj',by simp [ea],s11.trans (s12.trans s13),fs++[p12],?_,fun a ha=>?_⟩
       · rw [List.take_add_one,(ah4 ok hfl hj').2.2,Option.toList_some,List.map_append,List.map_append]
         exact (hat'.same (s12.trans s13)).snoc (row_w.mpr ⟨p13,p12,rfl,e13,s13 _ _ e12,rfl⟩)
       · rcases gA ha with ha | ha
         · exact hfs a ha
         · rw [gG ha]
           exact s11.free f12
     rintro acc' H11 ⟨_,ea,s11,fs,hat',hfs⟩ pl12 H12 f12 s12 e12
     rw [x4,List.take_of_length_le (by omega)] at hat'
     walk_at "r"
     intro p13 H13 f13 s13 e13
     walk_at "r"
     have s1013:=s11.trans (s12.trans s13)
     have epd13:=s1013 _ _ epd10
     refine a64 epd13 (by omega) ?_
     have hgn:∀ a∈gs++(pl12::fs),a≠pd:=fun a ha z=>by
      rcases gA ha with ha | ha
      · exact hgs a ha z
      · rcases List.mem_cons.mp ha with rfl | ha
        · rw [z,s11 _ _ epd10] at f12
          cases f12
        · have:=hfs a ha
          rw [z,epd10] at this
          cases this
     have tu:Tups H13 (upd H13 pd (.lst (acc++[.ref p13]))):=Tups.upd epd13
     refine ⟨hi',(s10.trans s1013).updNew f9,⟨acc++[.ref p13],gs++(pl12::fs),a28,by simp [hal],?_,hgn⟩,_,rfl⟩
     rw [List.take_add_one,hf,Option.toList_some,List.map_append,List.map_append]
     exact Tw.Ats.mono (Tw.Ats.snoc (hat.same s1013) (room_w.mpr ⟨p13,pl12,acc',fs,rfl,e13,s13 _ _ e12,hat'.same (s12.trans s13),rfl⟩)) ⟨tu,fun a ha xs e=>by rw [a04 (hgn a ha)]; exact e⟩
   rintro σ H10 ⟨_,s10,⟨acc,gs,epd10,hal,hat,hgs⟩,y13,rfl⟩
   rw [a03,List.take_length,c86 ok r0 qe] at hat
   walk_at "r"
   intro p11 H11 f11 s11 e11
   walk_at "r"
   intro p12 H12 f12 s12 e12
   have s1012:=s11.trans s12
   exact q p12 p11 pd pn acc gs H12 (s1.trans (s8.trans (s10.trans s1012))) e12 (s12 _ _ e11) (s1012 _ _ epd10) (hat.same s1012) ((s10.trans s1012) _ _ epn8)
theorem ar4 {H:Hp}:∀ {rows:List RRow}{ps:List V}{fs:List Addr},Tw.Ats H (rows.map rowW) ps fs→Each (fun (v:V) (sl:Addr)=>∃ k n,v=.ref k∧H k=some (.tup [.ref sl,.int n])) ps fs
 | [],ps,fs,h=>by
   simp only [List.map_nil,Tw.Ats] at h
   rw [h.1,h.2]
   exact .nil
 | r::rows,ps,fs,h=>by
   simp only [List.map_cons,Tw.Ats] at h
   obtain ⟨v,ws,f,g,rfl,rfl,h1,h2⟩:=h
   obtain ⟨k,sl,rfl,e1,_,rfl⟩:=row_w.mp h1
   have h3:=ar4 h2
   refine ⟨by simp [h3.1],fun i a b x y=>?_⟩
   cases i with
   | zero =>
     cases x
     cases y
     exact ⟨k,_,rfl,e1⟩
   | succ i=>exact h3.2 i a b x y
theorem av9 {H:Hp}:∀ {rs:List RRoom}{vs:List V}{gs:List Addr},Tw.Ats H (rs.map roomW) vs gs→∃ gss:List (List Addr),gs=gss.flatten∧Each (fun (v:V) (f:List Addr)=>∃ q g ps sls bo,v=.ref q∧H q=some (.tup [.bl bo,.ref g])∧H g=some (.lst ps)∧f=g::sls∧Each (fun (v:V) (sl:Addr)=>∃ k n,v=.ref k∧H k=some (.tup [.ref sl,.int n])) ps sls) vs gss
 | [],ps,fs,h=>by
   simp only [List.map_nil,Tw.Ats] at h
   rw [h.1,h.2]
   exact ⟨[],rfl,.nil⟩
 | r::rows,ps,fs,h=>by
   simp only [List.map_cons,Tw.Ats] at h
   obtain ⟨v,ws,f,g,rfl,rfl,h1,h2⟩:=h
   obtain ⟨q,g0,ps0,gs0,rfl,e1,e2,e3,rfl⟩:=room_w.mp h1
   obtain ⟨gss,rfl,h3⟩:=av9 h2
   refine ⟨(g0::gs0)::gss,rfl,by simp [h3.1],fun i a b x y=>?_⟩
   cases i with
   | zero =>
     cases x
     cases y
     exact ⟨q,g0,ps0,gs0,_,rfl,e1,e2,rfl,ar4 e3⟩
   | succ i=>exact h3.2 i a b x y
theorem ao0 {H:Hp}:∀ {rows:List RRow}{ps:List V}{fs:List Addr},Tw.Ats H (rows.map rowW) ps fs→(∀ x∈rows,x.1.length≤50)→∀ a∈fs,∃ xs,H a=some (.lst xs)∧xs.length≤50
 | [],ps,fs,h,_,a,ha=>by
   simp only [List.map_nil,Tw.Ats] at h
   rw [h.2] at ha
   cases ha
 | r::rows,ps,fs,h,hx,a,ha=>by
   simp only [List.map_cons,Tw.Ats] at h
   obtain ⟨v,ws,f,g,rfl,rfl,h1,h2⟩:=h
   obtain ⟨k,sl,rfl,_,e2,rfl⟩:=row_w.mp h1
   rcases gA ha with ha | ha
   · rw [gG ha]
     exact ⟨_,e2,by have:=hx r List.mem_cons_self; simpa [strsV] using this⟩
   · exact ao0 h2 (fun x hx'=>hx x (List.mem_cons_of_mem _ hx')) a ha
theorem al3 {H:Hp}:∀ {rs:List RRoom}{vs:List V}{fs:List Addr},Tw.Ats H (rs.map roomW) vs fs→(∀ r∈rs,r.2.length≤50∧∀ x∈r.2,x.1.length≤50)→∀ a∈fs,∃ xs,H a=some (.lst xs)∧xs.length≤50
 | [],ps,fs,h,_,a,ha=>by
   simp only [List.map_nil,Tw.Ats] at h
   rw [h.2] at ha
   cases ha
 | r::rows,ps,fs,h,hx,a,ha=>by
   simp only [List.map_cons,Tw.Ats] at h
   obtain ⟨v,ws,f,g,rfl,rfl,h1,h2⟩:=h
   obtain ⟨q,g0,ps0,gs0,rfl,e1,e2,e3,rfl⟩:=room_w.mp h1
   obtain ⟨hr1,hr2⟩:=hx r List.mem_cons_self
   rcases gA ha with ha | ha
   · rcases List.mem_cons.mp ha with rfl | ha
     · exact ⟨_,e2,by rw [e3.len,gL]; exact hr1⟩
     · exact ao0 e3 hr2 a ha
   · exact al3 h2 (fun x hx'=>hx x (List.mem_cons_of_mem _ hx')) a ha
def bi2 (K:W.Frag):Sp:=fun vs H Q _=>∃ (c:Addr) (rvs:List V) (rs:List RRoom) (many:Nat),vs=[.ref c]∧H c=some (.lst rvs)∧Each (RoomAt H) rvs rs∧TblOk many rs∧∀ l acc H',Same H H'→H' l=some (.lst acc)→Each (RoomAt H') acc rs→Q (.ref l) H'
theorem ar5 (T:Txt K mg t):FnOk P w K mg base CX0 1 t.a__law_copied t.fd__law_copied ["rooms"] (bi2 K):=by
 refine T.F__law_copied.ok sc_law_copied (fun vs H Q E h=>?_) (fun cdv A outer s H vs Q E hr h=>?_)
 · obtain ⟨c,rvs,rs,many,rfl,_⟩:=h
   rfl
 · obtain ⟨c,rvs,rs,many,rfl,hc,hE,ok,q⟩:=h
   refine ⟨_,(@a02 _ _ _ _ _ (@a35 _ _ 1 _ _ _ _ sc_law_copied.nd rfl (by walk_at "o") (@a42 _ _ _ _ (@a01 _)) (by rfl) (by walk_at "o"))
    (@a02 _ _ _ _ _ (@a74 _ _ _ _ _ _ _ _ PassesOwn.never rfl (a31 K (pv 0)) (a79 K (n:=2) rfl (a32 (a06 (i:=2) sc_law_copied.nd rfl (by walk_at "o")) (a32 (a06 (i:=3) sc_law_copied.nd rfl (by walk_at "o")) (@a77 _)))) (@a07 _ _ _ (@a60 _ _ _ _ (@a99 _ K _ _ _ _ _ _ _ _ _ _ _ PySem.F.plainAttrs_list PySem.F.slot_list_append PySem.F.type_list_append a52 (pv 1) (@a00 _ _ _ _ _ (@a46 _ _ _ _ _ (@a00 _ _ _ _ _ (pv 2) (@a00 _ _ _ _ _ (ab7 (Nt:=["said","there"]) (Nf:=[]) (caps:=[]) rfl (a47 (sc:=defScope a59) rfl rfl (by decide +kernel) (by decide +kernel) (by decide +kernel) rfl (by decide +kernel)) (a31 K (pv 3)) (fun _ _ _ _ _=>(a79 K (n:=2) rfl (a32 (a06 (i:=0) (show (["said","there"]:List Str).Nodup by decide +kernel) rfl (by walk_at "o")) (a32 (a06 (i:=1) (show (["said","there"]:List Str).Nodup by decide +kernel) rfl (by walk_at "o")) (@a77 _))))) (fun _ _ _ _ _=>(@a55 _)) (fun _ _ _ _ _=>(@a46 _ _ _ _ _ (@a00 _ _ _ _ _ (@a48 _ _ _ _ _ _ _ _ _ (ab4 K) (by rfl) T.z_list aa9 (@a00 _ _ _ _ _ (pv 0) (@a01 _) (by rfl)) (by decide) (by decide) (by rfl) (by rfl)) (@a00 _ _ _ _ _ (pv 1) (@a01 _) (by rfl)) (by rfl))))) (@a01 _) (by rfl)) (by rfl))) (@a01 _) (by rfl)) (by rfl) (by rfl) (by rfl) (by rfl) (by rfl) (by rfl)) (by rfl))) (by intro _; rfl))
    (@a07 _ _ _ (@a73 _ _ _ _ (pv 1))))),?_⟩
   have sl:(1000000:Nat)≤sizeLine:=le_line (Nat.le_refl _)
   have nm:=ok.nm
   have nr:=ok.nr
   have rl:rvs.length=rs.length:=hE.1
   walk_at "go"
   intro pd H9 f9 s9 e9
   walk_at "r"
   refine ⟨⟨_,SqL.of (s9 _ _ hc)⟩,a76 (K:=K) (a:=c) (xs:=rvs) (fun i σ H'=>i≤rs.length∧Same H H'∧(∃ acc gs,H' pd=some (.lst acc)∧acc.length=i∧Tw.Ats H' ((rs.take i).map roomW) acc gs∧∀ a∈gs,a≠pd)∧∃ y2 y3,σ=[some (.ref c),some (.ref pd),y2,y3]) ⟨Nat.zero_le _,s9,⟨[],[],e9,rfl,by simp [Tw.Ats],by simp⟩,_,_,rfl⟩ (fun i σ H' _ ⟨_,s',_⟩=>SqL.of (s' _ _ hc)) ?_ ?_⟩
   · rintro i v σ H10 hv ⟨hi,s10,⟨acc,gs,epd10,hal,hat,hgs⟩,y2,y3,rfl⟩
     have hfl:i<rs.length:=by rw [← rl]; exact (gS hv).1
     obtain ⟨qx,g,ps,x1,x2,x3,x4,x5⟩:=ag8 (j:=0) hE ok hfl
     rw [hv] at x1
     cases x1
     have hrl2:(roomA rs i).2.length=many:=(ok.rows _ (gI (ab6 hfl))).1
     refine ae9 (SqT.of (s10 _ _ x2)) rfl ?_
     walk_at "r"
     refine ab2 (SqL.of epd10) ?_
     walk_at "r"
     refine ⟨⟨_,SqL.of (s10 _ _ x3)⟩,ae0 (xs:=ps) (by omega) (fun j acc' H'=>j≤many∧acc'.length=j∧Same H10 H'∧∃ fs,Tw.Ats H' (((roomA rs i).2.take j).map rowW) acc' fs∧∀ a∈fs,H10 a=none) ⟨Nat.zero_le _,rfl,Same.refl _,[],by simp [Tw.Ats],by simp⟩ (fun j acc' H' ⟨_,e,s',_⟩=>⟨by omega,SqL.of (s' _ _ (s10 _ _ x3))⟩) ?_ ?_⟩
     · rintro j v acc' H11 hv ⟨hj,ea,s11,fs,hat',hfs⟩
       have hj':j<many:=by rw [← x4]; exact (gS hv).1
       obtain ⟨k,sl0,z1,z2,z3,z4⟩:=x5 j hj'
       rw [hv] at z1
       cases z1
       have s011:=s10.trans s11
       refine ⟨k,_,_,rfl,SqT.of (s011 _ _ z2),?_⟩
       walk_at "r"
       refine ad1 (SqL.of (s011 _ _ z3)) ?_
       intro p12 H12 f12 s12 e12
       walk_at "r"
       intro p13 H13 f13 s13 e13
       refine ⟨hj',by simp [ea],s11.trans (s12.trans s13),fs++[p12],?_,fun a ha=>?_⟩
       · rw [List.take_add_one,(ah4 ok hfl hj').2.2,Option.toList_some,List.map_append]
         exact (hat'.same (s12.trans s13)).snoc (row_w.mpr ⟨p13,p12,rfl,e13,s13 _ _ e12,rfl⟩)
       · rcases gA ha with ha | ha
         · exact hfs a ha
         · rw [gG ha]
           exact s11.free f12
     rintro acc' H11 ⟨_,ea,s11,fs,hat',hfs⟩ pl12 H12 f12 s12 e12
     rw [x4,List.take_of_length_le (by omega)] at hat'
     walk_at "r"
     intro p13 H13 f13 s13 e13
     walk_at "r"
     have s1013:=s11.trans (s12.trans s13)
     have epd13:=s1013 _ _ epd10
     refine a64 epd13 (by omega) ?_
     have hgn:∀ a∈gs++(pl12::fs),a≠pd:=fun a ha z=>by
      rcases gA ha with ha | ha
      · exact hgs a ha z
      · rcases List.mem_cons.mp ha with rfl | ha
        · rw [z,s11 _ _ epd10] at f12
          cases f12
        · have:=hfs a ha
          rw [z,epd10] at this
          cases this
     have tu:Tups H13 (upd H13 pd (.lst (acc++[.ref p13]))):=Tups.upd epd13
     refine ⟨hfl,(s10.trans s1013).updNew f9,⟨acc++[.ref p13],gs++(pl12::fs),a28,by simp [hal],?_,hgn⟩,_,_,rfl⟩
     rw [List.take_add_one,ab6 hfl,Option.toList_some,List.map_append]
     exact Tw.Ats.mono (Tw.Ats.snoc (hat.same s1013) (room_w.mpr ⟨p13,pl12,acc',fs,rfl,e13,s13 _ _ e12,hat'.same (s12.trans s13),rfl⟩)) ⟨tu,fun a ha xs e=>by rw [a04 (hgn a ha)]; exact e⟩
   rintro σ H10 ⟨_,s10,⟨acc,gs,epd10,hal,hat,hgs⟩,y2,y3,rfl⟩
   rw [rl,List.take_length] at hat
   walk_at "r"
   exact q pd acc H10 s10 epd10 (ae5 hat)
def bn9 (K:W.Frag):Sp:=fun vs H Q _=>∃ (pr pt pn pa pb pc:Addr) (lv:List V) (gs:List Addr) (rs:List RRoom),vs=[.ref pr]∧H pr=some (.tup [.ref pt,.ref pn])∧H pt=some (.tup [.ref pa,.ref pb,.ref pc])∧H pc=some (.lst lv)∧Tw.Ats H (rs.map roomW) lv gs∧gs.length≤2000∧∀ l H',Same H H'→H l=none→H' l=some (.lst (([pa,pb,pc,pn]++gs).map V.ref))→Q (.ref l) H'
theorem aw0 (T:Txt K mg t):FnOk P w K mg base CX0 1 t.a__law_lists t.fd__law_lists ["found"] (bn9 K):=by
 refine T.F__law_lists.ok sc_law_lists (fun vs H Q E h=>?_) (fun cdv A outer s H vs Q E hr h=>?_)
 · obtain ⟨pr,pt,pn,pa,pb,pc,lv,gs,rs,rfl,_⟩:=h
   rfl
 · obtain ⟨pr,pt,pn,pa,pb,pc,lv,gs,rs,rfl,h1,h2,h3,h4,hgl,q⟩:=h
   refine ⟨_,(@a02 _ _ _ _ _ (@af9 _ _ _ _ _ _ (pv 0) (a79 K (n:=2) rfl (a32 (a06 (i:=1) sc_law_lists.nd rfl (by walk_at "o")) (a32 (a06 (i:=2) sc_law_lists.nd rfl (by walk_at "o")) (@a77 _)))) (by rfl) (by rfl) (by rfl))
    (@a02 _ _ _ _ _ (@a35 _ _ 3 _ _ _ _ sc_law_lists.nd rfl (by walk_at "o") (@a42 _ _ _ _ (@a00 _ _ _ _ _ (@a39 _ _ _ _ _ _ _ (a43 K) (pv 1) (@a09 _ _ _ _) (fun _ _=>rfl)) (@a00 _ _ _ _ _ (@a39 _ _ _ _ _ _ _ (a43 K) (pv 1) (@a09 _ _ _ _) (fun _ _=>rfl)) (@a00 _ _ _ _ _ (@a39 _ _ _ _ _ _ _ (a43 K) (pv 1) (@a09 _ _ _ _) (fun _ _=>rfl)) (@a00 _ _ _ _ _ (pv 2) (@a01 _) (by rfl)) (by rfl)) (by rfl)) (by rfl))) (by rfl) (by walk_at "o"))
    (@a02 _ _ _ _ _ (@a74 _ _ _ _ _ _ _ _ PassesOwn.never rfl (a31 K (@a39 _ _ _ _ _ _ _ (a43 K) (pv 1) (@a09 _ _ _ _) (fun _ _=>rfl))) (a79 K (n:=2) rfl (a32 (a06 (i:=4) sc_law_lists.nd rfl (by walk_at "o")) (a32 (a06 (i:=5) sc_law_lists.nd rfl (by walk_at "o")) (@a77 _)))) (@a02 _ _ _ _ _ (@a60 _ _ _ _ (@a99 _ K _ _ _ _ _ _ _ _ _ _ _ PySem.F.plainAttrs_list PySem.F.slot_list_append PySem.F.type_list_append a52 (pv 3) (@a00 _ _ _ _ _ (pv 5) (@a01 _) (by rfl)) (by rfl) (by rfl) (by rfl) (by rfl) (by rfl) (by rfl)) (by rfl))
     (@a07 _ _ _ (@a35 _ _ 3 _ _ _ _ sc_law_lists.nd rfl (by walk_at "o") (@a90 _ _ _ _ _ _ _ _ aa2 (pv 3) (ab7 (Nt:=["said","there"]) (Nf:=[]) (caps:=[]) rfl (a47 (sc:=defScope a71) rfl rfl (by decide +kernel) (by decide +kernel) (by decide +kernel) rfl (by decide +kernel)) (a31 K (pv 5)) (fun _ _ _ _ _=>(a79 K (n:=2) rfl (a32 (a06 (i:=0) (show (["said","there"]:List Str).Nodup by decide +kernel) rfl (by walk_at "o")) (a32 (a06 (i:=1) (show (["said","there"]:List Str).Nodup by decide +kernel) rfl (by walk_at "o")) (@a77 _))))) (fun _ _ _ _ _=>(@a55 _)) (fun _ _ _ _ _=>(pv 0)))) (by rfl) (by walk_at "o")))) (by intro _; rfl))
    (@a07 _ _ _ (@a73 _ _ _ _ (pv 3)))))),?_⟩
   have sl:(1000000:Nat)≤sizeLine:=le_line (Nat.le_refl _)
   obtain ⟨gss,rfl,hG⟩:=av9 h4
   have lvl:lv.length=gss.length:=hG.1
   walk_at "go"
   refine ae9 (SqT.of h1) rfl ?_
   walk_at "r"
   refine a96 (SqT.of h2) (a05 (j:=0) rfl) ?_
   walk_at "r"
   refine a96 (SqT.of h2) (a05 (j:=1) rfl) ?_
   walk_at "r"
   refine a96 (SqT.of h2) (a05 (j:=2) rfl) ?_
   walk_at "r"
   intro l5 H5 f5 s5 e5
   walk_at "r"
   refine a96 (SqT.of (s5 _ _ h2)) (a05 (j:=2) rfl) ?_
   walk_at "r"
   refine ⟨⟨_,SqL.of (s5 _ _ h3)⟩,a76 (K:=K) (a:=pc) (xs:=lv) (fun i σ H'=>i≤gss.length∧Same H H'∧∃ l y4 y5,H l=none∧H' l=some (.lst (([pa,pb,pc,pn]++(gss.take i).flatten).map V.ref))∧σ=[some (.ref pr),some (.ref pt),some (.ref pn),some (.ref l),y4,y5]) ⟨Nat.zero_le _,s5,l5,_,_,f5,e5,rfl⟩ (fun i σ H' _ ⟨_,s',_⟩=>SqL.of (s' _ _ h3)) ?_ ?_⟩
   · rintro i v σ H6 hv ⟨hi,s6,l,y4,y5,fl,el,rfl⟩
     have hi':i<gss.length:=by rw [← lvl]; exact (gS hv).1
     obtain ⟨f,hf⟩:∃ f,gss[i]?=some f:=⟨_,gE hi'⟩
     obtain ⟨qx,g,ps,sls,bo,rfl,x1,x2,rfl,x3⟩:=hG.2 i v f hv hf
     have psl:ps.length=sls.length:=x3.1
     have hfl:(gss.take i).flatten.length+(sls.length+1)≤gss.flatten.length:=by
      have e:gss.take i++[g::sls]=gss.take (i+1):=by rw [List.take_add_one,hf]; rfl
      have:gss.flatten=(gss.take (i+1)).flatten++(gss.drop (i+1)).flatten:=by rw [← List.flatten_append,List.take_append_drop]
      rw [this,←e,List.flatten_append]
      simp
     refine ae9 (SqT.of (s6 _ _ x1)) rfl ?_
     walk_at "r"
     refine ab2 (SqL.of el) ?_
     walk_at "r"
     refine a64 el (by rw [gL,List.length_append,show ([pa,pb,pc,pn]:List Addr).length=4 from rfl]; omega) ?_
     have s7:Same H (upd H6 l (.lst (([pa,pb,pc,pn]++(gss.take i).flatten).map V.ref++[.ref g]))):=s6.updNew fl
     have e7:upd H6 l (.lst (([pa,pb,pc,pn]++(gss.take i).flatten).map V.ref++[.ref g])) l=some (.lst (([pa,pb,pc,pn]++(gss.take i).flatten).map V.ref++[.ref g])):=a28
     generalize upd H6 l (.lst (([pa,pb,pc,pn]++(gss.take i).flatten).map V.ref++[.ref g]))=H7 at s7 e7
     walk_at "r"
     refine ⟨⟨_,SqL.of (s7 _ _ x2)⟩,ae0 (xs:=ps) (by omega) (fun j acc H'=>j≤sls.length∧H7=H'∧acc=(sls.take j).map V.ref) ⟨Nat.zero_le _,rfl,rfl⟩ (fun j acc H' ⟨_,e0,e⟩=>⟨by rw [e]; simp; omega,e0 ▸ SqL.of (s7 _ _ x2)⟩) ?_ ?_⟩
     · rintro j v acc H8 hv ⟨hj,rfl,rfl⟩
       obtain ⟨sl0,hsl⟩:∃ sl0,sls[j]?=some sl0:=⟨_,gE (by have:=(gS hv).1; omega)⟩
       obtain ⟨k,n,rfl,z1⟩:=x3.2 j v sl0 hv hsl
       refine ⟨k,_,_,rfl,SqT.of (s7 _ _ z1),?_⟩
       walk_at "r"
       refine ⟨(gS hsl).1,rfl,?_⟩
       rw [List.take_add_one,hsl,List.map_append]
       rfl
     rintro acc H8 ⟨_,rfl,rfl⟩ p9 H9 f9 s9 e9
     rw [psl,List.take_length] at e9
     walk_at "r"
     refine bs0 (s9 _ _ e7) e9 (by rw [List.length_append,gL,List.length_append,gL,List.length_singleton,show ([pa,pb,pc,pn]:List Addr).length=4 from rfl]; omega) ?_
     intro p10 H10 f10 s10 e10
     walk_at "r"
     refine ⟨hi',s7.trans (s9.trans s10),p10,_,_,(s7.trans s9).free f10,?_,rfl⟩
     rw [e10,List.take_add_one,hf,Option.toList_some,List.flatten_append]
     simp
   rintro σ H6 ⟨_,s6,l,y4,y5,fl,el,rfl⟩
   rw [lvl,List.take_length] at el
   walk_at "r"
   exact q l H6 s6 fl el
def bo0 (K:W.Frag):Sp:=fun vs H Q _=>∃ (pr pt pn pa pb pc:Addr) (lv:List V) (rs:List RRoom) (ws:List (Option Nat)),vs=[.ref pr]∧H pr=some (.tup [.ref pt,.ref pn])∧H pt=some (.tup [.ref pa,.ref pb,.ref pc])∧H pc=some (.lst lv)∧Each (RoomAt H) lv rs∧(∀ r∈rs,r.2.length≤50)∧H pn=some (.lst (waysV ws))∧ws.length≤50∧∀ H',Same H H'→Q (.bl true) H'
theorem aw1 (T:Txt K mg t):FnOk P w K mg base CX0 1 t.a__law_plain t.fd__law_plain ["found"] (bo0 K):=by
 refine T.F__law_plain.ok sc_law_plain (fun vs H Q E h=>?_) (fun cdv A outer s H vs Q E hr h=>?_)
 · obtain ⟨pr,pt,pn,pa,pb,pc,lv,rs,ws,rfl,_⟩:=h
   rfl
 · obtain ⟨pr,pt,pn,pa,pb,pc,lv,rs,ws,rfl,h1,h2,h3,h4,hr50,h5,hw,q⟩:=h
   refine ⟨_,(@a02 _ _ _ _ _ (@af9 _ _ _ _ _ _ (pv 0) (a79 K (n:=2) rfl (a32 (a06 (i:=1) sc_law_plain.nd rfl (by walk_at "o")) (a32 (a06 (i:=2) sc_law_plain.nd rfl (by walk_at "o")) (@a77 _)))) (by rfl) (by rfl) (by rfl))
    (@a02 _ _ _ _ _ (@a74 _ _ _ _ _ _ _ _ PassesOwn.never rfl (a31 K (@a39 _ _ _ _ _ _ _ (a43 K) (pv 1) (@a09 _ _ _ _) (fun _ _=>rfl))) (a79 K (n:=2) rfl (a32 (a06 (i:=3) sc_law_plain.nd rfl (by walk_at "o")) (a32 (a06 (i:=4) sc_law_plain.nd rfl (by walk_at "o")) (@a77 _)))) (@a07 _ _ _ (@ac8 _ _ _ _ _ _ _ _ (@PW.pt _ _ _ (@bp7 _ _ _ _ _ _ _ (@az7 _ _ _ _ (ah0 K (@a44 _ _ _ _ _ _ _ _ _ (ap1 K) (by rfl) T.z_isinstance aa6 (@a00 _ _ _ _ _ (pv 3) (@a00 _ _ _ _ _ (ao3 (v:=.ty "bool") (by rfl) T.z_bool ax2 rfl) (@a01 _) (by rfl)) (by rfl)) (by decide) (by decide) (by rfl) (by rfl)) (fun _=>rfl))) (@bo2 _ _ _ _ (@a81 _ _ _ _ _ _ _ _ (au1 K (by exact hr.units)) (ab7 (Nt:=["said","there"]) (Nf:=[]) (caps:=[]) rfl (a47 (sc:=defScope a63) rfl rfl (by decide +kernel) (by decide +kernel) (by decide +kernel) rfl (by decide +kernel)) (a31 K (pv 4)) (fun _ _ _ _ _=>(a79 K (n:=2) rfl (a32 (a06 (i:=0) (show (["said","there"]:List Str).Nodup by decide +kernel) rfl (by walk_at "o")) (a32 (a06 (i:=1) (show (["said","there"]:List Str).Nodup by decide +kernel) rfl (by walk_at "o")) (@a77 _))))) (fun _ _ _ _ _=>(@aj2 _ _ _ (ah0 K (@a44 _ _ _ _ _ _ _ _ _ (ap1 K) (by rfl) T.z_isinstance aa6 (@a00 _ _ _ _ _ (pv 1) (@a00 _ _ _ _ _ (ao3 (v:=.ty "bool") (by rfl) T.z_bool ax2 rfl) (@a01 _) (by rfl)) (by rfl)) (by decide) (by decide) (by rfl) (by rfl)) (fun _=>rfl)))) (fun _ _ _ _ _=>(pv 1))) (@a42 _ _ _ _ (@a01 _)) (nomark _))))) (@a07 _ _ _ (@a73 _ _ _ _ (@aw4 _ _ _ _))) (@a91 _))) (by intro _; rfl))
    (@a07 _ _ _ (@a73 _ _ _ _ (@ai8 _ _ _ _ _ _ _ _ (au0 K (by exact hr.units)) (ab7 (Nt:=["one"]) (Nf:=[]) (caps:=[]) rfl (a47 (sc:=defScope a63) rfl rfl (by decide +kernel) (by decide +kernel) (by decide +kernel) rfl (by decide +kernel)) (a31 K (pv 2)) (fun _ _ _ _ _=>(a06 (i:=0) (show (["one"]:List Str).Nodup by decide +kernel) rfl (by walk_at "o"))) (fun _ _ _ _ _=>(@aj2 _ _ _ (ah0 K (@a44 _ _ _ _ _ _ _ _ _ (ap1 K) (by rfl) T.z_isinstance aa6 (@a00 _ _ _ _ _ (pv 0) (@a00 _ _ _ _ _ (ao3 (v:=.ty "bool") (by rfl) T.z_bool ax2 rfl) (@a01 _) (by rfl)) (by rfl)) (by decide) (by decide) (by rfl) (by rfl)) (fun _=>rfl)))) (fun _ _ _ _ _=>(pv 0))) (@a42 _ _ _ _ (@a01 _)) (nomark _)))))),?_⟩
   have sl:(1000000:Nat)≤sizeLine:=le_line (Nat.le_refl _)
   walk_at "go"
   refine ae9 (SqT.of h1) rfl ?_
   walk_at "r"
   refine a96 (SqT.of h2) (a05 (j:=2) rfl) ?_
   walk_at "r"
   refine ⟨⟨_,SqL.of h3⟩,a76 (K:=K) (a:=pc) (xs:=lv) (fun i σ H'=>Same H H'∧∃ y3 y4,σ=[some (.ref pr),some (.ref pt),some (.ref pn),y3,y4]) ⟨Same.refl _,_,_,rfl⟩ (fun i σ H' _ ⟨s',_⟩=>SqL.of (s' _ _ h3)) ?_ ?_⟩
   · rintro i v σ H6 hv ⟨s6,y3,y4,rfl⟩
     have hl:lv.length=rs.length:=h4.1
     obtain ⟨r,hr⟩:∃ r,rs[i]?=some r:=⟨_,gE (by have:=(gS hv).1; omega)⟩
     obtain ⟨qx,g,ps,rfl,x1,x2,x3⟩:=(h4.2 i v r hv hr).same s6
     have pl:ps.length=r.2.length:=x3.1
     have r50:=hr50 r (gI hr)
     refine ae9 (SqT.of x1) rfl ?_
     walk_at "r"
     refine ⟨⟨_,SqL.of x2⟩,ae0 (xs:=ps) (by omega) (fun j acc H'=>H6=H'∧acc=[]) ⟨rfl,rfl⟩ (fun j acc H' ⟨e0,e⟩=>⟨by rw [e]; simp,e0 ▸ SqL.of x2⟩) ?_ ?_⟩
     · rintro j v acc H7 hv ⟨rfl,rfl⟩
       obtain ⟨x,hx⟩:∃ x,r.2[j]?=some x:=⟨_,gE (by have:=(gS hv).1; omega)⟩
       obtain ⟨k,sl0,rfl,z1,_⟩:=x3.2 j v x hv hx
       refine ⟨k,_,_,rfl,SqT.of z1,?_⟩
       walk_at "r"
       exact ⟨rfl,rfl⟩
     rintro acc H7 ⟨rfl,rfl⟩ p8 H8 f8 s8 e8
     walk_at "r"
     intro p9 H9 f9 s9 e9
     refine bd6 (SqL.of (s9 _ _ e8)) (SqL.of e9) ?_
     walk_at "r"
     rw [if_neg (by simp)]
     walk_at "r"
     exact ⟨s6.trans (s8.trans s9),_,_,rfl⟩
   rintro σ H6 ⟨s6,y3,y4,rfl⟩
   walk_at "r"
   refine ⟨⟨_,SqL.of (s6 _ _ h5)⟩,a78 (xs:=waysV ws) (by simp [waysV]; omega) (fun j acc H'=>H6=H'∧acc=[]) ⟨rfl,rfl⟩ (fun j acc H' ⟨e0,e⟩=>⟨by rw [e]; simp,e0 ▸ SqL.of (s6 _ _ h5)⟩) ?_ ?_⟩
   · rintro j v acc H7 hv ⟨rfl,rfl⟩
     unfold waysV at hv
     rw [gM] at hv
     obtain ⟨o,_,rfl⟩:=gO hv
     cases o with
     | none =>
       show tTru K _ _ _ _
       walk_at "r"
       show rIsi K [V.non,V.ty "bool"] H6 _
       refine ⟨_,_,.type "NoneType",false,rfl,TyOf.non,rfl,?_⟩
       refine ⟨false,rfl,?_⟩
       rw [if_neg (by simp)]
       exact ⟨rfl,rfl⟩
     | some n =>
       show tTru K _ _ _ _
       walk_at "r"
       show rIsi K [V.int (n:Nat),V.ty "bool"] H6 _
       refine bb9 ?_
       refine ⟨false,rfl,?_⟩
       rw [if_neg (by simp)]
       exact ⟨rfl,rfl⟩
   rintro acc H7 ⟨rfl,rfl⟩ p8 H8 f8 s8 e8
   walk_at "r"
   intro p9 H9 f9 s9 e9
   refine bd5 (SqL.of (s9 _ _ e8)) (SqL.of e9) ?_
   exact q H9 (s6.trans (s8.trans s9))
def wayW:Option Nat→Tw
 | none=>.sc .non
 | some n=>.sc (.int (n:Nat))
theorem bp4 {H:Hp}:∀ {ws:List (Option Nat)},Tw.Ats H (ws.map wayW) (waysV ws) []
 | []=>by simp [Tw.Ats,waysV]
 | o::ws=>by
   have ih:=bp4 (H:=H) (ws:=ws)
   unfold waysV at ih ⊢
   simp only [List.map_cons,Tw.Ats]
   refine ⟨_,_,[],[],rfl,rfl,?_,ih⟩
   cases o with
   | none=>simp [wayW,Tw.At,Scal,wayV]
   | some n=>simp [wayW,Tw.At,Scal,wayV]
theorem c94 (o:Option Nat):(wayW o).h≤0:=by cases o <;> simp [wayW,Tw.h]
def dueT (ets:List Tr) (sy:List Str) (rs:List RRoom) (ws:List (Option Nat)):List Tw:=[.tup [.lst (toWs ets),.lst (sy.map strW),.lst (rs.map roomW)],.lst (ws.map wayW)]
theorem b54 {G:Hp}{pr pt pn:Addr}{us:List V}{ets:List Tr}{rs:List RRoom}{sy:List Str}{ws:List (Option Nat)}(h:G pr=some (.tup [.ref pt,.ref pn])) (hT:Tab G pt us ets rs sy) (hn:G pn=some (.lst (waysV ws))):∃ fs,(Tw.tup (dueT ets sy rs ws)).At G (.ref pr) fs:=by
 obtain ⟨fs,h1⟩:=hT.tw
 refine ⟨fs++[pn],?_⟩
 unfold dueT
 simp only [Tw.At,Tw.Ats] at h1 ⊢
 exact ⟨pr,_,rfl,h,_,_,fs,[pn],rfl,rfl,h1,_,_,[pn],[],rfl,rfl,⟨pn,_,[],rfl,hn,bp4,rfl⟩,rfl,rfl⟩
theorem ce2 {G:Hp}{us:List V}{ets:List Tr}{rs:List RRoom}{sy:List Str}{ws:List (Option Nat)}(h:Each (EvAt G) us ets):Tw.hs (dueT ets sy rs ws)≤50:=by
 have h1:=(b50 h).2
 have h2:=ah9 (f:=wayW) (k:=0) (l:=ws) fun o _=>c94 o
 have h3:=ah9 (f:=strW) (k:=0) (l:=sy) fun x _=>by simp [strW,Tw.h]
 have h4:=ah9 (f:=roomW) (k:=6) (l:=rs) fun x _=>bh8 x
 unfold dueT
 simp only [Tw.hs,Tw.h,au4]
 omega
theorem ao1 {H:Hp}:∀ {rs:List RRoom}{vs:List V}{gs:List Addr},Tw.Ats H (rs.map roomW) vs gs→(∀ r∈rs,r.2.length≤7)→gs.length≤8*rs.length
 | [],ps,fs,h,_=>by
   simp only [List.map_nil,Tw.Ats] at h
   rw [h.2]
   simp
 | r::rows,ps,fs,h,hx=>by
   simp only [List.map_cons,Tw.Ats] at h
   obtain ⟨v,ws,f,g,rfl,rfl,h1,h2⟩:=h
   obtain ⟨q,g0,ps0,gs0,rfl,e1,e2,e3,rfl⟩:=room_w.mp h1
   have h3:=ao1 h2 fun x hx'=>hx x (List.mem_cons_of_mem _ hx')
   have h4:=(ar4 e3).1
   have h5:=e3.len
   rw [gL] at h5
   have h6:=hx r List.mem_cons_self
   simp only [List.length_append,List.length_cons]
   omega
theorem ce3 {l:List Addr}(h:l.Nodup) {i j:Nat}{x:Addr}(h1:l[i]?=some x) (h2:l[j]?=some x):i=j:=(List.getElem?_inj (gS h1).1 h).mp (h1.trans h2.symm)
def ctA (H:Hp) (a:Addr):List V:=match H a with
 | some (.lst xs)=>xs
 | _=>[]
theorem c95 {H:Hp}{a:Addr}{xs:List V}(h:H a=some (.lst xs)):ctA H a=xs:=by
 unfold ctA
 rw [h]
theorem b55 {H:Hp}{l:Addr}{ns:List Nat}(h:H l=some (.lst (natsV ns))):(Tr.lst ((ns.map fun n:Nat=>(n:Int)).map Tr.int)).At H (.ref l) [l]:=by
 simp only [Tr.At]
 exact ⟨l,_,[],rfl,h,b53 ns,rfl⟩
theorem bo1 {rs:List RRoom}{many:Nat}(ok:TblOk many rs) (h0:0<rs.length) (h:∀ r∈rs,∀ x∈r.2,x.1.length≤2):∀ r∈lstR rs many,r.2.length=many∧∀ x∈r.2,x.1.length≤2:=fun r hr=>by
 have b:=af0 ok h0
 obtain ⟨k,hk,rfl⟩:=List.mem_iff_getElem.mp hr
 obtain ⟨y,hy,e,_⟩:=bp2 (many:=many) b.nd hk
 rw [gE hk] at e
 rw [Option.some.inj e]
 have hm:=gI (ab6 (b.lt y hy))
 refine ⟨by show (List.map _ _).length=_; rw [gL]; exact (ok.rows _ hm).1,fun x hx=>?_⟩
 obtain ⟨z,hz,rfl⟩:=List.mem_map.mp (show x∈(roomA rs y).2.map _ from hx)
 exact h _ hm z hz
theorem c96 (T:Txt K mg t):FnOk P w K mg base CX0 7 t.a_law t.fd_law ["script"] (am0 K):=by
 have G__law_copied:=ar5 (P:=P) (w:=w) (base:=base) T
 have G__law_deck:=az2 (P:=P) (w:=w) (base:=base) T
 have G__law_due:=b85 (P:=P) (w:=w) (base:=base) T
 have G__law_lists:=aw0 (P:=P) (w:=w) (base:=base) T
 have G__law_plain:=aw1 (P:=P) (w:=w) (base:=base) T
 have G__law_table:=av7 (P:=P) (w:=w) (base:=base) T
 have G_least_table:=al4 (P:=P) (w:=w) (base:=base) T
 refine T.F_law.ok sc_law (fun vs H Q E h=>?_) (fun cdv A outer s H vs Q E hr h=>?_)
 · obtain ⟨a,ns,rfl,_⟩:=h
   rfl
 · obtain ⟨a,ns,rfl,hS,hl,q⟩:=h
   refine ⟨_,(@a02 _ _ _ _ _ (@a35 _ _ 1 _ _ _ _ sc_law.nd rfl (by walk_at "o") (@a41 _ _ _ _ _ _ _ _ _ _ _ _ _ _ _ _ G__law_table (hr.mono (by omega)) rfl T.m__law_table T.F__law_table.kp T.b__law_table .nil a82 (@a00 _ _ _ _ _ (@a41 _ _ _ _ _ _ _ _ _ _ _ _ _ _ _ _ G__law_deck (hr.mono (by omega)) rfl T.m__law_deck T.F__law_deck.kp T.b__law_deck .nil a82 (@a00 _ _ _ _ _ (pv 0) (@a01 _) (by rfl)) (by decide) (by rfl) (by rfl)) (@a01 _) (by rfl)) (by decide) (by rfl) (by rfl)) (by rfl) (by walk_at "o"))
    (@a02 _ _ _ _ _ (@a35 _ _ 2 _ _ _ _ sc_law.nd rfl (by walk_at "o") (@a46 _ _ _ _ _ (@a00 _ _ _ _ _ (@a48 _ _ _ _ _ _ _ _ _ (ab4 K) (by rfl) T.z_list aa9 (@a00 _ _ _ _ _ (@a39 _ _ _ _ _ _ _ (a43 K) (pv 1) (@a09 _ _ _ _) (fun _ _=>rfl)) (@a01 _) (by rfl)) (by decide) (by decide) (by rfl) (by rfl)) (@a00 _ _ _ _ _ (@a48 _ _ _ _ _ _ _ _ _ (ab4 K) (by rfl) T.z_list aa9 (@a00 _ _ _ _ _ (@a39 _ _ _ _ _ _ _ (a43 K) (pv 1) (@a09 _ _ _ _) (fun _ _=>rfl)) (@a01 _) (by rfl)) (by decide) (by decide) (by rfl) (by rfl)) (@a00 _ _ _ _ _ (@a41 _ _ _ _ _ _ _ _ _ _ _ _ _ _ _ _ G__law_copied (hr.mono (by omega)) rfl T.m__law_copied T.F__law_copied.kp T.b__law_copied .nil a82 (@a00 _ _ _ _ _ (@a39 _ _ _ _ _ _ _ (a43 K) (pv 1) (@a09 _ _ _ _) (fun _ _=>rfl)) (@a01 _) (by rfl)) (by decide) (by rfl) (by rfl)) (@a01 _) (by rfl)) (by rfl)) (by rfl))) (by rfl) (by walk_at "o"))
    (@a02 _ _ _ _ _ (@a35 _ _ 3 _ _ _ _ sc_law.nd rfl (by walk_at "o") (@a41 _ _ _ _ _ _ _ _ _ _ _ _ _ _ _ _ G__law_due (hr.mono (by omega)) rfl T.m__law_due T.F__law_due.kp T.b__law_due .nil a82 (@a00 _ _ _ _ _ (pv 1) (@a01 _) (by rfl)) (by decide) (by rfl) (by rfl)) (by rfl) (by walk_at "o"))
    (@a02 _ _ _ _ _ (@a35 _ _ 4 _ _ _ _ sc_law.nd rfl (by walk_at "o") (@a41 _ _ _ _ _ _ _ _ _ _ _ _ _ _ _ _ G_least_table (hr.mono (by omega)) rfl T.m_least_table T.F_least_table.kp T.b_least_table .nil a82 (@a00 _ _ _ _ _ (pv 2) (@a01 _) (by rfl)) (by decide) (by rfl) (by rfl)) (by rfl) (by walk_at "o"))
    (@a02 _ _ _ _ _ (@ac8 _ _ _ _ _ _ _ _ (@PW.pt _ _ _ (@bp7 _ _ _ _ _ _ _ (@az7 _ _ _ _ (ah0 K (@a44 _ _ _ _ _ _ _ _ _ (ap1 K) (by rfl) T.z_isinstance aa6 (@a00 _ _ _ _ _ (pv 4) (@a00 _ _ _ _ _ (ao3 (v:=.ty "tuple") (by rfl) T.z_tuple ai3 rfl) (@a01 _) (by rfl)) (by rfl)) (by decide) (by decide) (by rfl) (by rfl)) (fun _=>rfl))) (@bp7 _ _ _ _ _ _ _ (@a81 _ _ _ _ _ _ _ _ (bt6 (by exact hr.units)) (pv 4) (pv 3) (nomark _)) (@bo2 _ _ _ _ (@az7 _ _ _ _ (ah0 K (@a41 _ _ _ _ _ _ _ _ _ _ _ _ _ _ _ _ G__law_plain (hr.mono (by omega)) rfl T.m__law_plain T.F__law_plain.kp T.b__law_plain .nil a82 (@a00 _ _ _ _ _ (pv 4) (@a01 _) (by rfl)) (by decide) (by rfl) (by rfl)) (fun _=>rfl))))))) (@a07 _ _ _ (@a73 _ _ _ _ (@aw4 _ _ _ _))) (@a91 _))
    (@a02 _ _ _ _ _ (@a35 _ _ 5 _ _ _ _ sc_law.nd rfl (by walk_at "o") (@a41 _ _ _ _ _ _ _ _ _ _ _ _ _ _ _ _ G__law_lists (hr.mono (by omega)) rfl T.m__law_lists T.F__law_lists.kp T.b__law_lists .nil a82 (@a00 _ _ _ _ _ (pv 4) (@a01 _) (by rfl)) (by decide) (by rfl) (by rfl)) (by rfl) (by walk_at "o"))
    (@a02 _ _ _ _ _ (ao9 (i:=6) (Nt:=["some"]) (Nf:=[]) (caps:=[]) rfl (a47 (sc:=defScope ai0) rfl rfl (by decide +kernel) (by decide +kernel) (by decide +kernel) rfl (by decide +kernel)) (a31 K (pv 5)) (fun _ _ _ _ _=>(a06 (i:=0) (show (["some"]:List Str).Nodup by decide +kernel) rfl (by walk_at "o"))) (fun _ _ _ _ _=>(@a55 _)) (fun _ _ _ _ _=>(@a44 _ _ _ _ _ _ _ _ _ (a95 K) (by rfl) T.z_len aa0 (@a00 _ _ _ _ _ (pv 0) (@a01 _) (by rfl)) (by decide) (by decide) (by rfl) (by rfl))) sc_law.nd rfl (by walk_at "o") rfl)
    (@a02 _ _ _ _ _ (@a74 _ _ _ _ _ _ _ _ PassesOwn.never rfl (a31 K (pv 5)) (a06 (i:=7) sc_law.nd rfl (by walk_at "o")) (@a07 _ _ _ (@a60 _ _ _ _ (@a99 _ K _ _ _ _ _ _ _ _ _ _ _ PySem.F.plainAttrs_list PySem.F.slot_list_append PySem.F.type_list_append a52 (pv 7) (@a00 _ _ _ _ _ (@a09 _ _ _ _) (@a01 _) (by rfl)) (by rfl) (by rfl) (by rfl) (by rfl) (by rfl) (by rfl)) (by rfl))) (by intro _; rfl))
    (@a02 _ _ _ _ _ (@ac8 _ _ _ _ _ _ _ _ (@a81 _ _ _ _ _ _ _ _ (bk6 (by exact hr.units)) (ab7 (Nt:=["some"]) (Nf:=[]) (caps:=[]) rfl (a47 (sc:=defScope ai0) rfl rfl (by decide +kernel) (by decide +kernel) (by decide +kernel) rfl (by decide +kernel)) (a31 K (pv 5)) (fun _ _ _ _ _=>(a06 (i:=0) (show (["some"]:List Str).Nodup by decide +kernel) rfl (by walk_at "o"))) (fun _ _ _ _ _=>(@a55 _)) (fun _ _ _ _ _=>(@a44 _ _ _ _ _ _ _ _ _ (a95 K) (by rfl) T.z_len aa0 (@a00 _ _ _ _ _ (pv 0) (@a01 _) (by rfl)) (by decide) (by decide) (by rfl) (by rfl)))) (ab7 (Nt:=["size"]) (Nf:=[]) (caps:=[]) rfl (a47 (sc:=defScope ai0) rfl rfl (by decide +kernel) (by decide +kernel) (by decide +kernel) rfl (by decide +kernel)) (a31 K (pv 6)) (fun _ _ _ _ _=>(a06 (i:=0) (show (["size"]:List Str).Nodup by decide +kernel) rfl (by walk_at "o"))) (fun _ _ _ _ _=>(@a55 _)) (fun _ _ _ _ _=>(@a90 _ _ _ _ _ _ _ _ aa2 (pv 0) (@a09 _ _ _ _)))) (nomark _)) (@a07 _ _ _ (@a73 _ _ _ _ (@aw4 _ _ _ _))) (@a91 _))
    (@a07 _ _ _ (@a73 _ _ _ _ (@by4 _ _ _ _ _ _ _ (@ai8 _ _ _ _ _ _ _ _ (bd7 (by exact hr.units)) (pv 2) (pv 1) (nomark _)) (@by3 _ _ _ _ _ (@ai8 _ _ _ _ _ _ _ _ (bd7 (by exact hr.units)) (@a41 _ _ _ _ _ _ _ _ _ _ _ _ _ _ _ _ G_least_table (hr.mono (by omega)) rfl T.m_least_table T.F_least_table.kp T.b_least_table .nil a82 (@a00 _ _ _ _ _ (pv 2) (@a01 _) (by rfl)) (by decide) (by rfl) (by rfl)) (pv 3) (nomark _))))))))))))))),?_⟩
   have sl:(1000000:Nat)≤sizeLine:=le_line (Nat.le_refl _)
   walk_at "go"
   refine ⟨a,ns,rfl,hS,hl,fun d l H1 f1 g1 s1 k1=>?_⟩
   walk_at "r"
   refine ⟨d,l,0,rfl,k1,by omega,fun tt us ets rs sy H2 n2 T2 ok sml o2 hn2 k2=>?_⟩
   walk_at "r"
   have T2:=T2.same b39
   obtain ⟨e,b,c,rvs,t1,t2,t3,t4,t5⟩:=T2.ex
   have hrl:rvs.length=rs.length:=t5.1
   have r14:=ok.r14
   have u7:=ok.u7
   have r0:=ok.r0
   refine a96 (SqT.of t1) (a05 (j:=0) rfl) ?_
   walk_at "r"
   refine ad1 (SqL.of t2) ?_
   intro p3 H3 f3 s3 e3
   walk_at "r"
   refine a96 (SqT.of (s3 _ _ t1)) (a05 (j:=1) rfl) ?_
   walk_at "r"
   refine ad1 (SqL.of (s3 _ _ t3)) ?_
   intro p4 H4 f4 s4 e4
   walk_at "r"
   have s24:=s3.trans s4
   refine a96 (SqT.of (s24 _ _ t1)) (a05 (j:=2) rfl) ?_
   walk_at "r"
   refine ⟨c,rvs,rs,us.length,rfl,s24 _ _ t4,t5.mono fun v x h=>h.same s24,ok.ok,fun p6 acc H6 s6 e6 hE6=>?_⟩
   walk_at "r"
   intro ph H7 f7 s7 e7
   walk_at "r"
   have s67:=s6.trans s7
   have s27:=s24.trans s67
   have T7:Tab H7 tt us ets rs sy:=T2.same s27
   have Th:Tab H7 ph us ets rs sy:=⟨⟨p3,p4,p6,acc,e7,(s4.trans s67) _ _ e3,s67 _ _ e4,s7 _ _ e6,hE6.mono fun v x h=>h.same s7⟩,T7.ev⟩
   refine ⟨tt,e,b,c,us,rvs,sy,rs,rfl,s27 _ _ t1,s27 _ _ t2,s27 _ _ t3,s27 _ _ t4,t5.mono fun v x h=>h.same s27,ok.ok,r0,r14,fun pd pt pf pn fv gd H8 s8 d1 d2 d3 d4 d5=>?_⟩
   have Td:Tab H8 pt us ets (lstR rs us.length) sy:=⟨⟨e,b,pf,fv,d2,(s27.trans s8) _ _ t2,(s27.trans s8) _ _ t3,d3,ae5 d4⟩,(T7.same s8).ev⟩
   walk_at "r"
   obtain ⟨qa,qb,qc,hvs,u1,u2,u3,u4,u5⟩:=(Th.same s8).ex
   refine ⟨ph,qa,qb,qc,us,hvs,sy,rs,rfl,u1,u2,u3,u4,u5,ok.ok,r0,by omega,fun pr pn2 H9 s9 hL=>?_⟩
   obtain ⟨pt2,pa,pb,pc,lv,gs,g1,g2,g3,g4,g5,g6,g7,g8,g9⟩:=hL.ex
   have Tf:Tab H9 pt2 us ets (lstR rs us.length) sy:=⟨⟨pa,pb,pc,lv,g2,g3,g4,g5,ae5 g6⟩,(T7.same (s8.trans s9)).ev⟩
   walk_at "r"
   refine c52 g1 ?_
   walk_at "r"
   obtain ⟨fs1,w1⟩:=b54 g1 Tf g7
   obtain ⟨fs2,w2⟩:=b54 (s9 _ _ d1) (Td.same s9) (s9 _ _ d5)
   have hh:=ce2 (rs:=lstR rs us.length) (sy:=sy) (ws:=numR rs us.length) Tf.ev
   refine cc7 w1 w2 hh ?_
   walk_at "r"
   have lsd:=bo1 ok.ok r0 sml.2
   have lfw:=(bh0 ok.ok r0).1
   have nrl:(numR rs us.length).length=rs.length:=by simp [numR]
   refine ⟨pr,pt2,pn2,pa,pb,pc,lv,lstR rs us.length,numR rs us.length,rfl,g1,g2,g5,ae5 g6,fun r hr=>by rw [(lsd r hr).1]; omega,g7,by omega,fun H10 s10=>?_⟩
   walk_at "r"
   have hsm:=al3 (g6.same s10) fun r hr=>⟨by rw [(lsd r hr).1]; omega,fun x hx=>by have:=(lsd r hr).2 x hx; omega⟩
   have hlv:lv.length=(lstR rs us.length).length:=by rw [g6.len,gL]
   have hct:∀ x∈[pa,pb,pc,pn2]++gs,H10 x=some (.lst (ctA H10 x))∧(ctA H10 x).length≤100:=fun x hx=>by
    have fin:∀ {ys:List V},H10 x=some (.lst ys)→ys.length≤100→H10 x=some (.lst (ctA H10 x))∧(ctA H10 x).length≤100:=fun {ys} h1 h2=>by rw [c95 h1]; exact ⟨h1,h2⟩
    rcases gA hx with hx | hx
    · simp only [List.mem_cons,List.not_mem_nil,or_false] at hx
      rcases hx with rfl | rfl | rfl | rfl
      · exact fin (s10 _ _ g3) (by omega)
      · exact fin (s10 _ _ g4) (by have:=sml.1; simp [strsV]; omega)
      · exact fin (s10 _ _ g5) (by omega)
      · exact fin (s10 _ _ g7) (by simp [waysV]; omega)
    · obtain ⟨ys,y1,y2⟩:=hsm x hx
      exact fin y1 (by omega)
   have hgl:gs.length≤2000:=by
    have:=ao1 g6 fun r hr=>by rw [(lsd r hr).1]; omega
    omega
   refine ⟨pr,pt2,pn2,pa,pb,pc,lv,gs,lstR rs us.length,rfl,s10 _ _ g1,s10 _ _ g2,s10 _ _ g5,g6.same s10,hgl,fun pl H11 s11 f11 e11=>?_⟩
   have hnew:∀ x∈[pa,pb,pc,pn2]++gs,H8 x=none:=g9
   generalize hLS:[pa,pb,pc,pn2]++gs=LS at e11 hct hnew g8
   walk_at "r"
   have hLl:LS.length≤2004:=by rw [← hLS]; simp; omega
   have hpl:pl∉LS:=fun z=>by
    rw [(hct pl z).1] at f11
    cases f11
   have hc11:∀ x∈LS,H11 x=some (.lst (ctA H10 x)):=fun x hx=>s11 _ _ (hct x hx).1
   refine ⟨⟨_,SqL.of e11⟩,a78 (xs:=LS.map V.ref) (by simp; omega) (fun i acc H'=>H11=H'∧acc=natsV ((LS.take i).map fun x=>(ctA H10 x).length)) ⟨rfl,rfl⟩ (fun i acc H' ⟨e0,e⟩=>⟨by rw [e,a03]; simp; omega,e0 ▸ SqL.of e11⟩) ?_ ?_⟩
   · rintro i v acc H' hv ⟨rfl,rfl⟩
     rw [gM] at hv
     obtain ⟨x,hx,rfl⟩:=gO hv
     walk_at "r"
     refine ab0 (SqL.of (hc11 x (gI hx))) ?_
     refine ⟨rfl,?_⟩
     rw [List.take_add_one,hx]
     simp [natsV]
   rintro acc H' ⟨rfl,rfl⟩ pz H12 f12 s12 e12
   rw [gL,List.take_length] at e12
   have hc12:∀ x∈LS,H12 x=some (.lst (ctA H10 x)):=fun x hx=>s12 _ _ (hc11 x hx)
   have e1112:=s12 _ _ e11
   have hpz:pz∉LS:=fun z=>by
    rw [hc11 pz z] at f12
    cases f12
   walk_at "r"
   refine ⟨⟨_,SqL.of e1112⟩,a76 (K:=K) (a:=pl) (xs:=LS.map V.ref) (fun i σ H'=>i≤LS.length∧(∀ j x,LS[j]?=some x→H' x=some (.lst (ctA H10 x++(if j<i then [.int 0] else []))))∧(∀ y o,y∉LS→H12 y=some o→H' y=some o)∧∃ y7,σ=[some (.ref a),some (.ref tt),some (.ref ph),some (.ref pd),some (.ref pr),some (.ref pl),some (.ref pz),y7]) ⟨Nat.zero_le _,fun j x hx=>by rw [if_neg (Nat.not_lt_zero _),List.append_nil]; exact hc12 x (gI hx),fun y o _ e=>e,_,rfl⟩ (fun i σ H' _ ⟨_,_,kp,_⟩=>SqL.of (kp _ _ hpl e1112)) ?_ ?_⟩
   · rintro i v σ H13 hv ⟨hi,hc13,kp13,y7,rfl⟩
     rw [gM] at hv
     obtain ⟨x,hx,rfl⟩:=gO hv
     have hxm:=gI hx
     have ex:=hc13 i x hx
     rw [if_neg (Nat.lt_irrefl _),List.append_nil] at ex
     walk_at "r"
     refine ab2 (SqL.of ex) ?_
     walk_at "r"
     refine a64 ex (by have:=(hct x hxm).2; omega) ?_
     refine ⟨(gS hx).1,fun j y hy=>?_,fun y o hy ey=>by rw [a04 (fun z=>hy (by rw [z]; exact hxm))]; exact kp13 y o hy ey,_,rfl⟩
     by_cases z:y=x
     · subst z
       obtain rfl:=ce3 g8 hx hy
       rw [a28,if_pos (by omega)]
     · rw [a04 z,hc13 j y hy]
       have:j≠i:=fun q=>z (by rw [q,hx] at hy; exact (Option.some.inj hy).symm)
       by_cases hji:j<i
       · rw [if_pos hji,if_pos (by omega)]
       · rw [if_neg hji,if_neg (by omega)]
   rintro σ H13 ⟨_,hc13,kp13,y7,rfl⟩
   rw [gL] at hc13
   have hc:∀ x∈LS,H13 x=some (.lst (ctA H10 x++[.int 0])):=fun x hx=>by
    obtain ⟨j,hj,rfl⟩:=List.mem_iff_getElem.mp hx
    have:=hc13 j _ (gE hj)
    rw [if_pos hj] at this
    exact this
   have s813:Same H8 H13:=fun y o ey=>kp13 y o (fun z=>by rw [hnew y z] at ey; cases ey) ((s9.trans (s10.trans (s11.trans s12))) _ _ ey)
   have epl:=kp13 _ _ hpl e1112
   have epz:=kp13 _ _ hpz e12
   walk_at "r"
   refine ⟨⟨_,SqL.of epl⟩,a78 (xs:=LS.map V.ref) (by simp; omega) (fun i acc H'=>H13=H'∧acc=natsV ((LS.take i).map fun x=>(ctA H10 x).length+1)) ⟨rfl,rfl⟩ (fun i acc H' ⟨e0,e⟩=>⟨by rw [e,a03]; simp; omega,e0 ▸ SqL.of epl⟩) ?_ ?_⟩
   · rintro i v acc H' hv ⟨rfl,rfl⟩
     rw [gM] at hv
     obtain ⟨x,hx,rfl⟩:=gO hv
     walk_at "r"
     refine ab0 (SqL.of (hc x (gI hx))) ?_
     refine ⟨rfl,?_⟩
     rw [List.take_add_one,hx]
     simp [natsV]
   rintro acc H' ⟨rfl,rfl⟩ px H14 f14 s14 e14
   rw [gL,List.take_length] at e14
   walk_at "r"
   refine ⟨⟨_,SqL.of (s14 _ _ epz)⟩,a78 (xs:=natsV (LS.map fun x=>(ctA H10 x).length)) (by rw [a03]; simp; omega) (fun i acc H'=>H14=H'∧acc=natsV (((LS.map fun x=>(ctA H10 x).length).take i).map (·+1))) ⟨rfl,rfl⟩ (fun i acc H' ⟨e0,e⟩=>⟨by rw [e,a03]; simp; omega,e0 ▸ SqL.of (s14 _ _ epz)⟩) ?_ ?_⟩
   · rintro i v acc H' hv ⟨rfl,rfl⟩
     obtain ⟨k,hk,rfl⟩:=a54 hv
     walk_at "r"
     refine ⟨rfl,?_⟩
     rw [List.take_add_one,hk]
     simp [natsV]
   rintro acc H' ⟨rfl,rfl⟩ py H15 f15 s15 e15
   rw [a03,List.take_length,List.map_map] at e15
   have hm:List.map ((·+1)∘fun x=>(ctA H10 x).length) LS=LS.map fun x=>(ctA H10 x).length+1:=rfl
   rw [hm] at e15
   refine c59 (b55 (s15 _ _ e14)) (b55 e15) (by rw [ax6]; omega) ?_
   walk_at "r"
   have s815:=s813.trans (s14.trans s15)
   have s715:=s8.trans s815
   obtain ⟨fs3,w3⟩:=(Th.same s715).tw
   obtain ⟨fs4,w4⟩:=(T7.same s715).tw
   refine c72 w3 w4 (c92 (T7.same s715).ev) ?_
   walk_at "r"
   obtain ⟨qa,qb,qc,hvs,u1,u2,u3,u4,u5⟩:=(Th.same s715).ex
   refine ⟨ph,qa,qb,qc,us,hvs,sy,rs,rfl,u1,u2,u3,u4,u5,ok.ok,r0,by omega,fun pr3 pn3 H16 s16 hL3=>?_⟩
   obtain ⟨pt3,pa3,pb3,pc3,lv3,gs3,v1,v2,v3,v4,v5,v6,v7,_,_⟩:=hL3.ex
   have Tg:Tab H16 pt3 us ets (lstR rs us.length) sy:=⟨⟨pa3,pb3,pc3,lv3,v2,v3,v4,v5,ae5 v6⟩,(T7.same (s715.trans s16)).ev⟩
   obtain ⟨fs5,w5⟩:=b54 v1 Tg v7
   obtain ⟨fs6,w6⟩:=b54 ((s815.trans s16) _ _ d1) (Td.same (s815.trans s16)) ((s815.trans s16) _ _ d5)
   walk_at "r"
   exact c72 w5 w6 hh (q _)
end
theorem al6 {us:List Value}{n:Nat}(h:us.length=n+1):∃ u r,us=u::r:=by
 cases us with
 | nil=>cases h
 | cons u r=>exact ⟨u,r,rfl⟩
theorem ad7 {us:List Value}(h:us.length=1):∃ u0,us=[u0]:=by
 obtain ⟨u0,us,rfl⟩:=al6 h; replace h:=Nat.succ.inj h
 obtain rfl:=List.length_eq_zero_iff.mp h
 exact ⟨u0,rfl⟩
theorem ar6 {us:List Value}(h:us.length=2):∃ u0 u1,us=[u0,u1]:=by
 obtain ⟨u0,us,rfl⟩:=al6 h; replace h:=Nat.succ.inj h
 obtain ⟨u1,us,rfl⟩:=al6 h; replace h:=Nat.succ.inj h
 obtain rfl:=List.length_eq_zero_iff.mp h
 exact ⟨u0,u1,rfl⟩
theorem ce4 {us:List Value}(h:us.length=3):∃ u0 u1 u2,us=[u0,u1,u2]:=by
 obtain ⟨u0,us,rfl⟩:=al6 h; replace h:=Nat.succ.inj h
 obtain ⟨u1,us,rfl⟩:=al6 h; replace h:=Nat.succ.inj h
 obtain ⟨u2,us,rfl⟩:=al6 h; replace h:=Nat.succ.inj h
 obtain rfl:=List.length_eq_zero_iff.mp h
 exact ⟨u0,u1,u2,rfl⟩
theorem ce5 {us:List Value}(h:us.length=4):∃ u0 u1 u2 u3,us=[u0,u1,u2,u3]:=by
 obtain ⟨u0,us,rfl⟩:=al6 h; replace h:=Nat.succ.inj h
 obtain ⟨u1,us,rfl⟩:=al6 h; replace h:=Nat.succ.inj h
 obtain ⟨u2,us,rfl⟩:=al6 h; replace h:=Nat.succ.inj h
 obtain ⟨u3,us,rfl⟩:=al6 h; replace h:=Nat.succ.inj h
 obtain rfl:=List.length_eq_zero_iff.mp h
 exact ⟨u0,u1,u2,u3,rfl⟩
theorem all_mk {l:W.OpenLaw}{w:World}{K:W.Frag}{h:Heap}{mg:Str→Option Value}{fa:Addr}(X:K.In h) (G:h.Ns mainGlobals mg) (hfa:mg "law"=some (.ref fa))
 {C_Grouping:Addr}(aC_Grouping:W.nsIn K mainGlobals "Grouping"=some (some (.ref C_Grouping)))
 (pg_Grouping:W.plainGet K C_Grouping Str.empty=true) (hd_Grouping:W.hasDictIn K C_Grouping=true) (po_Grouping:W.plainOver K C_Grouping=true) (sa_Grouping:W.findIn K (.ref C_Grouping) "__setattr__"=some (some (.builtin "object.__setattr__"))) (mk_Grouping:W.makesIn K C_Grouping=true) (kc_Grouping:W.keepIn K (.ref C_Grouping)=true)
 (nF_Grouping_groups:W.findIn K (.ref C_Grouping) "groups"=some none)
 (nF_Grouping_members:W.findIn K (.ref C_Grouping) "members"=some none)
 (nF_Grouping_sources:W.findIn K (.ref C_Grouping) "sources"=some none)
 (nF_Grouping_touched:W.findIn K (.ref C_Grouping) "touched"=some none)
 (nF_Grouping_waiting:W.findIn K (.ref C_Grouping) "waiting"=some none)
 (nF_Grouping_ways:W.findIn K (.ref C_Grouping) "ways"=some none)
 {f0:Addr}{od0 an0:Option Addr}{sl0:Array (Option Value)}{oc0 kV0 dc0 pm0 cd0 ct0:Value}
 {f1:Addr}{od1 an1:Option Addr}{sl1:Array (Option Value)}{oc1 kV1 dc1 pm1 cd1 ct1:Value}
 {f2:Addr}{od2 an2:Option Addr}{sl2:Array (Option Value)}{oc2 kV2 dc2 pm2 cd2 ct2:Value}
 {f3:Addr}{od3 an3:Option Addr}{sl3:Array (Option Value)}{oc3 kV3 dc3 pm3 cd3 ct3:Value}
 {f4:Addr}{od4 an4:Option Addr}{sl4:Array (Option Value)}{oc4 kV4 dc4 pm4 cd4 ct4:Value}
 {f5:Addr}{od5 an5:Option Addr}{sl5:Array (Option Value)}{oc5 kV5 dc5 pm5 cd5 ct5:Value}
 {f6:Addr}{od6 an6:Option Addr}{sl6:Array (Option Value)}{oc6 kV6 dc6 pm6 cd6 ct6:Value}
 {f7:Addr}{od7 an7:Option Addr}{sl7:Array (Option Value)}{oc7 kV7 dc7 pm7 cd7 ct7:Value}
 {f8:Addr}{od8 an8:Option Addr}{sl8:Array (Option Value)}{oc8 kV8 dc8 pm8 cd8 ct8:Value}
 {f9:Addr}{od9 an9:Option Addr}{sl9:Array (Option Value)}{oc9 kV9 dc9 pm9 cd9 ct9:Value}
 {f10:Addr}{od10 an10:Option Addr}{sl10:Array (Option Value)}{oc10 kV10 dc10 pm10 cd10 ct10:Value}
 {f11:Addr}{od11 an11:Option Addr}{sl11:Array (Option Value)}{oc11 kV11 dc11 pm11 cd11 ct11:Value}
 {f12:Addr}{od12 an12:Option Addr}{sl12:Array (Option Value)}{oc12 kV12 dc12 pm12 cd12 ct12:Value}
 {f13:Addr}{od13 an13:Option Addr}{sl13:Array (Option Value)}{oc13 kV13 dc13 pm13 cd13 ct13:Value}
 {f14:Addr}{od14 an14:Option Addr}{sl14:Array (Option Value)}{oc14 kV14 dc14 pm14 cd14 ct14:Value}
 {f15:Addr}{od15 an15:Option Addr}{sl15:Array (Option Value)}{oc15 kV15 dc15 pm15 cd15 ct15:Value}
 {f16:Addr}{od16 an16:Option Addr}{sl16:Array (Option Value)}{oc16 kV16 dc16 pm16 cd16 ct16:Value}
 {f17:Addr}{od17 an17:Option Addr}{sl17:Array (Option Value)}{oc17 kV17 dc17 pm17 cd17 ct17:Value}
 {f18:Addr}{od18 an18:Option Addr}{sl18:Array (Option Value)}{oc18 kV18 dc18 pm18 cd18 ct18:Value}
 {f19:Addr}{od19 an19:Option Addr}{sl19:Array (Option Value)}{oc19 kV19 dc19 pm19 cd19 ct19:Value}
 {f20:Addr}{od20 an20:Option Addr}{sl20:Array (Option Value)}{oc20 kV20 dc20 pm20 cd20 ct20:Value}
 {f21:Addr}{od21 an21:Option Addr}{sl21:Array (Option Value)}{oc21 kV21 dc21 pm21 cd21 ct21:Value}
 {f22:Addr}{od22 an22:Option Addr}{sl22:Array (Option Value)}{oc22 kV22 dc22 pm22 cd22 ct22:Value}
 {f23:Addr}{od23 an23:Option Addr}{sl23:Array (Option Value)}{oc23 kV23 dc23 pm23 cd23 ct23:Value}
 {f24:Addr}{od24 an24:Option Addr}{sl24:Array (Option Value)}{oc24 kV24 dc24 pm24 cd24 ct24:Value}
 {f25:Addr}{od25 an25:Option Addr}{sl25:Array (Option Value)}{oc25 kV25 dc25 pm25 cd25 ct25:Value}
 {f26:Addr}{od26 an26:Option Addr}{sl26:Array (Option Value)}{oc26 kV26 dc26 pm26 cd26 ct26:Value}
 {f27:Addr}{od27 an27:Option Addr}{sl27:Array (Option Value)}{oc27 kV27 dc27 pm27 cd27 ct27:Value}
 (a0:W.nsIn K mainGlobals "found_from"=some (some (.ref f0))) (l0:K.lookup f0=some ⟨oc0,od0,.func (W.fnOf "found_from" "found_from" (defArgs a67) (defBody a67) (defScope a67) .none kV0 dc0 pm0 an0 cd0 ct0),sl0⟩) (c0:W.codeIn K cd0 "found_from"=true) (k0:W.keepIn K (.ref f0)=true)
 (a1:W.nsIn K mainGlobals "put_together"=some (some (.ref f1))) (l1:K.lookup f1=some ⟨oc1,od1,.func (W.fnOf "put_together" "put_together" (defArgs a50) (defBody a50) (defScope a50) .none kV1 dc1 pm1 an1 cd1 ct1),sl1⟩) (c1:W.codeIn K cd1 "put_together"=true) (k1:W.keepIn K (.ref f1)=true)
 (a2:W.nsIn K mainGlobals "numbered"=some (some (.ref f2))) (l2:K.lookup f2=some ⟨oc2,od2,.func (W.fnOf "numbered" "numbered" (defArgs a87) (defBody a87) (defScope a87) .none kV2 dc2 pm2 an2 cd2 ct2),sl2⟩) (c2:W.codeIn K cd2 "numbered"=true) (k2:W.keepIn K (.ref f2)=true)
 (a3:W.nsIn K mainGlobals "counted"=some (some (.ref f3))) (l3:K.lookup f3=some ⟨oc3,od3,.func (W.fnOf "counted" "counted" (defArgs a97) (defBody a97) (defScope a97) .none kV3 dc3 pm3 an3 cd3 ct3),sl3⟩) (c3:W.codeIn K cd3 "counted"=true) (k3:W.keepIn K (.ref f3)=true)
 (a4:W.nsIn K mainGlobals "firsts"=some (some (.ref f4))) (l4:K.lookup f4=some ⟨oc4,od4,.func (W.fnOf "firsts" "firsts" (defArgs aa5) (defBody aa5) (defScope aa5) .none kV4 dc4 pm4 an4 cd4 ct4),sl4⟩) (c4:W.codeIn K cd4 "firsts"=true) (k4:W.keepIn K (.ref f4)=true)
 (a5:W.findIn K (.ref C_Grouping) "__init__"=some (some (.ref f5))) (i5:W.isFn K (.ref f5)=true) (l5:K.lookup f5=some ⟨oc5,od5,.func (W.fnOf "__init__" "Grouping.__init__" (defArgs a36) (defBody a36) (defScope a36) .none kV5 dc5 pm5 an5 cd5 ct5),sl5⟩) (c5:W.codeIn K cd5 "Grouping.__init__"=true) (k5:W.keepIn K (.ref f5)=true)
 (a6:W.findIn K (.ref C_Grouping) "part"=some (some (.ref f6))) (i6:W.isFn K (.ref f6)=true) (l6:K.lookup f6=some ⟨oc6,od6,.func (W.fnOf "part" "Grouping.part" (defArgs a49) (defBody a49) (defScope a49) .none kV6 dc6 pm6 an6 cd6 ct6),sl6⟩) (c6:W.codeIn K cd6 "Grouping.part"=true) (k6:W.keepIn K (.ref f6)=true)
 (a7:W.findIn K (.ref C_Grouping) "parts_of"=some (some (.ref f7))) (i7:W.isFn K (.ref f7)=true) (l7:K.lookup f7=some ⟨oc7,od7,.func (W.fnOf "parts_of" "Grouping.parts_of" (defArgs a37) (defBody a37) (defScope a37) .none kV7 dc7 pm7 an7 cd7 ct7),sl7⟩) (c7:W.codeIn K cd7 "Grouping.parts_of"=true) (k7:W.keepIn K (.ref f7)=true)
 (a8:W.findIn K (.ref C_Grouping) "led_groups"=some (some (.ref f8))) (i8:W.isFn K (.ref f8)=true) (l8:K.lookup f8=some ⟨oc8,od8,.func (W.fnOf "led_groups" "Grouping.led_groups" (defArgs a34) (defBody a34) (defScope a34) .none kV8 dc8 pm8 an8 cd8 ct8),sl8⟩) (c8:W.codeIn K cd8 "Grouping.led_groups"=true) (k8:W.keepIn K (.ref f8)=true)
 (a9:W.findIn K (.ref C_Grouping) "regroup"=some (some (.ref f9))) (i9:W.isFn K (.ref f9)=true) (l9:K.lookup f9=some ⟨oc9,od9,.func (W.fnOf "regroup" "Grouping.regroup" (defArgs a40) (defBody a40) (defScope a40) .none kV9 dc9 pm9 an9 cd9 ct9),sl9⟩) (c9:W.codeIn K cd9 "Grouping.regroup"=true) (k9:W.keepIn K (.ref f9)=true)
 (a10:W.findIn K (.ref C_Grouping) "touch_sources"=some (some (.ref f10))) (i10:W.isFn K (.ref f10)=true) (l10:K.lookup f10=some ⟨oc10,od10,.func (W.fnOf "touch_sources" "Grouping.touch_sources" (defArgs a33) (defBody a33) (defScope a33) .none kV10 dc10 pm10 an10 cd10 ct10),sl10⟩) (c10:W.codeIn K cd10 "Grouping.touch_sources"=true) (k10:W.keepIn K (.ref f10)=true)
 (a11:W.nsIn K mainGlobals "sources_of"=some (some (.ref f11))) (l11:K.lookup f11=some ⟨oc11,od11,.func (W.fnOf "sources_of" "sources_of" (defArgs a57) (defBody a57) (defScope a57) .none kV11 dc11 pm11 an11 cd11 ct11),sl11⟩) (c11:W.codeIn K cd11 "sources_of"=true) (k11:W.keepIn K (.ref f11)=true)
 (a12:W.nsIn K mainGlobals "members_of"=some (some (.ref f12))) (l12:K.lookup f12=some ⟨oc12,od12,.func (W.fnOf "members_of" "members_of" (defArgs a58) (defBody a58) (defScope a58) .none kV12 dc12 pm12 an12 cd12 ct12),sl12⟩) (c12:W.codeIn K cd12 "members_of"=true) (k12:W.keepIn K (.ref f12)=true)
 (a13:W.nsIn K mainGlobals "room_with"=some (some (.ref f13))) (l13:K.lookup f13=some ⟨oc13,od13,.func (W.fnOf "room_with" "room_with" (defArgs a70) (defBody a70) (defScope a70) .none kV13 dc13 pm13 an13 cd13 ct13),sl13⟩) (c13:W.codeIn K cd13 "room_with"=true) (k13:W.keepIn K (.ref f13)=true)
 (a14:W.nsIn K mainGlobals "least_table"=some (some (.ref f14))) (l14:K.lookup f14=some ⟨oc14,od14,.func (W.fnOf "least_table" "least_table" (defArgs a38) (defBody a38) (defScope a38) .none kV14 dc14 pm14 an14 cd14 ct14),sl14⟩) (c14:W.codeIn K cd14 "least_table"=true) (k14:W.keepIn K (.ref f14)=true)
 (a15:W.nsIn K mainGlobals "label_of"=some (some (.ref f15))) (l15:K.lookup f15=some ⟨oc15,od15,.func (W.fnOf "label_of" "label_of" (defArgs a88) (defBody a88) (defScope a88) .none kV15 dc15 pm15 an15 cd15 ct15),sl15⟩) (c15:W.codeIn K cd15 "label_of"=true) (k15:W.keepIn K (.ref f15)=true)
 (a16:W.nsIn K mainGlobals "_law_next"=some (some (.ref f16))) (l16:K.lookup f16=some ⟨oc16,od16,.func (W.fnOf "_law_next" "_law_next" (defArgs a92) (defBody a92) (defScope a92) .none kV16 dc16 pm16 an16 cd16 ct16),sl16⟩) (c16:W.codeIn K cd16 "_law_next"=true) (k16:W.keepIn K (.ref f16)=true)
 (a17:W.nsIn K mainGlobals "_law_deck"=some (some (.ref f17))) (l17:K.lookup f17=some ⟨oc17,od17,.func (W.fnOf "_law_deck" "_law_deck" (defArgs a89) (defBody a89) (defScope a89) .none kV17 dc17 pm17 an17 cd17 ct17),sl17⟩) (c17:W.codeIn K cd17 "_law_deck"=true) (k17:W.keepIn K (.ref f17)=true)
 (a18:W.nsIn K mainGlobals "_law_said"=some (some (.ref f18))) (l18:K.lookup f18=some ⟨oc18,od18,.func (W.fnOf "_law_said" "_law_said" (defArgs a93) (defBody a93) (defScope a93) .none kV18 dc18 pm18 an18 cd18 ct18),sl18⟩) (c18:W.codeIn K cd18 "_law_said"=true) (k18:W.keepIn K (.ref f18)=true)
 (a19:W.nsIn K mainGlobals "_law_events"=some (some (.ref f19))) (l19:K.lookup f19=some ⟨oc19,od19,.func (W.fnOf "_law_events" "_law_events" (defArgs a68) (defBody a68) (defScope a68) .none kV19 dc19 pm19 an19 cd19 ct19),sl19⟩) (c19:W.codeIn K cd19 "_law_events"=true) (k19:W.keepIn K (.ref f19)=true)
 (a20:W.nsIn K mainGlobals "_law_table"=some (some (.ref f20))) (l20:K.lookup f20=some ⟨oc20,od20,.func (W.fnOf "_law_table" "_law_table" (defArgs a62) (defBody a62) (defScope a62) .none kV20 dc20 pm20 an20 cd20 ct20),sl20⟩) (c20:W.codeIn K cd20 "_law_table"=true) (k20:W.keepIn K (.ref f20)=true)
 (a21:W.nsIn K mainGlobals "_law_lengths"=some (some (.ref f21))) (l21:K.lookup f21=some ⟨oc21,od21,.func (W.fnOf "_law_lengths" "_law_lengths" (defArgs a56) (defBody a56) (defScope a56) .none kV21 dc21 pm21 an21 cd21 ct21),sl21⟩) (c21:W.codeIn K cd21 "_law_lengths"=true) (k21:W.keepIn K (.ref f21)=true)
 (a22:W.nsIn K mainGlobals "_law_shortest"=some (some (.ref f22))) (l22:K.lookup f22=some ⟨oc22,od22,.func (W.fnOf "_law_shortest" "_law_shortest" (defArgs a51) (defBody a51) (defScope a51) .none kV22 dc22 pm22 an22 cd22 ct22),sl22⟩) (c22:W.codeIn K cd22 "_law_shortest"=true) (k22:W.keepIn K (.ref f22)=true)
 (a23:W.nsIn K mainGlobals "_law_due"=some (some (.ref f23))) (l23:K.lookup f23=some ⟨oc23,od23,.func (W.fnOf "_law_due" "_law_due" (defArgs a85) (defBody a85) (defScope a85) .none kV23 dc23 pm23 an23 cd23 ct23),sl23⟩) (c23:W.codeIn K cd23 "_law_due"=true) (k23:W.keepIn K (.ref f23)=true)
 (a24:W.nsIn K mainGlobals "_law_copied"=some (some (.ref f24))) (l24:K.lookup f24=some ⟨oc24,od24,.func (W.fnOf "_law_copied" "_law_copied" (defArgs a59) (defBody a59) (defScope a59) .none kV24 dc24 pm24 an24 cd24 ct24),sl24⟩) (c24:W.codeIn K cd24 "_law_copied"=true) (k24:W.keepIn K (.ref f24)=true)
 (a25:W.nsIn K mainGlobals "_law_lists"=some (some (.ref f25))) (l25:K.lookup f25=some ⟨oc25,od25,.func (W.fnOf "_law_lists" "_law_lists" (defArgs a71) (defBody a71) (defScope a71) .none kV25 dc25 pm25 an25 cd25 ct25),sl25⟩) (c25:W.codeIn K cd25 "_law_lists"=true) (k25:W.keepIn K (.ref f25)=true)
 (a26:W.nsIn K mainGlobals "_law_plain"=some (some (.ref f26))) (l26:K.lookup f26=some ⟨oc26,od26,.func (W.fnOf "_law_plain" "_law_plain" (defArgs a63) (defBody a63) (defScope a63) .none kV26 dc26 pm26 an26 cd26 ct26),sl26⟩) (c26:W.codeIn K cd26 "_law_plain"=true) (k26:W.keepIn K (.ref f26)=true)
 (a27:W.nsIn K mainGlobals "law"=some (some (.ref f27))) (l27:K.lookup f27=some ⟨oc27,od27,.func (W.fnOf "law" "law" (defArgs ai0) (defBody ai0) (defScope ai0) .none kV27 dc27 pm27 an27 cd27 ct27),sl27⟩) (c27:W.codeIn K cd27 "law"=true) (k27:W.keepIn K (.ref f27)=true)
 (z_bool:W.nsIn K mainGlobals "bool"=some none)
 (z_dict:W.nsIn K mainGlobals "dict"=some none)
 (z_enumerate:W.nsIn K mainGlobals "enumerate"=some none)
 (z_int:W.nsIn K mainGlobals "int"=some none)
 (z_isinstance:W.nsIn K mainGlobals "isinstance"=some none)
 (z_len:W.nsIn K mainGlobals "len"=some none)
 (z_list:W.nsIn K mainGlobals "list"=some none)
 (z_max:W.nsIn K mainGlobals "max"=some none)
 (z_min:W.nsIn K mainGlobals "min"=some none)
 (z_range:W.nsIn K mainGlobals "range"=some none)
 (z_sorted:W.nsIn K mainGlobals "sorted"=some none)
 (z_sum:W.nsIn K mainGlobals "sum"=some none)
 (z_tuple:W.nsIn K mainGlobals "tuple"=some none)
 (z_zip:W.nsIn K mainGlobals "zip"=some none)
 : ∃ fd:FuncData,(∀ (s:Shared) (v:Value),BindsTo s fd ⟨[v],[]⟩ [("script",v)])∧∀ base:Heap,K.In base→base.Ns mainGlobals mg→FnOk l.prog w K mg base CX0 7 fa fd ["script"] (am0 K):=by
 have e:=hfa.symm.trans (W.mg_of X G a27)
 cases e
 have F0:=a75 (st:=a67) l0 c0 k0
 have b0:=F0.binds (ps:=["ways","first"]) fun _ _ _ _ _ _ us hl=>by obtain ⟨_,_,rfl⟩:=ar6 hl; rfl
 have F1:=a75 (st:=a50) l1 c1 k1
 have b1:=F1.binds (ps:=["labels","ways"]) fun _ _ _ _ _ _ us hl=>by obtain ⟨_,_,rfl⟩:=ar6 hl; rfl
 have F2:=a75 (st:=a87) l2 c2 k2
 have b2:=F2.binds (ps:=["labels"]) fun _ _ _ _ _ _ us hl=>by obtain ⟨_,rfl⟩:=ad7 hl; rfl
 have F3:=a75 (st:=a97) l3 c3 k3
 have b3:=F3.binds (ps:=["things"]) fun _ _ _ _ _ _ us hl=>by obtain ⟨_,rfl⟩:=ad7 hl; rfl
 have F4:=a75 (st:=aa5) l4 c4 k4
 have b4:=F4.binds (ps:=["numbers"]) fun _ _ _ _ _ _ us hl=>by obtain ⟨_,rfl⟩:=ad7 hl; rfl
 have F5:=a75 (st:=a36) l5 c5 k5
 have b5:=F5.binds (ps:=["self","labels","ways"]) fun _ _ _ _ _ _ us hl=>by obtain ⟨_,_,_,rfl⟩:=ce4 hl; rfl
 have F6:=a75 (st:=a49) l6 c6 k6
 have b6:=F6.binds (ps:=["self","group"]) fun _ _ _ _ _ _ us hl=>by obtain ⟨_,_,rfl⟩:=ar6 hl; rfl
 have F7:=a75 (st:=a37) l7 c7 k7
 have b7:=F7.binds (ps:=["self","group"]) fun _ _ _ _ _ _ us hl=>by obtain ⟨_,_,rfl⟩:=ar6 hl; rfl
 have F8:=a75 (st:=a34) l8 c8 k8
 have b8:=F8.binds (ps:=["self","thing"]) fun _ _ _ _ _ _ us hl=>by obtain ⟨_,_,rfl⟩:=ar6 hl; rfl
 have F9:=a75 (st:=a40) l9 c9 k9
 have b9:=F9.binds (ps:=["self","things"]) fun _ _ _ _ _ _ us hl=>by obtain ⟨_,_,rfl⟩:=ar6 hl; rfl
 have F10:=a75 (st:=a33) l10 c10 k10
 have b10:=F10.binds (ps:=["self","thing"]) fun _ _ _ _ _ _ us hl=>by obtain ⟨_,_,rfl⟩:=ar6 hl; rfl
 have F11:=a75 (st:=a57) l11 c11 k11
 have b11:=F11.binds (ps:=["ways"]) fun _ _ _ _ _ _ us hl=>by obtain ⟨_,rfl⟩:=ad7 hl; rfl
 have F12:=a75 (st:=a58) l12 c12 k12
 have b12:=F12.binds (ps:=["groups"]) fun _ _ _ _ _ _ us hl=>by obtain ⟨_,rfl⟩:=ad7 hl; rfl
 have F13:=a75 (st:=a70) l13 c13 k13
 have b13:=F13.binds (ps:=["room","numbers"]) fun _ _ _ _ _ _ us hl=>by obtain ⟨_,_,rfl⟩:=ar6 hl; rfl
 have F14:=a75 (st:=a38) l14 c14 k14
 have b14:=F14.binds (ps:=["table"]) fun _ _ _ _ _ _ us hl=>by obtain ⟨_,rfl⟩:=ad7 hl; rfl
 have F15:=a75 (st:=a88) l15 c15 k15
 have b15:=F15.binds (ps:=["room"]) fun _ _ _ _ _ _ us hl=>by obtain ⟨_,rfl⟩:=ad7 hl; rfl
 have F16:=a75 (st:=a92) l16 c16 k16
 have b16:=F16.binds (ps:=["deck"]) fun _ _ _ _ _ _ us hl=>by obtain ⟨_,rfl⟩:=ad7 hl; rfl
 have F17:=a75 (st:=a89) l17 c17 k17
 have b17:=F17.binds (ps:=["script"]) fun _ _ _ _ _ _ us hl=>by obtain ⟨_,rfl⟩:=ad7 hl; rfl
 have F18:=a75 (st:=a93) l18 c18 k18
 have b18:=F18.binds (ps:=["deck","rich"]) fun _ _ _ _ _ _ us hl=>by obtain ⟨_,_,rfl⟩:=ar6 hl; rfl
 have F19:=a75 (st:=a68) l19 c19 k19
 have b19:=F19.binds (ps:=["deck"]) fun _ _ _ _ _ _ us hl=>by obtain ⟨_,rfl⟩:=ad7 hl; rfl
 have F20:=a75 (st:=a62) l20 c20 k20
 have b20:=F20.binds (ps:=["deck"]) fun _ _ _ _ _ _ us hl=>by obtain ⟨_,rfl⟩:=ad7 hl; rfl
 have F21:=a75 (st:=a56) l21 c21 k21
 have b21:=F21.binds (ps:=["rooms"]) fun _ _ _ _ _ _ us hl=>by obtain ⟨_,rfl⟩:=ad7 hl; rfl
 have F22:=a75 (st:=a51) l22 c22 k22
 have b22:=F22.binds (ps:=["rooms","one","other","lengths"]) fun _ _ _ _ _ _ us hl=>by obtain ⟨_,_,_,_,rfl⟩:=ce5 hl; rfl
 have F23:=a75 (st:=a85) l23 c23 k23
 have b23:=F23.binds (ps:=["table"]) fun _ _ _ _ _ _ us hl=>by obtain ⟨_,rfl⟩:=ad7 hl; rfl
 have F24:=a75 (st:=a59) l24 c24 k24
 have b24:=F24.binds (ps:=["rooms"]) fun _ _ _ _ _ _ us hl=>by obtain ⟨_,rfl⟩:=ad7 hl; rfl
 have F25:=a75 (st:=a71) l25 c25 k25
 have b25:=F25.binds (ps:=["found"]) fun _ _ _ _ _ _ us hl=>by obtain ⟨_,rfl⟩:=ad7 hl; rfl
 have F26:=a75 (st:=a63) l26 c26 k26
 have b26:=F26.binds (ps:=["found"]) fun _ _ _ _ _ _ us hl=>by obtain ⟨_,rfl⟩:=ad7 hl; rfl
 have F27:=a75 (st:=ai0) l27 c27 k27
 have b27:=F27.binds (ps:=["script"]) fun _ _ _ _ _ _ us hl=>by obtain ⟨_,rfl⟩:=ad7 hl; rfl
 have TT:Txt K mg ⟨_,_,_,_,_,_,_,_,_,_,_,_,_,_,_,_,_,_,_,_,_,_,_,_,_,_,_,_,_,_,_,_,_,_,_,_,_,_,_,_,_,_,_,_,_,_,_,_,_,_,_,_,_,_,_,_,C_Grouping⟩:=⟨F0,W.mg_of X G a0,b0,F1,W.mg_of X G a1,b1,F2,W.mg_of X G a2,b2,F3,W.mg_of X G a3,b3,F4,W.mg_of X G a4,b4,F5,b5,F6,⟨a6,i6,k6⟩,b6,F7,⟨a7,i7,k7⟩,b7,F8,⟨a8,i8,k8⟩,b8,F9,⟨a9,i9,k9⟩,b9,F10,⟨a10,i10,k10⟩,b10,F11,W.mg_of X G a11,b11,F12,W.mg_of X G a12,b12,F13,W.mg_of X G a13,b13,F14,W.mg_of X G a14,b14,F15,W.mg_of X G a15,b15,F16,W.mg_of X G a16,b16,F17,W.mg_of X G a17,b17,F18,W.mg_of X G a18,b18,F19,W.mg_of X G a19,b19,F20,W.mg_of X G a20,b20,F21,W.mg_of X G a21,b21,F22,W.mg_of X G a22,b22,F23,W.mg_of X G a23,b23,F24,W.mg_of X G a24,b24,F25,W.mg_of X G a25,b25,F26,W.mg_of X G a26,b26,F27,W.mg_of X G a27,b27,W.mg_of X G aC_Grouping,⟨pg_Grouping,hd_Grouping,po_Grouping,sa_Grouping⟩,⟨mk_Grouping,a5,i5,kc_Grouping⟩,nF_Grouping_groups,nF_Grouping_members,nF_Grouping_sources,nF_Grouping_touched,nF_Grouping_waiting,nF_Grouping_ways,W.mg_none_of X G z_bool,W.mg_none_of X G z_dict,W.mg_none_of X G z_enumerate,W.mg_none_of X G z_int,W.mg_none_of X G z_isinstance,W.mg_none_of X G z_len,W.mg_none_of X G z_list,W.mg_none_of X G z_max,W.mg_none_of X G z_min,W.mg_none_of X G z_range,W.mg_none_of X G z_sorted,W.mg_none_of X G z_sum,W.mg_none_of X G z_tuple,W.mg_none_of X G z_zip⟩
 exact ⟨_,fun s v=>.of_eq rfl,fun base _ _=>c96 TT⟩
end K59
theorem PySem.Challenge.cw_callmill_k59_least_rooms_holds : PySem.Challenge.rw_callmill_k59_least_rooms.Holds := by
  exact K59.head fun K hF w mg fa h KX G hmg => hF w.params _ (@K59.all_mk _ w _ h mg fa KX G hmg)
