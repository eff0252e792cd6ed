import PyProof.Rows.All
import Wide.All
import OpenK.AllK
import Wide.FinOn
import Lean
import PyProof.EqAt
import PyProof.EqKinds
import PyProof.TupleCall
import KE.KDictSum
import PyProof.AttrMissHeap
import PyProof.WalksMore
import KE.LcSums
import PyProof.AutoListH
import PyProof.ListMulRoad
import KE.KSortTup
import PyProof.ZipIter
import PyProof.Draws
import PyProof.EnumFor
import PySem.Challenge.RW_leastrecord_k13_whole_courses_go_so
set_option genSizeOf false
set_option compiler.extract_closed false
set_option bootstrap.genMatcherCode false
def PySem.W.Fast.tw6532083850729517949:Nat:=0
def PySem.W.Fast.tw17614269197657574448:Nat:=0
def PySem.W.Fast.tw10419136833583128690:Nat:=0
def PySem.W.Fast.tw4475523946784485446:Nat:=0
def PySem.W.Fast.tw661900778885399357:Nat:=0
def PySem.W.Fast.tw1259411972896923172:Nat:=0
def PySem.W.Fast.tw10215863990213975973:Nat:=0
def PySem.W.Fast.tw1246356761983683311:Nat:=0
def PySem.W.Fast.tw12412153990936961016:Nat:=0
def PySem.W.Fast.tw2449390536356294589:Nat:=0
def PySem.W.Fast.tw15963557567393126446:Nat:=0
def PySem.W.Fast.tw4110440671651202448:Nat:=0
def PySem.W.Fast.tw2900972117731544449:Nat:=0
def PySem.W.Fast.tw7957719880246145653:Nat:=0
def PySem.W.Fast.tw11786927928064731207:Nat:=0
def PySem.W.Fast.tw5611172308323406025:Nat:=0
def PySem.W.Fast.tw10648021446426431420:Nat:=0
def PySem.W.Fast.tw11731331744925174674:Nat:=0
def PySem.W.Fast.tw11443377309730437731:Nat:=0
def PySem.W.Fast.tw11318836805775945258:Nat:=0
def PySem.W.Fast.tw17426249489373600446:Nat:=0
def PySem.W.Fast.tw3040892076684221921:Nat:=0
def PySem.W.Fast.tw5708217637888394822:Nat:=0
def PySem.W.Fast.tw721004395454899572:Nat:=0
def PySem.W.Fast.tw8059305259814202777:Nat:=0
def PySem.W.Fast.tw12472210130323978731:Nat:=0
def PySem.W.Fast.tw12334481037869172178:Nat:=0
def PySem.W.Fast.tw218763406510879389:Nat:=0
def PySem.W.Fast.tw12588472464211073126:Nat:=0
def PySem.W.Fast.tw5373646804964447496:Nat:=0
def PySem.W.Fast.tw4760470013300643263:Nat:=0
def PySem.W.Fast.tw17279815884722322966:Nat:=0
def PySem.W.Fast.tw1032434490286690045:Nat:=0
def PySem.W.Fast.tw5112846959652228755:Nat:=0
def PySem.W.Fast.tw11663124667470790511:Nat:=0
def PySem.W.Fast.tw1169147655884523413:Nat:=0
def PySem.W.Fast.tw11505523949046713932:Nat:=0
def PySem.W.Fast.tw5293106405794811631:Nat:=0
def PySem.W.Fast.tw12239856117008177559:Nat:=0
def PySem.W.Fast.tw3212204607782494166:Nat:=0
def PySem.W.Fast.tw1760944891814595764:Nat:=0
def PySem.W.Fast.tw12831439239740901535:Nat:=0
def PySem.W.Fast.tw10639426714194850939:Nat:=0
def PySem.W.Fast.tw18063673057908599418:Nat:=0
def PySem.W.Fast.tw171486071800336688:Nat:=0
def PySem.W.Fast.tw11333635797006182051:Nat:=0
def PySem.W.Fast.tw6502309896231573476:Nat:=0
def PySem.W.Fast.tw3061364279970807367:Nat:=0
def PySem.W.Fast.tw5112110753950366442:Nat:=0
def PySem.W.Fast.tw3740168010959346918:Nat:=0
def PySem.W.Fast.tw9653898114233514604:Nat:=0
def PySem.W.Fast.tw10705412067173430400:Nat:=0
def PySem.W.Fast.tw1817773359285057847:Nat:=0
def PySem.W.Fast.tw2880479336680833341:Nat:=0
def PySem.W.Fast.tw12475461644880186572:Nat:=0
def PySem.W.Fast.tw9702474768518151007:Nat:=0
def PySem.W.Fast.tw11563757865482257172:Nat:=0
def PySem.W.Fast.tw5810105143781458779:Nat:=0
def PySem.W.Fast.tw956839095649053687:Nat:=0
def PySem.W.Fast.tw16891490907316414879:Nat:=0
def PySem.W.Fast.tw11983017850748945298:Nat:=0
def PySem.W.Fast.tw12103248551423868486:Nat:=0
def PySem.W.Fast.tw5200808300290078114:Nat:=0
def PySem.W.Fast.tw768982819824237459:Nat:=0
def PySem.W.Fast.tw8356672720861887727:Nat:=0
def PySem.W.Fast.tw7082502333758875289:Nat:=0
def PySem.W.Fast.tw5401857110410656140:Nat:=0
def PySem.W.Fast.tw4956909104943853556:Nat:=0
def PySem.W.Fast.tw13653623979271699078:Nat:=0
def PySem.W.Fast.tw1483892476451819740:Nat:=0
def PySem.W.Fast.tw12630131166728758726:Nat:=0
def PySem.W.Fast.tw11152634872375164036:Nat:=0
def PySem.W.Fast.tw7285133642045328740:Nat:=0
def PySem.W.Fast.tw6318420035159424785:Nat:=0
def PySem.W.Fast.tw14353653212651412593:Nat:=0
def PySem.W.Fast.tw9764958740539014983:Nat:=0
def PySem.W.Fast.tw10890705364480968049:Nat:=0
def PySem.W.Fast.tw664890503230813826:Nat:=0
noncomputable section
set_option Elab.async false
set_option linter.all false
set_option maxRecDepth 100000
section
namespace L2
open PySem PySem.Spec PyProof.Rows
abbrev Key:=Sum Int Str
noncomputable def nI:Key->Value->Bool
 | .inl k,v=>Value.isInt k v
 | .inr x,v=>Value.isStrOf x v
noncomputable def NZ(w:World):Key->Int
 | .inl k=>hashInt k
 | .inr x=>hashStr w x
theorem bK: ∀{k:Key}{v:Value},nI k v=true->(∃ i t,k=Sum.inl i/\v=Value.int i t)\/(∃ x t,k=Sum.inr x/\v=Value.str x t)
 | .inl i,v,h=>by
  obtain⟨t,e⟩:=Value.isInt_shape (k:=i) (v:=v) h
  exact .inl ⟨i,t,rfl,e⟩
 | .inr x,v,h=>by
  obtain⟨t,e⟩:=Value.isStrOf_shape (x:=x) (v:=v) h
  exact .inr ⟨x,t,rfl,e⟩
theorem xw(i:Int)(t:Tok):nI (.inl i) (.int i t)=true:=by simp[nI,Value.isInt]
theorem kO(x:Str)(t:Tok):nI (.inr x) (.str x t)=true:=by simp[nI,Value.isStrOf]
theorem HJ(a b:Int):decide ((Sum.inl a:Key)=Sum.inl b)=(a == b):=by
 by_cases e:a=b
 · subst e;simp
 · have h: ¬ (Sum.inl a:Key)=Sum.inl b:=fun q=>e (Sum.inl.inj q)
   rw[decide_eq_false h]
   exact(beq_eq_false_iff_ne.mpr e).symm
theorem Kb(a b:Str):decide ((Sum.inr a:Key)=Sum.inr b)=decide (a=b):=by
 by_cases e:a=b
 · subst e;simp
 · have h: ¬ (Sum.inr a:Key)=Sum.inr b:=fun q=>e (Sum.inr.inj q)
   rw[decide_eq_false h,decide_eq_false e]
theorem HR(a:Int)(b:Str):decide ((Sum.inl a:Key)=Sum.inr b)=false:=decide_eq_false (fun q=>nomatch q)
theorem Kh(a:Str)(b:Int):decide ((Sum.inr a:Key)=Sum.inl b)=false:=decide_eq_false (fun q=>nomatch q)
noncomputable def aJ(prog:Program)(w:World):PySem.KeyKind prog w Key where
 is:=nI
 hash:=NZ w
 inj:=fun v a b ha hb=>by
  rcases bK ha with⟨i,t,rfl,rfl⟩ | ⟨x,t,rfl,rfl⟩
  · rcases bK hb with⟨j,u,rfl,e⟩ | ⟨y,u,rfl,e⟩
    · injection e with e1 _;rw[e1]
    · exact nomatch e
  · rcases bK hb with⟨j,u,rfl,e⟩ | ⟨y,u,rfl,e⟩
    · exact nomatch e
    · injection e with e1 _;rw[e1]
 byValue:=fun k v h=>by
  rcases bK h with⟨i,t,rfl,rfl⟩ | ⟨x,t,rfl,rfl⟩<;>rfl
 pyHash:=fun hv h=>by
  rcases bK hv with⟨i,t,rfl,rfl⟩ | ⟨x,t,rfl,rfl⟩
  · exact wpAny_pyHash_int h
  · exact wpAny_pyHash_str h
 eqBool:=fun hu hv h=>by
  rcases bK hu with⟨i,t,rfl,rfl⟩ | ⟨x,t,rfl,rfl⟩
  · rcases bK hv with⟨j,u,rfl,rfl⟩ | ⟨y,u,rfl,rfl⟩
    · rw[HJ] at h;exact wpAny_eqBool_int h
    · rw[HR] at h;exact SeqAt.EqAt.int_str i t y u _ _ _ _ h
  · rcases bK hv with⟨j,u,rfl,rfl⟩ | ⟨y,u,rfl,rfl⟩
    · rw[Kh] at h;exact SeqAt.EqAt.str_int x t j u _ _ _ _ h
    · rw[Kb] at h;exact wpAny_eqBool_str h
 «strs» :=fun k x t v h=>by
  rcases bK h with⟨i,u,rfl,e⟩ | ⟨y,u,rfl,e⟩
  · exact nomatch e
  · injection e with e1 _
    subst e1
    cases v<;>rfl
theorem tM(prog:Program)(w:World)(i:Int)(t:Tok):(aJ prog w).is (.inl i) (.int i t)=true:=xw i t
theorem sj(prog:Program)(w:World)(x:Str)(t:Tok):(aJ prog w).is (.inr x) (.str x t)=true:=kO x t
open PySem PySem.Spec PyProof.Rows
inductive V where
 | non | bl (b:Bool) | int (i:Int) | str (x:Str) | byt (b:Array UInt8) | flt (b:UInt64) | ref (a:Addr) | ty (n:String)
 deriving DecidableEq
noncomputable def RelV:V->Value->Prop
 | .non,u=>u=Value.none
 | .bl b,u=>u=Value.bool b
 | .int i,u=> ∃ t,u=Value.int i t
 | .str x,u=> ∃ t,u=Value.str x t
 | .byt b,u=> ∃ t,u=Value.bytes b t
 | .flt b,u=> ∃ t,u=Value.float b t
 | .ref a,u=>u=Value.ref a
 | .ty n,u=>u=Value.type n
abbrev Vals:List V->List Value->Prop:=Paired RelV
theorem Vals.length{xs:List V}{us:List Value}(r:Vals xs us):xs.length=us.length:=Paired.length r
theorem Vals.get: ∀{xs:List V}{us:List Value}{i:Nat}{x:V},Vals xs us->xs[i]?=some x-> ∃ u,us[i]?=some u/\RelV x u
 | _,_,_,_,.nil,e=>by simp at e
 | _,_,0,_,.cons r _,e=>by simp at e;subst e;exact⟨_,rfl,r⟩
 | _,_,i+1,x,.cons _ t,e=>by
  obtain⟨u,h1,h2⟩:=Vals.get (i:=i) (x:=x) t (by simpa using e)
  exact⟨u,by simpa using h1,h2⟩
theorem Vals.set{x:V}{u:Value}(r:RelV x u): ∀{xs:List V}{us:List Value}(i:Nat),Vals xs us->Vals (xs.set i x) (us.set i u)
 | _,_,_,.nil=> .nil
 | _,_,0,.cons _ t=> .cons r t
 | _,_,i+1,.cons q t=> .cons q (Vals.set r i t)
theorem Vals.append: ∀{xs ys:List V}{us ws:List Value},Vals xs us->Vals ys ws->Vals (xs++ys) (us++ws)
 | _,_,_,_,.nil,s=>s
 | _,_,_,_,.cons r t,s=> .cons r (Vals.append t s)
theorem Vals.take: ∀{xs:List V}{us:List Value}(n:Nat),Vals xs us->Vals (xs.take n) (us.take n)
 | _,_,0,_=> .nil
 | _,_,_+1,.nil=> .nil
 | _,_,n+1,.cons r t=> .cons r (Vals.take n t)
theorem Vals.drop: ∀{xs:List V}{us:List Value}(n:Nat),Vals xs us->Vals (xs.drop n) (us.drop n)
 | _,_,0,r=>r
 | _,_,_+1,.nil=> .nil
 | _,_,n+1,.cons _ t=>Vals.drop n t
noncomputable def j7:Option V->Option Value->Prop
 | some v,some u=>RelV v u
 | none,none=>True
 | _,_=>False
noncomputable def KV{κ :Type}:List (κ × V)->List (κ × Value)->Prop:=Paired fun (p: κ × V) (q: κ × Value)=>p.1=q.1/\RelV p.2 q.2
noncomputable def kV:Key->V
 | .inl i=> .int i
 | .inr x=> .str x
inductive HO where
  | lst (xs:List V)
  | tup (xs:List V)
  | dK (kvs:List (Key × V)) | dT (kvs:List (List Key × V))
  | set (S:Int->Bool) (n:Nat)
  | ins (C dx:Addr) (fs:List (Str × V))
  | own (x:Addr)
  | xd (fs:List (Str × V))
  | met (f x:Addr)
  | yJ (lo hi:Int)
  | jy (o:Obj) (u:HO)
  | tbl (ps:Array Value)
  | ext (φ :Heap->Prop)
abbrev Hp:=Addr->Option HO
noncomputable def upd(H:Hp)(a:Addr)(o:HO):Hp:=fun b=>if b=a then some o else H b
theorem a8{H:Hp}{a:Addr}{o:HO}:upd H a o a=some o:=by unfold upd;rw[if_pos rfl]
theorem aA{H:Hp}{a b:Addr}{o:HO}(h:b≠a):upd H a o b=H b:=by unfold upd;rw[if_neg h]
theorem qx{H:Hp}{a b:Addr}{o u:HO}(h:H a=some o)(h':H b=some u)(d:o≠u):a≠b:=by
 intro e;subst e;rw[h] at h';exact d (Option.some.inj h')
theorem aB{H:Hp}{a b:Addr}{o:HO}(h:H a=some o)(h':H b=none):a≠b:=by
 intro e;subst e;rw[h] at h';cases h'
noncomputable def pE(h:Heap)(a:Addr)(items:Array Value):Prop:= ∃ o,h.get? a=some o/\o.cls= .type "tuple" /\ ∃ n,o.data= .seq items n/\o.dict=none
theorem pE.tup{h:Heap}{a:Addr}{items:Array Value}(x:pE h a items):IsTup h a items:=let ⟨o,e,c,n,d,_⟩:=x;⟨o,e,c,n,d⟩
theorem pE.new(h:Heap)(items:Array Value):pE (h.push { cls:= .type "tuple",data:= .seq items }) h.objs.size items:=⟨_,Heap.get?_push_size _ rfl,rfl,_,rfl,rfl⟩
section
variable(P:Program)(w:World)
noncomputable def bb(H:Hp)(h:Heap)(a:Addr):HO->Prop
 | .lst xs=>xs.length<=sizeLine/\ ∃(ay:List Value)(n:Nat),Vals xs ay/\h.get? a=some { cls:= .type "list",data:= .seq ay.toArray n }
 | .tup xs=>xs.length<=sizeLine/\ ∃ ay:List Value,Vals xs ay/\pE h a ay.toArray
 | .dK kvs=>kvs.length<=sizeLine/\(a == sysModules)=false/\ ∃ vs,KV kvs vs/\h.DictOf (aJ P w) a vs
 | .dT kvs=>kvs.length<=sizeLine/\(a == sysModules)=false/\ ∃ xs:List (List Key × Addr × Value),
   Paired (fun (p:List Key × V) (q:List Key × Addr × Value)=>p.1=q.1/\H q.2.1=some (.tup (p.1.map kV))/\RelV p.2 q.2.2) kvs xs /\
   ∃ o es ep,h.get? a=some o/\o.ExactDict/\o.data= .dict es ep/\es.toList=xs.map (entryOfKey (tupleKind (aJ P w)))/\(xs.map (·.1)).Nodup
 | .set S n=>h.SetOf (intKind P w) a S n
 | .ins C dx fs=>H dx=some (.own a)/\fs.length<=1000/\dx≠a/\h.get? a=some (PySem.W.instObj C dx) /\
   ∃ mA,h.Ns1 dx mA/\(∀ f,j7 (fs.lookup f) (mA f))/\PySem.Within mA (fs.map (·.1))
 | .own _=> ∃ o,h.get? a=some o
 | .xd fs=> ∃ mA,h.Ns1 a mA/\ ∀ f,j7 (fs.lookup f) (mA f)
 | .yJ lo hi=> ∃ t u v,h.get? a=some { cls:= .type "range",data:= .fields #[.int lo t,.int hi u,.int 1 v] }
 | .jy o u=>h.get? a=some o/\bb H h a u
 | .tbl ps=>h.get? a=some { cls:= .none,data:= .fields ps }
 | .met f x=>h.get? a=some (PySem.W.methodObj (.ref f) (.ref x))
 | .ext φ => φ h/\(∃ o,h.get? a=some o)/\ ∀ h1 h2:Heap, φ h1->(∀ o,h1.get? a=some o->h2.get? a=some o)-> φ h2
noncomputable def jm(H:Hp)(h:Heap):Prop:= ∀ a o,H a=some o->bb P w H h a o
end
section
variable{P:Program}{w:World}{H H':Hp}{h h':Heap}{a:Addr}{o:HO}
theorem bb.lt(x:bb P w H h a o):a < h.objs.size:=by
 cases o with
 | lst xs=>obtain⟨_,_,_,_,e⟩:=x;exact Heap.lt_size e
 | tup xs=>obtain⟨_,_,_,p⟩:=x;exact p.tup.lt
 | dK kvs=>obtain⟨_,_,_,_,o,_,_,e,_⟩:=x;exact Heap.lt_size e
 | dT kvs=>obtain⟨_,_,_,_,o,_,_,e,_⟩:=x;exact Heap.lt_size e
 | set S n=>obtain⟨o,_,_,_,e,_⟩:=x;exact Heap.lt_size e
 | ins C dx fs=>obtain⟨_,_,_,e,_⟩:=x;exact Heap.lt_size e
 | own y=>obtain⟨_,e⟩:=x;exact Heap.lt_size e
 | xd fs=>obtain⟨_,⟨_,_,_,e,_⟩,_⟩:=x;exact Heap.lt_size e
 | yJ lo hi=>obtain⟨_,_,_,e⟩:=x;exact Heap.lt_size e
 | jy ob u=>obtain⟨e,_⟩:=x;exact Heap.lt_size e
 | tbl ps=>exact Heap.lt_size (show h.get? a=some _ from x)
 | met f y=>exact Heap.lt_size (show h.get? a=some _ from x)
 | ext φ =>obtain⟨_,⟨_,e⟩,_⟩:=x;exact Heap.lt_size e
theorem Paired.yp{α β :Type}{F G: α -> β ->Prop}: ∀{l₁ :List α}{l₂ :List β},Paired F l₁ l₂ ->(∀ a b,F a b->G a b)->Paired G l₁ l₂
 | _,_,.nil,_=> .nil
 | _,_,.cons r t,f=> .cons (f _ _ r) (Paired.yp t f)
theorem bb.rJ(x:bb P w H h a o)(k: ∀ b u,(b=a\/H b=some (.own a))->h.get? b=some u->h'.get? b=some u)
  (ho: ∀ b,H b=some (.own a)->H' b=some (.own a)) (ht: ∀ b xs,H b=some (.tup xs)->H' b=some (.tup xs)):bb P w H' h' a o:=by
 induction o with
 | lst xs=>obtain⟨z,ay,n,r,e⟩:=x;exact⟨z,ay,n,r,k _ _ (.inl rfl) e⟩
 | tup xs=>obtain⟨z,ay,r,ob,e,c⟩:=x;exact⟨z,ay,r,ob,k _ _ (.inl rfl) e,c⟩
 | dK kvs=>obtain⟨z,y,vs,r,ob,es,ep,e,c⟩:=x;exact⟨z,y,vs,r,ob,es,ep,k _ _ (.inl rfl) e,c⟩
 | dT kvs =>
  obtain⟨z,y,xs,r,ob,es,ep,e,c⟩:=x
  exact⟨z,y,xs,Paired.yp r fun p q z=>⟨z.1,ht _ _ z.2.1,z.2.2⟩,ob,es,ep,k _ _ (.inl rfl) e,c⟩
 | set S n=>obtain⟨ob,es,ep,t,e,c⟩:=x;exact⟨ob,es,ep,t,k _ _ (.inl rfl) e,c⟩
 | ins C dx fs =>
  obtain⟨d,z,ne,e,mA,⟨od,es,ep,e2,c⟩,r⟩:=x
  exact⟨ho _ d,z,ne,k _ _ (.inl rfl) e,mA,⟨od,es,ep,k _ _ (.inr d) e2,c⟩,r⟩
 | own y=>obtain⟨ob,e⟩:=x;exact⟨ob,k _ _ (.inl rfl) e⟩
 | xd fs=>obtain⟨mA,⟨od,es,ep,e,c⟩,r⟩:=x;exact⟨mA,⟨od,es,ep,k _ _ (.inl rfl) e,c⟩,r⟩
 | yJ lo hi=>obtain⟨t,u,v,e⟩:=x;exact⟨t,u,v,k _ _ (.inl rfl) e⟩
 | jy ob u ih=>obtain⟨e,q⟩:=x;exact⟨k _ _ (.inl rfl) e,ih q⟩
 | tbl ps =>
  have e:h.get? a=some { cls:= .none,data:= .fields ps }:=x
  show h'.get? a=some { cls:= .none,data:= .fields ps }
  exact k a _ (.inl rfl) e
 | met f y =>
  have e:h.get? a=some (PySem.W.methodObj (.ref f) (.ref y)):=x
  show h'.get? a=some (PySem.W.methodObj (.ref f) (.ref y))
  exact k a _ (.inl rfl) e
 | ext φ =>obtain⟨p,⟨o,e⟩,st⟩:=x;exact⟨st _ _ p fun o q=>k _ _ (.inl rfl) q,⟨o,k _ _ (.inl rfl) e⟩,st⟩
theorem jm.lt(x:jm P w H h)(e:H a=some o):a < h.objs.size:=(x a o e).lt
theorem jm.fresh(x:jm P w H h)(e:h.objs.size<=a):H a=none:=by
 cases q:H a with
 | none=>rfl
 | some u=>exact absurd (Nat.lt_of_lt_of_le (x.lt q) e) (Nat.lt_irrefl _)
theorem jm.kept(x:jm P w H h)(k: ∀ b u,h.get? b=some u->h'.get? b=some u):jm P w H h':=fun a o e =>
 (x a o e).rJ (fun b u _ q=>k b u q) (fun _ q=>q) fun _ _ q=>q
theorem jm.laid(x:jm P w H h)(k: ∀ b u,h.get? b=some u->h'.get? b=some u)(hp:h.objs.size<=a)(new:bb P w (upd H a o) h' a o):jm P w (upd H a o) h':=fun b u e=>by
 have hn:=x.fresh hp
 by_cases hb:b=a
 · subst hb;rw[a8] at e;cases e;exact new
 · rw[aA hb] at e
   exact(x b u e).rJ (fun c v _ q=>k c v q) (fun c q=>by rw[aA (aB q hn)];exact q) fun c xs q=>by rw[aA (aB q hn)];exact q
end
noncomputable def Rd(H:Hp)(a:Addr)(u:HO):Prop:=H a=some u\/ ∃ o,H a=some (.jy o u)
theorem Rd.of{H:Hp}{a:Addr}{u:HO}(h:H a=some u):Rd H a u:= .inl h
theorem Rd.ok{P:Program}{w:World}{H:Hp}{h:Heap}{a:Addr}{u:HO}(r:Rd H a u)(x:jm P w H h):bb P w H h a u:=by
 rcases r with r | ⟨o,r⟩
 · exact x a u r
 · obtain⟨_,q⟩:=x a _ r
   exact q
noncomputable def K3:Option HO->Prop
 | some (.lst _)=>True
 | some (.dK _)=>True
 | some (.dT _)=>True
 | some (.set _ _)=>True
 | some (.ins _ _ _)=>True
 | some (.ext _)=>True
 | _=>False
section
variable{P:Program}{w:World}{H:Hp}{h h':Heap}{x e:Addr}{o':HO}
theorem jm.write(ok:jm P w H h)(mu:K3 (H x))(he:e=x\/H e=some (.own x))(k: ∀ b u,b≠e->h.get? b=some u->h'.get? b=some u)(heo: ∃ u,h'.get? e=some u)
  (new:bb P w (upd H x o') h' x o'):jm P w (upd H x o') h':=fun b u q=>by
 have nown: ∀ c y,H c=some (.own y)->c≠x:=fun c y r z=>by subst z;rw[r] at mu;exact mu
 have ntup: ∀ c xs,H c=some (.tup xs)->c≠x:=fun c xs r z=>by subst z;rw[r] at mu;exact mu
 by_cases hb:b=x
 · subst hb;rw[a8] at q;cases q;exact new
 · rw[aA hb] at q
   by_cases hbe:b=e
   · have q':H b=some (.own x):=by
      rcases he with z | z
      · exact absurd (hbe.trans z) hb
      · rw[hbe];exact z
     rw[q] at q';cases q'
     obtain⟨v,hv⟩:=heo
     exact⟨v,by rw[hbe];exact hv⟩
   · refine(ok b u q).rJ (fun c v hc r=>k c v ?_ r) (fun c r=>by rw[aA (nown c b r)];exact r) fun c xs r=>by rw[aA (ntup c xs r)];exact r
     rcases hc with rfl | hc
     · exact hbe
     · rintro rfl
       rcases he with z | z
       · exact nown c b hc z
       · rw[hc] at z;cases z;exact hb rfl
end
structure Un(fs ex:List Addr)(H H':Hp)(h h':Heap):Prop where
 keep: ∀ b o,h.get? b=some o->H b=none->b ∉ fs->b ∉ ex->h'.get? b=some o
 slot: ∀ b o,h.get? b=some o->H b=none->b∈fs->b ∉ ex-> ∃ sl,h'.get? b=some { o with slots:=sl }
 free: ∀ b o,h.get? b=some o->H b=none->b ∉ ex->H' b=none
 there: ∀ b o,h.get? b=some o->b ∉ ex-> ∃ o',h'.get? b=some o'
 kb: ∀ b xs,H b=some (.tup xs)->H' b=some (.tup xs)
 jB: ∀ b o u,H b=some (.jy o u)->H' b=some (.jy o u)
 kY: ∀ b ps,H b=some (.tbl ps)-> ∃ more,H' b=some (.tbl (ps++more))
section
variable{fs fs' ex ex':List Addr}{H H1 H2:Hp}{h h1 h2 h':Heap}{a x e:Addr}{o:HO}
theorem Un.any(u:Un fs ex H H1 h h1){b:Addr}{ob:Obj}(q:h.get? b=some ob)(n:H b=none)(hx:b ∉ ex): ∃ sl,h1.get? b=some { ob with slots:=sl }:=by
 by_cases hb:b∈fs
 · exact u.slot b ob q n hb hx
 · exact⟨ob.slots,u.keep b ob q n hb hx⟩
theorem Un.trans(a:Un fs ex H H1 h h1)(b:Un fs ex H1 H2 h1 h2):Un fs ex H H2 h h2 where
 keep:=fun c ob q n hc hx=>b.keep c ob (a.keep c ob q n hc hx) (a.free c ob q n hx) hc hx
 slot:=fun c ob q n hc hx=>by
  obtain⟨sl,e1⟩:=a.slot c ob q n hc hx
  obtain⟨sl',e2⟩:=b.slot c _ e1 (a.free c ob q n hx) hc hx
  exact⟨sl',e2⟩
 free:=fun c ob q n hx=>by
  obtain⟨o',e1⟩:=a.there c ob q hx
  exact b.free c o' e1 (a.free c ob q n hx) hx
 there:=fun c ob q hx=>by
  obtain⟨o',e1⟩:=a.there c ob q hx
  exact b.there c o' e1 hx
 kb:=fun c xs q=>b.kb c xs (a.kb c xs q)
 jB:=fun c ob xs q=>b.jB c ob xs (a.jB c ob xs q)
 kY:=fun c ps q=>by
  obtain⟨m1,e1⟩:=a.kY c ps q
  obtain⟨m2,e2⟩:=b.kY c _ e1
  exact⟨m1++m2,by rw[e2,Array.append_assoc]⟩
theorem Un.kept(k: ∀ b u,h.get? b=some u->h'.get? b=some u):Un fs ex H H h h' :=
 ⟨fun b ob q _ _ _=>k b ob q,fun b ob q _ _ _=>⟨ob.slots,k b ob q⟩,fun _ _ _ n _=>n,fun b ob q _=>⟨ob,k b ob q⟩,fun _ _ q=>q,fun _ _ _ q=>q,fun _ ps q=>⟨#[],by rw[q];simp⟩⟩
theorem Un.refl:Un fs ex H H h h:=Un.kept fun _ _ q=>q
theorem Un.laid(k: ∀ b u,h.get? b=some u->h'.get? b=some u)(hp:h.objs.size<=a)(hn:H a=none):Un fs ex H (upd H a o) h h' where
 keep:=fun b u q _ _ _=>k b u q
 slot:=fun b u q _ _ _=>⟨u.slots,k b u q⟩
 free:=fun b u q n _=>by rw[aA (Nat.ne_of_lt (Nat.lt_of_lt_of_le (Heap.lt_size q) hp))];exact n
 there:=fun b u q _=>⟨u,k b u q⟩
 kb:=fun b xs q=>by rw[aA (aB q hn)];exact q
 jB:=fun b u xs q=>by rw[aA (aB q hn)];exact q
 kY:=fun b ps q=>⟨#[],by rw[aA (aB q hn),q];simp⟩
theorem Un.write(mu:K3 (H x))(he:e=x\/H e=some (.own x))(k: ∀ b u,b≠e->h.get? b=some u->h'.get? b=some u)(heo: ∃ u,h'.get? e=some u):Un fs ex H (upd H x o) h h':=by
 have hx: ∀ b,H b=none->b≠x:=fun b n z=>by subst z;rw[n] at mu;exact mu
 have hb: ∀ b,H b=none->b≠e:=fun b n z=>by
  subst z
  rcases he with r | r
  · exact hx b n r
  · rw[n] at r;cases r
 have hm: ∀ b u,H b=some u-> ¬ K3 (some u)->b≠x:=fun b u q nm z=>by subst z;rw[q] at mu;exact nm mu
 refine⟨fun b u q n _ _=>k b u (hb b n) q,fun b u q n _ _=>⟨u.slots,k b u (hb b n) q⟩,fun b u q n _=>by rw[aA (hx b n)];exact n,fun b u q _=>?_,
  fun b xs q=>by rw[aA (hm b _ q fun z=>z)];exact q,fun b u xs q=>by rw[aA (hm b _ q fun z=>z)];exact q,fun b ps q=>⟨#[],by rw[aA (hm b _ q fun z=>z),q];simp⟩⟩
 by_cases hbe:b=e
 · subst hbe;exact heo
 · exact⟨u,k b u hbe q⟩
theorem Un.mono(u:Un fs ex H H1 h h1)(hs: ∀ b∈fs,b∈fs')(hx: ∀ b∈ex,b∈ex'):Un fs' ex' H H1 h h1 :=
 ⟨fun b ob q n hb he=>u.keep b ob q n (fun z=>hb (hs b z)) fun z=>he (hx b z),fun _ _ q n _ he=>u.any q n fun z=>he (hx _ z),fun b ob q n he=>u.free b ob q n fun z=>he (hx b z),fun b ob q he=>u.there b ob q fun z=>he (hx b z),u.kb,u.jB,u.kY⟩
end
noncomputable def NG(h:Heap)(H:Hp):List Addr:=(List.range h.objs.size).filter fun a=>(H a).isSome
noncomputable def rB(h:Heap)(H:Hp):Heap:=PySem.W.hideAll h (NG h H)
theorem xg(h:Heap)(H:Hp):(rB h H).objs.size=h.objs.size:=PySem.W.hideAll_size _ _
theorem AS{h:Heap}{H:Hp}{b:Addr}{o:Obj}(e:h.get? b=some o)(n:H b=none):(rB h H).get? b=some o :=
 PySem.W.hideAll_get _ e fun hm=>by
  have q:(H b).isSome=true:=(List.mem_filter.mp hm).2
  rw[n] at q;simp at q
theorem Eh{h:Heap}{H:Hp}{b:Addr}{o:Obj}(e:(rB h H).get? b=some o):h.get? b=some o/\H b=none:=by
 have e':h.get? b=some o:=PySem.W.of_hideAll (NG h H) e
 refine⟨e',?_⟩
 cases q:H b with
 | none=>rfl
 | some x =>
  have hm:b∈NG h H:=List.mem_filter.mpr ⟨List.mem_range.mpr (Heap.lt_size e'),by simp[q]⟩
  have z:(rB h H).get? b=none:=PySem.W.hideAll_none (NG h H) hm
  rw[z] at e;cases e
noncomputable def Dt(g h:Heap)(L:Addr):List (Addr × Obj):=(List.range h.objs.size).filterMap fun a=>if a=L\/(g.get? a).isSome=true then none else(h.get? a).map fun o=>(a,o)
noncomputable def rest(g h:Heap)(L d:Addr):List (Addr × Obj):=(Dt g h L).filter fun p=>decide (p.1≠d)
open PySem PySem.Spec PyProof.Rows
structure Mod(K:PySem.W.Frag)(mg:Str->Option Value)(base:Heap):Prop where
 Ol:K.In base
 glob:base.Ns mainGlobals mg
 blt: ∃ mb,base.Ns builtinsNs mb/\ ∀ x:Str,x≠ "__name__" ->mb x=bootBuiltins x
 nolimit:base.NoLimit
structure Cx where
 prog:Program
 w:World
 K:PySem.W.Frag
 mg:Str->Option Value
 base:Heap
 A:Around
 N:List Str
 s₀ :Shared
 H₀ :Hp
 env:Env
 outer:List Env
 stack:List Env
 ex:List Addr
 fn:Str->Bool
 calm:Bool
 pn:List (Addr × Obj)
 xe:Value->Shared->Prop
noncomputable def yA(l:List Env):List Addr:=l.filterMap (·.frame)
abbrev Cx.fs(X:Cx):List Addr:=yA X.outer
noncomputable def FF(sc:Scope)(x:Str):Prop:=sc.names.lookup x=some .local\/sc.names.lookup x=some .cell\/sc.names.lookup x=some .free
noncomputable def Loc(sc:Scope)(x:Str):Prop:=sc.names.lookup x=some .local\/sc.names.lookup x=some .cell
noncomputable def Look(env:Env)(h:Heap)(m:Str->Option Value)(x:Str)(u:Value):Prop :=
 (env.kindOf x=some .local/\m x=some u)\/((env.kindOf x=some .cell\/env.kindOf x=some .free)/\ ∃ c,env.cells.lookup x=some c/\h.IsCell c (some u))
structure Cx.Ok(X:Cx):Prop where
 mod:Mod X.K X.mg X.base
 kind:X.env.scope.kind= .function
 glob:X.env.globals=mainGlobals
 blt:X.env.builtins=builtinsNs
 above:X.s₀.heap.objs.size<=X.env.locals
 inj: ∀ x y c,X.env.cells.lookup x=some c->X.env.cells.lookup y=some c->x=y
 has: ∀ x,(X.env.kindOf x=some .cell\/X.env.kindOf x=some .free)-> ∃ c,X.env.cells.lookup x=some c
 KU: ∀ x c,X.fn x=true->X.env.cells.lookup x=some c->X.s₀.heap.objs.size<=c
 hd:X.calm=true->X.A.handled=none
 frames:X.A.frames=some X.stack
 LJ:X.stack=X.outer\/(X.stack=X.env::X.outer/\X.env.frame=some X.env.locals)
 N8: ∀ b∈X.ex,b≠X.env.locals/\ ∀ x c,X.env.cells.lookup x=some c->c≠b
 bs: ∀ b o,X.base.get? b=some o->X.s₀.heap.get? b=some o/\X.H₀ b=none
 B6:X.base.objs.size<=X.s₀.heap.objs.size
 yv: ∀ b o,X.base.get? b=some o->b ∉ X.ex
 yZ: ∀ b∈X.ex,b ∉ X.fs
 kR:X.s₀.heap.FunFrames X.base X.outer
 FN: ∀ b∈X.fs,X.H₀ b=none
structure Inv(X:Cx)(pins:List (Addr × Obj))(σ :List (Option V))(H:Hp)(s:Shared):Prop where
 ok:X.Ok
 os:s.os=X.s₀.os
 bare:AllBare s.gens
 base:Un X.fs X.ex X.H₀ H X.s₀.heap s.heap
 loc: ∃ m,s.heap.Ns X.env.locals m/\ ∀(i:Nat)(x:Str)(v:V),X.N[i]?=some x-> σ[i]?=some (some v)->FF X.env.scope x-> ∃ u,RelV v u/\Look X.env s.heap m x u
 cell: ∀ x c,X.env.cells.lookup x=some c-> ∃ v,s.heap.IsCell c v
 free:H X.env.locals=none
 iC: ∀ x c,X.env.cells.lookup x=some c->H c=none
 pin: ∀ p∈X.pn++pins,s.heap.get? p.1=some p.2/\H p.1=none/\p.1≠X.env.locals/\p.1 ∉ X.fs/\ ∀ v,p.2.data≠ .cell v
 bu:jm X.prog X.w H s.heap
 len: σ.length=X.N.length
section
variable{X:Cx}{pins:List (Addr × Obj)}{σ :List (Option V)}{H H':Hp}{s:Shared}{h':Heap}
theorem Cx.Ok.Om(ok:X.Ok){b:Addr}{o:Obj}(e:X.base.get? b=some o):b ∉ X.fs:=fun hb=>by
 have:=(ok.kR.mem hb).1
 rw[e] at this;cases this
theorem Inv.bs(I:Inv X pins σ H s): ∀ b o,X.base.get? b=some o->s.heap.get? b=some o/\H b=none:=fun b o e =>
 ⟨I.base.keep b o (I.ok.bs b o e).1 (I.ok.bs b o e).2 (I.ok.Om e) (I.ok.yv b o e),I.base.free b o (I.ok.bs b o e).1 (I.ok.bs b o e).2 (I.ok.yv b o e)⟩
theorem Inv.bk(I:Inv X pins σ H s): ∀ b o,X.base.get? b=some o->s.heap.get? b=some o:=fun b o e=>(I.bs b o e).1
theorem Inv.mod(I:Inv X pins σ H s):Mod X.K X.mg X.base:=I.ok.mod
theorem Inv.kH(I:Inv X pins σ H s):X.K.In s.heap:=I.ok.mod.Ol.keeps I.bk
theorem Inv.nolimit(I:Inv X pins σ H s):s.heap.NoLimit:=I.ok.mod.nolimit.keeps I.bk
theorem Inv.fr(I:Inv X pins σ H s): ∃ m,Fr X.base X.env.locals s.heap m :=
 let ⟨m,hn,_⟩:=I.loc
 ⟨m,hn,I.bk,Nat.le_trans I.ok.B6 I.ok.above⟩
theorem Inv.lt(I:Inv X pins σ H s):X.env.locals < s.heap.objs.size:=let ⟨_,hn,_⟩:=I.loc;hn.lt
theorem Inv.sz(I:Inv X pins σ H s):X.s₀.heap.objs.size<=s.heap.objs.size:=Nat.le_trans I.ok.above (Nat.le_of_lt I.lt)
theorem Inv.L0(I:Inv X pins σ H s){a:Addr}(h:s.heap.objs.size<=a):a ∉ X.fs:=fun hb=>by
 obtain⟨_,o,ho,_⟩:=I.ok.kR.mem hb
 exact absurd (Nat.lt_of_lt_of_le (Heap.lt_size ho) (Nat.le_trans I.sz h)) (Nat.lt_irrefl _)
theorem Inv.HP(I:Inv X pins σ H s): ∀ x c,X.env.cells.lookup x=some c->c≠X.env.locals:=fun x c e z=>by
 obtain⟨v,o,ho,hd⟩:=I.cell x c e
 obtain⟨m,⟨o',es,ep,ho',hd',_⟩,_⟩:=I.loc
 rw[z,ho'] at ho;cases ho;rw[hd'] at hd;cases hd
theorem Inv.kR(I:Inv X pins σ H s):s.heap.FunFrames X.base X.outer:=by
 have all: ∀(l:List Env),(∀ b∈yA l,b∈X.fs)->X.s₀.heap.FunFrames X.base l->s.heap.FunFrames X.base l:=by
  intro l
  induction l with
  | nil=>intro _ _;trivial
  | cons env r ih =>
   intro hs hl
   obtain⟨hk,⟨L,o,hf,hn,ho,hd⟩,hr⟩:=hl
   have hL:L∈X.fs:=hs L (by unfold yA;rw[List.filterMap_cons,hf];exact List.mem_cons_self)
   obtain⟨sl,e⟩:=I.base.slot L o ho (I.ok.FN L hL) hL fun z=>I.ok.yZ L z hL
   exact⟨hk,⟨L,_,hf,hn,e,hd⟩,ih (fun b hb=>hs b (by unfold yA;rw[List.filterMap_cons,hf];exact List.mem_cons_of_mem _ hb)) hr⟩
 exact all X.outer (fun _ hb=>hb) I.ok.kR
theorem Inv.stack(I:Inv X pins σ H s):s.heap.FunFrames X.base X.stack:=by
 rcases I.ok.LJ with e | ⟨e,hf⟩
 · rw[e];exact I.kR
 · rw[e]
   obtain⟨m,hn,_⟩:=I.loc
   refine .cons (by rw[I.ok.kind];decide) hf hn ?_ I.kR
   exact Heap.get?_none_of_le (Nat.le_trans I.ok.B6 I.ok.above)
theorem Inv.kK(I:Inv X pins σ H s): ∀ b∈yA X.stack,b∈X.env.locals::X.fs:=fun b hb=>by
 rcases I.ok.LJ with e | ⟨e,hf⟩
 · rw[e] at hb;exact List.mem_cons_of_mem _ hb
 · rw[e] at hb
   unfold yA at hb
   rw[List.filterMap_cons,hf] at hb
   exact hb
theorem Inv.wJ(I:Inv X pins σ H s): ∀ b∈yA X.stack,H b=none:=fun b hb=>by
 rcases List.mem_cons.mp (I.kK b hb) with e | hb
 · rw[e];exact I.free
 · obtain⟨_,o,ho,_⟩:=I.ok.kR.mem hb
   exact I.base.free b o ho (I.ok.FN b hb) fun z=>I.ok.yZ b z hb
theorem Inv.step{g':Array GenState}{t':Nat}{d':Drawn}{ch:List Addr}(I:Inv X pins σ H s)
  (hch: ∀ b∈ch,(b∈X.ex\/X.s₀.heap.objs.size<=b)/\b≠X.env.locals/\(∀ x c,X.env.cells.lookup x=some c->c≠b)/\ ∀ p∈X.pn++pins,p.1≠b)
  (keep: ∀ b o,b≠X.env.locals->b ∉ X.fs->b ∉ ch->s.heap.get? b=some o->H b=none->h'.get? b=some o)
  (slot: ∀ b o,b≠X.env.locals->b∈X.fs->b ∉ ch->s.heap.get? b=some o->H b=none-> ∃ sl,h'.get? b=some { o with slots:=sl }) (free: ∀ b o,b ∉ ch->s.heap.get? b=some o->H b=none->H' b=none)
  (there: ∀ b o,b ∉ ch->s.heap.get? b=some o-> ∃ o',h'.get? b=some o')
  (kb: ∀ b xs,H b=some (.tup xs)->H' b=some (.tup xs)) (jB: ∀ b o u,H b=some (.jy o u)->H' b=some (.jy o u)) (kY: ∀ b ps,H b=some (.tbl ps)-> ∃ more,H' b=some (.tbl (ps++more)))
  (ns: ∀ m,s.heap.Ns X.env.locals m->h'.Ns X.env.locals m) (bu:jm X.prog X.w H' h') (hg:AllBare g') :
  Inv X pins σ H' { s with heap:=h',gens:=g',drawn:=d',toks:=t' }:=by
 have neL: ∀ b o,X.s₀.heap.get? b=some o->b≠X.env.locals:=fun b o e=>Nat.ne_of_lt (Nat.lt_of_lt_of_le (Heap.lt_size e) I.ok.above)
 have neC: ∀ b o,X.s₀.heap.get? b=some o->b ∉ X.ex->b ∉ ch:=fun b o e hx hb=>by
  rcases(hch b hb).1 with z | z
  · exact hx z
  · exact absurd (Nat.lt_of_lt_of_le (Heap.lt_size e) z) (Nat.lt_irrefl _)
 have cellK: ∀ x c,X.env.cells.lookup x=some c-> ∀ v,s.heap.IsCell c v->h'.IsCell c v:=fun x c e v ⟨o,ho,hd⟩=>by
  have nch:c ∉ ch:=fun z=>(hch c z).2.2.1 x c e rfl
  by_cases hc:c∈X.fs
  · obtain⟨sl,q⟩:=slot c o (I.HP x c e) hc nch ho (I.iC x c e)
    exact⟨_,q,hd⟩
  · exact⟨o,keep c o (I.HP x c e) hc nch ho (I.iC x c e),hd⟩
 refine⟨I.ok,I.os,hg,⟨fun b o e n hb hx=>?_,fun b o e n hb hx=>?_,fun b o e n hx=>?_,fun b o e hx=>?_,fun b xs e=>kb b xs (I.base.kb b xs e),fun b o xs e=>jB b o xs (I.base.jB b o xs e),fun b ps e=>?_⟩,?_,fun x c e=>?_,?_,fun x c e=>?_,fun p hp=>?_,bu,I.len⟩
 · exact keep b o (neL b o e) hb (neC b o e hx) (I.base.keep b o e n hb hx) (I.base.free b o e n hx)
 · obtain⟨sl,e1⟩:=I.base.slot b o e n hb hx
   obtain⟨sl',e2⟩:=slot b _ (neL b o e) hb (neC b o e hx) e1 (I.base.free b o e n hx)
   exact⟨sl',e2⟩
 · obtain⟨o',e1⟩:=I.base.there b o e hx
   exact free b o' (neC b o e hx) e1 (I.base.free b o e n hx)
 · obtain⟨o',e1⟩:=I.base.there b o e hx
   exact there b o' (neC b o e hx) e1
 · obtain⟨m1,e1⟩:=I.base.kY b ps e
   obtain⟨m2,e2⟩:=kY b _ e1
   exact⟨m1++m2,by rw[e2,Array.append_assoc]⟩
 · obtain⟨m,hn,hl⟩:=I.loc
   refine⟨m,ns m hn,fun i x v e1 e2 e3=>?_⟩
   obtain⟨u,r,l⟩:=hl i x v e1 e2 e3
   refine⟨u,r,?_⟩
   rcases l with l | ⟨k,c,e,z⟩
   · exact .inl l
   · exact .inr ⟨k,c,e,cellK x c e _ z⟩
 · obtain⟨v,z⟩:=I.cell x c e
   exact⟨v,cellK x c e v z⟩
 · obtain⟨m,⟨o,_,_,ho,_⟩,_⟩:=I.loc
   exact free _ o (fun z=>(hch _ z).2.1 rfl) ho I.free
 · obtain⟨v,o,ho,hd⟩:=I.cell x c e
   exact free c o (fun z=>(hch c z).2.2.1 x c e rfl) ho (I.iC x c e)
 · obtain⟨e,n,ne,nf,d⟩:=I.pin p hp
   have nch:p.1 ∉ ch:=fun z=>(hch p.1 z).2.2.2 p hp rfl
   exact⟨keep p.1 p.2 ne nf nch e n,free p.1 p.2 nch e n,ne,nf,d⟩
theorem Inv.un{t':Nat}(I:Inv X pins σ H s)(u:Un X.fs [] H H' s.heap h')(bu:jm X.prog X.w H' h'):Inv X pins σ H' { s with heap:=h',toks:=t' }:=by
 obtain⟨m,⟨o,es,ep,ho,r⟩,_⟩:=id I.loc
 obtain⟨sl,hL⟩:=u.any ho I.free (by simp)
 exact I.step (g':=s.gens) (d':=s.drawn) (ch:=[]) (fun _ z=>nomatch z) (fun b o _ hb _ e n=>u.keep b o e n hb (by simp)) (fun b o _ hb _ e n=>u.slot b o e n hb (by simp)) (fun b o _ e n=>u.free b o e n (by simp)) (fun b o _ e=>u.there b o e (by simp)) u.kb u.jB u.kY (fun m' hm=>by
  obtain⟨o',es',ep',ho',r'⟩:=hm
  rw[ho] at ho';cases ho'
  exact⟨_,es',ep',hL,r'⟩) bu I.bare
theorem Inv.call{g':Array GenState}{t':Nat}{d':Drawn}{ch:List Addr}(I:Inv X pins σ H s)(u:Un (yA X.stack) ch H H' s.heap h')(bu:jm X.prog X.w H' h')(hg:AllBare g')
  (hch: ∀ b∈ch,(b∈X.ex\/X.s₀.heap.objs.size<=b)/\b≠X.env.locals/\(∀ x c,X.env.cells.lookup x=some c->c≠b)/\ ∀ p∈X.pn++pins,p.1≠b) :
  Inv X pins σ H' { s with heap:=h',gens:=g',drawn:=d',toks:=t' }:=by
 obtain⟨m,⟨o,es,ep,ho,r⟩,_⟩:=id I.loc
 obtain⟨sl,hL⟩:=u.any ho I.free fun z=>(hch _ z).2.1 rfl
 exact I.step (ch:=ch) hch (fun b o hL hb hc e n=>u.keep b o e n (fun z=>(List.mem_cons.mp (I.kK b z)).elim hL hb) hc) (fun b o _ _ hc e n=>u.any e n hc) (fun b o hc e n=>u.free b o e n hc) (fun b o hc e=>u.there b o e hc) u.kb u.jB u.kY (fun m' hm=>by
  obtain⟨o',es',ep',ho',r'⟩:=hm
  rw[ho] at ho';cases ho'
  exact⟨_,es',ep',hL,r'⟩) bu hg
theorem Inv.turned{t':Nat}{it:Addr}(I:Inv X pins σ H s)(k: ∀ b o,b≠it->s.heap.get? b=some o->h'.get? b=some o)(hn:H it=none)(hL:it≠X.env.locals)
  (h1:it∈X.ex\/X.s₀.heap.objs.size<=it) (h2: ∀ x c,X.env.cells.lookup x=some c->c≠it) (h3: ∀ p∈X.pn++pins,p.1≠it):Inv X pins σ H { s with heap:=h',toks:=t' }:=by
 have nit: ∀ b u,H b=some u->b≠it:=fun b u e z=>by rw[z,hn] at e;cases e
 refine I.step (g':=s.gens) (d':=s.drawn) (ch:=[it]) (fun b hb=>?_) (fun b o _ _ hc e _=>k b o (fun z=>hc (by simp[z])) e) (fun b o _ _ hc e _=>⟨o.slots,k b o (fun z=>hc (by simp[z])) e⟩) (fun _ _ _ _ n=>n)
  (fun b o hc e=>⟨o,k b o (fun z=>hc (by simp[z])) e⟩) (fun _ _ e=>e) (fun _ _ _ e=>e) (fun b ps e=>⟨#[],by rw[e];simp⟩) (fun m hm=>?_) (fun b u e=>?_) I.bare
 · have e:b=it:=by simpa using hb
   subst e
   exact⟨h1,hL,h2,h3⟩
 · obtain⟨o,es,ep,ho,r⟩:=hm
   exact⟨o,es,ep,k _ o (Ne.symm hL) ho,r⟩
 · refine(I.bu b u e).rJ (fun c v hc q=>k c v ?_ q) (fun _ q=>q) fun _ _ q=>q
   rcases hc with z | z
   · rw[z];exact nit b u e
   · exact nit c _ z
theorem Inv.tok(I:Inv X pins σ H s)(t:Nat):Inv X pins σ H { s with toks:=t }:=I.un (h':=s.heap) (t':=t) Un.refl I.bu
theorem Inv.kept{t':Nat}(I:Inv X pins σ H s)(k: ∀ b u,s.heap.get? b=some u->h'.get? b=some u):Inv X pins σ H { s with heap:=h',toks:=t' }:=I.un (Un.kept k) (I.bu.kept k)
theorem Inv.laid{a:Addr}{o:HO}{t':Nat}(I:Inv X pins σ H s)(k: ∀ b u,s.heap.get? b=some u->h'.get? b=some u)(hp:s.heap.objs.size<=a)(new:bb X.prog X.w (upd H a o) h' a o) :
  Inv X pins σ (upd H a o) { s with heap:=h',toks:=t' }:=I.un (Un.laid k hp (I.bu.fresh hp)) (I.bu.laid k hp new)
theorem Inv.write{x e:Addr}{o:HO}{t':Nat}(I:Inv X pins σ H s)(mu:K3 (H x))(he:e=x\/H e=some (.own x))(k: ∀ b u,b≠e->s.heap.get? b=some u->h'.get? b=some u)(heo: ∃ u,h'.get? e=some u)
  (new:bb X.prog X.w (upd H x o) h' x o):Inv X pins σ (upd H x o) { s with heap:=h',toks:=t' }:=I.un (Un.write mu he k heo) (I.bu.write mu he k heo new)
theorem Inv.weak{σ':List (Option V)}(I:Inv X pins σ H s)(hl: σ'.length= σ.length)(w: ∀(i:Nat) v, σ'[i]?=some (some v)-> σ[i]?=some (some v)):Inv X pins σ' H s :=
 ⟨I.ok,I.os,I.bare,I.base,let ⟨m,hn,hl'⟩:=I.loc;⟨m,hn,fun i x v e1 e2 e3=>hl' i x v e1 (w i v e2) e3⟩,I.cell,I.free,I.iC,I.pin,I.bu,hl.trans I.len⟩
theorem Inv.iM{pins':List (Addr × Obj)}(I:Inv X pins σ H s)(h: ∀ p∈pins',s.heap.get? p.1=some p.2/\H p.1=none/\p.1≠X.env.locals/\p.1 ∉ X.fs/\ ∀ v,p.2.data≠ .cell v):Inv X pins' σ H s :=
 ⟨I.ok,I.os,I.bare,I.base,I.loc,I.cell,I.free,I.iC,fun p hp=>(List.mem_append.mp hp).elim (fun z=>I.pin p (List.mem_append_left _ z)) (h p),I.bu,I.len⟩
theorem sF{N:List Str}(hN:N.Nodup){i j:Nat}{x:Str}(a:N[i]?=some x)(b:N[j]?=some x):i=j:=by
 obtain⟨h1,e1⟩:=List.getElem?_eq_some_iff.mp a
 obtain⟨h2,e2⟩:=List.getElem?_eq_some_iff.mp b
 exact(List.getElem_inj hN).mp (e1.trans e2.symm)
theorem qj{M:Model}{A:Around}{E:Value->Shared->Prop}{i:Nat}{x:Str}{v:V}{u:Value}{Q:Unit->Shared->Prop}(I:Inv X pins σ H s)(hN:X.N.Nodup)(hi:X.N[i]?=some x)(hx:Loc X.env.scope x)(r:RelV v u)
  (h: ∀ s',Inv X pins (σ.set i (some v)) H s'->(∃ a,Heap.SameBut a s.heap s'.heap/\(a=X.env.locals\/X.env.cells.lookup x=some a))->Q () s') (hf:X.fn x=true\/X.env.scope.names.lookup x=some .local:=by first | exact .inl rfl | exact .inr rfl | assumption):wpAny M A (storeName X.env x u) Q E s:=by
 obtain⟨m,hn,hl⟩:=id I.loc
 have hcls:(X.env.scope.kind == .class||(X.env.scope.kind == .module&&X.env.locals !=X.env.globals))=false:=by rw[I.ok.kind];rfl
 have hiσ :i < σ.length:=by rw[I.len];exact(List.getElem?_eq_some_iff.mp hi).1
 have HP:=I.HP
 have tracked: ∀{a:Addr}{h':Heap},(∃ o,s.heap.get? a=some o/\H a=none)->Heap.SameBut a s.heap h'->jm X.prog X.w H h':=fun {a h'} ha hs b ob e=>by
  obtain⟨_,_,hfree⟩:=ha
  refine(I.bu b ob e).rJ (fun c w' hc q=>(hs.2 c ?_).trans q) (fun _ q=>q) fun _ _ q=>q
  rintro rfl
  rcases hc with rfl | hc
  · rw[hfree] at e;cases e
  · rw[hfree] at hc;cases hc
 rcases hx with hk | hk
 · refine wpAny_storeName_local hk hn (fun h' hn' hs=>?_) hcls
   obtain⟨oL,_,_,hoL,_⟩:=id hn
   refine h _ ⟨I.ok,I.os,I.bare,⟨fun b o e n hb hx=>?_,fun b o e n hb hx=>?_,I.base.free,fun b o e hx=>?_,I.base.kb,I.base.jB,I.base.kY⟩,⟨_,hn',fun j y v' e1 e2 e3=>?_⟩,fun y c e=>?_,I.free,I.iC,fun p hp=>?_,tracked ⟨oL,hoL,I.free⟩ hs,by simpa using I.len⟩ ⟨_,hs,.inl rfl⟩
   · exact(hs.2 b (Nat.ne_of_lt (Nat.lt_of_lt_of_le (Heap.lt_size e) I.ok.above))).trans (I.base.keep b o e n hb hx)
   · obtain⟨sl,e1⟩:=I.base.slot b o e n hb hx
     exact⟨sl,(hs.2 b (Nat.ne_of_lt (Nat.lt_of_lt_of_le (Heap.lt_size e) I.ok.above))).trans e1⟩
   · obtain⟨o',e1⟩:=I.base.there b o e hx
     exact⟨o',(hs.2 b (Nat.ne_of_lt (Nat.lt_of_lt_of_le (Heap.lt_size e) I.ok.above))).trans e1⟩
   · by_cases hj:j=i
     · subst hj
       rw[hi] at e1;cases e1
       rw[List.getElem?_set_self hiσ] at e2
       cases e2
       exact⟨u,r,.inl ⟨hk,by simp⟩⟩
     · rw[List.getElem?_set_ne (Ne.symm hj)] at e2
       obtain⟨u',r',q⟩:=hl j y v' e1 e2 e3
       refine⟨u',r',?_⟩
       rcases q with⟨k,e⟩ | ⟨k,c,e,z⟩
       · refine .inl ⟨k,?_⟩
         have:y≠x:=fun e=>hj (sF hN e1 (e ▸ hi))
         simp[this,e]
       · exact .inr ⟨k,c,e,z.sameBut hs (HP y c e)⟩
   · obtain⟨w',z⟩:=I.cell y c e
     exact⟨w',z.sameBut hs (HP y c e)⟩
   · obtain⟨e,n,ne,nf,d⟩:=I.pin p hp
     exact⟨(hs.2 p.1 ne).trans e,n,ne,nf,d⟩
 · have hfn:X.fn x=true:=by
    rcases hf with z | z
    · exact z
    · rw[z] at hk;cases hk
   obtain⟨c,hc⟩:=I.ok.has x (.inl hk)
   obtain⟨w',z⟩:=I.cell x c hc
   refine wpAny_storeName_cell I.ok.kind hk hc z (fun h' hc' hs=>?_)
   obtain⟨oc,hoc,hocd⟩:=id z
   refine h { s with heap:=h' } ⟨I.ok,I.os,I.bare,⟨fun b o e n hb hx=>?_,fun b o e n hb hx=>?_,I.base.free,fun b o e hx=>?_,I.base.kb,I.base.jB,I.base.kY⟩,⟨m,hn.sameBut hs (Ne.symm (HP x c hc)),fun j y v' e1 e2 e3=>?_⟩,fun y c' e=>?_,I.free,I.iC,fun p hp=>?_,tracked ⟨oc,hoc,I.iC x c hc⟩ hs,by simpa using I.len⟩ ⟨c,hs,.inr hc⟩
   · exact(hs.2 b (Nat.ne_of_lt (Nat.lt_of_lt_of_le (Heap.lt_size e) (I.ok.KU x c hfn hc)))).trans (I.base.keep b o e n hb hx)
   · obtain⟨sl,e1⟩:=I.base.slot b o e n hb hx
     exact⟨sl,(hs.2 b (Nat.ne_of_lt (Nat.lt_of_lt_of_le (Heap.lt_size e) (I.ok.KU x c hfn hc)))).trans e1⟩
   · obtain⟨o',e1⟩:=I.base.there b o e hx
     exact⟨o',(hs.2 b (Nat.ne_of_lt (Nat.lt_of_lt_of_le (Heap.lt_size e) (I.ok.KU x c hfn hc)))).trans e1⟩
   · by_cases hj:j=i
     · subst hj
       rw[hi] at e1;cases e1
       rw[List.getElem?_set_self hiσ] at e2
       cases e2
       exact⟨u,r,.inr ⟨.inl hk,c,hc,hc'⟩⟩
     · rw[List.getElem?_set_ne (Ne.symm hj)] at e2
       obtain⟨u',r',q⟩:=hl j y v' e1 e2 e3
       refine⟨u',r',?_⟩
       rcases q with q | ⟨k,c',e,z'⟩
       · exact .inl q
       · refine .inr ⟨k,c',e,z'.sameBut hs ?_⟩
         rintro rfl
         exact hj (sF hN e1 (I.ok.inj _ _ _ e hc ▸ hi))
   · by_cases hcc:c'=c
     · subst hcc;exact⟨_,hc'⟩
     · obtain⟨w2,z2⟩:=I.cell y c' e
       exact⟨w2,z2.sameBut hs hcc⟩
   · obtain⟨e,n,ne,nf,d⟩:=I.pin p hp
     refine⟨(hs.2 p.1 ?_).trans e,n,ne,nf,d⟩
     intro q
     rw[q,hoc] at e
     have q':oc=p.2:=Option.some.inj e
     exact d w' (by rw[<- q'];exact hocd)
theorem nj{M:Model}{A:Around}{E:Value->Shared->Prop}{i:Nat}{x:Str}{v:V}{u:Value}{Q:Unit->Shared->Prop}(I:Inv X pins σ H s)(hN:X.N.Nodup)(hi:X.N[i]?=some x)(hx:Loc X.env.scope x)(r:RelV v u)
  (h: ∀ s',Inv X pins (σ.set i (some v)) H s'->Q () s') (hf:X.fn x=true\/X.env.scope.names.lookup x=some .local:=by first | exact .inl rfl | exact .inr rfl | assumption):wpAny M A (storeName X.env x u) Q E s :=
 qj I hN hi hx r (fun s' I' _=>h s' I') hf
theorem Inv.Lb{s':Shared}{ch:List Addr}(I:Inv X pins σ H s)(ho:s'.os=s.os)(u:Un (yA X.stack) ch H H' s.heap s'.heap)(bu:jm X.prog X.w H' s'.heap)(hg:AllBare s'.gens)
  (hch: ∀ b∈ch,(b∈X.ex\/X.s₀.heap.objs.size<=b)/\b≠X.env.locals/\(∀ x c,X.env.cells.lookup x=some c->c≠b)/\ ∀ p∈X.pn++pins,p.1≠b):Inv X pins σ H' s':=by
 obtain⟨h',g',d',t',o'⟩:=s'
 have e:o'=s.os:=ho
 subst e
 exact I.call (g':=g') (t':=t') (d':=d') u bu hg hch
end
abbrev XK:=Value->Option Addr->Hp->Prop
abbrev St:=List (Option V)
abbrev VK:=V->Hp->Prop
abbrev TE:=St->Hp->VK->Prop
abbrev TT:=St->Hp->(Bool->Hp->Prop)->Prop
abbrev TA:=St->Hp->(List V->Hp->Prop)->Prop
structure Ends where
 nx:St->Hp->Prop
 rt:VK
 bk:St->Hp->Prop:=fun _ _=>False
 ct:St->Hp->Prop:=fun _ _=>False
abbrev TS:=Ends->St->Hp->Prop
noncomputable def EP(X:Cx)(pins:List (Addr × Obj))(σ :St)(Q:VK)(u:Value)(s':Shared):Prop:= ∃ v H',Inv X pins σ H' s'/\RelV v u/\Q v H'
noncomputable def TP(X:Cx)(pins:List (Addr × Obj))(σ :St)(Q:Bool->Hp->Prop)(b:Bool)(s':Shared):Prop:= ∃ H',Inv X pins σ H' s'/\Q b H'
noncomputable def AP(X:Cx)(pins:List (Addr × Obj))(σ :St)(Q:List V->Hp->Prop)(us:List Value)(s':Shared):Prop:= ∃ vs H',Inv X pins σ H' s'/\Vals vs us/\Q vs H'
noncomputable def SP(X:Cx)(pins:List (Addr × Obj))(D:Ends)(f:Flow)(s':Shared):Prop :=
 match f with
 | .next=> ∃ σ' H',Inv X pins σ' H' s'/\D.nx σ' H'
 | .brk=> ∃ σ' H',Inv X pins σ' H' s'/\D.bk σ' H'
 | .cont=> ∃ σ' H',Inv X pins σ' H' s'/\D.ct σ' H'
 | .ret u=> ∃ v σ' H',Inv X pins σ' H' s'/\RelV v u/\D.rt v H'
noncomputable def PE(X:Cx)(e:Expr)(t:TE):Prop :=
 ∀(pins:List (Addr × Obj))(s:Shared)(σ :St)(H:Hp)(Q:VK),Inv X pins σ H s->t σ H Q->wpAny (model X.prog X.w) X.A (eval e X.env) (EP X pins σ Q) X.xe s
noncomputable def PT(X:Cx)(e:Expr)(t:TT):Prop :=
 ∀(pins:List (Addr × Obj))(s:Shared)(σ :St)(H:Hp)(Q:Bool->Hp->Prop),Inv X pins σ H s->t σ H Q->wpAny (model X.prog X.w) X.A (isTrue e X.env (eval e X.env)) (TP X pins σ Q) X.xe s
noncomputable def PW(X:Cx)(e:Expr)(t:TT):Prop :=
 ∀(whole:Sem Value)(pins:List (Addr × Obj))(s:Shared)(σ :St)(H:Hp)(Q:Bool->Hp->Prop),Inv X pins σ H s->t σ H Q->wpAny (model X.prog X.w) X.A (isTrue e X.env whole) (TP X pins σ Q) X.xe s
theorem PW.pt{X:Cx}{e:Expr}{t:TT}(h:PW X e t):PT X e t:=h _
noncomputable def PA(X:Cx)(es:List Expr)(t:TA):Prop :=
 ∀(pos:Pos)(pins:List (Addr × Obj))(s:Shared)(σ :St)(H:Hp)(Q:List V->Hp->Prop),Inv X pins σ H s->t σ H Q->wpAny (model X.prog X.w) X.A (spliced (backTo pos (starEach es X.env))) (AP X pins σ Q) X.xe s
noncomputable def PS(X:Cx)(st:Stmt)(t:TS):Prop :=
 ∀(pins:List (Addr × Obj))(s:Shared)(σ :St)(H:Hp)(D:Ends),Inv X pins σ H s->t D σ H->wpAny (model X.prog X.w) X.A (exec st X.env) (SP X pins D) X.xe s
noncomputable def vU(X:Cx)(st:List Stmt)(t:TS):Prop :=
 ∀(pins:List (Addr × Obj))(s:Shared)(σ :St)(H:Hp)(D:Ends),Inv X pins σ H s->t D σ H->wpAny (model X.prog X.w) X.A (execs st X.env) (SP X pins D) X.xe s
theorem cD{α :Type}{t:Sem α}{Q Q': α ->Shared->Prop}{M:Model}{A:Around}{E:Value->Shared->Prop}{s:Shared}(h:wpAny M A t Q E s)(hQ: ∀ a s,Q a s->Q' a s):wpAny M A t Q' E s:=wpAny_mono h hQ fun _ _ x=>x
open PySem PySem.Spec PyProof.Rows
section
variable{X:Cx}
theorem bin{a b:Expr}{ta tb:TE}(ha:PE X a ta)(hb:PE X b tb){pins:List (Addr × Obj)}{s:Shared}{σ :St}{H:Hp}{R:V->V->Hp->Prop}(I:Inv X pins σ H s)(h:ta σ H fun x H1=>tb σ H1 fun y H2=>R x y H2)
  {α :Type} {Q: α ->Shared->Prop} {f:Value->Value->Sem α}
  (hf: ∀ v u s2 x y H2,Inv X pins σ H2 s2->RelV x v->RelV y u->R x y H2->wpAny (model X.prog X.w) X.A (f v u) Q X.xe s2) :
  wpAny (model X.prog X.w) X.A (eval a X.env) (fun v s₁ =>wpAny (model X.prog X.w) X.A (eval b X.env) (fun u s₂ =>wpAny (model X.prog X.w) X.A (f v u) Q X.xe s₂) X.xe s₁) X.xe s:=by
 refine cD (ha pins s σ H _ I h) fun v s1 ⟨x,H1,I1,r1,q1⟩=>?_
 refine cD (hb pins s1 σ H1 _ I1 q1) fun u s2 ⟨y,H2,I2,r2,q2⟩=>?_
 exact hf v u s2 x y H2 I2 r1 r2 q2
noncomputable def F5(i:Nat):TE:=fun σ H Q=> ∃ v, σ[i]?=some (some v)/\Q v H
noncomputable def tC(v:V):TE:=fun _ H Q=>Q v H
theorem yI{i:Nat}{x:Str}{pos:Pos}(hN:X.N[i]?=some x)(hv:FF X.env.scope x)(hd:(x == ("__debug__" :Str))=false:=by decide)(hcd:(x == ("__classdict__" :Str))=false:=by decide):PE X (.Name x pos) (F5 i):=by
 intro pins s σ H Q I h
 obtain⟨v,e,h⟩:=h
 obtain⟨m,hn,hl⟩:=I.loc
 obtain⟨u,r,l⟩:=hl i x v hN e hv
 have fin:EP X pins σ Q u s:=⟨v,H,I,r,h⟩
 rcases l with⟨hk,hm⟩ | ⟨hk,c,hc,hcell⟩
 · exact wpAny_Name (wpAny_loadName_local I.ok.kind hk hn hm fin) hd
 · rcases hk with hk | hk
   · exact wpAny_Name (wpAny_loadName_cell I.ok.kind hk hc hcell fin) hd
   · exact wpAny_Name (wpAny_loadName_free I.ok.kind hk hc hcell fin hcd) hd
theorem J7{i j pos}:PE X (.Constant (.int i) j pos) (tC (.int i)):=fun _ _ _ H _ I h=>wpAny_Constant_int ⟨.int i,H,I.tok _,⟨_,rfl⟩,h⟩
theorem LO{b j pos}:PE X (.Constant (.bool b) j pos) (tC (.bl b)):=fun _ _ _ H _ I h=>Constant_bool ⟨.bl b,H,I,rfl,h⟩
theorem KP{j pos}:PE X (.Constant .none j pos) (tC .non):=fun _ _ _ H _ I h=>Constant_none ⟨.non,H,I,rfl,h⟩
theorem Hn{x j pos}:PE X (.Constant (.str x) j pos) (tC (.str x)):=fun _ _ _ H _ I h=>Calls.Constant_str ⟨.str x,H,I.tok _,⟨_,rfl⟩,h⟩
noncomputable def Gl(X:Cx)(x:Str):Prop:=X.env.kindOf x=some .globalImplicit
theorem wx{E:Value->Shared->Prop}{pins:List (Addr × Obj)}{s:Shared}{σ :St}{H:Hp}{x:Str}{u:Value}{pos:Pos}{Q:Value->Shared->Prop}(I:Inv X pins σ H s)(hg:Gl X x)(hm:X.mg x=some u)(h:Q u s)
  (hd:(x == ("__debug__" :Str))=false:=by decide):wpAny (model X.prog X.w) X.A (eval (.Name x pos) X.env) Q E s :=
 Calls.Name_function_global I.ok.kind hg (Calls.loadGlobal_global (by rw[I.ok.glob];exact I.mod.glob.keeps I.bk) hm h) hd
theorem lq{E:Value->Shared->Prop}{pins:List (Addr × Obj)}{s:Shared}{σ :St}{H:Hp}{x:Str}{u:Value}{pos:Pos}{Q:Value->Shared->Prop}(I:Inv X pins σ H s)(hg:Gl X x)(hm:X.mg x=none)(hv:bootBuiltins x=some u)(h:Q u s)
  (hn:x≠ "__name__" :=by decide) (hd:(x == ("__debug__" :Str))=false:=by decide):wpAny (model X.prog X.w) X.A (eval (.Name x pos) X.env) Q E s:=by
 obtain⟨mb,h1,h2⟩:=I.mod.blt
 exact Calls.Name_function_global I.ok.kind hg (Calls.loadGlobal_builtin (by rw[I.ok.glob];exact I.mod.glob.keeps I.bk) hm (by rw[I.ok.blt];exact h1.keeps I.bk) ((h2 x hn).trans hv) h) hd
theorem xc{x:Str}{v:V}{u:Value}{pos:Pos}(hg:Gl X x)(hm:X.mg x=some u)(r:RelV v u)(hd:(x == ("__debug__" :Str))=false:=by decide):PE X (.Name x pos) (tC v) :=
 fun _ _ _ H _ I h=>wx I hg hm ⟨v,H,I,r,h⟩ hd
theorem CL{x:Str}{v:V}{u:Value}{pos:Pos}(hg:Gl X x)(hm:X.mg x=none)(hv:bootBuiltins x=some u)(r:RelV v u)(hn:x≠ "__name__" :=by decide)(hd:(x == ("__debug__" :Str))=false:=by decide):PE X (.Name x pos) (tC v) :=
 fun _ _ _ H _ I h=>lq I hg hm hv ⟨v,H,I,r,h⟩ hn hd
variable{a b:Expr}{ta tb:TE}{pos:Pos}
noncomputable def PC(X:Cx)(op:CmpOp)(a b:Expr)(t:TE):Prop :=
 ∀(pins:List (Addr × Obj))(s:Shared)(σ :St)(H:Hp)(Q:VK),Inv X pins σ H s->t σ H Q ->
  wpAny (model X.prog X.w) X.A (eval a X.env) (fun v s₁ =>wpAny (model X.prog X.w) X.A (eval b X.env) (fun u s₂ =>wpAny (model X.prog X.w) X.A (compareOp op v u) (EP X pins σ Q) X.xe s₂) X.xe s₁) X.xe s
theorem uf(b:Expr){op:CmpOp}(h:op≠ .In)(h2:op≠ .NotIn):behindInMarks op b=false:=by
 have e1:(op == CmpOp.In)=false:=by cases op<;>first | rfl | exact absurd rfl h
 have e2:(op == CmpOp.NotIn)=false:=by cases op<;>first | rfl | exact absurd rfl h2
 cases b<;>simp[behindInMarks,e1,e2]
noncomputable def JJ(ta:TE):TE:=fun σ H Q=>ta σ H fun x H1=>Q (.bl (decide (x= .non))) H1
noncomputable def FH(ta:TE):TE:=fun σ H Q=>ta σ H fun x H1=>Q (.bl (!decide (x= .non))) H1
theorem RelV.sN{x:V}{v:Value}(r:RelV x v):(v == Value.none)=decide (x= .non):=by
 cases x with
 | non=>cases r;rfl
 | bl _=>cases r;rfl
 | int _=>obtain⟨t,rfl⟩:=r;rfl
 | str _=>obtain⟨t,rfl⟩:=r;rfl
 | byt _=>obtain⟨t,rfl⟩:=r;rfl
 | flt _=>obtain⟨t,rfl⟩:=r;rfl
 | ref _=>cases r;rfl
 | ty _=>cases r;rfl
theorem Bp{j pos'}(ha:PE X a ta):PC X .Is a (.Constant .none j pos') (JJ ta):=by
 intro pins s σ H Q I h
 refine cD (ha pins s σ H _ I h) fun v s1 ⟨x,H1,I1,r1,q1⟩=>?_
 exact Constant_none (is_none_gen ⟨.bl _,H1,I1,by rw[r1.sN];rfl,q1⟩)
theorem CP{j pos'}(ha:PE X a ta):PC X .IsNot a (.Constant .none j pos') (FH ta):=by
 intro pins s σ H Q I h
 refine cD (ha pins s σ H _ I h) fun v s1 ⟨x,H1,I1,r1,q1⟩=>?_
 exact Constant_none (isnot_none_gen ⟨.bl _,H1,I1,by rw[r1.sN];rfl,q1⟩)
noncomputable def tB(t:TE):TT:=fun σ H Q=>t σ H fun x H1=> ∃ c,x= .bl c/\Q c H1
theorem Ja{op:CmpOp}{t:TE}(h:PC X op a b t)(h1:behindInMarks op b=false:=by first | exact uf _ (by decide) (by decide) | rfl):PE X (.Compare a [op] [b] pos) t:=fun pins s σ H Q I hw=>wpAny_Compare1 (h pins s σ H Q I hw) h1
theorem zU{op:CmpOp}{t:TE}(h:PC X op a b t)(h1:behindInMarks op b=false:=by first | exact uf _ (by decide) (by decide) | rfl):PT X (.Compare a [op] [b] pos) (tB t):=by
 intro pins s σ H Q I hw
 refine wpAny_isTrue_Compare1 (cD (h pins s σ H _ I hw) fun v s1 h1=>cD h1 fun u s2 h2=>cD h2 fun c s3 ⟨x,H1,I1,r1,q1⟩=>?_) h1
 obtain⟨d,rfl,q⟩:=q1
 cases r1
 exact wpAny_truthy_bool ⟨H1,I1,q⟩
theorem Hd{e:Expr}{t:TE}(h:PE X e t)(he: ∀ whole,isTrue e X.env whole=(do let v <- whole;standAt e.pos;holding [v] (truthy v)):=by intro _;rfl):PT X e (tB t):=by
 intro pins s σ H Q I hw
 refine isTrue_plain (cD (h pins s σ H _ I hw) fun v s1 ⟨x,H1,I1,r1,q1⟩=>?_) (he _)
 obtain⟨d,rfl,q⟩:=q1
 cases r1
 exact wpAny_truthy_bool ⟨H1,I1,q⟩
variable{tA tB':TT}{rest:List Expr}
noncomputable def MD(t u:TT):TT:=fun σ H Q=>t σ H fun c H1=>if c=true then u σ H1 Q else Q false H1
noncomputable def Pd(t u:TT):TT:=fun σ H Q=>t σ H fun c H1=>if c=true then Q true H1 else u σ H1 Q
noncomputable def Mh(t:TT):TT:=fun σ H Q=>t σ H fun c H1=>Q (!c) H1
theorem pw_and1(ha:PT X a tA):PW X (.BoolOp .And [a] pos) tA:=by
 intro wh pins s σ H Q I h
 refine isTrue_and (cD (ha pins s σ H Q I h) fun c s1 e=>?_)
 cases c with
 | true=>exact isTrue_and_nil e
 | false=>exact e
theorem pw_or1(ha:PT X a tA):PW X (.BoolOp .Or [a] pos) tA:=by
 intro wh pins s σ H Q I h
 refine isTrue_or (cD (ha pins s σ H Q I h) fun c s1 e=>?_)
 cases c with
 | false=>exact isTrue_or_nil e
 | true=>exact e
theorem pw_and(ha:PT X a tA)(hb:PW X (.BoolOp .And (b::rest) pos) tB'):PW X (.BoolOp .And (a::b::rest) pos) (MD tA tB'):=by
 intro wh pins s σ H Q I h
 refine isTrue_and (cD (ha pins s σ H _ I h) fun c s1 ⟨H1,I1,q1⟩=>?_)
 cases c with
 | true=>exact hb wh pins s1 σ H1 Q I1 q1
 | false=>exact⟨H1,I1,q1⟩
theorem pw_or(ha:PT X a tA)(hb:PW X (.BoolOp .Or (b::rest) pos) tB'):PW X (.BoolOp .Or (a::b::rest) pos) (Pd tA tB'):=by
 intro wh pins s σ H Q I h
 refine isTrue_or (cD (ha pins s σ H _ I h) fun c s1 ⟨H1,I1,q1⟩=>?_)
 cases c with
 | true=>exact⟨H1,I1,q1⟩
 | false=>exact hb wh pins s1 σ H1 Q I1 q1
theorem IJ(ha:PT X a tA):PT X (.UnaryOp .Not a pos) (Mh tA):=by
 intro pins s σ H Q I h
 exact isTrue_not (ha pins s σ H (fun c H1=>Q (!c) H1) I h)
noncomputable def FL(ta tb:TE):TE:=fun σ H Q=>ta σ H fun x H1=> ∃ c,x= .bl c/\if c=true then tb σ H1 Q else Q (.bl false) H1
noncomputable def M9(ta tb:TE):TE:=fun σ H Q=>ta σ H fun x H1=> ∃ c,x= .bl c/\if c=true then Q (.bl true) H1 else tb σ H1 Q
noncomputable def Fu(ta:TE):TE:=fun σ H Q=>ta σ H fun x H1=> ∃ c,x= .bl c/\Q (.bl (!c)) H1
theorem JM{op}{t:TE}(h:PE X a t):PE X (.BoolOp op [a] pos) t:=fun pins s σ H Q I hw=>BoolOp_one (h pins s σ H Q I hw)
theorem IH(ha:PE X a ta)(hb:PE X (.BoolOp .And (b::rest) pos) tb):PE X (.BoolOp .And (a::b::rest) pos) (FL ta tb):=by
 intro pins s σ H Q I h
 refine BoolOp_and (cD (ha pins s σ H _ I h) fun v s1 ⟨x,H1,I1,r1,q1⟩=>?_)
 obtain⟨c,rfl,q1⟩:=q1
 cases r1
 refine wpAny_truthy_bool ?_
 cases c with
 | true=>exact hb pins s1 σ H1 Q I1 q1
 | false=>exact⟨.bl false,H1,I1,rfl,q1⟩
theorem Mt(ha:PE X a ta)(hb:PE X (.BoolOp .Or (b::rest) pos) tb):PE X (.BoolOp .Or (a::b::rest) pos) (M9 ta tb):=by
 intro pins s σ H Q I h
 refine BoolOp_or (cD (ha pins s σ H _ I h) fun v s1 ⟨x,H1,I1,r1,q1⟩=>?_)
 obtain⟨c,rfl,q1⟩:=q1
 cases r1
 refine wpAny_truthy_bool ?_
 cases c with
 | false=>exact hb pins s1 σ H1 Q I1 q1
 | true=>exact⟨.bl true,H1,I1,rfl,q1⟩
theorem Iu(ha:PE X a ta):PE X (.UnaryOp .Not a pos) (Fu ta):=by
 intro pins s σ H Q I h
 refine UnaryOp_ (cD (ha pins s σ H _ I h) fun v s1 ⟨x,H1,I1,r1,q1⟩=>?_)
 obtain⟨c,rfl,q1⟩:=q1
 cases r1
 exact not_of (wpAny_truthy_bool ⟨.bl (!c),H1,I1,rfl,q1⟩)
noncomputable def Pq(t:TT)(ta tb:TE):TE:=fun σ H Q=>t σ H fun c H1=>if c=true then ta σ H1 Q else tb σ H1 Q
theorem zP{c:Expr}(hc:PT X c tA)(ha:PE X a ta)(hb:PE X b tb):PE X (.IfExp c a b pos) (Pq tA ta tb):=by
 intro pins s σ H Q I h
 refine wpAny_IfExp (cD (hc pins s σ H _ I h) fun d s1 ⟨H1,I1,q1⟩=>?_)
 cases d with
 | true=>exact ha pins s1 σ H1 Q I1 q1
 | false=>exact hb pins s1 σ H1 Q I1 q1
end
open PySem PySem.Spec PyProof.Rows
noncomputable def gA(K:PySem.W.Frag)(H:Hp)(a:Addr)(xs:List V):Prop :=
 Rd H a (.lst xs) \/
  ∃(o:Obj)(ay:Array Value)(n:Nat),K.lookup a=some o/\o.cls= .type "list" /\o.dict=none/\o.data= .seq ay n/\ay.size<=sizeLine/\Vals xs ay.toList
noncomputable def eY(K:PySem.W.Frag)(H:Hp)(a:Addr)(xs:List V):Prop :=
 Rd H a (.tup xs) \/
  ∃(o:Obj)(ay:Array Value)(n:Nat),K.lookup a=some o/\o.cls= .type "tuple" /\o.data= .seq ay n/\ay.size<=sizeLine/\Vals xs ay.toList
noncomputable def NX:Value->Option V
 | .none=>some .non
 | .bool b=>some (.bl b)
 | .int i _=>some (.int i)
 | .str x _=>some (.str x)
 | .bytes b _=>some (.byt b)
 | .float b _=>some (.flt b)
 | .ref a=>some (.ref a)
 | .type n=>some (.ty n)
 | _=>none
theorem RelV.abs{x:V}{u:Value}(r:RelV x u):NX u=some x:=by
 cases x with
 | non=>cases r;rfl
 | bl _=>cases r;rfl
 | int _=>obtain⟨t,rfl⟩:=r;rfl
 | str _=>obtain⟨t,rfl⟩:=r;rfl
 | byt _=>obtain⟨t,rfl⟩:=r;rfl
 | flt _=>obtain⟨t,rfl⟩:=r;rfl
 | ref _=>cases r;rfl
 | ty _=>cases r;rfl
theorem RelV.inj{x y:V}{u:Value}(r:RelV x u)(q:RelV y u):x=y:=Option.some.inj (r.abs.symm.trans q.abs)
theorem Vals.inj: ∀{xs ys:List V}{us:List Value},Vals xs us->Vals ys us->xs=ys
 | _,_,_,.nil,.nil=>rfl
 | _,_,_,.cons r t,.cons r' t'=>by rw[r.inj r',Vals.inj t t']
section
variable{X:Cx}{pins:List (Addr × Obj)}{σ :St}{H:Hp}{s:Shared}{a:Addr}{xs ys:List V}
theorem gA.of{K:PySem.W.Frag}(h:H a=some (.lst xs)):gA K H a xs:= .inl (.inl h)
theorem eY.of{K:PySem.W.Frag}(h:H a=some (.tup xs)):eY K H a xs:= .inl (.inl h)
theorem Inv.list(I:Inv X pins σ H s)(h:gA X.K H a xs): ∃ ay:List Value,Vals xs ay/\PlainL s.heap a ay.toArray/\xs.length<=sizeLine:=by
 rcases h with h | ⟨o,ay,n,hk,hc,hd,hs,hz,r⟩
 · obtain⟨z,ay,n,r,e⟩:=h.ok I.bu
   exact⟨ay,r,⟨_,n,e,rfl,rfl,rfl⟩,z⟩
 · refine⟨ay.toList,r,⟨o,n,I.kH a o hk,hc,hd,by simpa using hs⟩,?_⟩
   have e:=r.length
   simp only[Array.length_toList] at e
   omega
theorem Inv.tuple(I:Inv X pins σ H s)(h:eY X.K H a xs): ∃ ay:List Value,Vals xs ay/\IsTup s.heap a ay.toArray/\xs.length<=sizeLine:=by
 rcases h with h | ⟨o,ay,n,hk,hc,hs,hz,r⟩
 · obtain⟨z,ay,r,p⟩:=h.ok I.bu
   exact⟨ay,r,p.tup,z⟩
 · refine⟨ay.toList,r,⟨o,I.kH a o hk,hc,n,by simpa using hs⟩,?_⟩
   have e:=r.length
   simp only[Array.length_toList] at e
   omega
theorem Inv.AG(I:Inv X pins σ H s)(h:gA X.K H a xs)(h':gA X.K H a ys):xs=ys:=by
 obtain⟨ay,r,⟨o,n,e,_,_,d⟩,_⟩:=I.list h
 obtain⟨its',r',⟨o',n',e',_,_,d'⟩,_⟩:=I.list h'
 rw[e] at e';cases e'
 rw[d] at d'
 injection d' with d1 _
 have:ay=its':=by simpa using congrArg Array.toList d1
 subst this
 exact r.inj r'
theorem Inv.iQ(I:Inv X pins σ H s)(h:eY X.K H a xs)(h':eY X.K H a ys):xs=ys:=by
 obtain⟨ay,r,⟨o,e,_,n,d⟩,_⟩:=I.tuple h
 obtain⟨its',r',⟨o',e',_,n',d'⟩,_⟩:=I.tuple h'
 rw[e] at e';cases e'
 rw[d] at d'
 injection d' with d1 _
 have:ay=its':=by simpa using congrArg Array.toList d1
 subst this
 exact r.inj r'
end
abbrev Cx.l7(X:Cx)(E:Value->Shared->Prop):Cx:={ X with xe:=E }
abbrev Cx.pL(X:Cx):Cx:=X.l7 fun _ _=>False
theorem Cx.Ok.l7{X:Cx}(ok:X.Ok)(E:Value->Shared->Prop):(X.l7 E).Ok :=
 ⟨ok.mod,ok.kind,ok.glob,ok.blt,ok.above,ok.inj,ok.has,ok.KU,ok.hd,ok.frames,ok.LJ,ok.N8,ok.bs,ok.B6,ok.yv,ok.yZ,ok.kR,ok.FN⟩
theorem Cx.Ok.gh{X:Cx}{E:Value->Shared->Prop}(ok:(X.l7 E).Ok):X.Ok :=
 ⟨ok.mod,ok.kind,ok.glob,ok.blt,ok.above,ok.inj,ok.has,ok.KU,ok.hd,ok.frames,ok.LJ,ok.N8,ok.bs,ok.B6,ok.yv,ok.yZ,ok.kR,ok.FN⟩
section
variable{X:Cx}{pins:List (Addr × Obj)}{σ :St}{H:Hp}{s:Shared}{E:Value->Shared->Prop}
theorem Inv.l7(I:Inv X pins σ H s)(E:Value->Shared->Prop):Inv (X.l7 E) pins σ H s:=⟨I.ok.l7 E,I.os,I.bare,I.base,I.loc,I.cell,I.free,I.iC,I.pin,I.bu,I.len⟩
theorem Inv.gh(I:Inv (X.l7 E) pins σ H s):Inv X pins σ H s:=⟨I.ok.gh,I.os,I.bare,I.base,I.loc,I.cell,I.free,I.iC,I.pin,I.bu,I.len⟩
theorem SP.gh{D:Ends}{f:Flow}{s':Shared}(h:SP (X.l7 E) pins D f s'):SP X pins D f s':=by
 cases f with
 | next=>obtain⟨σ',H',I,q⟩:=h;exact⟨σ',H',I.gh,q⟩
 | brk=>obtain⟨σ',H',I,q⟩:=h;exact⟨σ',H',I.gh,q⟩
 | cont=>obtain⟨σ',H',I,q⟩:=h;exact⟨σ',H',I.gh,q⟩
 | ret u=>obtain⟨v, σ',H',I,r,q⟩:=h;exact⟨v, σ',H',I.gh,r,q⟩
theorem PE.pL{e:Expr}{t:TE}(h:PE X.pL e t):PE X e t:=fun pins s σ H Q I hw =>
 wpAny_mono (h pins s σ H Q (I.l7 _) hw) (fun _ _ ⟨v,H',I',r,q⟩=>⟨v,H',I'.gh,r,q⟩) fun _ _ z=>False.elim z
theorem PT.pL{e:Expr}{t:TT}(h:PT X.pL e t):PT X e t:=fun pins s σ H Q I hw =>
 wpAny_mono (h pins s σ H Q (I.l7 _) hw) (fun _ _ ⟨H',I',q⟩=>⟨H',I'.gh,q⟩) fun _ _ z=>False.elim z
theorem vU.pL{st:List Stmt}{t:TS}(h:vU X.pL st t):vU X st t:=fun pins s σ H D I hw =>
 wpAny_mono (h pins s σ H D (I.l7 _) hw) (fun _ _ q=>q.gh) fun _ _ z=>False.elim z
end
section
variable{X:Cx}{st:Stmt}{rest:List Stmt}{t u:TS}{e:Expr}{te:TE}{pos:Pos}
noncomputable def Ax:TS:=fun D σ H=>D.nx σ H
noncomputable def Jo(t u:TS):TS:=fun D σ H=>t { D with nx:=u D } σ H
theorem DM:vU X [] Ax:=fun _ _ σ H _ I h=>wpAny_execs_nil ⟨σ,H,I,h⟩
theorem Aa(h1:PS X st t)(h2:vU X rest u):vU X (st::rest) (Jo t u):=by
 intro pins s σ H D I h
 refine wpAny_execs_cons (cD (h1 pins s σ H { D with nx:=u D } I h) fun f s1 q=>?_)
 cases f with
 | next =>
  obtain⟨σ',H',I',q⟩:=q
  exact h2 pins s1 σ' H' D I' q
 | ret v=>exact q
 | brk=>exact q
 | cont=>exact q
theorem Du(h1:PS X st t):vU X [st] t:=by
 intro pins s σ H D I h
 refine wpAny_execs_cons (cD (h1 pins s σ H D I h) fun f s1 q=>?_)
 cases f with
 | next=>exact wpAny_execs_nil q
 | ret v=>exact q
 | brk=>exact q
 | cont=>exact q
noncomputable def zc:TS:=fun D σ H=>D.bk σ H
theorem BP:PS X (.Break pos) zc:=fun _ _ σ H _ I h=>wpAny_Break ⟨σ,H,I,h⟩
theorem Inv.quiet{pins:List (Addr × Obj)}{σ :St}{H:Hp}{s:Shared}(I:Inv X pins σ H s):interactive X.env=false:=by simp[interactive,I.ok.kind]
noncomputable def FU(te:TE):TS:=fun D σ H=>te σ H fun _ H1=>D.nx σ H1
theorem Et(he:PE X e te)(hs:swapsWith e none pos.line X.env=pure false:=by rfl):PS X (.Expr e pos) (FU te):=by
 intro pins s σ H D I h
 exact wpAny_Expr_any (cD (he pins s σ H _ I h) fun v s1 ⟨x,H1,I1,r1,q1⟩=>⟨σ,H1,I1,q1⟩) I.quiet hs
noncomputable def LU(te:TE):TS:=fun D σ H=>te σ H D.rt
theorem He(he:PE X e te):PS X (.Return (some e) pos) (LU te):=by
 intro pins s σ H D I h
 exact wpAny_Return_some (cD (he pins s σ H _ I h) fun v s1 ⟨x,H1,I1,r1,q1⟩=>⟨x, σ,H1,I1,r1,q1⟩)
noncomputable def Lu(c:TT)(t u:TS):TS:=fun D σ H=>c σ H fun b H1=>if b=true then t D σ H1 else u D σ H1
theorem MZ{c:Expr}{a b:List Stmt}{tc:TT}(hc:PT X c tc)(ha:vU X a t)(hb:vU X b u):PS X (.If c a b pos) (Lu tc t u):=by
 intro pins s σ H D I h
 refine wpAny_If (cD (hc pins s σ H _ I h) fun d s1 ⟨H1,I1,q1⟩=>?_)
 cases d with
 | true=>exact ha pins s1 σ H1 D I1 q1
 | false=>exact hb pins s1 σ H1 D I1 q1
end
abbrev TG:=V->St->Hp->(St->Hp->Prop)->Prop
abbrev qp:=List V->St->Hp->(St->Hp->Prop)->Prop
noncomputable def PG(X:Cx)(target:Expr)(t:TG):Prop :=
 ∀(pins:List (Addr × Obj))(s:Shared)(σ :St)(H:Hp)(v:V)(u:Value)(Q:St->Hp->Prop),Inv X pins σ H s->RelV v u->t v σ H Q ->
  wpAny (model X.prog X.w) X.A (assign target X.env u) (fun _ s'=> ∃ σ' H',Inv X pins σ' H' s'/\Q σ' H') X.xe s
noncomputable def Mm(X:Cx)(ts:List Expr)(t:qp):Prop :=
 ∀(pins:List (Addr × Obj))(s:Shared)(σ :St)(H:Hp)(vs:List V)(us:List Value)(Q:St->Hp->Prop),Inv X pins σ H s->Vals vs us->t vs σ H Q ->
  wpAny (model X.prog X.w) X.A (assignInOrder ((assignEach ts X.env).map (·.2)) us) (fun _ s'=> ∃ σ' H',Inv X pins σ' H' s'/\Q σ' H') X.xe s
abbrev zN:=V->V->V->Hp->(Hp->Prop)->Prop
noncomputable def pJ(X:Cx)(t:zN):Prop :=
 ∀(pins:List (Addr × Obj))(s:Shared)(σ :St)(H:Hp)(o i v:V)(ov iv u:Value)(Q:Hp->Prop),Inv X pins σ H s->RelV o ov->RelV i iv->RelV v u->t o i v H Q ->
  wpAny (model X.prog X.w) X.A (setItem ov iv u) (fun _ s'=> ∃ H',Inv X pins σ H' s'/\Q H') X.xe s
abbrev NA:=V->V->Hp->VK->Prop
noncomputable def OZ(X:Cx)(op:Operator)(t:NA):Prop :=
 ∀(pins:List (Addr × Obj))(s:Shared)(σ :St)(H:Hp)(x y:V)(v u:Value)(Q:VK),Inv X pins σ H s->RelV x v->RelV y u->t x y H Q ->
  wpAny (model X.prog X.w) X.A (inplaceOp op v u) (EP X pins σ Q) X.xe s
section
variable{X:Cx}{pos:Pos}
noncomputable def fw(i:Nat):TG:=fun v σ H Q=>Q (σ.set i (some v)) H
theorem ES{i:Nat}{x:Str}(hN:X.N.Nodup)(hi:X.N[i]?=some x)(hx:Loc X.env.scope x)(hf:X.fn x=true\/X.env.scope.names.lookup x=some .local:=by first | exact .inl rfl | exact .inr rfl | assumption):PG X (.Name x pos) (fw i):=by
 intro pins s σ H v u Q I r h
 exact wpAny_assign_Name (nj I hN hi hx r (fun s' I'=>⟨_,H,I',h⟩) hf)
noncomputable def xN:qp:=fun vs σ H Q=>vs=[]/\Q σ H
noncomputable def lQ(t:TG)(u:qp):qp:=fun vs σ H Q=> ∃ v r,vs=v::r/\t v σ H fun σ' H'=>u r σ' H' Q
theorem CB:Mm X [] xN:=by
 intro pins s σ H vs us Q I r h
 obtain⟨e,h⟩:=h
 subst e
 cases r
 exact assignInOrder_nil ⟨σ,H,I,h⟩
theorem zV{e:Expr}{es:List Expr}{t:TG}{u:qp}(h1:PG X e t)(h2:Mm X es u)
  (hs:(assignEach (e::es) X.env).map (·.2)=assign e X.env::(assignEach es X.env).map (·.2):=by rfl):Mm X (e::es) (lQ t u):=by
 intro pins s σ H vs us Q I r h
 obtain⟨v,vr,e1,h⟩:=h
 subst e1
 cases r with
 | cons r rr =>
  rw[hs]
  refine assignInOrder_cons (cD (h1 pins s σ H _ _ _ I r h) fun _ s1 ⟨σ1,H1,I1,q1⟩=>?_)
  exact h2 pins s1 σ1 H1 _ _ Q I1 rr q1
noncomputable def uz(K:PySem.W.Frag)(n:Nat)(t:qp):TG:=fun v σ H Q=> ∃ a xs,v= .ref a/\eY K H a xs/\xs.length=n/\t xs σ H Q
theorem Ji{es:List Expr}{k:Nat}{t:qp}{n:Nat}(hc:X.calm=true)(h:Mm X es t)
  (hn:(assignEach es X.env).length=n:=by rfl) (hst:(assignEach es X.env).findIdx? (·.1)=none:=by rfl):PG X (.Tuple es k pos) (uz X.K n t):=by
 intro pins s σ H v u Q I r hw
 obtain⟨a,xs,e1,hq,hl,hw⟩:=hw
 subst e1
 cases r
 obtain⟨ay,rv,ht,hz⟩:=I.tuple hq
 refine assign_Tuple_tuple (I.ok.hd hc) ht (by simp[hn,<- hl,rv.length]) hst fun h' hx=>?_
 have I1:Inv X pins σ H { s with heap:=h' }:=I.kept (t':=s.toks) fun b o e=>hx b o (Nat.ne_of_lt (Heap.lt_size e)) e
 exact h pins _ σ H xs _ Q I1 (by simpa using rv) hw
noncomputable def Ot(to ti:TE)(t:zN):TG:=fun v σ H Q=>to σ H fun o H1=>ti σ H1 fun i H2=>t o i v H2 fun H3=>Q σ H3
theorem Ko{o i:Expr}{to ti:TE}{t:zN}(ho:PE X o to)(hi:PE X i ti)(hs:pJ X t)
  (ha: ∀ v,assign (.Subscript o i pos) X.env v=(do
   let ov <- holding [v] (eval o X.env)
   let iv <- holding [v,ov] (eval i X.env)
   standAt pos
   holding [v,ov,iv] (setItem ov iv v)
   release [v,ov,iv] []):=by intro _;rfl):PG X (.Subscript o i pos) (Ot to ti t):=by
 intro pins s σ H v u Q I r h
 rw[ha]
 refine wpAny_bind (wpAny_holding (cD (ho pins s σ H _ I h) fun ov s1 ⟨x,H1,I1,r1,q1⟩=>?_))
 refine wpAny_bind (wpAny_holding (cD (hi pins s1 σ H1 _ I1 q1) fun iv s2 ⟨y,H2,I2,r2,q2⟩=>?_))
 refine wpAny_bind (wpAny_standAt (wpAny_bind (wpAny_holding (cD (hs pins s2 σ H2 x y v ov iv u _ I2 r1 r2 r q2) fun _ s3 ⟨H3,I3,q3⟩=>?_))))
 exact wpAny_release ⟨σ,H3,I3,q3⟩
noncomputable def Cf(te:TE)(g:TG):TS:=fun D σ H=>te σ H fun x H1=>g x σ H1 D.nx
theorem GQ{tg e:Expr}{te:TE}{g:TG}(he:PE X e te)(hg:PG X tg g)(hs:swapsWithSole [tg] e pos.line X.env=pure false:=by rfl)(hw:swappedStores [tg] e X.env=pure none:=by rfl)
  (h1:(assignEach [tg] X.env).map (·.2)=[assign tg X.env]:=by rfl):PS X (.Assign [tg] e pos) (Cf te g):=by
 intro pins s σ H D I h
 refine wpAny_Assign_stores (cD (he pins s σ H _ I h) fun v s1 ⟨x,H1,I1,r1,q1⟩=>?_) hs hw
 rw[h1]
 exact cD (hg pins s1 σ H1 x v _ I1 r1 q1) fun _ s2 q=>q
theorem G6{i:Nat}{x:Str}{e:Expr}{te:TE}{pos':Pos}(hN:X.N.Nodup)(hi:X.N[i]?=some x)(hx:Loc X.env.scope x)(he:PE X e te)(hs:swapsWith e (some (.Name x pos')) pos.line X.env=pure false:=by rfl)(hf:X.fn x=true\/X.env.scope.names.lookup x=some .local:=by first | exact .inl rfl | exact .inr rfl | assumption) :
  PS X (.Assign [.Name x pos'] e pos) (Cf te (fw i)):=by
 intro pins s σ H D I h
 refine wpAny_Assign_Name (cD (he pins s σ H _ I h) fun v s1 ⟨y,H1,I1,r1,q1⟩=>?_) hs
 exact nj I1 hN hi hx r1 (fun s2 I2=>⟨_,H1,I2,q1⟩) hf
noncomputable def N9(i:Nat)(te:TE)(ti:NA):TS:=fun D σ H=> ∃ x, σ[i]?=some (some x)/\te σ H fun y H1=>ti x y H1 fun z H2=>D.nx (σ.set i (some z)) H2
theorem Jm{i:Nat}{x:Str}{e:Expr}{te:TE}{op:Operator}{ti:NA}{pos':Pos}(hN:X.N.Nodup)(hi:X.N[i]?=some x)(hx:Loc X.env.scope x)(he:PE X e te)(ho:OZ X op ti)(hf:X.fn x=true\/X.env.scope.names.lookup x=some .local:=by first | exact .inl rfl | exact .inr rfl | assumption) :
  PS X (.AugAssign (.Name x pos') op e pos) (N9 i te ti):=by
 intro pins s σ H D I h
 obtain⟨v,e1,h⟩:=h
 obtain⟨m,hn,hl⟩:=I.loc
 have vis:FF X.env.scope x:=by rcases hx with k | k;exact .inl k;exact .inr (.inl k)
 obtain⟨u,r,l⟩:=hl i x v hi e1 vis
 refine wpAny_AugAssign_Name ?_
 have go:wpAny (model X.prog X.w) X.A (eval e X.env) (fun w s₂ =>wpAny (model X.prog X.w) X.A (inplaceOp op u w) (fun r s₃ =>wpAny (model X.prog X.w) X.A (storeName X.env x r) (fun _=>SP X pins D .next) X.xe s₃) X.xe s₂) X.xe s:=by
  refine cD (he pins s σ H _ I h) fun w s1 ⟨y,H1,I1,r1,q1⟩=>?_
  refine cD (ho pins s1 σ H1 v y u w _ I1 r r1 q1) fun z s2 ⟨zv,H2,I2,r2,q2⟩=>?_
  exact nj I2 hN hi hx r2 (fun s3 I3=>⟨_,H2,I3,q2⟩) hf
 rcases l with⟨hk,hm⟩ | ⟨hk,c,hc,hcell⟩
 · exact wpAny_loadName_local I.ok.kind hk hn hm go
 · rcases hk with hk | hk
   · exact wpAny_loadName_cell I.ok.kind hk hc hcell go
   · rcases hx with k | k
     · have:X.env.scope.names.lookup x=some .free:=hk
       rw[k] at this;cases this
     · have:X.env.scope.names.lookup x=some .free:=hk
       rw[k] at this;cases this
noncomputable def PZ(f:Int->Int->Int):NA:=fun x y H Q=> ∃ i j,x= .int i/\y= .int j/\Q (.int (f i j)) H
theorem Iw:OZ X .Add (PZ fun i j=>i+j):=by
 intro pins s σ H x y v u Q I r1 r2 h
 obtain⟨i,j,e1,e2,q⟩:=h
 subst e1;subst e2
 obtain⟨t,rfl⟩:=r1
 obtain⟨t',rfl⟩:=r2
 exact iadd_int ⟨.int _,H,I.tok _,⟨_,rfl⟩,q⟩
end
section
variable{X:Cx}{pos:Pos}
noncomputable def yV(c:TT)(tb:TS):TS:=fun D σ H=> ∃ W:Nat->St->Hp->Prop,(∃ m,W m σ H)/\ ∀ m σ H,W m σ H ->
 c σ H fun b H1=>if b=true then ∃ N:St->Hp->Prop,(∀ σ' H',N σ' H'-> ∃ m',m' < m/\W m' σ' H')/\tb { D with nx:=N,ct:=N,bk:=D.nx } σ H1 else D.nx σ H1
theorem AO{c:Expr}{body:List Stmt}{tc:TT}{tb:TS}(hp:PassesOwn (model X.prog X.w) X.A X.env X.xe)(hc:PT X c tc)(hb:vU X body tb):PS X (.While c body [] pos) (yV tc tb):=by
 intro pins s σ H D I h
 obtain⟨W,⟨m0,w0⟩,turn⟩:=h
 refine wpAny_While (codeAny_whileLoop (fun n s'=> ∃ σ' H',Inv X pins σ' H' s'/\W n σ' H') ?_ m0 ⟨σ,H,I,w0⟩)
 rintro n s1 ⟨σ1,H1,I1,w1⟩
 refine wpAny_passesOwn hp (cD (hc pins s1 σ1 H1 _ I1 (turn n σ1 H1 w1)) fun b s2 ⟨H2,I2,q2⟩=>?_)
 cases b with
 | true =>
  obtain⟨N,hN,q2⟩:=q2
  rw[if_pos rfl]
  refine wpAny_passesOwn hp (cD (hb pins s2 σ1 H2 _ I2 q2) fun f s3 q3=>?_)
  cases f with
  | next =>
   obtain⟨σ3,H3,I3,n3⟩:=q3
   obtain⟨m',hm,w3⟩:=hN σ3 H3 n3
   exact⟨m',hm, σ3,H3,I3,w3⟩
  | cont =>
   obtain⟨σ3,H3,I3,n3⟩:=q3
   obtain⟨m',hm,w3⟩:=hN σ3 H3 n3
   exact⟨m',hm, σ3,H3,I3,w3⟩
  | brk=>exact q3
  | ret v=>exact q3
 | false =>
  rw[if_neg Bool.false_ne_true]
  exact wpAny_execs_nil ⟨σ1,H2,I2,q2⟩
end
structure It where
 go:Nat->Hp->Prop
 KQ:Nat->Hp->V->Hp->Prop
 stop:Nat->Hp->Prop
noncomputable def mz(X:Cx)(pins:List (Addr × Obj))(H:Hp)(b:Addr):Prop :=
 H b=none/\b≠X.env.locals/\b ∉ X.fs/\(b∈X.ex\/X.s₀.heap.objs.size<=b)/\(∀ x c,X.env.cells.lookup x=some c->c≠b)/\ ∀ p∈X.pn++pins,p.1≠b
theorem Inv.EJ{X:Cx}{pins:List (Addr × Obj)}{σ :St}{H H':Hp}{s:Shared}{b:Addr}(I:Inv X pins σ H s)(hb:s.heap.objs.size<=b)(hn:H' b=none):mz X pins H' b:=by
 refine⟨hn,Nat.ne_of_gt (Nat.lt_of_lt_of_le I.lt hb),I.L0 hb,.inr (Nat.le_trans I.sz hb),fun x c e z=>?_,fun p hp z=>?_⟩
 · obtain⟨v,q⟩:=I.cell x c e
   exact absurd (Nat.lt_of_lt_of_le q.lt (by rw[z];exact hb)) (Nat.lt_irrefl _)
 · exact absurd (Nat.lt_of_lt_of_le (Heap.lt_size (I.pin p hp).1) (by rw[z];exact hb)) (Nat.lt_irrefl _)
structure Turn(P:Program)(w:World)(K:PySem.W.Frag)(tg:Expr)(J:It)(fp:List Addr)(it:Addr)(tn:Nat->Heap->Prop):Prop where
 mem:it∈fp
 obj: ∀ i h,tn i h-> ∀ b∈fp,∃ o,h.get? b=some o/\ ∀ v,o.data≠ .cell v
 keep: ∀ i h h',tn i h->(∀ b∈fp,∀ o,h.get? b=some o->h'.get? b=some o)->tn i h'
 item: ∀(X:Cx),X.prog=P->X.w=w->X.K=K->X.calm=true-> ∀(i:Nat)(pins:List (Addr × Obj))(s:Shared)(σ :St)(H:Hp)(E:Value->Shared->Prop),Inv X pins σ H s->(∀ b∈fp,mz X pins H b)->tn i s.heap->J.go i H ->
  wpAny (model P w) X.A (pyNext (.ref it)) (fun r s1=> ∃ u,r=some u /\
   wpAny (model P w) X.A (letOwnedTupleGo tg (.ref it) u) (fun _ s2=> ∃ x H',Inv X pins σ H' s2/\RelV x u/\J.KQ i H x H'/\tn (i+1) s2.heap/\ ∀ b∈fp,H' b=none) E s1) E s
 done: ∀(X:Cx),X.prog=P->X.w=w->X.K=K->X.calm=true-> ∀(i:Nat)(pins:List (Addr × Obj))(s:Shared)(σ :St)(H:Hp)(E:Value->Shared->Prop),Inv X pins σ H s->(∀ b∈fp,mz X pins H b)->tn i s.heap->J.stop i H ->
  wpAny (model P w) X.A (pyNext (.ref it)) (fun r s1=>r=none/\Inv X pins σ H s1) E s
 self: ∀(A:Around)(i:Nat)(s:Shared)(Q:Value->Shared->Prop)(E:Value->Shared->Prop),tn i s.heap->Q (.ref it) s->wpAny (model P w) A (pyIter (.ref it)) Q E s
abbrev TI:=St->Hp->(It->Hp->Prop)->Prop
noncomputable def Lw(X:Cx)(pins:List (Addr × Obj))(σ :St)(tg:Expr)(R:It->Hp->Prop)(itv:Value)(s2:Shared):Prop :=
 ∃(it:Addr)(fp:List Addr)(tn:Nat->Heap->Prop)(J:It)(H':Hp),itv= .ref it/\Inv X pins σ H' s2/\Turn X.prog X.w X.K tg J fp it tn/\tn 0 s2.heap/\(∀ b∈fp,mz X pins H' b)/\R J H'
noncomputable def PI(X:Cx)(tg iter:Expr)(wi:TI):Prop :=
 ∀(pins:List (Addr × Obj))(s:Shared)(σ :St)(H:Hp)(R:It->Hp->Prop),Inv X pins σ H s->wi σ H R ->
  wpAny (model X.prog X.w) X.A (eval iter X.env) (fun v s1=>wpAny (model X.prog X.w) X.A (pyIter v) (Lw X pins σ tg R) X.xe s1) X.xe s
theorem vZ{M : Model}{A : Around}{E : Value -> Shared -> Prop}{s : Shared}{tg : Expr}{it : Addr}{u : Value}{o : Obj}{n : String}{vs : Array Value}{Q : Unit -> Shared -> Prop}(ho : s.heap.get? it = some o)(hc : o.cls = .type n)(hd : o.data = .fields vs)
    (hn : ["enumerate", "zip", "dict_itemiterator", "dict_reverseitemiterator", "odict_iterator", "itertools.zip_longest", "itertools.pairwise"].contains n = false) (hQ : Q () s) : wpAny M A (letOwnedTupleGo tg (.ref it) u) Q E s := by
  unfold letOwnedTupleGo
  cases tg <;> first
    | exact wpAny_pure hQ
    | (cases u <;> first
        | exact wpAny_pure hQ
        | (refine wpAny_bind (wpAny_load ho ?_)
           rw[hc, hd]
           show wpAny M A (if (["enumerate", "zip", "dict_itemiterator", "dict_reverseitemiterator", "odict_iterator", "itertools.zip_longest", "itertools.pairwise"].contains n && vs[0]? == some (rawInt _)) = true then _ else _) Q E s
           rw[if_neg (by intro h; rw[hn, Bool.false_and] at h; cases h)]
           exact wpAny_pure hQ))
noncomputable def OF(K:PySem.W.Frag)(a:Addr):It :=
 ⟨fun i H=> ∃ xs x,gA K H a xs/\xs[i]?=some x,fun i H x H'=>H'=H/\ ∀ xs,gA K H a xs->xs[i]?=some x,fun i H=> ∃ xs,gA K H a xs/\xs.length<=i⟩
noncomputable def NP(K:PySem.W.Frag)(a:Addr):It :=
 ⟨fun i H=> ∃ xs x,eY K H a xs/\xs[i]?=some x,fun i H x H'=>H'=H/\ ∀ xs,eY K H a xs->xs[i]?=some x,fun i H=> ∃ xs,eY K H a xs/\xs.length<=i⟩
noncomputable def NQ(lo:Int)(n:Nat):It:=⟨fun i _=>i < n,fun i H x H'=>H'=H/\x= .int (lo+i),fun i _=>n<=i⟩
theorem xi{P:Program}{w:World}{K:PySem.W.Frag}{tg:Expr}(a it:Addr):Turn P w K tg (OF K a) [it] it (fun i h=>h.IsListIter it a i) where
 mem:=by simp
 obj:=fun i h st b hb=>by
  have e:b=it:=by simpa using hb
  subst e
  obtain⟨o,e,c,d⟩:=st
  exact⟨o,e,fun v z=>by rw[d] at z;cases z⟩
 keep:=fun i h h' st k=>st.at fun o e=>k it (by simp) o e
 item:=by
  intro X hP hw hK hc i pins s σ H E I hf st hg
  subst hP hw hK
  obtain⟨xs,x,hq,hx⟩:=hg
  obtain⟨ay,rv,p,hz⟩:=I.list hq
  obtain⟨u,hu,ru⟩:=rv.get hx
  obtain⟨f0,f1,f2,f3,f4,f5⟩:=hf it (by simp)
  refine wpAny_pyNext_list_item st p.isList (x:=u) (by simpa using hu) fun h' st' sb=>?_
  have I1:Inv X pins σ H { s with heap:=h' }:=I.turned (t':=s.toks) (fun b o hb e=>(sb.2 b hb).trans e) f0 f1 f3 f4 f5
  obtain⟨o,e,c,d⟩:=id st'
  exact⟨u,rfl,vZ (s:={ s with heap:=h' }) e c d (by decide) ⟨x,H,I1,ru,⟨rfl,fun ys hy=>by rw[I.AG hy hq];exact hx⟩,st',fun b hb=>(hf b hb).1⟩⟩
 done:=by
  intro X hP hw hK hc i pins s σ H E I hf st hg
  subst hP hw hK
  obtain⟨xs,hq,hx⟩:=hg
  obtain⟨ay,rv,p,hz⟩:=I.list hq
  obtain⟨f0,f1,f2,f3,f4,f5⟩:=hf it (by simp)
  have hl:=rv.length
  exact wpAny_pyNext_list_end (I.ok.hd hc) st p.isList (by simp;omega) fun h' eb=>⟨rfl,I.turned (t':=s.toks) (fun b o hb e=>eb b o hb e) f0 f1 f3 f4 f5⟩
 self:=fun _ _ _ _ _ st h=>wpAny_pyIter_listiter st h
theorem uZ{P:Program}{w:World}{K:PySem.W.Frag}{tg:Expr}(a it:Addr):Turn P w K tg (NP K a) [it] it (fun i h=>h.IsTupleIter it a i) where
 mem:=by simp
 obj:=fun i h st b hb=>by
  have e:b=it:=by simpa using hb
  subst e
  obtain⟨o,e,c,d⟩:=st
  exact⟨o,e,fun v z=>by rw[d] at z;cases z⟩
 keep:=fun i h h' st k=>st.at fun o e=>k it (by simp) o e
 item:=by
  intro X hP hw hK hc i pins s σ H E I hf st hg
  subst hP hw hK
  obtain⟨xs,x,hq,hx⟩:=hg
  obtain⟨ay,rv,p,hz⟩:=I.tuple hq
  obtain⟨u,hu,ru⟩:=rv.get hx
  obtain⟨f0,f1,f2,f3,f4,f5⟩:=hf it (by simp)
  refine wpAny_pyNext_tuple_item st (show s.heap.IsTuple a ay.toArray from p) (x:=u) (by simpa using hu) fun h' st' sb=>?_
  have I1:Inv X pins σ H { s with heap:=h' }:=I.turned (t':=s.toks) (fun b o hb e=>(sb.2 b hb).trans e) f0 f1 f3 f4 f5
  obtain⟨o,e,c,d⟩:=id st'
  exact⟨u,rfl,vZ (s:={ s with heap:=h' }) e c d (by decide) ⟨x,H,I1,ru,⟨rfl,fun ys hy=>by rw[I.iQ hy hq];exact hx⟩,st',fun b hb=>(hf b hb).1⟩⟩
 done:=by
  intro X hP hw hK hc i pins s σ H E I hf st hg
  subst hP hw hK
  obtain⟨xs,hq,hx⟩:=hg
  obtain⟨ay,rv,p,hz⟩:=I.tuple hq
  obtain⟨f0,f1,f2,f3,f4,f5⟩:=hf it (by simp)
  have hl:=rv.length
  exact wpAny_pyNext_tuple_end (I.ok.hd hc) st (show s.heap.IsTuple a ay.toArray from p) (by simp;omega) fun h' eb=>⟨rfl,I.turned (t':=s.toks) (fun b o hb e=>eb b o hb e) f0 f1 f3 f4 f5⟩
 self:=fun _ _ _ _ _ st h=>wpAny_pyIter_tupleiter st h
theorem vV{P:Program}{w:World}{K:PySem.W.Frag}{tg:Expr}(it:Addr)(lo:Int)(n:Nat):Turn P w K tg (NQ lo n) [it] it (fun i h=>IsRangeIter h it (lo+(i:Nat)*1) ((n:Int) - (i:Nat)) 1) where
 mem:=by simp
 obj:=fun i h st b hb=>by
  have e:b=it:=by simpa using hb
  subst e
  exact⟨_,st,fun v z=>by
   have z':Data.fields _=Data.cell v:=z
   cases z'⟩
 keep:=fun i h h' st k=>k it (by simp) _ st
 item:=by
  intro X hP hw hK hc i pins s σ H E I hf st hg
  subst hP hw hK
  obtain⟨f0,f1,f2,f3,f4,f5⟩:=hf it (by simp)
  have W:=Walks.range (prog:=X.prog) (w:=X.w) (I.ok.hd hc) it lo 1 n
  refine W.item i s _ _ hg st fun v h' tk hv st' kk=>?_
  obtain⟨t,rfl⟩:=hv
  have I1:Inv X pins σ H { s with heap:=h',toks:=tk }:=I.turned (fun b o hb e=>kk b o (by simpa using hb) e) f0 f1 f3 f4 f5
  refine⟨_,rfl,vZ (s:={ s with heap:=h',toks:=tk }) (n:= "range_iterator") st' rfl rfl (by decide) ⟨.int (lo+i),H,I1,⟨t,?_⟩,⟨rfl,rfl⟩,st',fun b hb=>(hf b hb).1⟩⟩
  rw[Int.mul_one]
 done:=by
  intro X hP hw hK hc i pins s σ H E I hf st hg
  subst hP hw hK
  obtain⟨f0,f1,f2,f3,f4,f5⟩:=hf it (by simp)
  exact wpAny_pyNext_range_end (I.ok.hd hc) st (by have:n<=i:=hg;omega) fun h' eb=>⟨rfl,I.turned (t':=s.toks) (fun b o hb e=>eb b o hb e) f0 f1 f3 f4 f5⟩
 self:=fun _ _ _ _ _ st h=>wpAny_pyIter_rangeiter st h
open PySem PySem.Spec PyProof.Rows
section
variable{X:Cx}{tg:Expr}
theorem Af{pins:List (Addr × Obj)}{σ :St}{H:Hp}{s:Shared}{R:It->Hp->Prop}{E:Value->Shared->Prop}{lo hi:Int}{t u v:Tok}{tk:Nat}(I:Inv X pins σ H s)(h1: -(2 ^ 62)<=lo)(h2:lo < 2 ^ 62)(h3: -(2 ^ 62)<=hi)(h4:hi < 2 ^ 62)
  (q:R (NQ lo (hi - lo).toNat) H):wpAny (model X.prog X.w) X.A (pyIter (.ref s.heap.objs.size)) (Lw X pins σ tg R) E { s with heap:=s.heap.push { cls:= .type "range",data:= .fields #[.int lo t,.int hi u,.int 1 v] },toks:=tk }:=by
 refine wpAny_pyIter_range (IsRange.new ..) (small_one h1 h2 h3 h4) ?_
 have I1:Inv X pins σ H { s with heap:=s.heap.push { cls:= .type "range",data:= .fields #[.int lo t,.int hi u,.int 1 v] },toks:=tk }:=I.kept fun b o e=>Heap.get?_push_of_some _ e
 refine⟨(s.heap.push { cls:= .type "range",data:= .fields #[.int lo t,.int hi u,.int 1 v] }).objs.size,[(s.heap.push { cls:= .type "range",data:= .fields #[.int lo t,.int hi u,.int 1 v] }).objs.size],_,_,H,rfl,
  I1.kept (t':=tk) fun b o e=>Heap.get?_push_of_some _ e,vV _ lo (hi - lo).toNat,?_,fun b hb=>?_,q⟩
 · have e1:lo+((0:Nat):Int)*1=lo:=by simp
   have e2:(((hi - lo).toNat:Nat):Int) - ((0:Nat):Int)=Builtin.Range.rangeSize lo hi 1:=by rw[rangeSize_one];split<;>omega
   show IsRangeIter _ _ (lo+((0:Nat):Int)*1) ((((hi - lo).toNat:Nat):Int) - ((0:Nat):Int)) 1
   rw[e1,e2]
   exact Heap.get?_push_size _ rfl
 · have e:b=(s.heap.push { cls:= .type "range",data:= .fields #[.int lo t,.int hi u,.int 1 v] }).objs.size:=by simpa using hb
   subst e
   exact I1.EJ (Nat.le_refl _) (I1.bu.fresh (Nat.le_refl _))
noncomputable def LA(ta:TA):TI:=fun σ H R=>ta σ H fun vs H1=> ∃ j:Int,vs=[.int j]/\ -(2 ^ 62)<=j/\j < 2 ^ 62/\R (NQ 0 j.toNat) H1
theorem yt{a:Expr}{ta:TA}{p pos:Pos}(hg:Gl X "range")(hm:X.mg "range" =none)(ha:PA X [a] ta)(hs:starEach [a] X.env=[(false,eval a X.env)]:=by rfl):PI X tg (.Call (.Name "range" p) [a] [] pos) (LA ta):=by
 intro pins s σ H R I h
 refine Call_ (lq I hg hm boot_range (PyProof.Rows.callWith_type1 (cD (ha pos pins s σ H _ I h) fun us s1 ⟨vs,H1,I1,r1,q1⟩=>?_) hs rfl))
 obtain⟨j,e,q1,q2,q⟩:=q1
 subst e
 cases r1 with
 | cons r rr =>
  cases rr
  obtain⟨t,rfl⟩:=r
  exact call_range_1 (Af I1 (by omega) (by omega) q1 q2 (by simpa using q))
noncomputable def Mu(wi:TI)(g:TG)(tb:TS):TS:=fun D σ H=>wi σ H fun J H1=> ∃ W:Nat->Nat->St->Hp->Prop,(∃ m,W 0 m σ H1)/\ ∀ i m σ H,W i m σ H ->
 (J.stop i H/\D.nx σ H)\/(J.go i H/\ ∃ N:St->Hp->Prop,(∀ σ' H',N σ' H'-> ∃ m',m' < m/\W (i+1) m' σ' H')/\ ∀ x H',J.KQ i H x H'->g x σ H' fun σ2 H2=>tb { D with nx:=N,ct:=N,bk:=D.nx } σ2 H2)
noncomputable def qN(fp:List Addr)(h:Heap):List (Addr × Obj):=fp.filterMap fun b=>(h.get? b).map fun o=>(b,o)
theorem dX{fp:List Addr}{h:Heap}{b:Addr}{o:Obj}(hb:b∈fp)(e:h.get? b=some o):(b,o)∈qN fp h:=List.mem_filterMap.mpr ⟨b,hb,by rw[e];rfl⟩
theorem xq{fp:List Addr}{h:Heap}{p:Addr × Obj}(hp:p∈qN fp h):p.1∈fp/\h.get? p.1=some p.2:=by
 obtain⟨b,hb,e⟩:=List.mem_filterMap.mp hp
 cases q:h.get? b with
 | none=>rw[q] at e;cases e
 | some o =>
  rw[q] at e
  have e':(b,o)=p:=Option.some.inj e
  subst e'
  exact⟨hb,q⟩
theorem Inv.pinned{pins:List (Addr × Obj)}{σ :St}{H:Hp}{s:Shared}{fp:List Addr}(I:Inv X pins σ H s)(hf: ∀ b∈fp,mz X pins H b)(ho: ∀ b∈fp,∃ o,s.heap.get? b=some o/\ ∀ v,o.data≠ .cell v):Inv X (pins++qN fp s.heap) σ H s :=
 I.iM fun p hp=>(List.mem_append.mp hp).elim (fun z=>I.pin p (List.mem_append_right _ z)) fun z=>by
  obtain⟨hb,e⟩:=xq z
  obtain⟨f0,f1,f2,_⟩:=hf p.1 hb
  obtain⟨o,e',d⟩:=ho p.1 hb
  rw[e] at e';cases e'
  exact⟨e,f0,f1,f2,d⟩
theorem Inv.nh{pins pl:List (Addr × Obj)}{σ :St}{H:Hp}{s:Shared}(I:Inv X (pins++pl) σ H s):Inv X pins σ H s:=I.iM fun p hp=>I.pin p (List.mem_append_right _ (List.mem_append_left _ hp))
theorem Jk{iter:Expr}{body:List Stmt}{wi:TI}{g:TG}{tb:TS}{pos:Pos}(hp:PassesOwn (model X.prog X.w) X.A X.env X.xe)(hc:X.calm=true)(hi:PI X tg iter wi)(hg:PG X tg g)(hb:vU X body tb)
  (hs: ∀ x,foldedSetIterable iter X.env x=pure x:=by intro _;rfl):PS X (.For tg iter body [] pos) (Mu wi g tb):=by
 intro pins s σ H D I h
 refine wpAny_For (cD (hi pins s σ H _ I h) fun v s1 h1=>cD h1 fun itv s2 h2=>?_) hs
 obtain⟨it,fp,tn,J,H2,e,I2,T,st2,f2,W,⟨m0,w0⟩,turn⟩:=h2
 subst e
 have stat: ∀{H':Hp},(∀ b∈fp,H' b=none)-> ∀ b∈fp,mz X pins H' b:=fun hn b hb=>⟨hn b hb,(f2 b hb).2⟩
 refine codeAny_forLoop_any (fun n s'=> ∃ i σ' H',Inv X pins σ' H' s'/\tn i s'.heap/\(∀ b∈fp,H' b=none)/\W i n σ' H') ?_ m0 ⟨0, σ,H2,I2,st2,fun b hb=>(f2 b hb).1,w0⟩
 rintro n s3 ⟨i, σ3,H3,I3,st3,fr3,w3⟩
 rcases turn i n σ3 H3 w3 with⟨stop,qn⟩ | ⟨go,N,hN,step⟩
 · refine wpAny_passesOwn hp (cD (T.done X rfl rfl rfl hc i pins s3 σ3 H3 X.xe I3 (stat fr3) st3 stop) fun r s4 ⟨hr,I4⟩=>?_)
   subst hr
   exact wpAny_execs_nil ⟨σ3,H3,I4,qn⟩
 · refine wpAny_passesOwn hp (cD (T.item X rfl rfl rfl hc i pins s3 σ3 H3 X.xe I3 (stat fr3) st3 go) fun r s4 ⟨u,hr,h4⟩=>?_)
   subst hr
   refine wpAny_passesOwn hp (cD h4 fun _ s5 ⟨x,H5,I5,r5,y5,st5,fr5⟩=>?_)
   have I5':=I5.pinned (stat fr5) (T.obj _ _ st5)
   refine wpAny_passesOwn hp (cD (hg _ s5 σ3 H5 x u _ I5' r5 (step x H5 y5)) fun _ s6 ⟨σ6,H6,I6,q6⟩=>?_)
   refine wpAny_passesOwn hp (cD (hb _ s6 σ6 H6 _ I6 q6) fun f s7 q7=>?_)
   have again: ∀{σ7:St}{H7:Hp},Inv X (pins++qN fp s5.heap) σ7 H7 s7->N σ7 H7-> ∃ m,m < n/\ ∃ i σ' H',Inv X pins σ' H' s7/\tn i s7.heap/\(∀ b∈fp,H' b=none)/\W i m σ' H':=fun {σ7 H7} I7 n7=>by
    obtain⟨m',hm,w7⟩:=hN σ7 H7 n7
    refine⟨m',hm,i+1, σ7,H7,I7.nh,T.keep _ _ _ st5 fun b hb o e=>(I7.pin (b,o) (List.mem_append_right _ (List.mem_append_right _ (dX hb e)))).1,fun b hb=>?_,w7⟩
    obtain⟨o,e,d⟩:=T.obj _ _ st5 b hb
    exact(I7.pin (b,o) (List.mem_append_right _ (List.mem_append_right _ (dX hb e)))).2.1
   cases f with
   | next=>obtain⟨σ7,H7,I7,n7⟩:=q7;exact again I7 n7
   | cont=>obtain⟨σ7,H7,I7,n7⟩:=q7;exact again I7 n7
   | brk=>obtain⟨σ7,H7,I7,q7⟩:=q7;exact⟨σ7,H7,I7.nh,q7⟩
   | ret v=>obtain⟨x7, σ7,H7,I7,r7,q7⟩:=q7;exact⟨x7, σ7,H7,I7.nh,r7,q7⟩
end
open PySem PySem.Spec PyProof.Rows
abbrev R2:=V->V->Hp->VK->Prop
noncomputable def cX(X:Cx)(f:Value->Value->Sem Value)(r:R2):Prop :=
 ∀(pins:List (Addr × Obj))(s:Shared)(σ :St)(H:Hp)(x y:V)(v u:Value)(Q:VK),Inv X pins σ H s->RelV x v->RelV y u->r x y H Q ->
  wpAny (model X.prog X.w) X.A (f v u) (EP X pins σ Q) X.xe s
noncomputable def KW(X:Cx)(f:Value->Sem Value)(r:V->Hp->VK->Prop):Prop :=
 ∀(pins:List (Addr × Obj))(s:Shared)(σ :St)(H:Hp)(x:V)(v:Value)(Q:VK),Inv X pins σ H s->RelV x v->r x H Q ->
  wpAny (model X.prog X.w) X.A (f v) (EP X pins σ Q) X.xe s
noncomputable def bq(X:Cx)(f:Value)(r:List V->Hp->VK->Prop):Prop :=
 ∀(pins:List (Addr × Obj))(s:Shared)(σ :St)(H:Hp)(xs:List V)(us:List Value)(Q:VK),Inv X pins σ H s->Vals xs us->r xs H Q ->
  wpAny (model X.prog X.w) X.A (call f us) (EP X pins σ Q) X.xe s
noncomputable def Cn(r:R2)(ta tb:TE):TE:=fun σ H Q=>ta σ H fun x H1=>tb σ H1 fun y H2=>r x y H2 Q
noncomputable def Ph(r:V->Hp->VK->Prop)(ta:TE):TE:=fun σ H Q=>ta σ H fun x H1=>r x H1 Q
noncomputable def rI(C:Int->Int->Prop)(g:Int->Int->V):R2:=fun x y H Q=> ∃ i j,x= .int i/\y= .int j/\C i j/\Q (g i j) H
noncomputable def B2(g:Int->Int->V):R2:=fun x y H Q=> ∃ i j,x= .int i/\y= .int j/\Q (g i j) H
noncomputable def rU(g:Int->V):V->Hp->VK->Prop:=fun x H Q=> ∃ i,x= .int i/\Q (g i) H
section
variable{X:Cx}{a b c:Expr}{ta tb tc:TE}{pos:Pos}
theorem HL(ha:PE X a ta)(hb:PE X b tb){pins:List (Addr × Obj)}{s:Shared}{σ :St}{H:Hp}{R:V->V->Hp->Prop}(I:Inv X pins σ H s)
  (h:ta σ H fun x H1=>tb σ H1 fun y H2=>R x y H2) {Q:Value->Shared->Prop} {f:Value->Value->Sem Value}
  (hf: ∀ v u s2 x y H2,Inv X pins σ H2 s2->RelV x v->RelV y u->R x y H2->wpAny (model X.prog X.w) X.A (f v u) Q X.xe s2) :
  wpAny (model X.prog X.w) X.A (eval a X.env) (fun v s₁ =>wpAny (model X.prog X.w) X.A (eval b X.env) (fun u s₂ =>wpAny (model X.prog X.w) X.A (f v u) Q X.xe s₂) X.xe s₁) X.xe s:=by
 refine cD (ha pins s σ H _ I h) fun v s1 ⟨x,H1,I1,r1,q1⟩=>?_
 refine cD (hb pins s1 σ H1 _ I1 q1) fun u s2 ⟨y,H2,I2,r2,q2⟩=>?_
 exact hf v u s2 x y H2 I2 r1 r2 q2
theorem MR{op:Operator}{r:R2}(ho:cX X (binaryOp op) r)(ha:PE X a ta)(hb:PE X b tb):PE X (.BinOp a op b pos) (Cn r ta tb):=by
 intro pins s σ H Q I h
 exact wpAny_BinOp (HL ha hb I h fun v u s2 x y H2 I2 rx ry q=>ho pins s2 σ H2 x y v u Q I2 rx ry q)
theorem LH{op:UnaryOp}{r:V->Hp->VK->Prop}(ho:KW X (unaryOp op) r)(ha:PE X a ta):PE X (.UnaryOp op a pos) (Ph r ta):=by
 intro pins s σ H Q I h
 exact UnaryOp_ (cD (ha pins s σ H _ I h) fun v s1 ⟨x,H1,I1,r1,q1⟩=>ho pins s1 σ H1 x v Q I1 r1 q1)
theorem NU{f:Value->Value->Sem Value}{C:Int->Int->Prop}{g:Int->Int->Int}
  (rule: ∀(i j:Int)(t u:Tok)(s:Shared)(Q:Value->Shared->Prop)(E:Value->Shared->Prop),C i j->Q (.int (g i j) s.toks) { s with toks:=s.toks+1 }->wpAny (model X.prog X.w) X.A (f (.int i t) (.int j u)) Q E s) :
  cX X f (rI C fun i j=> .int (g i j)):=by
 intro pins s σ H x y v u Q I rx ry h
 obtain⟨i,j,rfl,rfl,hc,q⟩:=h
 obtain⟨t,rfl⟩:=rx
 obtain⟨t',rfl⟩:=ry
 exact rule i j t t' s _ _ hc ⟨.int (g i j),H,I.tok _,⟨_,rfl⟩,q⟩
theorem Me{f:Value->Value->Sem Value}{g:Int->Int->Int}
  (rule: ∀(i j:Int)(t u:Tok)(s:Shared)(Q:Value->Shared->Prop)(E:Value->Shared->Prop),Q (.int (g i j) s.toks) { s with toks:=s.toks+1 }->wpAny (model X.prog X.w) X.A (f (.int i t) (.int j u)) Q E s) :
  cX X f (B2 fun i j=> .int (g i j)):=by
 intro pins s σ H x y v u Q I rx ry h
 obtain⟨i,j,rfl,rfl,q⟩:=h
 obtain⟨t,rfl⟩:=rx
 obtain⟨t',rfl⟩:=ry
 exact rule i j t t' s _ _ ⟨.int (g i j),H,I.tok _,⟨_,rfl⟩,q⟩
theorem EI{f:Value->Value->Sem Value}{g:Int->Int->Bool}
  (rule: ∀(i j:Int)(t u:Tok)(s:Shared)(Q:Value->Shared->Prop)(E:Value->Shared->Prop),Q (.bool (g i j)) s->wpAny (model X.prog X.w) X.A (f (.int i t) (.int j u)) Q E s) :
  cX X f (B2 fun i j=> .bl (g i j)):=by
 intro pins s σ H x y v u Q I rx ry h
 obtain⟨i,j,rfl,rfl,q⟩:=h
 obtain⟨t,rfl⟩:=rx
 obtain⟨t',rfl⟩:=ry
 exact rule i j t t' s _ _ ⟨.bl (g i j),H,I,rfl,q⟩
noncomputable def Oa(i j:Int):Prop:=0 < j/\j < 1073741824
noncomputable def OR(i j:Int):Prop:=0<=j/\j<=1000000/\i.natAbs < 2 ^ 64
noncomputable def I0(i j:Int):Prop:=(-(2 ^ 64) < i/\i < 2 ^ 64)\/(-(2 ^ 64) < j/\j < 2 ^ 64)
theorem I0.ok{i j:Int}(h:I0 i j):IntMulOk i j:=by
 rcases h with⟨h1,h2⟩ | ⟨h1,h2⟩
 · exact .of_left (intBits_le_64 h1 h2)
 · exact .of_right (intBits_le_64 h1 h2)
theorem IT:cX X (binaryOp .Add) (B2 fun i j=> .int (i+j)):=Me fun _ _ _ _ _ _ _ q=>add_int q
theorem IU:cX X (binaryOp .Sub) (B2 fun i j=> .int (i - j)):=Me fun _ _ _ _ _ _ _ q=>sub_int q
theorem KJ:cX X (binaryOp .Mult) (rI I0 fun i j=> .int (i*j)):=NU fun _ _ _ _ _ _ _ hc q=>mul_int q hc.ok
theorem CZ:cX X (binaryOp .FloorDiv) (rI Oa fun i j=> .int (i / j)):=NU fun i j _ _ _ _ _ hc q=>by
 have h1:(0:Int) < j:=hc.1
 have h2:j < 1073741824:=hc.2
 exact floordiv_int (by omega) (by rw[Int.fdiv_eq_ediv_of_nonneg i (by omega)];exact q) (.inl (PyProof.noPylong_small (by omega)))
theorem F9:cX X (binaryOp .Mod) (rI (fun _ j=>0 < j) fun i j=> .int (i % j)):=NU fun i j _ _ _ _ _ hc q=>by
 have h1:(0:Int) < j:=hc
 exact mod_int' (by omega) (by rw[Int.fmod_eq_emod_of_nonneg i (by omega)];exact q)
theorem Ik:cX X (binaryOp .Pow) (rI OR fun i j=> .int (i ^ j.toNat)):=NU fun _ _ _ _ _ _ _ hc q=>pow_int_small hc.1 hc.2.1 hc.2.2 q
theorem Pz{f:Value->Sem Value}{g:Int->Int}
  (rule: ∀(i:Int)(t:Tok)(s:Shared)(Q:Value->Shared->Prop)(E:Value->Shared->Prop),Q (.int (g i) s.toks) { s with toks:=s.toks+1 }->wpAny (model X.prog X.w) X.A (f (.int i t)) Q E s) :
  KW X f (rU fun i=> .int (g i)):=by
 intro pins s σ H x v Q I rx h
 obtain⟨i,rfl,q⟩:=h
 obtain⟨t,rfl⟩:=rx
 exact rule i t s _ _ ⟨.int (g i),H,I.tok _,⟨_,rfl⟩,q⟩
theorem Kg:KW X (unaryOp .USub) (rU fun i=> .int (-i)):=Pz fun _ _ _ _ _ q=>neg_int q
end
noncomputable def AV:V->V->Bool
 | .non,.non=>true | .non,.int _=>true | .int _,.non=>true | .non,.bl _=>true | .bl _,.non=>true | .non,.str _=>true | .str _,.non=>true
 | .int _,.int _=>true | .bl _,.bl _=>true | .str _,.str _=>true | .byt _,.byt _=>true
 | .int _,.str _=>true | .str _,.int _=>true | .bl _,.str _=>true | .str _,.bl _=>true
 | _,_=>false
noncomputable def PK:R2:=fun x y H Q=>AV x y=true/\Q (.bl (decide (x=y))) H
noncomputable def PJ:R2:=fun x y H Q=>AV x y=true/\Q (.bl (!decide (x=y))) H
theorem xb{i j:Int}:decide (V.int i=V.int j)=(i == j):=by
 rw[Bool.eq_iff_iff]
 simp
theorem Bd{i j:Bool}:decide (V.bl i=V.bl j)=(i == j):=by
 rw[Bool.eq_iff_iff]
 simp
theorem wC{i j:Str}:decide (V.str i=V.str j)=(i == j):=by
 rw[Bool.eq_iff_iff]
 simp
theorem wV{i j:Array UInt8}:decide (V.byt i=V.byt j)=(i.toList == j.toList):=by
 rw[Bool.eq_iff_iff]
 cases i
 cases j
 simp
section
variable{X:Cx}{a b c:Expr}{ta tb tc:TE}{pos:Pos}
theorem aY{pins:List (Addr × Obj)}{σ :St}{H:Hp}{s:Shared}{Q:VK}{k k':Bool}(I:Inv X pins σ H s)(q:Q (.bl k) H)(e:k=k'):EP X pins σ Q (.bool k') s:=by
 subst e
 exact⟨.bl k,H,I,rfl,q⟩
theorem Ms:cX X (compareOp .Eq) PK:=by
 intro pins s σ H x y v u Q I rx ry h
 obtain⟨hs,q⟩:=h
 cases x with
 | non =>
  cases rx
  cases y with
  | non=>cases ry;exact PySem.EqNone.eq_none_none (aY I q (by simp))
  | bl j=>cases ry;exact PySem.EqNone.eq_none_bool (aY I q (by simp))
  | int j=>obtain⟨t',rfl⟩:=ry;exact PySem.EqNone.eq_none_int (aY I q (by simp))
  | str j=>obtain⟨t',rfl⟩:=ry;exact PySem.EqNone.eq_none_str (aY I q (by simp))
  | _=>exact absurd (show false=true from hs) Bool.false_ne_true
 | bl i =>
  cases rx
  cases y with
  | non=>cases ry;exact PySem.EqNone.eq_bool_none (aY I q (by simp))
  | bl j=>cases ry;exact eq_bool (aY I q Bd)
  | str j=>obtain⟨t',rfl⟩:=ry;exact PySem.EqMixed.eq_bool_str (aY I q (by simp))
  | _=>exact absurd (show false=true from hs) Bool.false_ne_true
 | int i =>
  obtain⟨t,rfl⟩:=rx
  cases y with
  | non=>cases ry;exact PySem.EqNone.eq_int_none (aY I q (by simp))
  | int j=>obtain⟨t',rfl⟩:=ry;exact eq_int (aY I q xb)
  | str j=>obtain⟨t',rfl⟩:=ry;exact PySem.EqMixed.eq_int_str (aY I q (by simp))
  | _=>exact absurd (show false=true from hs) Bool.false_ne_true
 | str i =>
  obtain⟨t,rfl⟩:=rx
  cases y with
  | non=>cases ry;exact PySem.EqNone.eq_str_none (aY I q (by simp))
  | bl j=>cases ry;exact PySem.EqMixed.eq_str_bool (aY I q (by simp))
  | int j=>obtain⟨t',rfl⟩:=ry;exact PySem.EqMixed.eq_str_int (aY I q (by simp))
  | str j=>obtain⟨t',rfl⟩:=ry;exact eq_str (aY I q wC)
  | _=>exact absurd (show false=true from hs) Bool.false_ne_true
 | byt i =>
  obtain⟨t,rfl⟩:=rx
  cases y with
  | byt j=>obtain⟨t',rfl⟩:=ry;exact PySem.W.eq_bytes (aY I q wV)
  | _=>exact absurd (show false=true from hs) Bool.false_ne_true
 | _=>cases y<;>exact absurd (show false=true from hs) Bool.false_ne_true
theorem Lv:cX X (compareOp .NotEq) PJ:=by
 intro pins s σ H x y v u Q I rx ry h
 obtain⟨hs,q⟩:=h
 cases x with
 | non =>
  cases rx
  cases y with
  | non=>cases ry;exact PySem.EqNone.ne_none_none (aY I q (by simp))
  | bl j=>cases ry;exact PySem.EqNone.ne_none_bool (aY I q (by simp))
  | int j=>obtain⟨t',rfl⟩:=ry;exact PySem.EqNone.ne_none_int (aY I q (by simp))
  | str j=>obtain⟨t',rfl⟩:=ry;exact PySem.EqNone.ne_none_str (aY I q (by simp))
  | _=>exact absurd (show false=true from hs) Bool.false_ne_true
 | bl i =>
  cases rx
  cases y with
  | non=>cases ry;exact PySem.EqNone.ne_bool_none (aY I q (by simp))
  | bl j=>cases ry;exact ne_bool (aY I q (congrArg not Bd))
  | str j=>obtain⟨t',rfl⟩:=ry;exact PySem.EqMixed.ne_bool_str (aY I q (by simp))
  | _=>exact absurd (show false=true from hs) Bool.false_ne_true
 | int i =>
  obtain⟨t,rfl⟩:=rx
  cases y with
  | non=>cases ry;exact PySem.EqNone.ne_int_none (aY I q (by simp))
  | int j=>obtain⟨t',rfl⟩:=ry;exact ne_int (aY I q (congrArg not xb))
  | str j=>obtain⟨t',rfl⟩:=ry;exact PySem.EqMixed.ne_int_str (aY I q (by simp))
  | _=>exact absurd (show false=true from hs) Bool.false_ne_true
 | str i =>
  obtain⟨t,rfl⟩:=rx
  cases y with
  | non=>cases ry;exact PySem.EqNone.ne_str_none (aY I q (by simp))
  | bl j=>cases ry;exact PySem.EqMixed.ne_str_bool (aY I q (by simp))
  | int j=>obtain⟨t',rfl⟩:=ry;exact PySem.EqMixed.ne_str_int (aY I q (by simp))
  | str j=>obtain⟨t',rfl⟩:=ry;exact ne_str (aY I q (congrArg not wC))
  | _=>exact absurd (show false=true from hs) Bool.false_ne_true
 | byt i =>
  obtain⟨t,rfl⟩:=rx
  cases y with
  | byt j=>obtain⟨t',rfl⟩:=ry;exact PySem.W.ne_bytes (aY I q (congrArg not wV))
  | _=>exact absurd (show false=true from hs) Bool.false_ne_true
 | _=>cases y<;>exact absurd (show false=true from hs) Bool.false_ne_true
theorem Lk:cX X (compareOp .Lt) (B2 fun i j=> .bl (decide (i < j))):=EI fun _ _ _ _ _ _ _ q=>lt_int q
theorem MN:cX X (compareOp .LtE) (B2 fun i j=> .bl (decide (i<=j))):=EI fun _ _ _ _ _ _ _ q=>le_int q
theorem LG:cX X (compareOp .Gt) (B2 fun i j=> .bl (decide (j < i))):=EI fun _ _ _ _ _ _ _ q=>gt_int q
theorem Mv:cX X (compareOp .GtE) (B2 fun i j=> .bl (decide (j<=i))):=EI fun _ _ _ _ _ _ _ q=>ge_int q
theorem xM:cX X (compareOp .In) (fun x y H Q=> ∃ i j,x= .str i/\y= .str j/\Q (.bl (!(Builtin.Str.occurrences j i 0 j.length 1).isEmpty)) H):=by
 intro pins s σ H x y v u Q I rx ry h
 obtain⟨i,j,rfl,rfl,q⟩:=h
 obtain⟨t,rfl⟩:=rx
 obtain⟨t',rfl⟩:=ry
 exact in_str (aY I q rfl)
theorem cX.or{f:Value->Value->Sem Value}{r r':R2}(h:cX X f r)(h':cX X f r'):cX X f (fun x y H Q=>r x y H Q\/r' x y H Q):=by
 intro pins s σ H x y v u Q I rx ry q
 rcases q with q | q
 · exact h pins s σ H x y v u Q I rx ry q
 · exact h' pins s σ H x y v u Q I rx ry q
theorem As(b:Expr){op:CmpOp}(h:op≠ .In:=by decide)(h2:op≠ .NotIn:=by decide):behindInMarks op b=false:=by
 have e1:(op == CmpOp.In)=false:=by cases op<;>first | rfl | exact absurd rfl h
 have e2:(op == CmpOp.NotIn)=false:=by cases op<;>first | rfl | exact absurd rfl h2
 cases b<;>simp[behindInMarks,e1,e2]
theorem CY{op:CmpOp}{r:R2}(ho:cX X (compareOp op) r)(ha:PE X a ta)(hb:PE X b tb)(hm:behindInMarks op b=false):PE X (.Compare a [op] [b] pos) (Cn r ta tb):=by
 intro pins s σ H Q I h
 exact wpAny_Compare1 (HL ha hb I h fun v u s2 x y H2 I2 rx ry q=>ho pins s2 σ H2 x y v u Q I2 rx ry q) hm
noncomputable def yO(t:TE):TT:=fun σ H Q=>t σ H fun x H'=> ∃ k,x= .bl k/\Q k H'
theorem D9{op:CmpOp}{r:R2}(ho:cX X (compareOp op) r)(ha:PE X a ta)(hb:PE X b tb)(hm:behindInMarks op b=false):PT X (.Compare a [op] [b] pos) (yO (Cn r ta tb)):=by
 intro pins s σ H Q I h
 refine wpAny_isTrue_Compare1 (cD (ha pins s σ H _ I h) fun v s1 ⟨x,H1,I1,r1,q1⟩=>cD (hb pins s1 σ H1 _ I1 q1) fun u s2 ⟨y,H2,I2,r2,q2⟩ =>
  cD (ho pins s2 σ H2 x y v u _ I2 r1 r2 q2) fun c s3 ⟨z,H3,I3,r3,k,e,q3⟩=>?_) hm
 subst e
 cases r3
 exact wpAny_truthy_bool ⟨H3,I3,q3⟩
noncomputable def vG(r r':R2)(ta tb tc:TE):TE:=fun σ H Q=>ta σ H fun x H1=>tb σ H1 fun y H2=>r x y H2 fun z H3=> ∃ k,z= .bl k /\
 (if k=true then tc σ H3 fun w' H4=>r' y w' H4 Q else Q (.bl false) H3)
theorem yG{op op':CmpOp}{r r':R2}(ho:cX X (compareOp op) r)(ho':cX X (compareOp op') r')(ha:PE X a ta)(hb:PE X b tb)(hc:PE X c tc)
  (hm:lastMarks [op,op'] [b,c]=false:=by with_unfolding_all rfl):PE X (.Compare a [op,op'] [b,c] pos) (vG r r' ta tb tc):=by
 intro pins s σ H Q I h
 refine Compare_chain (cD (ha pins s σ H _ I h) fun v s1 ⟨x,H1,I1,r1,q1⟩=>chain_link (cD (hb pins s1 σ H1 _ I1 q1) fun u s2 ⟨y,H2,I2,r2,q2⟩ =>
  cD (ho pins s2 σ H2 x y v u _ I2 r1 r2 q2) fun d s3 ⟨z,H3,I3,r3,k,e,q3⟩=>?_)) hm
 subst e
 cases r3
 refine wpAny_truthy_bool ?_
 cases k with
 | false=>exact ite_ff ⟨.bl false,H3,I3,rfl,q3⟩
 | true=>exact ite_tt (chain_last (cD (hc pins s3 σ H3 _ I3 q3) fun w' s4 ⟨z',H4,I4,r4,q4⟩=>ho' pins s4 σ H4 y z' u w' Q I4 r2 r4 q4))
theorem kZ:(sizeLine:Nat) < 2 ^ 63:=by rw[sizeLine_eq];decide
theorem vals1{x:V}{us:List Value}(r:Vals [x] us): ∃ u,us=[u]/\RelV x u:=by
 cases r with
 | cons r1 r2=>cases r2;exact⟨_,rfl,r1⟩
theorem vals2{x y:V}{us:List Value}(r:Vals [x,y] us): ∃ u w',us=[u,w']/\RelV x u/\RelV y w':=by
 cases r with
 | cons r1 r2 =>
  cases r2 with
  | cons r3 r4=>cases r4;exact⟨_,_,rfl,r1,r3⟩
end
open PySem PySem.Spec PyProof.Rows
structure Jt(h:Heap)(x dx C:Addr)(mA:Str->Option Value):Prop where
 obj:h.get? x=some (PySem.W.instObj C dx)
 ns:h.Ns1 dx mA
 ne:dx≠x
theorem xS{h:Heap}{dx:Addr}{mA:Str->Option Value}(n:h.Ns1 dx mA): ∃ od,h.get? dx=some od/\ ∀ name,PySem.W.lookIn name od=some (mA name):=by
 obtain⟨o,es,ep,ho,hd,hk,_,hm⟩:=n
 refine⟨o,ho,fun name=>?_⟩
 have e:=hm name
 unfold nsFind findBy at e
 rw[<- Array.find?_toList] at e
 unfold PySem.W.lookIn
 rw[hd]
 dsimp only
 split
 · rename_i y q
   rw[q] at e
   exact congrArg some e
 · rename_i q
   rw[q] at e
   have a:es.toList.any (·.refKey)=false:=by
    rw[List.any_eq_false]
    intro y hy
    obtain⟨z,t,hkey⟩:=hk y (Array.mem_toList_iff.mp hy)
    simp[DictEntry.refKey,hkey]
   have a': ¬ es.toList.any (·.refKey)=true:=by rw[a];exact Bool.false_ne_true
   rw[if_neg a']
   exact congrArg some e
theorem Jt.look{h:Heap}{x dx C:Addr}{mA:Str->Option Value}(I:Jt h x dx C mA): ∃ od,PySem.W.InstAt h x (PySem.W.instObj C dx) C (some od)/\ ∀ name,PySem.W.lookIn name od=some (mA name) :=
 let ⟨od,ho,hl⟩:=xS I.ns
 ⟨od,⟨I.obj,rfl,rfl,ho⟩,hl⟩
section
variable{prog:Program}{w:World}{A:Around}{E:Value->Shared->Prop}{s:Shared}{K:PySem.W.Frag}{x dx C f:Addr}{mA:Str->Option Value}{name:Str}{v:Value}
end
theorem j7.some_of{v:V}{o:Option Value}(r:j7 (some v) o): ∃ u,o=some u/\RelV v u:=by
 cases o with
 | none=>exact(show False from r).elim
 | some u=>exact⟨u,rfl,r⟩
section
variable{P:Program}{w:World}{H H':Hp}{h h':Heap}{a C dx:Addr}{fs fs':List (Str × V)}
theorem D7(bu:jm P w H h)(e:H a=some (.ins C dx fs)): ∃ mA,Jt h a dx C mA/\(∀ f,j7 (fs.lookup f) (mA f))/\PySem.Within mA (fs.map (·.1))/\fs.length<=1000/\H dx=some (.own a):=by
 obtain⟨d,z,ne,ob,mA,n,r,q⟩:=(show bb P w H h a (.ins C dx fs) from bu a _ e)
 exact⟨mA,⟨ob,n,ne⟩,r,q,z,d⟩
end
structure OD(K:PySem.W.Frag)(C:Addr):Prop where
 pg:PySem.W.plainGet K C Str.empty=true
 hd:PySem.W.hasDictIn K C=true
 po:PySem.W.plainOver K C=true
 sa:PySem.W.findIn K (.ref C) "__setattr__" =some (some (.builtin "object.__setattr__"))
theorem OD.get{K:PySem.W.Frag}{C:Addr}(c:OD K C)(f:Str):PySem.W.plainGet K C f=true:=c.pg
structure P5(K:PySem.W.Frag)(C:Addr)(f:Str)(v:V)(u:Value):Prop where
 at_:PySem.W.findIn K (.ref C) f=some (some u)
 rel:RelV v u
 get:PySem.W.specialIn K u "__get__" =some none
 cp:PySem.W.copiedNames.contains f=false
structure Meth(K:PySem.W.Frag)(C:Addr)(m:Str)(f:Addr):Prop where
 at_:PySem.W.findIn K (.ref C) m=some (some (.ref f))
 fn:PySem.W.isFn K (.ref f)=true
 kp:PySem.W.keepIn K (.ref f)=true
section
variable{X:Cx}{pins:List (Addr × Obj)}{σ :St}{H:Hp}{s:Shared}{a C dx:Addr}{fs:List (Str × V)}{f:Str}{v:V}{A:Around}{E:Value->Shared->Prop}
theorem Inv.made(I:Inv X pins σ H s):Inv X pins σ (upd (upd H s.heap.objs.size (.own (s.heap.objs.size+1))) (s.heap.objs.size+1) (.ins C s.heap.objs.size []))
  { s with heap:=(s.heap.push PySem.W.emptyDict).push (PySem.W.instObj C s.heap.objs.size) }:=by
 have e1:(s.heap.push PySem.W.emptyDict).get? s.heap.objs.size=some PySem.W.emptyDict:=Heap.get?_push_size s.heap rfl
 have e2:((s.heap.push PySem.W.emptyDict).push (PySem.W.instObj C s.heap.objs.size)).get? (s.heap.objs.size+1)=some (PySem.W.instObj C s.heap.objs.size):=by
  have:=Heap.get?_push_size (s.heap.push PySem.W.emptyDict) (o:=PySem.W.instObj C s.heap.objs.size) rfl
  rwa[Heap.size_push] at this
 have e3:(s.heap.push PySem.W.emptyDict).Ns s.heap.objs.size (fun _=>none):=⟨PySem.W.emptyDict, #[],_,e1,rfl,(fun e he=>absurd he (by simp)),fun _=>rfl⟩
 have I1:=I.laid (a:=s.heap.objs.size) (o:= .own (s.heap.objs.size+1)) (h':=s.heap.push PySem.W.emptyDict) (t':=s.toks) (fun b u q=>Heap.get?_push_of_some _ q) (Nat.le_refl _) ⟨_,e1⟩
 refine I1.laid (a:=s.heap.objs.size+1) (o:= .ins C s.heap.objs.size []) (t':=s.toks) (fun b u q=>Heap.get?_push_of_some _ q) (Nat.le_of_eq (Heap.size_push _ _)) ?_
 have ne:s.heap.objs.size≠s.heap.objs.size+1:=Nat.ne_of_lt (Nat.lt_succ_self _)
 refine⟨by rw[aA ne,a8],Nat.zero_le _,ne,e2,fun _=>none,(Heap.Ns1.of_empty e3).at fun o q=>Heap.get?_push_of_some _ q,fun _=>True.intro,fun y hy=>absurd rfl hy⟩
end
section
variable{X:Cx}{o e value:Expr}{f:Str}{pos pos' tpos:Pos}{ta tv:TE}
end
section
variable{X:Cx}{pins:List (Addr × Obj)}{σ :St}{H:Hp}{s:Shared}{A:Around}{E:Value->Shared->Prop}{Q:Value->Shared->Prop}{c:Value}{b:Bool}
inductive jc(K:PySem.W.Frag)(H:Hp):V->Value->Prop where
 | non:jc K H .non (.type "NoneType")
 | bl (x:Bool):jc K H (.bl x) (.type "bool")
 | int (i:Int):jc K H (.int i) (.type "int")
 | str (x:Str):jc K H (.str x) (.type "str")
 | flt (x:UInt64):jc K H (.flt x) (.type "float")
 | lst {a:Addr} {xs:List V} (e:H a=some (.lst xs)):jc K H (.ref a) (.type "list")
 | jy {a:Addr} {o:Obj} {xs:List V} (e:H a=some (.jy o (.lst xs))):jc K H (.ref a) (.type "list")
 | tup {a:Addr} {xs:List V} (e:H a=some (.tup xs)):jc K H (.ref a) (.type "tuple")
 | dK {a:Addr} {kvs:List (Key × V)} (e:H a=some (.dK kvs)):jc K H (.ref a) (.type "dict")
 | dT {a:Addr} {kvs:List (List Key × V)} (e:H a=some (.dT kvs)):jc K H (.ref a) (.type "dict")
 | ins {a C dx:Addr} {fs:List (Str × V)} (e:H a=some (.ins C dx fs)) (cl:OD K C) (ha:PySem.W.findIn K (.ref C) "__class__" =some (some (.builtin "object.__class__")))
   (hn:PySem.W.specialIn K (.builtin "object.__class__") "__get__" =some (some (.builtin "getset_descriptor.__get__"))) (htk:PySem.W.takesIn K (.builtin "object.__class__")=some true)
   (hm:PySem.W.mroIn K C (.type "object")=some true):jc K H (.ref a) (.ref C)
theorem xW{x:V}{u t:Value}(I:Inv X pins σ H s)(rx:RelV x u)(ty:jc X.K H x t)(e:PySem.W.kitOne X.K t c=some b)(h: ∀ tk,Q (.bool b) { s with toks:=tk }) :
  wpAny (model X.prog X.w) A (call (.builtin "isinstance") [u,c]) Q E s:=by
 cases ty with
 | non=>cases(show u=Value.none from rx);exact PySem.W.kia_one PySem.W.kitx_none I.kH True.intro e (fun z=>nomatch z) h
 | bl y=>cases(show u=Value.bool y from rx);exact PySem.W.kia_one PySem.W.kitx_bool I.kH True.intro e (fun z=>nomatch z) h
 | int i=>obtain⟨t,q⟩:=(show ∃ t,u=Value.int i t from rx);cases q;exact PySem.W.kia_one PySem.W.kitx_int I.kH True.intro e (fun z=>nomatch z) h
 | str y=>obtain⟨t,q⟩:=(show ∃ t,u=Value.str y t from rx);cases q;exact PySem.W.kia_one PySem.W.kitx_str I.kH True.intro e (fun z=>nomatch z) h
 | flt y=>obtain⟨t,q⟩:=(show ∃ t,u=Value.float y t from rx);cases q;exact PySem.W.kia_one PySem.W.kitx_float I.kH True.intro e (fun z=>nomatch z) h
 | @lst a xs ea =>
  cases(show u=Value.ref a from rx)
  obtain⟨_,_,n,_,h1⟩:=(show bb X.prog X.w H s.heap a (.lst xs) from I.bu a _ ea)
  exact PySem.W.kia_one PySem.W.kitx_list I.kH ⟨_,h1,rfl⟩ e (fun z=>nomatch z) h
 | @jy a ob xs ea =>
  cases(show u=Value.ref a from rx)
  obtain⟨_,_,_,n,_,h1⟩:=(show bb X.prog X.w H s.heap a (.jy ob (.lst xs)) from I.bu a _ ea)
  exact PySem.W.kia_one PySem.W.kitx_list I.kH ⟨_,h1,rfl⟩ e (fun z=>nomatch z) h
 | @tup a xs ea =>
  cases(show u=Value.ref a from rx)
  obtain⟨_,_,_,p⟩:=(show bb X.prog X.w H s.heap a (.tup xs) from I.bu a _ ea)
  obtain⟨o,h1,h2,_⟩:=p
  exact PySem.W.kia_one PySem.W.kitx_tuple I.kH ⟨o,h1,h2⟩ e (fun z=>nomatch z) h
 | @dK a kvs ea =>
  cases(show u=Value.ref a from rx)
  obtain⟨_,_,vs,_,p⟩:=(show bb X.prog X.w H s.heap a (.dK kvs) from I.bu a _ ea)
  obtain⟨o,es,ep,h1,h2,_⟩:=p
  exact PySem.W.kia_one PySem.W.kitx_dict I.kH ⟨o,h1,h2.1⟩ e (fun z=>nomatch z) h
 | @dT a kvs ea =>
  cases(show u=Value.ref a from rx)
  obtain⟨_,_,xs,_,o,es,ep,h1,h2,_⟩:=(show bb X.prog X.w H s.heap a (.dT kvs) from I.bu a _ ea)
  exact PySem.W.kia_one PySem.W.kitx_dict I.kH ⟨o,h1,h2.1⟩ e (fun z=>nomatch z) h
 | @ins a C dx fs ea cl ha hn htk hm =>
  cases(show u=Value.ref a from rx)
  obtain⟨mA,O,_⟩:=D7 I.bu ea
  obtain⟨od,J,_⟩:=O.look
  exact PySem.W.kia_one (PySem.W.kitx_own (cl.get _) cl.hd ha hn htk hm) I.kH J e (fun z=>nomatch z) h
end
open PySem PySem.Spec PyProof.Rows
structure dz(k:Nat)(A:Around):Prop where
 hd:A.handled=none
 dp:A.depth+3*k+5 < recursionLimit
 un:A.units+16*k+200 < cLine
 gd:A.guards=some []
theorem dz.mono{j k:Nat}{A:Around}(r:dz k A)(h:j<=k):dz j A:=⟨r.hd,by have:=r.dp;omega,by have:=r.un;omega,r.gd⟩
theorem dz.deeper{k:Nat}{A:Around}(r:dz (k+1) A)(env:Env):dz k (A.deeper env) :=
 ⟨r.hd,by have:=r.dp;show A.depth+1+3*k+5 < _;omega,by have:=r.un;show A.units+3+16*k+200 < _;omega,r.gd⟩
theorem dz.in1{k:Nat}{A:Around}(r:dz (k+1) A):dz k A.in1 :=
 ⟨r.hd,by have:=r.dp;show A.depth+3*k+5 < _;omega,by have:=r.un;show A.units+1+16*k+200 < _;omega,r.gd⟩
theorem dz.depth{k:Nat}{A:Around}(r:dz k A):A.depth < recursionLimit:=by have:=r.dp;omega
theorem dz.units{k:Nat}{A:Around}(r:dz k A):A.units+64 < cLine:=by have:=r.un;omega
theorem dz.HY{k:Nat}{A:Around}(r:dz k A):A.units < cLine:=by have:=r.un;omega
noncomputable def Ny:TA:=fun _ H Q=>Q [] H
noncomputable def Bv(ta:TE)(tr:TA):TA:=fun σ H Q=>ta σ H fun x H1=>tr σ H1 fun xs H2=>Q (x::xs) H2
section
variable{X:Cx}{e:Expr}{es:List Expr}{te:TE}{t:TA}{pos:Pos}
theorem Hm:PA X [] Ny:=fun _ _ _ _ H Q I h=>Calls.spliced_nil ⟨[],H,I,.nil,h⟩
theorem Dg(ha:PE X e te)(hr:PA X es t)(hs:starEach (e::es) X.env=(false,eval e X.env)::starEach es X.env:=by rfl):PA X (e::es) (Bv te t):=by
 intro pos pins s σ H Q I h
 rw[hs]
 show wpAny _ _ (spliced ((false,eval e X.env)::backTo pos (starEach es X.env))) _ _ s
 refine Calls.spliced_cons (cD (ha pins s σ H _ I h) fun u s1 ⟨x,H1,I1,r1,q1⟩=>?_)
 exact cD (hr pos pins s1 σ H1 _ I1 q1) fun us s2 ⟨xs,H2,I2,r2,q2⟩=>⟨x::xs,H2,I2,.cons r1 r2,q2⟩
noncomputable def L3(t:TA):TE:=fun σ H Q=>t σ H fun xs H1=>xs.length<=sizeLine/\ ∀ p,H1 p=none->Q (.ref p) (upd H1 p (.tup xs))
noncomputable def Nx(t:TA):TE:=fun σ H Q=>t σ H fun xs H1=>xs.length<=sizeLine/\ ∀ p,H1 p=none->Q (.ref p) (upd H1 p (.lst xs))
theorem J0{x1}(h:PA X es t):PE X (.Tuple es x1 pos) (L3 t):=by
 intro pins s σ H Q I hq
 refine wpAny_Tuple_spliced (cD (h pos pins s σ H _ I hq) fun us s1 ⟨xs,H1,I1,r,z,q⟩=>⟨by rw[<- r.length];exact z,?_⟩)
 have hf:H1 s1.heap.objs.size=none:=I1.bu.fresh (Nat.le_refl _)
 refine⟨.ref s1.heap.objs.size,upd H1 s1.heap.objs.size (.tup xs),I1.laid (t':=s1.toks) (fun b u e=>Heap.get?_push_of_some _ e) (Nat.le_refl _) ?_,rfl,q _ hf⟩
 exact⟨z,us,r,⟨_,Heap.get?_push_size _ rfl,rfl,_,rfl,rfl⟩⟩
theorem IF(h:PA X es t):PE X (.List es pos) (Nx t):=by
 intro pins s σ H Q I hq
 refine wpAny_List_spliced (cD (h pos pins s σ H _ I hq) fun us s1 ⟨xs,H1,I1,r,z,q⟩=>⟨by rw[<- r.length];exact z,?_⟩)
 have hf:H1 s1.heap.objs.size=none:=I1.bu.fresh (Nat.le_refl _)
 refine⟨.ref s1.heap.objs.size,upd H1 s1.heap.objs.size (.lst xs),I1.laid (t':=s1.toks) (fun b u e=>Heap.get?_push_of_some _ e) (Nat.le_refl _) ?_,rfl,q _ hf⟩
 exact⟨z,us,0,r,Heap.get?_push_size _ rfl⟩
end
abbrev Sp:=List V->Hp->VK->XK->Prop
abbrev xV:=List Env->Hp->Shared->XK->Value->Shared->Prop
structure uO(P:Program)(w:World)(K:PySem.W.Frag)(mg:Str->Option Value)(base:Heap)(A:Around)(outer:List Env)(s:Shared)(H:Hp):Prop where
 frames:A.frames=some outer
 mod:Mod K mg base
 bs: ∀ b o,base.get? b=some o->s.heap.get? b=some o/\H b=none
 B6:base.objs.size<=s.heap.objs.size
 kR:s.heap.FunFrames base outer
 FN: ∀ b∈yA outer,H b=none
 bu:jm P w H s.heap
 bare:AllBare s.gens
noncomputable def CE(outer:List Env)(P:Program)(w:World)(H:Hp)(s:Shared)(Q:VK)(u:Value)(s':Shared):Prop :=
 ∃ v H',s'.os=s.os/\AllBare s'.gens/\Un (yA outer) [] H H' s.heap s'.heap/\jm P w H' s'.heap/\RelV v u/\Q v H'
noncomputable def CR(CX:xV)(outer:List Env)(P:Program)(w:World)(H:Hp)(s:Shared)(Q:VK)(E:XK)(r:Result)(s':Shared):Prop :=
 match r with
 | .ok (.ret u)=>CE outer P w H s Q u s'
 | .ok _=>False
 | .error e=>CX outer H s E e s'
structure iD(P:Program)(w:World)(K:PySem.W.Frag)(mg:Str->Option Value)(base:Heap)(CX:xV)(k:Nat)(f:Addr)(fd:FuncData)(ps:List Str)(sp:Sp):Prop where
 len: ∀ vs H Q E,sp vs H Q E->vs.length=ps.length
 run: ∀(A:Around)(outer:List Env)(s:Shared)(H:Hp)(args:Args)(us:List Value)(vs:List V)(Q:VK)(E:XK),dz k A->uO P w K mg base A outer s H->BindsTo s fd args (ps.zip us)->Vals vs us->sp vs H Q E ->
  codeAny (model P w) A (.call (.ref f) args) (CR CX outer P w H s Q E) s
theorem iD.mono{P:Program}{w:World}{K:PySem.W.Frag}{mg:Str->Option Value}{base:Heap}{CX:xV}{j k:Nat}{f:Addr}{fd:FuncData}{ps:List Str}{sp:Sp}(F:iD P w K mg base CX j f fd ps sp)(h:j<=k) :
  iD P w K mg base CX k f fd ps sp:=⟨F.len,fun A outer s H args us vs Q E hr=>F.run A outer s H args us vs Q E (hr.mono h)⟩
theorem iD.imp{P:Program}{w:World}{K:PySem.W.Frag}{mg:Str->Option Value}{base:Heap}{CX:xV}{k:Nat}{f:Addr}{fd:FuncData}{ps:List Str}{sp sp':Sp}(F:iD P w K mg base CX k f fd ps sp)
  (h: ∀ vs H Q E,sp' vs H Q E->sp vs H Q E):iD P w K mg base CX k f fd ps sp' :=
 ⟨fun vs H Q E q=>F.len vs H Q E (h _ _ _ _ q),fun A outer s H args us vs Q E hr he hb hv hs=>F.run A outer s H args us vs Q E hr he hb hv (h _ _ _ _ hs)⟩
theorem uO.in1{P:Program}{w:World}{K:PySem.W.Frag}{mg:Str->Option Value}{base:Heap}{A:Around}{outer:List Env}{s:Shared}{H:Hp}(e:uO P w K mg base A outer s H) :
  uO P w K mg base A.in1 outer s H:=⟨e.frames,e.mod,e.bs,e.B6,e.kR,e.FN,e.bu,e.bare⟩
section
variable{X:Cx}{pins:List (Addr × Obj)}{σ :St}{H:Hp}{s s':Shared}
theorem Inv.OW(I:Inv X pins σ H s):uO X.prog X.w X.K X.mg X.base X.A X.stack s H :=
 ⟨I.ok.frames,I.ok.mod,I.bs,Nat.le_trans I.ok.B6 I.sz,I.stack,I.wJ,I.bu,I.bare⟩
theorem Inv.after{Q:VK}{u:Value}(I:Inv X pins σ H s)(h:CE X.stack X.prog X.w H s Q u s'):EP X pins σ Q u s':=by
 obtain⟨v,H',os,bare,un,bu,r,q⟩:=h
 obtain⟨hh,g,d,t,os'⟩:=s'
 obtain rfl:os'=s.os:=os
 exact⟨v,H',I.call (h':=hh) (g':=g) (d':=d) (t':=t) (ch:=[]) un bu bare (fun b z=>absurd z (by simp)),r,q⟩
end
noncomputable def wN(sp:Sp)(B1:List V)(E:XK)(t:TA):TE:=fun σ H Q=>t σ H fun vs H1=>sp (vs++B1) H1 Q E
noncomputable def Binds(K:PySem.W.Frag)(fd:FuncData)(ps:List Str)(ds:List Value):Prop :=
 ∀(s:Shared)(us:List Value),K.In s.heap->(us++ds).length=ps.length->BindsTo s fd ⟨us,[]⟩ (ps.zip (us++ds))
theorem Binds.all{K:PySem.W.Frag}{fd:FuncData}{ps:List Str}(h: ∀ us:List Value,us.length=ps.length->bindArgs fd ⟨us,[]⟩=pure (ps.zip us)):Binds K fd ps []:=fun s us _ hl=>by
 rw[List.append_nil] at hl ⊢
 exact .of_eq (h us hl)
noncomputable def Passes(CX:xV)(X:Cx)(E:XK):Prop:= ∀(pins:List (Addr × Obj))(σ :St)(H:Hp)(s:Shared)(e:Value)(s':Shared),Inv X pins σ H s->CX X.stack H s E e s'->X.xe e s'
section
variable{X:Cx}{CX:xV}{k:Nat}{f C:Addr}{fd:FuncData}{ps:List Str}{sp:Sp}{B1:List V}{ds:List Value}{E:XK}{x m:Str}{p pos apos:Pos}{e o:Expr}{es:List Expr}{ta:TE}{t:TA}
theorem Gd{pins:List (Addr × Obj)}{σ :St}{H:Hp}{s:Shared}{Q:VK}{us:List Value}{vs:List V}(F:iD X.prog X.w X.K X.mg X.base CX k f fd ps sp)(hr:dz k X.A)(hb:Binds X.K fd ps ds)(hd:Vals B1 ds)(hx:Passes CX X E)
  (I:Inv X pins σ H s) (r:Vals vs us) (h:sp (vs++B1) H Q E):wpAny (model X.prog X.w) X.A (call (.ref f) us) (EP X pins σ Q) X.xe s:=by
 have r2:Vals (vs++B1) (us++ds):=r.append hd
 have hl:(us++ds).length=ps.length:=by rw[<- r2.length];exact F.len _ _ _ _ h
 refine wpAny_call (codeAny_mono (F.run X.A X.stack s H ⟨us,[]⟩ (us++ds) (vs++B1) Q E hr I.OW (hb s us I.kH hl) r2 h) fun r s' hq=>?_)
 cases r with
 | error e=>exact hx pins σ H s e s' I hq
 | ok fl =>
  cases fl with
  | ret u=>exact I.after hq
  | next=>exact False.elim hq
  | brk=>exact False.elim hq
  | cont=>exact False.elim hq
theorem Fe(F:iD X.prog X.w X.K X.mg X.base CX k f fd ps sp)(hr:dz k X.A)(hg:Gl X x)(hm:X.mg x=some (.ref f))(hk:PySem.W.keepIn X.K (.ref f)=true)(hb:Binds X.K fd ps ds)(hd:Vals B1 ds)(hx:Passes CX X E)
  (ha:PA X (e::es) t) (hdb:(x == ("__debug__" :Str))=false:=by decide) (he:starEach (e::es) X.env=(false,eval e X.env)::starEach es X.env:=by rfl) (hpl:(backTo pos (starEach es X.env)).any (·.1)=false:=by rfl) :
  PE X (.Call (.Name x p) (e::es) [] pos) (wN sp B1 E t):=by
 intro pins s σ H Q I h
 refine wpAny_Call_Name_kw (wx I hg hm ?_ hdb)
 refine PySem.W.callWith_K (h₀ :=X.base) I.ok.mod.Ol hk (cD (ha pos pins s σ H _ I h) fun us s1 ⟨vs,H1,I1,r,q⟩=>⟨I1.kH,?_⟩) he hpl
 exact Gd F hr hb hd hx I1 r q
structure Mk(K:PySem.W.Frag)(C f:Addr):Prop where
 makes:PySem.W.makesIn K C=true
 init:PySem.W.findIn K (.ref C) "__init__" =some (some (.ref f))
 fn:PySem.W.isFn K (.ref f)=true
 kp:PySem.W.keepIn K (.ref C)=true
end
section
variable{X:Cx}{CX:xV}{k:Nat}{f C:Addr}{fd:FuncData}{ps ks:List Str}{sp:Sp}{E:XK}{x m:Str}{p pos apos kpos:Pos}{e o:Expr}{es:List Expr}{kws:List Keyword}{te ta:TE}{t tk:TA}{nm:Option Str}
structure Of(K:PySem.W.Frag)(fd:FuncData)(ps ks:List Str)(g:List Value->List Value->List Value)(gV:List V->List V->List V):Prop where
 to: ∀(s:Shared)(us ws:List Value),K.In s.heap->(g us ws).length=ps.length->BindsTo s fd ⟨us,ks.zip ws⟩ (ps.zip (g us ws))
 rel: ∀{vs:List V}{us:List Value}{zs:List V}{ws:List Value},Vals vs us->Vals zs ws->Vals (gV vs zs) (g us ws)
variable{g:List Value->List Value->List Value}{gV:List V->List V->List V}
end
structure au(N P:List Str)(sc:Scope):Prop where
 kind:sc.kind= .function
 co:sc.isCoroutine=false
 gen:sc.isGenerator=false
 nd:N.Nodup
 pre:N.take P.length=P
 par: ∀ x∈P,sc.names.lookup x=some .local\/sc.names.lookup x=some .cell
 Kk: ∀ y∈sc.names,y.2≠ .free
theorem qb{kindOf:Str->Option NameKind}{x:Str}: ∀{binds:List (Str × Value)}{m:Str->Option Value},(∀ v,(x,v) ∉ binds)->bindL kindOf binds m x=m x
 | [],_,_=>rfl
 | (n,v)::r,m,h=>by
  unfold bindL
  rw[qb fun w hw=>h w (List.mem_cons_of_mem _ hw)]
  split
  · have:x≠n:=by rintro rfl;exact h v List.mem_cons_self
    simp[this]
  · rfl
theorem qy{kindOf:Str->Option NameKind}{x:Str}: ∀{binds:List (Str × Value)}{m:Str->Option Value},(∀ v,(x,v) ∉ binds)->bindC kindOf binds m x=m x
 | [],_,_=>rfl
 | (n,v)::r,m,h=>by
  unfold bindC
  rw[qy fun w hw=>h w (List.mem_cons_of_mem _ hw)]
  split
  · rfl
  · have:x≠n:=by rintro rfl;exact h v List.mem_cons_self
    simp[this]
theorem pZ{kindOf:Str->Option NameKind}{x:Str}{v:Value}: ∀{P:List Str}{vs:List Value}{i:Nat}{m:Str->Option Value},P.Nodup->P[i]?=some x->vs[i]?=some v->kindOf x=some .local ->
  bindL kindOf (P.zip vs) m x=some v
 | [],_,_,_,_,h,_,_=>by simp at h
 | _::_,[],_,_,_,_,h,_=>by simp at h
 | p::P,w::vs,0,m,nd,h1,h2,hk=>by
  simp at h1 h2;subst h1;subst h2
  show bindL kindOf ((p,w)::P.zip vs) m p=_
  unfold bindL
  rw[qb fun v hv=>(List.nodup_cons.mp nd).1 (List.of_mem_zip hv).1,if_pos hk]
  simp
 | p::P,w::vs,i+1,m,nd,h1,h2,hk=>by
  show bindL kindOf ((p,w)::P.zip vs) m x=_
  unfold bindL
  exact pZ (i:=i) (List.nodup_cons.mp nd).2 (by simpa using h1) (by simpa using h2) hk
theorem pQ{kindOf:Str->Option NameKind}{x:Str}{v:Value}: ∀{P:List Str}{vs:List Value}{i:Nat}{m:Str->Option Value},P.Nodup->P[i]?=some x->vs[i]?=some v->kindOf x≠some .local ->
  bindC kindOf (P.zip vs) m x=some v
 | [],_,_,_,_,h,_,_=>by simp at h
 | _::_,[],_,_,_,_,h,_=>by simp at h
 | p::P,w::vs,0,m,nd,h1,h2,hk=>by
  simp at h1 h2;subst h1;subst h2
  show bindC kindOf ((p,w)::P.zip vs) m p=_
  unfold bindC
  rw[qy fun v hv=>(List.nodup_cons.mp nd).1 (List.of_mem_zip hv).1,if_neg hk]
  simp
 | p::P,w::vs,i+1,m,nd,h1,h2,hk=>by
  show bindC kindOf ((p,w)::P.zip vs) m x=_
  unfold bindC
  exact pQ (i:=i) (List.nodup_cons.mp nd).2 (by simpa using h1) (by simpa using h2) hk
noncomputable def start(N:List Str)(vs:List V):St:=vs.map some++List.replicate (N.length - vs.length) none
noncomputable def jG(CX:xV)(P:Program)(w:World)(K:PySem.W.Frag)(mg:Str->Option Value)(base:Heap)(N:List Str)(qual:Str)(scope:Scope)(f:Addr)(cd:Value)(A:Around)(outer:List Env)(s:Shared)(H:Hp)(E:XK):Cx where
 prog:=P
 w:=w
 K:=K
 mg:=mg
 base:=base
 A:=A.deeper (envOfC qual scope s.heap.objs.size f cd)
 N:=N
 s₀ :=s
 H₀ :=H
 env:=envOfC qual scope s.heap.objs.size f cd
 outer:=outer
 stack:=envOfC qual scope s.heap.objs.size f cd::outer
 ex:=[]
 calm:=true
 fn:=fun _=>true
 pn:=[]
 xe:=fun e s'=>wpAny (model P w) (A.deeper (envOfC qual scope s.heap.objs.size f cd)) (leaving (envOfC qual scope s.heap.objs.size f cd) e) (fun _ s''=>CX outer H s E e s'') (fun e' s''=>CX outer H s E e' s'') s'
theorem t6{sc:Scope}{n:Nat}{x:Str}(h:sc.names.lookup x=some .cell): ∃ c,(cellsFrom n sc.names []).lookup x=some c:=by
 have q:=PySem.W.cellsFrom_some sc.names n [] (.inl h)
 exact Option.isSome_iff_exists.mp q
theorem xT{CX:xV}{P:Program}{w:World}{K:PySem.W.Frag}{mg:Str->Option Value}{base:Heap}{N ps:List Str}{qual:Str}{scope:Scope}{f:Addr}{cd:Value}{A:Around}{outer:List Env}{s s1:Shared}{H:Hp}{E:XK}{us:List Value}{vs:List V}
  (S:au N ps scope) (hd:A.handled=none) (e0:uO P w K mg base A outer s H) (hl:vs.length=ps.length) (r:Vals vs us)
  (x:InCallC s s.heap.objs.size (bindL (envOfC qual scope s.heap.objs.size f cd).kindOf (ps.zip us) fun _=>none) (cellsFrom (s.heap.objs.size+1) scope.names []) (bindC (envOfC qual scope s.heap.objs.size f cd).kindOf (ps.zip us) fun _=>none) s1) :
  Inv (jG CX P w K mg base N qual scope f cd A outer s H E) [] (start N vs) H s1:=by
 have hpl:ps.length<=N.length:=by have:=congrArg List.length S.pre;rw[List.length_take] at this;omega
 obtain⟨h1,tk,rfl,hk⟩:=x.done
 have noA: ∀ b:Addr,b ∉ (jG CX P w K mg base N qual scope f cd A outer s H E).ex:=fun b z=>absurd (show b∈([]:List Addr) from z) (by simp)
 refine⟨⟨e0.mod,S.kind,rfl,rfl,Nat.le_refl _,fun y z c h1 h2=>?_,fun y hy=>?_,fun y c _ h=>?_,fun _=>hd,Around.frames_deeper e0.frames,.inr ⟨rfl,rfl⟩,fun b z=>absurd z (noA b),e0.bs,e0.B6,fun b _ _=>noA b,fun b z=>absurd z (noA b),e0.kR,e0.FN⟩,
  rfl,e0.bare,Un.kept hk,⟨_,x.toInCall.ns,fun i y v h1 h2 h3=>?_⟩,fun y c h=>⟨_,x.cell y c h⟩,e0.bu.fresh (Nat.le_refl _),fun y c h=>?_,fun p hp=>absurd (show p∈([]:List (Addr × Obj)) from hp) (by simp),e0.bu.kept hk,?_⟩
 · exact name_of_addr x.apart (PySem.mem_of_lookup h1) (PySem.mem_of_lookup h2)
 · have hy:scope.names.lookup y=some .cell\/scope.names.lookup y=some .free:=hy
   rcases hy with hy | hy
   · exact t6 hy
   · exact absurd rfl (S.Kk _ (PySem.mem_of_lookup hy))
 · exact Nat.le_of_lt (x.above y c (PySem.mem_of_lookup h))
 · have hi:i < vs.length:=by
    unfold start at h2
    by_cases hi:i < vs.length
    · exact hi
    · rw[List.getElem?_append_right (by simpa using hi)] at h2
      rw[List.getElem?_replicate] at h2
      split at h2<;>cases h2
   have ha:vs[i]?=some v:=by
    unfold start at h2
    rw[List.getElem?_append_left (by simpa using hi),List.getElem?_map] at h2
    cases e:vs[i]? with
    | none=>rw[e] at h2;cases h2
    | some a=>rw[e] at h2;cases h2;rfl
   obtain⟨u,hu,rv⟩:=r.get ha
   have hp:ps[i]?=some y:=by
    rw[<- S.pre,List.getElem?_take_of_lt (by omega)];exact h1
   have ndP:ps.Nodup:=by rw[<- S.pre];exact S.nd.sublist (List.take_sublist _ _)
   refine⟨u,rv,?_⟩
   rcases S.par y (List.mem_of_getElem? hp) with k | k
   · exact .inl ⟨k,pZ ndP hp hu k⟩
   · obtain⟨c,e⟩:=t6 (n:=s.heap.objs.size+1) k
     refine .inr ⟨.inl k,c,e,?_⟩
     have q:=x.cell y c e
     rw[pQ ndP hp hu (by show scope.names.lookup y≠_;rw[k];decide)] at q
     exact q
 · exact e0.bu.fresh (Nat.le_of_lt (x.above y c (PySem.mem_of_lookup h)))
 · unfold start
   show _=N.length
   rw[List.length_append,List.length_map,List.length_replicate]
   omega
theorem Mp{CX:xV}{P:Program}{w:World}{K:PySem.W.Frag}{mg:Str->Option Value}{base:Heap}{k:Nat}{f:Addr}{name qual:Str}{params:Arguments}{body:List Stmt}{scope:Scope}{dV kV doc pm cdv ct oc:Value}{an od:Option Addr}
  {osl:Array (Option Value)} {N ps:List Str} {sp:Sp} (lk:K.lookup f=some ⟨oc,od,.func (PySem.W.fnOf name qual params body scope dV kV doc pm an cdv ct),osl⟩) (hcd:PySem.W.codeIn K cdv qual=true) (S:au N ps scope)
  (len: ∀ vs H Q E,sp vs H Q E->vs.length=ps.length)
  (hbody: ∀(A:Around)(outer:List Env)(s:Shared)(H:Hp)(vs:List V)(Q:VK)(E:XK),dz k (A.deeper (envOfC qual scope s.heap.objs.size f cdv))->sp vs H Q E ->
   ∃ t,vU (jG CX P w K mg base N qual scope f cdv A outer s H E) body t/\t { nx:=fun _ H'=>Q .non H',rt:=Q } (start N vs) H) :
  iD P w K mg base CX (k+1) f (PySem.W.fnOf name qual params body scope dV kV doc pm an cdv ct) ps sp:=by
 refine⟨len,fun A outer s H args us vs Q E hr e0 hb r hsp=>?_⟩
 have hl:=len _ _ _ _ hsp
 have KX:K.In s.heap:=e0.mod.Ol.keeps fun b o e=>(e0.bs b o e).1
 have lim:s.heap.NoLimit:=e0.mod.nolimit.keeps fun b o e=>(e0.bs b o e).1
 have hkind: ∀ y∈ps.zip us,scope.names.lookup y.1=some .local\/(scope.names.lookup y.1=some .cell/\((cellsFrom (s.heap.objs.size+1) scope.names []).lookup y.1).isSome=true):=fun ⟨n,v⟩ hy=>by
  rcases S.par n (List.of_mem_zip hy).1 with q | q
  · exact .inl q
  · exact .inr ⟨q,PySem.W.cellsFrom_some _ _ _ (.inl q)⟩
 refine codeAny_call_function hr.depth (KX _ _ lk) rfl S.co S.gen rfl (PySem.W.codeRec_of KX hcd) (hb _ _ _ _ ?_)
 refine wpAny_newFunctionEnv_cells S.kind hkind fun env he s1 x=>?_
 subst he
 refine⟨lim.keeps x.toInCall.keep,codeAny_func ?_⟩
 obtain⟨t,ht,hq⟩:=hbody A outer s H vs Q E (hr.deeper _) hsp
 have I:Inv (jG CX P w K mg base N qual scope f cdv A outer s H E) [] (start N vs) H s1:=xT S hr.hd e0 hl r x
 refine wpAny_mono (ht [] s1 (start N vs) H _ I hq) (fun fl s' hs=>?_) fun e s' hs=>hs
 have fin: ∀{σ':St}{H':Hp}{v:V}{u:Value},Inv (jG CX P w K mg base N qual scope f cdv A outer s H E) [] σ' H' s'->RelV v u->Q v H'->CE outer P w H s Q u s' :=
  fun {σ' H' v u} J rv q=>⟨v,H',J.os,J.bare,J.base,J.bu,rv,q⟩
 cases fl with
 | ret u =>
  obtain⟨v, σ',H',J,rv,q⟩:=hs
  exact fin J rv q
 | next =>
  obtain⟨σ',H',J,q⟩:=hs
  exact fin (v:=V.non) (u:=Value.none) J rfl q
 | brk =>
  obtain⟨_,_,_,q⟩:=hs
  exact False.elim q
 | cont =>
  obtain⟨_,_,_,q⟩:=hs
  exact False.elim q
open PySem PySem.Spec PyProof.Rows
section
variable{X:Cx}{x:Str}{p pos:Pos}{e:Expr}{es:List Expr}{t:TA}{id T:String}{r:List V->Hp->VK->Prop}
noncomputable def IW(r:List V->Hp->VK->Prop)(t:TA):TE:=fun σ H Q=>t σ H fun vs H1=>r vs H1 Q
theorem AB(hc:bq X (.builtin id) r)(hg:Gl X x)(hm:X.mg x=none)(hv:bootBuiltins x=some (.builtin id))(ha:PA X (e::es) t)(hn:x≠ "__name__" :=by decide)(hdb:(x == ("__debug__" :Str))=false:=by decide)
  (he:starEach (e::es) X.env=(false,eval e X.env)::starEach es X.env:=by rfl) (hpl:(backTo pos (starEach es X.env)).any (·.1)=false:=by rfl):PE X (.Call (.Name x p) (e::es) [] pos) (IW r t):=by
 intro pins s σ H Q I h
 refine wpAny_Call_Name_kw (lq I hg hm hv ?_ hn hdb)
 exact PyProof.Rows.callWith_builtin1 (cD (ha pos pins s σ H _ I h) fun us s1 ⟨vs,H1,I1,r1,q1⟩=>hc pins s1 σ H1 vs us Q I1 r1 q1) he hpl
theorem ye(hc:bq X (.type T) r)(hg:Gl X x)(hm:X.mg x=none)(hv:bootBuiltins x=some (.type T))(ha:PA X (e::es) t)(hn:x≠ "__name__" :=by decide)(hdb:(x == ("__debug__" :Str))=false:=by decide)
  (he:starEach (e::es) X.env=(false,eval e X.env)::starEach es X.env:=by rfl) (hpl:(backTo pos (starEach es X.env)).any (·.1)=false:=by rfl):PE X (.Call (.Name x p) (e::es) [] pos) (IW r t):=by
 intro pins s σ H Q I h
 refine wpAny_Call_Name_kw (lq I hg hm hv ?_ hn hdb)
 exact PyProof.Rows.callWith_type1 (cD (ha pos pins s σ H _ I h) fun us s1 ⟨vs,H1,I1,r1,q1⟩=>hc pins s1 σ H1 vs us Q I1 r1 q1) he hpl
end
end L2
namespace HT
open PySem PyProof.Rows
section
open PySem.SeqAt
open PySem.AutoSeq1 (wpAny_loadPart')
open PySem.MeetsSeq PySem.MeetsSeq2 PySem.MeetsSeq3
end
section
variable{prog:Program}{w:World}{A:Around}{E:Value->Shared->Prop}{s:Shared}
theorem C7{t b:Addr}{vs ws:List Value}{Q:Value->Shared->Prop}(ht:IsTup s.heap t vs.toArray)(hb:IsTup s.heap b ws.toArray)(hv:vs≠[])
  (h1:ws=[]->Q (.ref t) s) (h2:ws≠[]->Q (.ref s.heap.objs.size) { s with heap:=s.heap.push { cls:= .type "tuple",data:= .seq (vs++ws).toArray } })
  (hsz:vs.length+ws.length<=sizeLine):wpAny (model prog w) A (binaryOp .Add (.ref t) (.ref b)) Q E s:=by
 obtain⟨⟨cls,dd,data,sl⟩,ho,hc,n,hd⟩:=id ht
 obtain⟨⟨cls2,dd2,data2,sl2⟩,ho2,hc2,n2,hd2⟩:=id hb
 simp only at hc hd hc2 hd2
 subst hc hd hc2 hd2
 have e:vs.toArray++ws.toArray=(vs++ws).toArray:=by simp
 by_cases hw:ws=[]
 · exact concat_meets ⟨_,ho,rfl⟩ ⟨_,ho2,rfl⟩ noFill_tuple_add seq_tuple_add PySem.F.slot_tuple_add PySem.F.entry_tuple_add (PySem.F.args_tuple_add_2 _ _)
    (tuple_addW1 t b vs.toArray ws.toArray n n2 dd dd2 sl sl2 (by simpa using hv) (by simp[hw])) ⟨ho,ho2,h1 hw⟩
 · refine concat_meets ⟨_,ho,rfl⟩ ⟨_,ho2,rfl⟩ noFill_tuple_add seq_tuple_add PySem.F.slot_tuple_add PySem.F.entry_tuple_add (PySem.F.args_tuple_add_2 _ _)
    (tuple_addW2 t b vs.toArray ws.toArray n n2 dd dd2 sl sl2 (by simpa using hv) (by simpa using hw) (by rw[List.size_toArray,List.size_toArray];exact hsz)) ⟨ho,ho2,?_⟩
   rw[e]
   exact h2 hw
noncomputable def dc(n d:Nat):Option Int->Nat
 | none=>d
 | some v=>if v < 0 then(v+(n:Int)).toNat else min v.toNat n
theorem jQ(n d:Nat):dc n d none=d:=rfl
theorem mK(n d k:Nat):dc n d (some (k:Int))=min k n:=by
 show(if (k:Int) < 0 then((k:Int)+(n:Int)).toNat else min (k:Int).toNat n)=min k n
 rw[if_neg (by omega),Int.toNat_natCast]
theorem GS(n d:Nat)(hd:d<=n)(o:Option Int):dc n d o<=n:=by
 cases o with
 | none=>exact hd
 | some v =>
  show(if v < 0 then(v+(n:Int)).toNat else min v.toNat n)<=n
  by_cases hv:v < 0
  · rw[if_pos hv];omega
  · rw[if_neg hv];exact Nat.min_le_right _ _
theorem wL(v:Int)(n d:Nat):(if v < 0 then max (v+(n:Int)) 0 else min v (n:Int))=((dc n d (some v):Nat):Int):=by
 show(if v < 0 then max (v+(n:Int)) 0 else min v (n:Int))=(((if v < 0 then(v+(n:Int)).toNat else min v.toNat n):Nat):Int)
 by_cases hv:v < 0
 · simp only[if_pos hv];omega
 · simp only[if_neg hv];omega
theorem vA(lo hi:Option Int)(n:Nat):Builtin.Slice.sliceAdjust lo hi 1 (n:Int)=(((dc n 0 lo:Nat):Int),((dc n n hi:Nat):Int)):=by
 have h1: ¬ ((1:Int) < 0):=by omega
 unfold Builtin.Slice.sliceAdjust
 simp only[h1,if_false]
 refine Prod.ext ?_ ?_
 · cases lo with
   | none=>rfl
   | some v=>exact wL v n 0
 · cases hi with
   | none=>rfl
   | some v=>exact wL v n n
theorem vW(i j:Nat):Builtin.Slice.slicePlaces (i:Int) (j:Int) 1=j - i:=by
 unfold Builtin.Slice.slicePlaces
 have h1:(1:Int) > 0:=by omega
 simp only[h1,if_true,Int.ediv_one]
 split<;>omega
theorem nZ{v:Value}{o:Option Int}{Q:Option Int->Shared->Prop}(p:IsPart v o)(h:Q o s):wpAny (model prog w) A (Builtin.Slice.slicePartIndex v) Q E s:=by
 cases p with
 | none=>exact slicePart_none h
 | int i t=>exact slicePart_int h
theorem gv{sl:Addr}{vl vu:Value}{lo hi:Option Int}{n:Nat}{Q:Int × Int × Nat->Shared->Prop}(hs:s.heap.IsSliceOf sl vl vu .none)(pl:IsPart vl lo)(pu:IsPart vu hi)
  (h:Q (((dc n 0 lo:Nat):Int),1,dc n n hi - dc n 0 lo) s):wpAny (model prog w) A (Builtin.Slice.sliceApplied (.ref sl) (pure (n:Int))) Q E s:=by
 obtain⟨os,hos,hcs,hds⟩:=id hs
 unfold Builtin.Slice.sliceApplied Builtin.Slice.sliceFields
 refine wpAny_bind (wpAny_bind (wpAny_field hos hds (x:=vl) rfl (wpAny_bind (wpAny_field hos hds (x:=vu) rfl (wpAny_bind (wpAny_field hos hds (x:= .none) rfl (wpAny_pure ?_)))))))
 refine wpAny_bind (slicePart_none ?_)
 show wpAny _ _ (if ((1:Int) == 0)=true then _ else _) _ _ s
 rw[if_neg (by decide)]
 refine wpAny_bind (nZ pl (wpAny_bind (nZ pu (wpAny_bind (wpAny_pure ?_)))))
 show wpAny _ _ (match Builtin.Slice.sliceAdjust lo hi 1 (n:Int) with | (lo,hi)=>pure (lo,(1:Int),Builtin.Slice.slicePlaces lo hi 1)) _ _ s
 rw[vA lo hi n]
 show wpAny _ _ (pure (((dc n 0 lo:Nat):Int),(1:Int),Builtin.Slice.slicePlaces ((dc n 0 lo:Nat):Int) ((dc n n hi:Nat):Int) 1)) _ _ s
 rw[vW]
 exact wpAny_pure h
theorem yW(xs:Array Value)(i k:Nat):((List.range k).filterMap fun (m:Nat)=>xs[((i:Int)+(m:Int)*1).toNat]?).toArray=((xs.toList.drop i).take k).toArray:=by
 have e:(fun (m:Nat)=>xs[((i:Int)+(m:Int)*1).toNat]?)=fun m=>xs[i+m]?:=by
  funext m
  have:((i:Int)+(m:Int)*1).toNat=i+m:=by omega
  rw[this]
 rw[e]
 have:=pick_run xs i k
 rw[List.filterMap_map] at this
 have e2:((fun x=>xs[x]?) ∘ fun x=>i+x)=fun m=>xs[i+m]?:=rfl
 rw[e2] at this
 rw[this]
theorem ko{t sl : Addr}{items : Array Value}{vl vu : Value}{lo hi : Option Int}{Q : Value -> Shared -> Prop}(ht : IsTup s.heap t items)(hs : s.heap.IsSliceOf sl vl vu .none)(pl : IsPart vl lo)(pu : IsPart vu hi)
    (hw : ¬ (dc items.size 0 lo = 0 /\ dc items.size items.size hi = items.size))
    (h : Q (.ref s.heap.objs.size) { s with heap := s.heap.push { cls := .type "tuple", data := .seq ((items.toList.drop (dc items.size 0 lo)).take (dc items.size items.size hi - dc items.size 0 lo)).toArray } })
    (hsz : items.size <= sizeLine) : wpAny (model prog w) A (getItem (.ref t) (.ref sl)) Q E s := by
  have htake : sizeOk (.seq ((items.toList.drop (dc items.size 0 lo)).take (dc items.size items.size hi - dc items.size 0 lo)).toArray) := by
    show((items.toList.drop (dc items.size 0 lo)).take (dc items.size items.size hi - dc items.size 0 lo)).toArray.size <= sizeLine
    rw[List.size_toArray, List.length_take, List.length_drop, Array.length_toList]
    omega
  have hj : dc items.size items.size hi <= items.size := GS _ _ (Nat.le_refl _) hi
  obtain⟨os, hos, hcs, hds⟩ := id hs
  have hTs : s.TypeIs (.ref sl) "slice" := ⟨os, hos, hcs⟩
  unfold getItem
  try with_reducible refine wpAny_holding ?_
  first | refine wpAny_bind (wpAny_pure ?_) | skip
  refine wpAny_bind (wpAny_sequenceKey ht.typeIs (by decide) ?_)
  refine wpAny_bind (wpAny_callSpecial?_slot (name := Str.ofString "__getitem__") ht.typeIs PyProof.Rows.slot_tuple_getitem
    (wpAny_call_entry PyProof.Rows.slot_tuple_getitem ht.typeIs entry_tuple_getitem ?_ (args_tuple_getitem _ _)))
  show wpAny _ _ (Builtin.Tuple.tupleItemsOf (.ref t) >>= _) _ _ s
  refine wpAny_bind (tupleItemsOf_ ht ?_)
  refine wpAny_bind (wpAny_typeOf hTs ?_)
  rw[if_pos (by decide)]
  refine wpAny_bind (gv hs pl pu ?_)
  have hno : ¬ ((((dc items.size 0 lo : Nat) : Int) == 0 && (1 : Int) == 1 && (dc items.size items.size hi - dc items.size 0 lo) == items.size) = true) := by
    intro q
    rw[Bool.and_eq_true, Bool.and_eq_true] at q
    have q1 : ((dc items.size 0 lo : Nat) : Int) = 0 := eq_of_beq q.1.1
    have q2 : dc items.size items.size hi - dc items.size 0 lo = items.size := eq_of_beq q.2
    exact hw ⟨by omega, by omega⟩
  show wpAny _ _ (if (((dc items.size 0 lo : Nat) : Int) == 0 && (1 : Int) == 1 && (dc items.size items.size hi - dc items.size 0 lo) == items.size) = true then _ else _) _ _ s
  rw[if_neg hno, yW]
  first
    | exact wpAny_bind (m := Builtin.Tuple.tupleExact _) (wpAny_newObj_type (wpAny_pure ⟨_, rfl, wpAny_pure h⟩) htake)
    | exact wpAny_bind (m := Builtin.Tuple.tupleExact _) (wpAny_newObj_type (wpAny_bind (wpAny_pure (wpAny_pure ⟨_, rfl, wpAny_pure h⟩))) htake)
    | exact wpAny_bind (wpAny_bind (m := Builtin.Tuple.tupleExact _) (wpAny_newObj_type (wpAny_pure (wpAny_pure ⟨_, rfl, wpAny_pure h⟩)) htake))
    | exact wpAny_bind (wpAny_bind (m := Builtin.Tuple.tupleExact _) (wpAny_newObj_type (wpAny_pure ⟨_, rfl, wpAny_pure h⟩) htake))
end
end HT
namespace L2
open PySem PySem.Spec PyProof.Rows
abbrev TO:=St->Hp->(Option Int->Hp->Prop)->Prop
noncomputable def PO(X:Cx)(e:Option Expr)(t:TO):Prop :=
 ∀(pins:List (Addr × Obj))(s:Shared)(σ :St)(H:Hp)(Q:Option Int->Hp->Prop),Inv X pins σ H s->t σ H Q ->
  wpAny (model X.prog X.w) X.A (evalPart e X.env) (fun u s'=> ∃ o H',Inv X pins σ H' s'/\IsPart u o/\Q o H') X.xe s
noncomputable def wd:TO:=fun _ H Q=>Q none H
noncomputable def FC(t:TE):TO:=fun σ H Q=>t σ H fun x H1=> ∃ i,x= .int i/\Q (some i) H1
section
variable{X:Cx}{e:Expr}{te:TE}{lo hi:Option Expr}{tl th:TO}{pos p2:Pos}
theorem DR:PO X none wd:=by
 intro pins s σ H Q I h
 rw[evalPart_none]
 exact wpAny_pure ⟨none,H,I,.none,h⟩
theorem CW(h:PE X e te):PO X (some e) (FC te):=by
 intro pins s σ H Q I hw
 rw[evalPart_some]
 refine cD (h pins s σ H _ I hw) fun u s1 ⟨x,H1,I1,r1,q1⟩=>?_
 obtain⟨i,rfl,q⟩:=q1
 obtain⟨t,rfl⟩:=r1
 exact⟨some i,H1,I1,.int i t,q⟩
noncomputable def B3(X:Cx)(r:V->Option Int->Option Int->Hp->VK->Prop):Prop :=
 ∀(pins:List (Addr × Obj))(s:Shared)(σ :St)(H:Hp)(x:V)(v vl vu:Value)(lo hi:Option Int)(sl:Addr)(Q:VK),Inv X pins σ H s->RelV x v->s.heap.IsSliceOf sl vl vu .none->IsPart vl lo->IsPart vu hi->r x lo hi H Q ->
  ∃ T id,typeLookup (.type T) "__getitem__" =pure (some (.builtin id))/\s.TypeIs v T/\wpAny (model X.prog X.w) X.A (getItem v (.ref sl)) (EP X pins σ Q) X.xe s
theorem B3.or{r r':V->Option Int->Option Int->Hp->VK->Prop}(h:B3 X r)(h':B3 X r'):B3 X (fun x lo hi H Q=>r x lo hi H Q\/r' x lo hi H Q):=by
 intro pins s σ H x v vl vu lo hi sl Q I rx hs pl pu q
 rcases q with q | q
 · exact h pins s σ H x v vl vu lo hi sl Q I rx hs pl pu q
 · exact h' pins s σ H x v vl vu lo hi sl Q I rx hs pl pu q
noncomputable def OY(r:V->Option Int->Option Int->Hp->VK->Prop)(te:TE)(tl th:TO):TE:=fun σ H Q=>te σ H fun x H1=>tl σ H1 fun l H2=>th σ H2 fun u H3=>r x l u H3 Q
theorem Ba{r:V->Option Int->Option Int->Hp->VK->Prop}(hr:B3 X r)(he:PE X e te)(hl:PO X lo tl)(hu:PO X hi th):PE X (.Subscript e (.Slice lo hi none p2) pos) (OY r te tl th):=by
 intro pins s σ H Q I h
 refine Subscript_ (cD (he pins s σ H _ I h) fun v s1 ⟨x,H1,I1,r1,q1⟩=>?_)
 refine wpAny_Slice (cD (hl pins s1 σ H1 _ I1 q1) fun vl s2 ⟨l,H2,I2,pl,q2⟩=>cD (hu pins s2 σ H2 _ I2 q2) fun vu s3 ⟨u,H3,I3,pu,q3⟩=>?_)
 rw[evalPart_none]
 refine wpAny_pure ?_
 have I4:Inv X pins σ H3 { s3 with heap:=s3.heap.push { cls:= .type "slice",data:= .fields #[vl,vu,.none] } }:=I3.kept (t':=s3.toks) fun b ob q=>Heap.get?_push_of_some _ q
 obtain⟨T,id,hT,ht,hg⟩:=hr pins { s3 with heap:=s3.heap.push { cls:= .type "slice",data:= .fields #[vl,vu,.none] } } σ H3 x v vl vu l u s3.heap.objs.size Q I4 r1 (Heap.IsSliceOf.new ..) pl pu q3
 show wpAny (model X.prog X.w) X.A (subscriptTail e (.Slice lo hi none p2) v (.ref s3.heap.objs.size)) (EP X pins σ Q) X.xe { s3 with heap:=s3.heap.push { cls:= .type "slice",data:= .fields #[vl,vu,.none] } }
 exact tail_any (ops:=[.ref s3.heap.objs.size,v]) ht hT hg (by with_unfolding_all rfl)
noncomputable def mB(xs:List V)(lo hi:Option Int):List V:=(xs.drop (HT.dc xs.length 0 lo)).take (HT.dc xs.length xs.length hi - HT.dc xs.length 0 lo)
theorem lP(xs:List V)(lo hi:Option Int):(mB xs lo hi).length<=xs.length:=by
 unfold mB
 rw[List.length_take,List.length_drop]
 omega
noncomputable def Mf(K:PySem.W.Frag):V->Option Int->Option Int->Hp->VK->Prop:=fun x lo hi H Q=> ∃ a xs,x= .ref a/\eY K H a xs /\
 ¬ (HT.dc xs.length 0 lo=0/\HT.dc xs.length xs.length hi=xs.length)/\ ∀ p,H p=none->Q (.ref p) (upd H p (.tup (mB xs lo hi)))
theorem F8:B3 X (Mf X.K):=by
 intro pins s σ H x v vl vu lo hi sl Q I rx hs pl pu h
 obtain⟨a,xs,rfl,hx,hw,q⟩:=h
 cases rx
 obtain⟨ay,r,ht,hz⟩:=I.tuple hx
 have hlen:ay.toArray.size=xs.length:=by rw[List.size_toArray];exact r.length.symm
 refine⟨"tuple",_,PyProof.Rows.slot_tuple_getitem.lookup,ht.typeIs,?_⟩
 refine HT.ko ht hs pl pu (by rw[hlen];exact hw) ?_ (by rw[hlen];exact hz)
 rw[hlen]
 refine⟨.ref s.heap.objs.size,_,I.laid (t':=s.toks) (o:= .tup (mB xs lo hi)) (fun b ob q=>Heap.get?_push_of_some _ q) (Nat.le_refl _) ?_,rfl,q _ (I.bu.fresh (Nat.le_refl _))⟩
 exact⟨Nat.le_trans (lP xs lo hi) hz,_,(r.drop (HT.dc xs.length 0 lo)).take (HT.dc xs.length xs.length hi - HT.dc xs.length 0 lo),pE.new _ _⟩
noncomputable def Fw(K:PySem.W.Frag):R2:=fun x y H Q=> ∃ a b xs ys,x= .ref a/\y= .ref b/\eY K H a xs/\eY K H b ys/\xs≠[]/\xs.length+ys.length<=sizeLine /\
 (ys=[]->Q (.ref a) H)/\(ys≠[]-> ∀ p,H p=none->Q (.ref p) (upd H p (.tup (xs++ys))))
theorem Vals.mJ{xs:List V}{us:List Value}(r:Vals xs us):us=[]↔xs=[]:=by
 cases r with
 | nil=>simp
 | cons _ _=>simp
theorem Ef:cX X (binaryOp .Add) (Fw X.K):=by
 intro pins s σ H x y v u Q I rx ry h
 obtain⟨a,b,xs,ys,rfl,rfl,ha,hb,hx,hz,q1,q2⟩:=h
 cases rx
 cases ry
 obtain⟨ay,r1,p1,_⟩:=I.tuple ha
 obtain⟨its2,r2,p2,_⟩:=I.tuple hb
 refine HT.C7 p1 p2 (fun z=>hx (r1.mJ.mp z)) (fun z=>⟨.ref a,H,I,rfl,q1 (r2.mJ.mp z)⟩) (fun z=>?_) (by rw[<- r1.length,<- r2.length];exact hz)
 refine⟨.ref s.heap.objs.size,_,I.laid (t':=s.toks) (o:= .tup (xs++ys)) (fun b ob q=>Heap.get?_push_of_some _ q) (Nat.le_refl _) ?_,rfl,q2 (fun w=>z (r2.mJ.mpr w)) _ (I.bu.fresh (Nat.le_refl _))⟩
 exact⟨by rw[List.length_append];exact hz,_,r1.append r2,pE.new _ _⟩
end
open PySem PySem.Spec PyProof.Rows
noncomputable def rQ(n:Nat)(i:Int):Option Nat:=if 0<=i then(if i < n then some i.toNat else none) else if -(n:Int)<=i then some (i+n).toNat else none
noncomputable def eF{α :Type}(xs:List α)(i:Int):Option α :=(rQ xs.length i).bind fun j=>xs[j]?
theorem we{n:Nat}{i:Int}{j:Nat}(h:rQ n i=some j):seqIndex? i n=some j/\j < n/\ -(n:Int)<=i/\i < n:=by
 unfold rQ at h
 by_cases h0:0<=i
 · rw[if_pos h0] at h
   by_cases h1:i < n
   · rw[if_pos h1] at h
     have e:i.toNat=j:=Option.some.inj h
     exact⟨by rw[seqIndex_of h0 h1,e],by omega,by omega,h1⟩
   · rw[if_neg h1] at h;cases h
 · rw[if_neg h0] at h
   by_cases h1: -(n:Int)<=i
   · rw[if_pos h1] at h
     have e:(i+n).toNat=j:=Option.some.inj h
     exact⟨by rw[seqIndex_neg (by omega) h1,e],by omega,h1,by omega⟩
   · rw[if_neg h1] at h;cases h
theorem qA{α :Type}{xs:List α}{i:Int}{v: α}(h:eF xs i=some v): ∃ j,seqIndex? i xs.length=some j/\xs[j]?=some v/\j < xs.length/\ -(xs.length:Int)<=i/\i < xs.length:=by
 unfold eF at h
 cases e:rQ xs.length i with
 | none=>rw[e] at h;cases h
 | some j =>
  rw[e] at h
  obtain⟨h1,h2,h3,h4⟩:=we e
  exact⟨j,h1,h,h2,h3,h4⟩
theorem eT{α :Type}{xs:List α}{j:Nat}{v: α}(h:xs[j]?=some v):eF xs (j:Int)=some v:=by
 have hj:j < xs.length:=(List.getElem?_eq_some_iff.mp h).1
 have e:rQ xs.length (j:Int)=some j:=by
  unfold rQ
  rw[if_pos (by omega),if_pos (by omega)];simp
 unfold eF;rw[e];exact h
noncomputable def q9(b:Expr):Prop:= ∀ o i,subscripted b false o i=operate [o,i] (getItem o i)
noncomputable def xv(X:Cx)(r:R2):Prop :=
 ∀(value slice:Expr)(pins:List (Addr × Obj))(s:Shared)(σ :St)(H:Hp)(x y:V)(v u:Value)(Q:VK),Inv X pins σ H s->RelV x v->RelV y u->r x y H Q ->
  subscripted slice false v u=operate [v,u] (getItem v u)->wpAny (model X.prog X.w) X.A (subscriptTail value slice v u) (EP X pins σ Q) X.xe s
noncomputable def FJ(X:Cx)(id:String)(r:V->List V->Hp->VK->Prop):Prop :=
 ∀(pins:List (Addr × Obj))(s:Shared)(σ :St)(H:Hp)(x:V)(xs:List V)(v:Value)(us:List Value)(Q:VK),Inv X pins σ H s->RelV x v->Vals xs us->r x xs H Q ->
  wpAny (model X.prog X.w) X.A (call (.builtin id) (v::us)) (EP X pins σ Q) X.xe s
section
variable{X:Cx}{a b:Expr}{ta tb:TE}{pos:Pos}
theorem xv.or{r r':R2}(h:xv X r)(h':xv X r'):xv X (fun x y H Q=>r x y H Q\/r' x y H Q):=by
 intro value slice pins s σ H x y v u Q I rx ry q hs
 rcases q with q | q
 · exact h value slice pins s σ H x y v u Q I rx ry q hs
 · exact h' value slice pins s σ H x y v u Q I rx ry q hs
theorem MC{r:R2}(hr:xv X r)(ha:PE X a ta)(hb:PE X b tb)(hs:q9 b):PE X (.Subscript a b pos) (Cn r ta tb):=by
 intro pins s σ H Q I h
 exact Subscript_ (HL ha hb I h fun v u s2 x y H2 I2 rx ry q=>hr a b pins s2 σ H2 x y v u Q I2 rx ry q (hs _ _))
noncomputable def M6(K:PySem.W.Frag):R2:=fun x y H Q=> ∃ p xs i v,x= .ref p/\y= .int i/\gA K H p xs/\eF xs i=some v/\Q v H
noncomputable def Mc(K:PySem.W.Frag):R2:=fun x y H Q=> ∃ p xs i v,x= .ref p/\y= .int i/\eY K H p xs/\eF xs i=some v/\Q v H
noncomputable def LY:R2:=fun x y H Q=> ∃ z i c,x= .str z/\y= .int i/\z.length<=sizeLine/\eF z.cps.toList i=some c/\Q (.str ⟨#[c]⟩) H
theorem D8:xv X (M6 X.K):=by
 intro value slice pins s σ H x y v u Q I rx ry h hs
 obtain⟨p,xs,i,z,rfl,rfl,hq,he,q⟩:=h
 cases rx
 obtain⟨t,rfl⟩:=ry
 obtain⟨ay,r,pl,hz⟩:=I.list hq
 obtain⟨j,h1,h2,h3,h4,h5⟩:=qA he
 obtain⟨w,ew,rw'⟩:=r.get h2
 have hl:=r.length
 have hn:=kZ
 have fin:EP X pins σ Q w s:=⟨z,H,I,rw',q⟩
 by_cases h0:0<=i
 · have hj:i.toNat=j:=by
    rw[seqIndex_of h0 h5] at h1
    exact Option.some.inj h1
   exact item_listR pl.isList h0 (by omega) (by rw[hj];simpa using ew) fin hs
 · have hj:(i+(ay.toArray.size:Int)).toNat=j:=by
    rw[seqIndex_neg (by omega) h4] at h1
    rw[List.size_toArray,<- hl]
    exact Option.some.inj h1
   exact subscriptTail_builtinR (x:=w) pl.isList.typeIs slot_list_getitem.lookup
    (wpAny_getItem_list_neg (Q:=fun r s'=>r=w/\EP X pins σ Q r s') pl.isList (by omega) (by rw[List.size_toArray]<;>omega) (by omega) (by rw[hj];simpa using ew) ⟨rfl,fin⟩) hs
theorem Kj:xv X (Mc X.K):=by
 intro value slice pins s σ H x y v u Q I rx ry h hs
 obtain⟨p,xs,i,z,rfl,rfl,hq,he,q⟩:=h
 cases rx
 obtain⟨t,rfl⟩:=ry
 obtain⟨ay,r,pl,hz⟩:=I.tuple hq
 obtain⟨j,h1,h2,h3,h4,h5⟩:=qA he
 obtain⟨w,ew,rw'⟩:=r.get h2
 have hl:=r.length
 have hn:=kZ
 have fin:EP X pins σ Q w s:=⟨z,H,I,rw',q⟩
 exact subscriptTail_builtinR (x:=w) pl.typeIs slot_tuple_getitem.lookup
  (getItem_tuple (j:=j) (Q:=fun r s'=>r=w/\EP X pins σ Q r s') pl (by omega) (by omega) (by rw[List.size_toArray,<- hl];exact h1) (by simpa using ew) ⟨rfl,fin⟩) hs
theorem J8:xv X LY:=by
 intro value slice pins s σ H x y v u Q I rx ry h hs
 obtain⟨z,i,c,rfl,rfl,hz,he,q⟩:=h
 obtain⟨t,rfl⟩:=rx
 obtain⟨t',rfl⟩:=ry
 obtain⟨j,h1,h2,h3,h4,h5⟩:=qA he
 have hl:z.cps.toList.length=z.length:=by simp[Str.length]
 rw[hl] at h1 h4 h5
 have hn:=kZ
 exact tail_any (typeIs_str s z t) slot_str_getitem.lookup (getItem_str (c:=c) (by
  have e1:decide (i < -(2 ^ 63:Int))=false:=decide_eq_false (by omega)
  have e2:decide (i ≥ 2 ^ 63)=false:=decide_eq_false (by omega)
  rw[e1,e2,Bool.or_false]) (by rw[h1];simpa using h2) ⟨.str ⟨#[c]⟩,H,I.tok _,⟨_,rfl⟩,q⟩) hs
noncomputable def PX(K:PySem.W.Frag):R2:=fun x y H Q=>M6 K x y H Q\/Mc K x y H Q\/LY x y H Q
theorem Ks:xv X (PX X.K):=D8.or (Kj.or J8)
theorem vo(ay:List Value)(n j:Nat)(u:Value):Obj.mapSeq (·.setIfInBounds j u) { cls:= .type "list",data:= .seq ay.toArray n }={ cls:= .type "list",data:= .seq (ay.set j u).toArray n }:=by
 simp[Obj.mapSeq]
theorem Inv.lst{pins:List (Addr × Obj)}{σ :St}{H:Hp}{s:Shared}{p:Addr}{xs:List V}(I:Inv X pins σ H s)(h:H p=some (.lst xs)) :
  ∃(ay:List Value)(n:Nat),Vals xs ay/\s.heap.get? p=some { cls:= .type "list",data:= .seq ay.toArray n }/\xs.length<=sizeLine:=by
 obtain⟨z,ay,n,r,e⟩:=I.bu p _ h
 exact⟨ay,n,r,e,z⟩
theorem Inv.Gf{pins:List (Addr × Obj)}{σ :St}{H:Hp}{s:Shared}{p:Addr}{xs ys:List V}{ay its':List Value}{n n':Nat}{f:Obj->Obj}(I:Inv X pins σ H s)(h:H p=some (.lst xs))
  (ho:s.heap.get? p=some { cls:= .type "list",data:= .seq ay.toArray n }) (hf:f { cls:= .type "list",data:= .seq ay.toArray n }={ cls:= .type "list",data:= .seq its'.toArray n' }) (r:Vals ys its') (hz:ys.length<=sizeLine) (t:Nat) :
  Inv X pins σ (upd H p (.lst ys)) { s with heap:=s.heap.update p f,toks:=t }:=by
 have e:(s.heap.update p f).get? p=some { cls:= .type "list",data:= .seq its'.toArray n' }:=by
  rw[Heap.get?_update_self f ho (by rw[hf]<;>rfl),hf]
 refine I.write (x:=p) (e:=p) (by rw[h];trivial) (.inl rfl) (fun b u hb q=>(Heap.get?_update_other _ _ (Ne.symm hb)).trans q) ⟨_,e⟩ ?_
 exact⟨hz,its',n',r,e⟩
noncomputable def M8:V->V->V->Hp->(Hp->Prop)->Prop:=fun o i v H Q=> ∃ p xs k j,o= .ref p/\i= .int k/\H p=some (.lst xs)/\rQ xs.length k=some j/\Q (upd H p (.lst (xs.set j v)))
theorem set_list:pJ X M8:=by
 intro pins s σ H o i v ov iv u Q I ro ri rv h
 obtain⟨p,xs,k,j,rfl,rfl,hp,hj,q⟩:=h
 cases ro
 obtain⟨t,rfl⟩:=ri
 obtain⟨ay,n,r,ho,hz⟩:=I.lst hp
 obtain⟨h1,h2,h3,h4⟩:=we hj
 have hl:=r.length
 have hn:=kZ
 have I':Inv X pins σ (upd H p (.lst (xs.set j v))) { s with heap:=s.heap.update p (Obj.mapSeq (·.setIfInBounds j u)) } :=
  I.Gf hp ho (vo ay n j u) (r.set rv j) (by rw[List.length_set];exact hz) s.toks
 by_cases h0:0<=k
 · have hk:k.toNat=j:=by
    rw[seqIndex_of h0 h4] at h1
    exact Option.some.inj h1
   exact PySem.W.ki_setAt ho h0 (by omega) (by rw[List.size_toArray,<- hl];exact h4) (by rw[hk];exact⟨_,I',q⟩)
 · have hk:(k+(ay.toArray.size:Int)).toNat=j:=by
    rw[seqIndex_neg (by omega) h3] at h1
    rw[List.size_toArray,<- hl]
    exact Option.some.inj h1
   exact PySem.W.ki_setBack ho (by omega) (by rw[List.size_toArray,<- hl];exact h3) (by omega) (by rw[hk];exact⟨_,I',q⟩)
theorem rP(lo hi:Option Int)(n:Nat):(sliceBounds lo hi none n).1=((HT.dc n 0 lo:Nat):Int)/\(sliceBounds lo hi none n).2.1=((HT.dc n n hi:Nat):Int)/\(sliceBounds lo hi none n).2.2=1:=by
 refine⟨?_,?_,rfl⟩
 · cases lo with
   | none=>simp[sliceBounds,HT.dc]
   | some i =>
    simp only[sliceBounds,HT.dc,Option.getD_none,show(1:Int) > 0 by decide,if_true]
    by_cases h:i < 0
    · simp only[h,if_true]<;>omega
    · simp only[h,if_false]<;>omega
 · cases hi with
   | none=>simp[sliceBounds,HT.dc]
   | some i =>
    simp only[sliceBounds,HT.dc,Option.getD_none,show(1:Int) > 0 by decide,if_true]
    by_cases h:i < 0
    · simp only[h,if_true]<;>omega
    · simp only[h,if_false]<;>omega
theorem pI(ay:List Value)(lo hi:Option Int):slicePick ay.toArray lo hi none=((ay.drop (HT.dc ay.length 0 lo)).take (HT.dc ay.length ay.length hi - HT.dc ay.length 0 lo)).toArray:=by
 obtain⟨h1,h2,h3⟩:=rP lo hi ay.toArray.size
 unfold slicePick
 rw[h1,h2,h3]
 simp only[sliceRange_one,pick_run,List.size_toArray]<;>rfl
noncomputable def MH(K:PySem.W.Frag):V->Option Int->Option Int->Hp->VK->Prop:=fun x lo hi H Q=> ∃ a xs,x= .ref a/\gA K H a xs/\ ∀ p,H p=none->Q (.ref p) (upd H p (.lst (mB xs lo hi)))
theorem D3:B3 X (MH X.K):=by
 intro pins s σ H x v vl vu lo hi sl Q I rx hs pl pu h
 obtain⟨a,xs,rfl,hx,q⟩:=h
 cases rx
 obtain⟨ay,r,ht,hz⟩:=I.list hx
 have hlen:=r.length
 refine⟨"list",_,slot_list_getitem.lookup,ht.isList.typeIs,?_⟩
 refine wpAny_getItem_list_slice ht.isList hs pl pu .none (by simp) ?_ (by rw[List.size_toArray]<;>omega)
 rw[pI,<- hlen]
 refine⟨.ref s.heap.objs.size,_,I.laid (t':=s.toks) (o:= .lst (mB xs lo hi)) (fun b ob q=>Heap.get?_push_of_some _ q) (Nat.le_refl _) ?_,rfl,q _ (I.bu.fresh (Nat.le_refl _))⟩
 exact⟨Nat.le_trans (lP xs lo hi) hz,_,0,(r.drop (HT.dc xs.length 0 lo)).take (HT.dc xs.length xs.length hi - HT.dc xs.length 0 lo),Heap.get?_push_size _ rfl⟩
noncomputable def g9:V->Bool
 | .non=>true
 | .bl _=>true
 | .int _=>true
 | .str _=>true
 | _=>false
noncomputable def Dc:V->V->Bool
 | .non,.non=>true
 | .bl a,.bl b=>a == b
 | .bl a,.int b=>(if a then 1 else 0) == b
 | .int a,.bl b=>a == (if b then 1 else 0)
 | .int a,.int b=>a == b
 | .str a,.str b=>a == b
 | _,_=>false
theorem Gi{A:Around}{s:Shared}{y x:V}{u v:Value}(ry:RelV y u)(rx:RelV x v)(fy:g9 y=true)(fx:g9 x=true):SeqAt.EqAt A s u v (Dc y x):=by
 cases y with
 | non =>
  cases ry
  cases x with
  | non=>cases rx;exact SeqAt.EqAt.same _
  | bl b=>cases rx;exact SeqAt.EqAt.none_bool b
  | int b=>obtain⟨t,rfl⟩:=rx;exact SeqAt.EqAt.none_int b t
  | str b=>obtain⟨t,rfl⟩:=rx;exact SeqAt.EqAt.none_str b t
  | _=>exact absurd (show false=true from fx) Bool.false_ne_true
 | bl a =>
  cases ry
  cases x with
  | non=>cases rx;exact SeqAt.EqAt.bool_none a
  | bl b=>cases rx;exact SeqAt.EqAt.bool_bool a b
  | int b=>obtain⟨t,rfl⟩:=rx;exact SeqAt.EqAt.bool_int a b t
  | str b=>obtain⟨t,rfl⟩:=rx;exact SeqAt.EqAt.bool_str a b t
  | _=>exact absurd (show false=true from fx) Bool.false_ne_true
 | int a =>
  obtain⟨t',rfl⟩:=ry
  cases x with
  | non=>cases rx;exact SeqAt.EqAt.int_none a t'
  | bl b=>cases rx;exact SeqAt.EqAt.int_bool a t' b
  | int b=>obtain⟨t,rfl⟩:=rx;exact SeqAt.EqAt.int_int a t' b t
  | str b=>obtain⟨t,rfl⟩:=rx;exact SeqAt.EqAt.int_str a t' b t
  | _=>exact absurd (show false=true from fx) Bool.false_ne_true
 | str a =>
  obtain⟨t',rfl⟩:=ry
  cases x with
  | non=>cases rx;exact SeqAt.EqAt.str_none a t'
  | bl b=>cases rx;exact SeqAt.EqAt.str_bool a t' b
  | int b=>obtain⟨t,rfl⟩:=rx;exact SeqAt.EqAt.str_int a t' b t
  | str b=>obtain⟨t,rfl⟩:=rx;exact SeqAt.EqAt.str_str a t' b t
  | _=>exact absurd (show false=true from fx) Bool.false_ne_true
 | _=>exact absurd (show false=true from fy) Bool.false_ne_true
noncomputable def vN(x:V)(u:Value):Bool:=match u with
 | .none=>Dc .non x
 | .bool b=>Dc (.bl b) x
 | .int i _=>Dc (.int i) x
 | .str z _=>Dc (.str z) x
 | _=>false
theorem Aw{x y:V}{u:Value}(r:RelV y u)(f:g9 y=true):vN x u=Dc y x:=by
 cases y with
 | non=>cases r;rfl
 | bl b=>cases r;rfl
 | int i=>obtain⟨t,rfl⟩:=r;rfl
 | str z=>obtain⟨t,rfl⟩:=r;rfl
 | _=>exact absurd (show false=true from f) Bool.false_ne_true
theorem jX{x:V}: ∀{xs:List V}{us:List Value},Vals xs us->xs.all g9=true->us.any (vN x)=xs.any fun y=>Dc y x
 | _,_,.nil,_=>rfl
 | y::xs,u::us,.cons r t,f=>by
  rw[List.all_cons,Bool.and_eq_true] at f
  rw[List.any_cons,List.any_cons,Aw r f.1,jX t f.2]
theorem ie{A:Around}{s:Shared}{x:V}{v:Value}(rx:RelV x v)(fx:g9 x=true): ∀{xs:List V}{us:List Value},Vals xs us->xs.all g9=true-> ∀ u∈us,SeqAt.EqAt A s u v (vN x u)
 | _,_,.nil,_=>fun u hu=>by cases hu
 | y::xs,u::us,.cons r t,f=>fun u' hu=>by
  rw[List.all_cons,Bool.and_eq_true] at f
  rcases List.mem_cons.mp hu with rfl | hu
  · rw[Aw r f.1];exact Gi r rx f.1 fx
  · exact ie rx fx t f.2 u' hu
noncomputable def LW(x:V)(xs:List V):Bool:=xs.any fun y=>Dc y x
noncomputable def O7(K:PySem.W.Frag)(neg:Bool):R2:=fun x y H Q=> ∃ p xs,y= .ref p/\(gA K H p xs\/eY K H p xs)/\g9 x=true/\xs.all g9=true/\Q (.bl (if neg then !LW x xs else LW x xs)) H
theorem xr:cX X (compareOp .In) (O7 X.K false):=by
 intro pins s σ H x y v u Q I rx ry h
 obtain⟨p,xs,rfl,hq,fx,fs,q⟩:=h
 cases ry
 rcases hq with hq | hq
 · obtain⟨ay,r,pl,hz⟩:=I.list hq
   refine SeqAt.in_listAt (vN x) pl.isList (fun w hw=>ie rx fx r fs w (by simpa using hw)) ⟨.bl _,H,I,rfl,?_⟩
   rw[show ay.toArray.any (vN x)=ay.any (vN x) by simp,jX r fs]
   exact q
 · obtain⟨ay,r,pl,hz⟩:=I.tuple hq
   refine SeqAt.in_tupleAt (vN x) pl (fun w hw=>ie rx fx r fs w (by simpa using hw)) ⟨.bl _,H,I,rfl,?_⟩
   rw[show ay.toArray.any (vN x)=ay.any (vN x) by simp,jX r fs]
   exact q
theorem qQ:cX X (compareOp .NotIn) (O7 X.K true):=by
 intro pins s σ H x y v u Q I rx ry h
 obtain⟨p,xs,rfl,hq,fx,fs,q⟩:=h
 cases ry
 rcases hq with hq | hq
 · obtain⟨ay,r,pl,hz⟩:=I.list hq
   refine SeqAt.notIn_listAt (vN x) pl.isList (fun w hw=>ie rx fx r fs w (by simpa using hw)) ⟨.bl _,H,I,rfl,?_⟩
   rw[show ay.toArray.any (vN x)=ay.any (vN x) by simp,jX r fs]
   exact q
 · obtain⟨ay,r,pl,hz⟩:=I.tuple hq
   refine SeqAt.notIn_tupleAt (vN x) pl (fun w hw=>ie rx fx r fs w (by simpa using hw)) ⟨.bl _,H,I,rfl,?_⟩
   rw[show ay.toArray.any (vN x)=ay.any (vN x) by simp,jX r fs]
   exact q
theorem rR:cX X (compareOp .NotIn) (fun x y H Q=> ∃ i j,x= .str i/\y= .str j/\Q (.bl (!(!(Builtin.Str.occurrences j i 0 j.length 1).isEmpty))) H):=by
 intro pins s σ H x y v u Q I rx ry h
 obtain⟨i,j,rfl,rfl,q⟩:=h
 obtain⟨t,rfl⟩:=rx
 obtain⟨t',rfl⟩:=ry
 exact notIn_str ⟨.bl _,H,I,rfl,q⟩
theorem sf:bq X (.builtin "len") (fun xs H Q=> ∃ p ys,xs=[.ref p]/\(gA X.K H p ys\/eY X.K H p ys)/\Q (.int ys.length) H):=by
 intro pins s σ H xs us Q I r h
 obtain⟨p,ys,rfl,hq,q⟩:=h
 obtain⟨u,rfl,rx⟩:=vals1 r
 cases rx
 have hn:=kZ
 rcases hq with hq | hq
 · obtain⟨ay,r',pl,hz⟩:=I.list hq
   have hlen:=r'.length
   exact Calls.call_len_list pl.isList (by simp only[List.size_toArray]<;>omega) ⟨.int ys.length,H,I.tok _,⟨s.toks+1,by rw[List.size_toArray,hlen]⟩,q⟩
 · obtain⟨ay,r',pl,hz⟩:=I.tuple hq
   have hlen:=r'.length
   exact len_tuple pl (by simp only[List.size_toArray]<;>omega) ⟨.int ys.length,H,I.tok _,⟨s.toks+1,by rw[List.size_toArray,hlen]⟩,q⟩
theorem rV:bq X (.builtin "len") (fun xs H Q=> ∃ z,xs=[.str z]/\z.length<=sizeLine/\Q (.int z.length) H):=by
 intro pins s σ H xs us Q I r h
 obtain⟨z,rfl,hz,q⟩:=h
 obtain⟨u,rfl,t,rfl⟩:=vals1 r
 have hn:=kZ
 exact len_str (by omega) ⟨.int z.length,H,I.tok _,⟨_,rfl⟩,q⟩
theorem bq.or{f:Value}{r r':List V->Hp->VK->Prop}(h:bq X f r)(h':bq X f r'):bq X f (fun xs H Q=>r xs H Q\/r' xs H Q):=by
 intro pins s σ H xs us Q I rs q
 rcases q with q | q
 · exact h pins s σ H xs us Q I rs q
 · exact h' pins s σ H xs us Q I rs q
theorem qH:bq X (.type "list") (fun xs H Q=> ∃ p ys,xs=[.ref p]/\(gA X.K H p ys\/eY X.K H p ys)/\ ∀ l,H l=none->Q (.ref l) (upd H l (.lst ys))):=by
 intro pins s σ H xs us Q I r h
 obtain⟨p,ys,rfl,hq,q⟩:=h
 obtain⟨u,rfl,rx⟩:=vals1 r
 cases rx
 have fin: ∀(ay:List Value),Vals ys ay->ys.length<=sizeLine-> ∀(h':Heap)(c':Nat),(∀ b o',s.heap.get? b=some o'->h'.get? b=some o') ->
   h'.get? s.heap.objs.size=some { cls:= .type "list",dict:=none,data:= .seq ay.toArray c',slots:= #[] }->EP X pins σ Q (.ref s.heap.objs.size) { s with heap:=h' }:=fun ay r' hz h' c' kp e =>
  ⟨.ref s.heap.objs.size,_,I.laid (t':=s.toks) kp (Nat.le_refl _) (show bb X.prog X.w _ h' _ (.lst ys) from⟨hz,ay,c',r',e⟩),rfl,q _ (I.bu.fresh (Nat.le_refl _))⟩
 rcases hq with hq | hq
 · obtain⟨ay,r',pl,hz⟩:=I.list hq
   have hlen:=r'.length
   obtain⟨o,ho,hc,n,hd⟩:=pl.isList
   exact call_list_seq p (.inl rfl) ho hc hd (fun h' c' kp e=>fin ay r' hz h' c' kp e) (by simp only[List.size_toArray]<;>omega)
 · obtain⟨ay,r',pl,hz⟩:=I.tuple hq
   have hlen:=r'.length
   obtain⟨o,ho,hc,n,hd⟩:=pl
   exact call_list_seq p (.inr rfl) ho hc hd (fun h' c' kp e=>fin ay r' hz h' c' kp e) (by simp only[List.size_toArray]<;>omega)
theorem ph:bq X (.type "tuple") (fun xs H Q=> ∃ p ys,xs=[.ref p]/\((gA X.K H p ys/\ ∀ l,H l=none->Q (.ref l) (upd H l (.tup ys)))\/(eY X.K H p ys/\Q (.ref p) H))):=by
 intro pins s σ H xs us Q I r h
 obtain⟨p,ys,rfl,h⟩:=h
 obtain⟨u,rfl,rx⟩:=vals1 r
 cases rx
 rcases h with⟨hq,q⟩ | ⟨hq,q⟩
 · obtain⟨ay,r',pl,hz⟩:=I.list hq
   have hlen:=r'.length
   refine call_tuple_list pl.isList (fun h' kp=>?_) (by simp only[List.size_toArray]<;>omega)
   have I1:Inv X pins σ H { s with heap:=h' }:=I.kept (t':=s.toks) kp
   have I2:Inv X pins σ (upd H h'.objs.size (.tup ys)) { s with heap:=h'.push { cls:= .type "tuple",data:= .seq ay.toArray } } :=
    I1.laid (t':=s.toks) (fun b o e=>Heap.get?_push_of_some _ e) (Nat.le_refl _) (show bb X.prog X.w _ _ _ (.tup ys) from⟨hz,ay,r',pE.new _ _⟩)
   exact⟨.ref h'.objs.size,_,I2,rfl,q _ (I1.bu.fresh (Nat.le_refl _))⟩
 · obtain⟨ay,r',pl,hz⟩:=I.tuple hq
   exact call_tuple_same pl ⟨.ref p,H,I,rfl,q⟩
noncomputable def Nu(K:PySem.W.Frag)(T:String)(x:V)(H:Hp):Prop:=match x with
 | .str _=>T= "str"
 | .int _=>T= "int"
 | .ref p=>(T= "list" /\ ∃ xs,gA K H p xs)\/(T= "tuple" /\ ∃ o,K.lookup p=some o/\o.cls= .type "tuple" /\o.dict=none) \/
   (T= "dict" /\((∃ kvs,H p=some (.dK kvs))\/ ∃ kvs,H p=some (.dT kvs)))\/(T= "set" /\ ∃ S n,H p=some (.set S n))
 | _=>False
theorem Kc{pins:List (Addr × Obj)}{σ :St}{H:Hp}{s:Shared}{T:String}{x:V}{v:Value}(I:Inv X pins σ H s)(r:RelV x v)(ty:Nu X.K T x H) :
  s.TypeIs v T/\ ∀ a,v= .ref a-> ∃ ob,s.heap.get? a=some ob/\ob.dict=none:=by
 cases x with
 | str z =>
  obtain⟨t,rfl⟩:=r
  cases(show T= "str" from ty)
  exact⟨typeIs_str s z t,fun _ e=>nomatch e⟩
 | int i =>
  obtain⟨t,rfl⟩:=r
  cases(show T= "int" from ty)
  exact⟨typeIs_int s i t,fun _ e=>nomatch e⟩
 | ref p =>
  cases r
  rcases ty with⟨rfl,xs,hq⟩ | ⟨rfl,o,hk,hc,hd⟩ | ⟨rfl,hk⟩ | ⟨rfl,S,n,hk⟩
  · obtain⟨ay,_,pl,_⟩:=I.list hq
    refine⟨pl.isList.typeIs,fun a e=>?_⟩
    cases e
    obtain⟨o,n,e,c,hd,_⟩:=pl
    exact⟨o,e,hd⟩
  · refine⟨⟨o,I.kH p o hk,hc⟩,fun a e=>?_⟩
    cases e
    exact⟨o,I.kH _ o hk,hd⟩
  · have z: ∃ o,s.heap.get? p=some o/\o.ExactDict:=by
     rcases hk with⟨kvs,hk⟩ | ⟨kvs,hk⟩
     · obtain⟨_,_,_,_,o,_,_,e,ex,_⟩:=I.bu p _ hk
       exact⟨o,e,ex⟩
     · obtain⟨_,_,_,_,o,_,_,e,ex,_⟩:=I.bu p _ hk
       exact⟨o,e,ex⟩
    obtain⟨o,e,ex⟩:=z
    refine⟨⟨o,e,ex.1⟩,fun a e2=>?_⟩
    cases e2
    exact⟨o,e,ex.2.1⟩
  · obtain⟨o,_,_,_,e,ex,_⟩:=I.bu p _ hk
    refine⟨⟨o,e,ex.1⟩,fun a e2=>?_⟩
    cases e2
    exact⟨o,e,ex.2.1⟩
 | _=>exact False.elim ty
noncomputable def Pl(K:PySem.W.Frag)(T:String)(r:V->List V->Hp->VK->Prop)(to:TE)(t:TA):TE:=fun σ H Q=>to σ H fun x H1=>Nu K T x H1/\t σ H1 fun xs H2=>r x xs H2 Q
variable{o e:Expr}{es:List Expr}{to:TE}{t:TA}{name:Str}{apos cpos:Pos}{T id:String}{r:V->List V->Hp->VK->Prop}
theorem Ln(pa:PlainAttrs T)(slot:Slot T name id)(hty:typeOf (.builtin id)=pure (.type "method_descriptor"))(hm:FJ X id r)(ho:PE X o to)(ha:PA X (e::es) t)
  (hbase:attributeBase o name X.env (eval o X.env)=eval o X.env:=by rfl)
  (hfew:((backTo cpos (starEach (e::es) X.env)).all (fun x=> !x.1)&&(backToKw cpos (keywordEach [] X.env)).all (fun x=>x.1.isSome)
   && decide ((e::es).length+([]:List Keyword).length+(if ([]:List Keyword).isEmpty then 0 else 1) < 30))=true:=by rfl)
  (hline:(apos.endLine == cpos.line)=true:=by rfl) (hs:starEach (e::es) X.env=(false,eval e X.env)::starEach es X.env:=by rfl) (hplain:(backTo cpos (starEach es X.env)).any (·.1)=false:=by rfl) :
  PE X (.Call (.Attribute o name apos) (e::es) [] cpos) (Pl X.K T r to t):=by
 intro pins s σ H Q I h
 refine wpAny_Call_method_late hbase hfew hline rfl (cD (ho pins s σ H _ I h) fun v s1 ⟨x,H1,I1,r1,ty,q1⟩=>?_)
 obtain⟨h1,h2⟩:=Kc I1 r1 ty
 refine⟨T,id,pa,slot,hty,h1,h2,?_⟩
 have hA:=ha cpos pins s1 σ H1 _ I1 q1
 rw[hs] at hA ⊢
 refine Calls.callWith_builtin (by show(false||(backTo cpos (starEach es X.env)).any (·.1))=false;rw[hplain]<;>rfl) (Calls.evalArgs_plain ?_)
 exact cD hA fun us s2 ⟨vs,H2,I2,r2,q2⟩=>hm pins s2 σ H2 x vs v us Q I2 r1 r2 q2
/- xs.append(e),list.index on a module's tuple .. are FJ facts of 06m -/
end
open PySem PySem.Spec PyProof.Rows
noncomputable def Pa(X:Cx)(id:String)(r:V->List V->Hp->VK->Prop):Prop :=
 ∀(pins:List (Addr × Obj))(s:Shared)(σ :St)(H:Hp)(x:V)(xs:List V)(v:Value)(us:List Value)(Q:VK),Inv X pins σ H s->RelV x v->Vals xs us->r x xs H Q ->
  wpAny (model X.prog X.w) X.A (call (.builtin id) (v::us)) (EP X pins σ Q) X.xe s
theorem Vals.one: ∀{x:V}{us:List Value},Vals [x] us-> ∃ u,us=[u]/\RelV x u
 | _,_,.cons r .nil=>⟨_,rfl,r⟩
theorem Vals.two: ∀{x y:V}{us:List Value},Vals [x,y] us-> ∃ u v,us=[u,v]/\RelV x u/\RelV y v
 | _,_,_,.cons r (.cons q .nil)=>⟨_,_,rfl,r,q⟩
theorem Vals.zero: ∀{us:List Value},Vals [] us->us=[]
 | _,.nil=>rfl
theorem Vals.eraseIdx: ∀{xs:List V}{us:List Value}(i:Nat),Vals xs us->Vals (xs.eraseIdx i) (us.eraseIdx i)
 | _,_,_,.nil=> .nil
 | _,_,0,.cons _ t=>t
 | _,_,i+1,.cons r t=> .cons r (Vals.eraseIdx i t)
theorem Vals.rep{xs:List V}{us:List Value}(h:Vals xs us): ∀ k:Nat,Vals (List.replicate k xs).flatten (List.replicate k us).flatten
 | 0=> .nil
 | k+1=>by
  rw[List.replicate_succ,List.replicate_succ,List.flatten_cons,List.flatten_cons]
  exact Vals.append h (Vals.rep h k)
theorem pW{α :Type}: ∀(l:List α)(i:Nat),(l.eraseIdx i).length<=l.length
 | [],_=>Nat.le_refl _
 | _::_,0=>Nat.le_succ _
 | _::r,i+1=>Nat.succ_le_succ (pW r i)
theorem foldl_rep(ay:List Value): ∀(k:Nat)(acc:List Value),
  List.foldl (fun x1 x2=>x1++x2) acc.toArray (List.replicate k ay.toArray)=(acc++(List.replicate k ay).flatten).toArray
 | 0,acc=>by simp
 | k+1,acc=>by
  have e:acc.toArray++ay.toArray=(acc++ay).toArray:=by simp
  have e2:(acc++ay)++(List.replicate k ay).flatten=acc++(List.replicate (k+1) ay).flatten:=by
   rw[List.replicate_succ,List.flatten_cons,List.append_assoc]
  rw[<- e2,<- foldl_rep ay k (acc++ay),<- e,List.replicate_succ,List.foldl_cons]
section
variable{X:Cx}{pins:List (Addr × Obj)}{σ :St}{H:Hp}{s:Shared}{l b:Addr}{xs ys zs:List V}
theorem Inv.Lo{ay its':List Value}{n:Nat}{f:Array Value->Array Value}{t':Nat}(I:Inv X pins σ H s)(hH:H l=some (.lst xs))
  (e:s.heap.get? l=some { cls:= .type "list",data:= .seq ay.toArray n }) (hf:f ay.toArray=its'.toArray) (hv:Vals ys its') (hz:ys.length<=sizeLine) :
  Inv X pins σ (upd H l (.lst ys)) { s with heap:=s.heap.update l (Obj.mapSeq f),toks:=t' }:=by
 have q:=PySem.IsL.update e f
 rw[hf] at q
 refine I.write (x:=l) (e:=l) (by rw[hH];exact trivial) (.inl rfl) (fun b' u hb hu=>(Heap.get?_update_other s.heap (Obj.mapSeq f) (Ne.symm hb)).trans hu) ⟨_,q⟩ ?_
 exact⟨hz,its',_,hv,q⟩
theorem Inv.Ld{ay:List Value}{t':Nat}(I:Inv X pins σ H s)(hv:Vals ys ay)(hz:ys.length<=sizeLine) :
  Inv X pins σ (upd H s.heap.objs.size (.lst ys)) { s with heap:=s.heap.push { cls:= .type "list",data:= .seq ay.toArray },toks:=t' } :=
 I.laid (fun _ _ q=>Heap.get?_push_of_some _ q) (Nat.le_refl _) ⟨hz,ay,0,hv,Heap.get?_push_size _ rfl⟩
theorem Inv.fresh(I:Inv X pins σ H s):H s.heap.objs.size=none:=I.bu.fresh (Nat.le_refl _)
theorem Inv.Ag(I:Inv X pins σ H s)(hH:H l=some (.lst xs)):xs.length<=sizeLine/\ ∃(ay:List Value)(n:Nat),Vals xs ay/\xs.length=ay.length/\s.heap.get? l=some { cls:= .type "list",data:= .seq ay.toArray n }:=by
 obtain⟨z,ay,n,r,e⟩:=I.bu l _ hH
 exact⟨z,ay,n,r,r.length,e⟩
theorem zI{n:Nat}(h:n<=sizeLine):Builtin.List.listTooLong n=false:=by
 unfold Builtin.List.listTooLong
 exact decide_eq_false (by omega)
end
section
variable{X:Cx}
noncomputable def C2:V->List V->Hp->VK->Prop:=fun x vs H Q=> ∃ l xs y,x= .ref l/\vs=[y]/\H l=some (.lst xs)/\xs.length < sizeLine/\Q .non (upd H l (.lst (xs++[y])))
theorem xZ:Pa X "list.append" C2:=by
 intro pins s σ H x vs v us Q I rx rv h
 obtain⟨l,xs,y,rfl,rfl,hH,hz,q⟩:=h
 cases rx
 obtain⟨u,rfl,ru⟩:=rv.one
 obtain⟨z,ay,n,r,hl,e⟩:=I.Ag hH
 refine call_meets F.slot_list_append ⟨_,e,rfl⟩ F.entry_list_append (F.args_list_append_2 _ _) (PySem.list_append l ay.toArray n u (by rw[List.size_toArray];omega)) ⟨e,?_⟩
 refine⟨.non,_,I.Lo (its':=ay++[u]) hH e (by simp) (r.append (.cons ru .nil)) ?_,rfl,q⟩
 rw[List.length_append,List.length_singleton]
 omega
noncomputable def LF:R2:=fun x y H Q=> ∃ l b xs zs,x= .ref l/\y= .ref b/\H l=some (.lst xs)/\H b=some (.lst zs)/\xs.length+zs.length<=sizeLine/\ ∀ p,H p=none->Q (.ref p) (upd H p (.lst (xs++zs)))
theorem JV:cX X (binaryOp .Add) LF:=by
 intro pins s σ H x y v u Q I rx ry h
 obtain⟨l,b,xs,zs,rfl,rfl,hH,hB,hz,q⟩:=h
 cases rx
 cases ry
 obtain⟨z,ay,n,r,hl,e⟩:=I.Ag hH
 obtain⟨z2,its2,n2,r2,hl2,e2⟩:=I.Ag hB
 refine PySem.P.add_list e e2 ?_ (by rw[List.size_toArray,List.size_toArray];omega)
 have ea:ay.toArray++its2.toArray=(ay++its2).toArray:=by simp
 rw[ea]
 exact⟨.ref _,_,I.Ld (t':=s.toks) (r.append r2) (by rw[List.length_append];omega),rfl,q _ I.fresh⟩
noncomputable def Ow:R2:=fun x y H Q=> ∃ l k xs,x= .ref l/\y= .int k/\H l=some (.lst xs)/\ -(2 ^ 63)<=k/\k < 2 ^ 63/\xs.length*k.toNat<=sizeLine /\
 ∀ p,H p=none->Q (.ref p) (upd H p (.lst (List.replicate k.toNat xs).flatten))
theorem len_rep{α :Type}(xs:List α)(k:Nat):(List.replicate k xs).flatten.length=k*xs.length:=by
 induction k with
 | zero=>simp
 | succ k ih=>rw[List.replicate_succ,List.flatten_cons,List.length_append,ih,Nat.succ_mul,Nat.add_comm]
theorem J4:cX X (binaryOp .Mult) Ow:=by
 intro pins s σ H x y v u Q I rx ry h
 obtain⟨l,k,xs,rfl,rfl,hH,h1,h2,hz,q⟩:=h
 cases rx
 obtain⟨t,rfl⟩:=ry
 obtain⟨z,ay,n,r,hl,e⟩:=I.Ag hH
 have hlen:ay.toArray.size*k.toNat<=sizeLine:=by rw[List.size_toArray,<- hl];exact hz
 have hcap: ¬ ay.toArray.size*k.toNat > (2 ^ 63 - 1) / 8:=by
  have:(sizeLine:Nat)<=(2 ^ 63 - 1) / 8:=by decide
  omega
 have hfit: ¬ (!Builtin.List.listFitsIndex k)=true:=by
  rw[fitsIndex_both h1 h2]
  exact Bool.false_ne_true
 have hlong: ¬ Builtin.List.listTooLong (ay.toArray.size*k.toNat)=true:=by
  rw[zI hlen]
  exact Bool.false_ne_true
 have hnew:List.foldl (fun x1 x2=>x1++x2) #[] (List.replicate (if ay.toArray.isEmpty=true then 0 else k.toNat) ay.toArray)=(List.replicate k.toNat ay).flatten.toArray:=by
  have f0: ∀ m:Nat,List.foldl (fun x1 x2=>x1++x2) #[] (List.replicate m ay.toArray)=(List.replicate m ay).flatten.toArray:=fun m=>by
   have:=foldl_rep ay m []
   rw[List.nil_append] at this
   exact this
  rw[f0]
  cases ay with
  | nil=>simp
  | cons a r'=>rw[if_neg (by simp)]
 refine wpAny_binaryOp_repeat_ref (T:= "list") (U:= "int") (by decide) ⟨_,e,rfl⟩ (fun s'=>typeIs_int s' k t) noFill_list_mul F.fills_int_mul F.slot_int_rmul repeat_list F.slot_int_index.lookup
  (call_meets F.slot_int_rmul (typeIs_int s k t) F.entry_int_rmul (F.args_int_rmul_2 _ _) (int___rmul___int_list k t l ay.toArray n)
   ⟨e,rfl,⟨_,e,rfl⟩,call_meets F.slot_list_mul ⟨_,e,rfl⟩ F.entry_list_mul (F.args_list_mul_2 _ _) (AutoListH.list___mul___list_int_3 l ay.toArray n k t hfit hcap hlong) ⟨e,?_⟩⟩)
 rw[hnew]
 exact⟨.ref _,_,I.Ld (t':=s.toks) (r.rep k.toNat) (by rw[len_rep,Nat.mul_comm];exact hz),rfl,q _ I.fresh⟩
end
section
variable{prog:Program}{w:World}{A:Around}{E:Value->Shared->Prop}{s:Shared}
set_option maxRecDepth 100000 in
end
section
variable{X:Cx}
end
end L2
namespace Att
open PySem PySem.W PySem.Calls PyProof.Rows
theorem mD{P:Params}{h:Heap}: ∀(ns:List Int)(vs:List Value),WellAll P h vs (ns.map WData.int)->IntsAre vs ns:=by
 intro ns
 induction ns with
 | nil =>
  intro vs w
  rw[List.map_nil] at w
  cases w
  exact .nil
 | cons n ns ih =>
  intro vs w
  rw[List.map_cons] at w
  cases w with
  | cons a b =>
   cases a
   exact .cons _ _ (ih _ b)
theorem xR{l : OpenLaw}{n : Nat}(hn : l.most = some n){P : Params}{h : Heap}{args : List WData}{vals : List Value}
    (hpre : l.row.toRowW.claim.pre args = true) (hwl : WellAll P h vals args) :
    ∃ a vs ns, vals = [Value.ref a] /\ args = [WData.list (ns.map WData.int)] /\ h.get? a = some { cls := .type "list", data := .seq vs.toArray } /\ IntsAre vs ns /\ ns.length <= n := by
  have hsh : WShape.hasAll [] args [.list .int] = true := (pre_splitW hpre).1
  have hc : l.pre.holds [] { args := args } = true := (pre_splitW hpre).2
  obtain⟨d, r, rfl, h1, h2⟩ := hasAllW_cons hsh
  obtain rfl := hasAllW_nil h2
  obtain⟨xs, rfl, h3⟩ := hasW_list h1
  obtain⟨ns, rfl⟩ := items_int h3
  have hlen : ns.length <= n := by
    unfold OpenLaw.pre at hc
    have h4 : (WTm.not (.lt (.lit (.int (n : Int))) (.len (.arg 0)))).holds [] { args := [.list (ns.map .int)] } = true := by
      have h4 := (holds_andW hc).1
      rw[hn] at h4
      exact h4
    have h5 := condW_of h4 (w_not (w_lt w_lit (w_len_list (w_arg rfl))))
    rw[List.length_map] at h5
    refine Nat.le_of_not_lt fun q => ?_
    have q' : (n : Int) < ((ns.length : Nat) : Int) := by omega
    first
      | (rw[decide_eq_true q'] at h5; exact absurd h5 (by decide))
      | (simp at h5; omega)
  cases hwl with
  | cons w1 w2 =>
    cases w2
    cases w1 with
    | list ho hall => exact⟨_, _, ns, rfl, rfl, ho, mD ns _ hall, hlen⟩
theorem xG(l:OpenLaw)(args:List WData):l.row.toRowW.claim.post args (.bool true) args=true :=
 postW_of (r:=l.row.toRowW) (X:=(true == true))
  (show WShape.has [] (.bool true) .bool=true by first | rfl | decide | simp[WShape.has,WShape.arms,WShape.armsAll])
  (show(WTm.eq .res (.lit (.bool true))).value [] { args:=args,res:=some (.bool true),after:=args }=some (.bool (true == true)) from w_eq_bool (w_res rfl) w_lit) rfl
theorem sH{l:OpenLaw}{n:Nat}{q:Program}{loose:List Str}{XP:(Str->Option Value)->Heap->Prop}{YP:World->Heap->Prop}{d:DefRec}
  (hn:l.most=some n) (hdf:d.params.defaults=[])
  (call: ∀(w:World)(s₀ s₁ :Shared)(mg mb:Str->Option Value)(fa:Addr)(o:Obj)(pm cd doc:Value)(a:Addr)(vs:List Value)(ns:List Int),
   Ground q loose [] XP w s₀ mg mb s₁.heap->YP w s₁.heap ->
   s₁.heap.get? fa=some o->o.data= .func (docDef d.name d.params d.body d.scope pm cd doc)->s₁.heap.CodeRec cd d.name->mg d.name=some (.ref fa) ->
   s₁.heap.get? a=some { cls:= .type "list",data:= .seq vs.toArray }->IntsAre vs ns->ns.length<=n->s₁.gens= #[] ->
   codeAny (model l.prog w) callerA (.call (.ref fa) ⟨[.ref a],[]⟩) (fun r s'=>r= .ok (.ret (.bool true))/\OldK s₁.heap s'.heap/\s'.os=s₁.os/\AllBare s'.gens) s₁) :
  WalkO q loose XP YP l.row.toRowW d [] (fun f vs=>PySem.call f vs):=by
 intro w s₀ s₁ mg mb G Y fa o pm cd doc dV kV ho hd hcd hD hmg hg args vals as hpre hlay hrd hwl hlo
 obtain rfl:dV= .none:=Dflts.none hD hdf
 obtain rfl:kV= .none:=Dflts.noKw hD
 obtain⟨a,vs,ns,rfl,rfl,hobj,hints,hlen⟩:=xR hn hpre hwl
 refine enter_call (codeAny_mono (call w s₀ s₁ mg mb fa o pm cd doc a vs ns G Y ho (fd_plain hd) hcd hmg hobj hints hlen hg) fun r s' hq=>?_)
 obtain⟨rfl,h2,h3,h4⟩:=hq
 exact⟨.inl ⟨.bool true,.bool true,[],rfl,fun _=>rfl,.bool true,xG l _,fun _=>⟨List.Pairwise.nil,fun _ hm=>(nomatch hm)⟩⟩,h2,h3,h4⟩
section
variable{prog:Program}{w:World}{A:Around}{E:Value->Shared->Prop}{s:Shared}{K:Frag}
noncomputable def ledger(h:Heap)(L d:Addr):List (Addr × Obj):=(List.range h.objs.size).filterMap fun a=>if a=L\/a=d then none else(h.get? a).map fun o=>(a,o)
end
end Att
namespace L2
open PySem PySem.Spec PyProof.Rows
theorem p6: ∀{vs:List Value}{ns:List Int},IntsAre vs ns->Vals (ns.map V.int) vs
 | _,_,.nil=> .nil
 | _,_,.cons n t h=> .cons ⟨t,rfl⟩ (p6 h)
noncomputable def Ad(H:Hp):Prop:= ∀ b,H b=none\/ ∃ o xs,H b=some (.jy o (.lst xs))
theorem AA{P:Program}{w:World}{K:PySem.W.Frag}{mg mb:Str->Option Value}{CX:xV}{k:Nat}{fa a:Addr}{fd:FuncData}{x:Str}{sp:Sp}{s₁ :Shared}{vs:List Value}{ns:List Int}
  (KX:K.In s₁.heap) (hns:s₁.heap.Ns mainGlobals mg) (hb:s₁.heap.Ns builtinsNs mb) (hbb: ∀ x:Str,x≠ "__name__" ->mb x=bootBuiltins x) (hlim:s₁.heap.NoLimit) (hg:s₁.gens= #[])
  (ha:s₁.heap.get? a=some { cls:= .type "list",data:= .seq vs.toArray }) (hi:IntsAre vs ns) (hl:ns.length<=sizeLine) (hr:dz k callerA)
  (F: ∀ base:Heap,K.In base->base.Ns mainGlobals mg->iD P w K mg base CX k fa fd [x] sp) (hbind: ∀(s:Shared)(u:Value),BindsTo s fd ⟨[u],[]⟩ [(x,u)])
  (hsp: ∀ H:Hp,Ad H->gA K H a (ns.map V.int)->sp [.ref a] H (fun v _=>v= .bl true) fun _ _ _=>False)
  (hCX: ∀ H e s',CX [] H s₁ (fun _ _ _=>False) e s'->False) :
  codeAny (model P w) callerA (.call (.ref fa) ⟨[.ref a],[]⟩) (fun r s'=>r= .ok (.ret (.bool true))/\OldK s₁.heap s'.heap/\s'.os=s₁.os/\AllBare s'.gens) s₁ :=by
 have rv:=p6 hi
 have lenV:=hi.length
 have core: ∀ H:Hp,Ad H->gA K H a (ns.map V.int)->jm P w H s₁.heap->(∀ b,H b≠none->b=a)->(H a≠none->K.lookup a=none) ->
   codeAny (model P w) callerA (.call (.ref fa) ⟨[.ref a],[]⟩) (fun r s'=>r= .ok (.ret (.bool true))/\OldK s₁.heap s'.heap/\s'.os=s₁.os/\AllBare s'.gens) s₁ :=by
  intro H hO hS bu hA hK
  have base_of: ∀{b:Addr}{o:Obj},s₁.heap.get? b=some o->H b=none->(rB s₁.heap H).get? b=some o:=fun e n=>AS e n
  have noA: ∀{b:Addr}{o:Obj}{es:Array DictEntry}{ep:Nat},s₁.heap.get? b=some o->o.data= .dict es ep->H b=none:=fun {b o es ep} e d=>by
   cases q:H b with
   | none=>rfl
   | some u =>
    have e':b=a:=hA b (by rw[q];simp)
    subst e'
    rw[ha] at e;cases e
    have d':Data.seq vs.toArray _=Data.dict es ep:=d
    cases d'
  have nsK: ∀{b:Addr}{m:Str->Option Value},s₁.heap.Ns b m->(rB s₁.heap H).Ns b m:=fun {b m} ⟨o,es,ep,e,d,r⟩=>⟨o,es,ep,base_of e (noA e d),d,r⟩
  have hKb:K.In (rB s₁.heap H):=fun b o e=>base_of (KX b o e) (by
   cases q:H b with
   | none=>rfl
   | some u =>
    have e':b=a:=hA b (by rw[q];simp)
    subst e'
    rw[hK (by rw[q];simp)] at e;cases e)
  have hM:Mod K mg (rB s₁.heap H):=⟨hKb,nsK hns,⟨mb,nsK hb,hbb⟩,let ⟨mc,h1,h2⟩:=hlim;⟨mc,nsK h1,h2⟩⟩
  have e0:uO P w K mg (rB s₁.heap H) callerA [] s₁ H:=⟨rfl,hM,fun b o e=>Eh e,Nat.le_of_eq (xg _ _),trivial,fun b hb=>absurd (show b∈([]:List Addr) from hb) (by simp),bu,.of_eq hg⟩
  refine codeAny_mono ((F _ hKb (nsK hns)).run callerA [] s₁ H ⟨[.ref a],[]⟩ [.ref a] [.ref a] _ _ hr e0 (hbind s₁ (.ref a)) (.cons rfl .nil) (hsp H hO hS)) fun r s' h=>?_
  cases r with
  | error e=>exact(hCX H e s' h).elim
  | ok fl =>
   cases fl with
   | next=>exact False.elim h
   | brk=>exact False.elim h
   | cont=>exact False.elim h
   | ret u =>
    obtain⟨v,H',os,bare,un,hok',r',q⟩:=h
    have q':v= .bl true:=q
    subst q'
    obtain rfl:u=Value.bool true:=r'
    refine⟨rfl,OldK.of_keep fun b o e=>?_,os,bare⟩
    cases q:H b with
    | none=>exact un.keep b o e q (by intro z;exact absurd (show b∈([]:List Addr) from z) (by simp)) (by simp)
    | some u =>
     rcases hO b with z | ⟨ob,xs,z⟩
     · rw[q] at z;cases z
     · have z2:=un.jB b ob _ z
       obtain⟨e1,_⟩:=bu b _ z
       obtain⟨e2,_⟩:=hok' b _ z2
       rw[e] at e1;cases e1
       exact e2
 cases hk:K.lookup a with
 | some o =>
  have e:=KX a o hk
  rw[ha] at e
  cases e
  refine core (fun _=>none) (fun _=> .inl rfl) (.inr ⟨_,vs.toArray,_,hk,rfl,rfl,rfl,by rw[List.size_toArray,lenV];exact hl,by simpa using rv⟩) (fun b u z=>by have z':(none:Option HO)=some u:=z;cases z') (fun b z=>absurd rfl z) fun z=>absurd rfl z
 | none =>
  refine core (fun b=>if b=a then some (.jy { cls:= .type "list",data:= .seq vs.toArray } (.lst (ns.map V.int))) else none) (fun b=>?_) (.inl (.inr ⟨{ cls:= .type "list",data:= .seq vs.toArray },if_pos rfl⟩)) (fun b u z=>?_) (fun b z=>?_) fun _=>hk
  · by_cases hb:b=a
    · exact .inr ⟨_,_,if_pos hb⟩
    · exact .inl (if_neg hb)
  · by_cases hb:b=a
    · have z':=(if_pos hb).symm.trans z
      cases z'
      subst hb
      exact⟨ha,by rw[List.length_map];exact hl,vs,_,rv,ha⟩
    · have z':=(if_neg hb).symm.trans z
      cases z'
  · by_cases hb:b=a
    · exact hb
    · exact absurd (if_neg hb) z
open PySem PySem.Spec PyProof.Rows
theorem DH{l:PySem.W.OpenLaw}{n k:Nat}{q:Program}{loose:List Str}{XP:(Str->Option Value)->Heap->Prop}{YP:World->Heap->Prop}{d:DefRec}{K:Params->PySem.W.Frag}{CX:World->xV}{sp:World->Sp}{x:Str}
  (hn:l.most=some n) (hn2:n<=sizeLine) (hdf:d.params.defaults=[]) (hr:dz k callerA)
  (hY: ∀(w:World)(h:Heap),YP w h->(K w.params).In h)
  (F: ∀(w:World)(mg:Str->Option Value)(fa:Addr)(h:Heap),(K w.params).In h->h.Ns mainGlobals mg->mg d.name=some (.ref fa) ->
   ∃ fd:FuncData,(∀(s:Shared)(u:Value),BindsTo s fd ⟨[u],[]⟩ [(x,u)]) /\
    ∀ base:Heap,(K w.params).In base->base.Ns mainGlobals mg->iD l.prog w (K w.params) mg base (CX w) k fa fd [x] (sp w))
  (hsp: ∀(w:World)(H:Hp)(a:Addr)(ns:List Int),ns.length<=n->Ad H->gA (K w.params) H a (ns.map V.int)->sp w [.ref a] H (fun v _=>v= .bl true) fun _ _ _=>False)
  (hCX: ∀(w:World)(H:Hp)(s:Shared)(e:Value)(s':Shared),CX w [] H s (fun _ _ _=>False) e s'->False) :
  PySem.W.WalkO q loose XP YP l.row.toRowW d [] (fun f vs=>PySem.call f vs):=by
 refine Att.sH hn hdf fun w s₀ s₁ mg mb fa o pm cd doc a vs ns G Y ho hd hcd hmg hobj hints hlen hg=>?_
 have KX:=hY w _ Y
 obtain⟨fd,hb,hF⟩:=F w mg fa _ KX G.T.g hmg
 exact AA KX G.T.g G.T.b G.T.builtins G.T.nolimit hg hobj hints (Nat.le_trans hlen hn2) hr hF hb (fun H hO hS=>hsp w H a ns hlen hO hS) fun H e s'=>hCX w H s₁ e s'
end L2
/- THE LAST THEOREM (shape; LID, My.* are yours):
   My.Adr: a structure of the addresses that your layer names (classes, functions); My.Txt K t: a structure (Prop) of the equations over K;
   My.txt_mk : {K} {implicit addresses ..} (e1 : nsIn K mainGlobals "law" = some (some (.ref f))) (e2 : K.lookup f = some ⟨oc, od, .func (fnOf "law" "law" params body scope dV kV doc pm an cdv ct), sl⟩) (e3 : codeIn K cdv "law" = true) .. : ∃ t, My.Txt K t
set_option maxRecDepth 100000 in
(the tactic k_is has no namespace:write k_is) -/
namespace L2
open PySem PySem.Spec PyProof.Rows
noncomputable def cO(s:Stmt):Arguments:=match s with
 | .FunctionDef _ a _ _ _ _ _ _ _ _=>a
 | _=>{ posonlyargs:=[],args:=[],vararg:=none,kwonlyargs:=[],kw_defaults:=[],kwarg:=none,defaults:=[] }
noncomputable def bx(s:Stmt):List Stmt:=match s with
 | .FunctionDef _ _ b _ _ _ _ _ _ _=>b
 | _=>[]
noncomputable def ai(s:Stmt):Scope:=match s with
 | .FunctionDef _ _ _ _ _ _ sc _ _ _=>sc
 | _=>{ kind:= .function,names:=[],isGenerator:=false,isCoroutine:=false }
abbrev si:xV:=fun _ _ _ _ _ _=>False
abbrev E0:XK:=fun _ _ _=>False
theorem LC{X:Cx}:Passes si X E0:=fun _ _ _ _ _ _ _ h=>h.elim
structure yz(K:PySem.W.Frag)(x qual:Str)(st:Stmt)(f:Addr)(fd:FuncData):Prop where
 ex: ∃(oc:Value)(od:Option Addr)(kV doc pm:Value)(an:Option Addr)(cdv ct:Value)(osl:Array (Option Value)),
  fd=PySem.W.fnOf x qual (cO st) (bx st) (ai st) .none kV doc pm an cdv ct/\K.lookup f=some ⟨oc,od,.func fd,osl⟩/\PySem.W.codeIn K cdv qual=true
 kp:PySem.W.keepIn K (.ref f)=true
section
variable{P:Program}{w:World}{K:PySem.W.Frag}{mg:Str->Option Value}{base:Heap}
theorem yz.ok{x qual:Str}{st:Stmt}{f:Addr}{fd:FuncData}{N ps:List Str}{k:Nat}{sp:Sp}(F:yz K x qual st f fd)(S:au N ps (ai st))(len: ∀ vs H Q E,sp vs H Q E->vs.length=ps.length)
  (hbody: ∀(cdv:Value)(A:Around)(outer:List Env)(s:Shared)(H:Hp)(vs:List V)(Q:VK)(E:XK),dz k (A.deeper (envOfC qual (ai st) s.heap.objs.size f cdv))->sp vs H Q E ->
   ∃ t,vU (jG si P w K mg base N qual (ai st) f cdv A outer s H E).pL (bx st) t/\t { nx:=fun _ H'=>Q .non H',rt:=Q } (start N vs) H):iD P w K mg base si (k+1) f fd ps sp:=by
 obtain⟨oc,od,kV,doc,pm,an,cdv,ct,osl,rfl,lk,hcd⟩:=F.ex
 refine Mp lk hcd S len fun A outer s H vs Q E hr hsp=>?_
 obtain⟨t,h,q⟩:=hbody cdv A outer s H vs Q E hr hsp
 exact⟨t,h.pL,q⟩
theorem yz.binds{x qual:Str}{st:Stmt}{f:Addr}{fd:FuncData}{ps:List Str}(F:yz K x qual st f fd)
  (h: ∀(kV doc pm:Value)(an:Option Addr)(cdv ct:Value)(us:List Value),us.length=ps.length->bindArgs (PySem.W.fnOf x qual (cO st) (bx st) (ai st) .none kV doc pm an cdv ct) ⟨us,[]⟩=pure (ps.zip us)):Binds K fd ps []:=by
 obtain⟨oc,od,kV,doc,pm,an,cdv,ct,osl,rfl,lk,hcd⟩:=F.ex
 exact .all (h kV doc pm an cdv ct)
theorem KH{x qual:Str}{st:Stmt}{f:Addr}{oc:Value}{od an:Option Addr}{osl:Array (Option Value)}{kV doc pm cdv ct:Value}(l:K.lookup f=some ⟨oc,od,.func (PySem.W.fnOf x qual (cO st) (bx st) (ai st) .none kV doc pm an cdv ct),osl⟩)
  (c:PySem.W.codeIn K cdv qual=true) (k:PySem.W.keepIn K (.ref f)=true):yz K x qual st f (PySem.W.fnOf x qual (cO st) (bx st) (ai st) .none kV doc pm an cdv ct):=⟨⟨oc,od,kV,doc,pm,an,cdv,ct,osl,rfl,l,c⟩,k⟩
end
theorem MF{A:Around}{k:Nat}(hr:dz k A):A.units+1 < cLine:=Nat.lt_of_le_of_lt (Nat.add_le_add_left (by decide:1<=64) _) hr.units
section
variable{X:Cx}
theorem pv(i:Nat){x:Str}{pos:Pos}(hN:X.N[i]?=some x:=by rfl)(hv:FF X.env.scope x:=by first | exact Or.inl rfl | exact Or.inr (Or.inl rfl) | exact Or.inr (Or.inr rfl))(hd:(x == ("__debug__" :Str))=false:=by decide)
  (hcd:(x == ("__classdict__" :Str))=false:=by decide):PE X (.Name x pos) (F5 i):=yI hN hv hd hcd
end
noncomputable def jb(H H':Hp):Prop:= ∀ b o,H b=some o->H' b=some o
theorem jb.refl(H:Hp):jb H H:=fun _ _ h=>h
theorem jb.trans{H H1 H2:Hp}(a:jb H H1)(b:jb H1 H2):jb H H2:=fun c o h=>b c o (a c o h)
theorem jb.free{H H':Hp}(e:jb H H'){l:Addr}(h:H' l=Option.none):H l=Option.none:=by
 cases q:H l with
 | none=>rfl
 | some o =>
  rw[e l o q] at h
  cases h
theorem jb.seq{K:PySem.W.Frag}{H H':Hp}{a:Addr}{xs:List V}(e:jb H H')(h:gA K H a xs):gA K H' a xs:=by
 rcases h with(h | ⟨o,h⟩) | h
 · exact .inl (.inl (e _ _ h))
 · exact .inl (.inr ⟨o,e _ _ h⟩)
 · exact .inr h
end L2
end
section
open PySem PySem.W PyProof.Rows
namespace L2
open PySem PySem.Spec PyProof.Rows
section
variable{κ :Type}[DecidableEq κ]
noncomputable def gq(kvs:List (κ × V))(k: κ):Option V:=(kvs.find? fun kv=>decide (kv.1=k)).map (·.2)
noncomputable def putK(kvs:List (κ × V))(k: κ)(v:V):List (κ × V) :=
 if (kvs.any fun kv=>decide (kv.1=k))=true then kvs.map (fun kv=>if kv.1=k then(kv.1,v) else kv) else kvs++[(k,v)]
theorem m6{p: κ × V}{r:List (κ × V)}{k: κ}(e:p.1=k):gq (p::r) k=some p.2:=by simp[gq,List.find?_cons,e]
theorem oq{p: κ × V}{r:List (κ × V)}{k: κ}(e: ¬ p.1=k):gq (p::r) k=gq r k:=by simp[gq,List.find?_cons,e]
theorem tP(k: κ): ∀ kvs:List (κ × V),(kvs.any fun kv=>decide (kv.1=k))=(gq kvs k).isSome
 | []=>rfl
 | p::r=>by
  rw[List.any_cons]
  by_cases e:p.1=k
  · simp only[m6 e,decide_eq_true e,Bool.true_or,Option.isSome_some]
  · rw[oq e,decide_eq_false e,Bool.false_or];exact tP k r
theorem iF(kvs:List (κ × V))(k: κ)(v:V):(putK kvs k v).length<=kvs.length+1:=by
 unfold putK
 split
 · rw[List.length_map];omega
 · rw[List.length_append,List.length_cons,List.length_nil];omega
theorem j7.gm{o:Option V}{u:Option Value}(r:j7 o u):o.isSome=u.isSome:=by
 cases o with
 | none=>cases u with
  | none=>rfl
  | some _=>exact(show False from r).elim
 | some _=>cases u with
  | none=>exact(show False from r).elim
  | some _=>rfl
theorem j7.getD{o:Option V}{u:Option Value}{d:V}{d':Value}(r:j7 o u)(rd:RelV d d'):RelV (o.getD d) (u.getD d'):=by
 cases o with
 | none=>cases u with
  | none=>exact rd
  | some _=>exact(show False from r).elim
 | some _=>cases u with
  | none=>exact(show False from r).elim
  | some _=>exact r
theorem KV.val{kvs:List (κ × V)}{vs:List (κ × Value)}(r:KV kvs vs)(k: κ):j7 (gq kvs k) (valueAt vs k):=by
 unfold KV at r
 induction r with
 | nil=>exact True.intro
 | @cons p q ps qs h t ih =>
  obtain⟨h1,h2⟩:=h
  by_cases e:p.1=k
  · have e':q.1=k:=h1.symm.trans e
    have b:valueAt (q::qs) k=some q.2:=by simp[valueAt,List.find?_cons,e']
    rw[m6 e,b];exact h2
  · have e': ¬ q.1=k:=fun z=>e (h1.trans z)
    have b:valueAt (q::qs) k=valueAt qs k:=by simp[valueAt,List.find?_cons,e']
    rw[oq e,b];exact ih
theorem KV.any{kvs:List (κ × V)}{vs:List (κ × Value)}(r:KV kvs vs)(k: κ):(kvs.any fun kv=>decide (kv.1=k))=vs.any fun kv=>decide (kv.1=k):=by
 unfold KV at r
 induction r with
 | nil=>rfl
 | cons h t ih=>rw[List.any_cons,List.any_cons,ih,h.1]
theorem KV.JX{kvs:List (κ × V)}{vs:List (κ × Value)}(r:KV kvs vs)(k: κ){y:V}{u:Value}(ry:RelV y u) :
  KV (kvs.map fun kv=>if kv.1=k then(kv.1,y) else kv) (vs.map fun kv=>if kv.1=k then(kv.1,u) else kv):=by
 unfold KV at r ⊢
 induction r with
 | nil=>exact .nil
 | @cons p q ps qs h t ih =>
  rw[List.map_cons,List.map_cons]
  refine .cons ?_ ih
  obtain⟨h1,h2⟩:=h
  by_cases e:p.1=k
  · rw[if_pos e,if_pos (h1.symm.trans e)];exact⟨h1,ry⟩
  · rw[if_neg e,if_neg (fun z=>e (h1.trans z))];exact⟨h1,h2⟩
theorem KV.put{kvs:List (κ × V)}{vs:List (κ × Value)}(r:KV kvs vs)(k: κ){y:V}{u:Value}(ry:RelV y u):KV (putK kvs k y) (stored vs k u):=by
 unfold putK stored
 rw[r.any k]
 by_cases e:(vs.any fun kv=>decide (kv.1=k))=true
 · rw[if_pos e,if_pos e];exact r.JX k ry
 · rw[if_neg e,if_neg e];exact Paired.snoc r ⟨rfl,ry⟩
theorem KV.keys{kvs:List (κ × V)}{vs:List (κ × Value)}(r:KV kvs vs):kvs.map (·.1)=vs.map (·.1):=by
 unfold KV at r
 induction r with
 | nil=>rfl
 | cons h t ih=>rw[List.map_cons,List.map_cons,ih,h.1]
theorem KV.length{kvs:List (κ × V)}{vs:List (κ × Value)}(r:KV kvs vs):kvs.length=vs.length:=Paired.length r
end
theorem kf{P:Program}{w:World}{k:Key}{u:Value}(r:RelV (kV k) u):(aJ P w).is k u=true:=by
 cases k with
 | inl i=>obtain⟨t,e⟩:=(show ∃ t,u=Value.int i t from r);subst e;exact tM P w i t
 | inr x=>obtain⟨t,e⟩:=(show ∃ t,u=Value.str x t from r);subst e;exact sj P w x t
theorem pT{P:Program}{w:World}: ∀{ks:List Key}{us:List Value},Vals (ks.map kV) us->ItemsAre (aJ P w) ks us
 | [],_,r=>by rw[List.map_nil] at r;cases r;exact .nil
 | k::ks,_,r=>by
  rw[List.map_cons] at r
  cases r with
  | cons h t=>exact .cons (kf h) (pT t)
abbrev KT(H:Hp):List (List Key × V)->List (List Key × Addr × Value)->Prop:=Paired fun p q=>p.1=q.1/\H q.2.1=some (.tup (p.1.map kV))/\RelV p.2 q.2.2
theorem KT.val{H:Hp}{kvs:List (List Key × V)}{xs:List (List Key × Addr × Value)}(r:KT H kvs xs)(k:List Key):j7 (gq kvs k) ((atKey xs k).map (·.2)):=by
 induction r with
 | nil=>exact True.intro
 | @cons p q ps qs h t ih =>
  obtain⟨h1,_,h2⟩:=h
  by_cases e:p.1=k
  · have e':q.1=k:=h1.symm.trans e
    have b:atKey (q::qs) k=some q.2:=by simp[atKey,List.find?_cons,e']
    rw[m6 e,b];exact h2
  · have e': ¬ q.1=k:=fun z=>e (h1.trans z)
    have b:atKey (q::qs) k=atKey qs k:=by simp[atKey,List.find?_cons,e']
    rw[oq e,b];exact ih
theorem KT.JX{H:Hp}{kvs:List (List Key × V)}{xs:List (List Key × Addr × Value)}(r:KT H kvs xs)(k:List Key){y:V}{u:Value}(ry:RelV y u) :
  KT H (kvs.map fun kv=>if kv.1=k then(kv.1,y) else kv) (xs.map (putAt k u)):=by
 induction r with
 | nil=>exact .nil
 | @cons p q ps qs h t ih =>
  rw[List.map_cons,List.map_cons]
  refine .cons ?_ ih
  obtain⟨h1,h2,h3⟩:=h
  unfold putAt
  by_cases e:p.1=k
  · rw[if_pos e,if_pos (h1.symm.trans e)];exact⟨h1,h2,ry⟩
  · rw[if_neg e,if_neg (fun z=>e (h1.trans z))];exact⟨h1,h2,h3⟩
theorem KT.put{H:Hp}{kvs:List (List Key × V)}{xs:List (List Key × Addr × Value)}(r:KT H kvs xs)(k:List Key){b:Addr}{y:V}{u:Value}(hb:H b=some (.tup (k.map kV)))(ry:RelV y u) :
  KT H (putK kvs k y) (storedH xs k b u):=by
 have e:(kvs.any fun kv=>decide (kv.1=k))=(atKey xs k).isSome:=by
  rw[tP,(r.val k).gm,Option.isSome_map]
 unfold putK storedH
 rw[e]
 by_cases q:(atKey xs k).isSome=true
 · rw[if_pos q,if_pos q];exact r.JX k ry
 · rw[if_neg q,if_neg q];exact Paired.snoc r ⟨rfl,hb,ry⟩
theorem KT.keeps{H H':Hp}{kvs:List (List Key × V)}{xs:List (List Key × Addr × Value)}(r:KT H kvs xs)(ht: ∀ b ys,H b=some (.tup ys)->H' b=some (.tup ys)):KT H' kvs xs :=
 Paired.yp r fun _ _ z=>⟨z.1,ht _ _ z.2.1,z.2.2⟩
section
variable{P:Program}{w:World}{H:Hp}{h:Heap}{a:Addr}
theorem F1{u:HO}(ok:jm P w H h)(e:Rd H a u):bb P w H h a u:=e.ok ok
theorem lT{kvs:List (Key × V)}(ok:jm P w H h)(e:Rd H a (.dK kvs)):kvs.length<=sizeLine/\(a == sysModules)=false/\ ∃ vs,KV kvs vs/\h.DictOf (aJ P w) a vs :=
 show bb P w H h a (.dK kvs) from F1 ok e
theorem og{kvs:List (Key × V)}(ok:jm P w H h)(e:H a=some (.dK kvs)):kvs.length<=sizeLine/\(a == sysModules)=false/\ ∃ vs,KV kvs vs/\h.DictOf (aJ P w) a vs:=lT ok (.inl e)
theorem ly{ks:List Key}(ok:jm P w H h)(e:H a=some (.tup (ks.map kV))):(tupleKind (aJ P w)).is h ks a:=by
 obtain⟨_,ay,r,o,h1,h2,n,h3,_⟩:=(show bb P w H h a (.tup (ks.map kV)) from ok a _ e)
 exact⟨o,ay.toArray,n,h1,h2,h3,by simpa using pT r⟩
theorem nc{kvs:List (List Key × V)}(ok:jm P w H h)(e:Rd H a (.dT kvs)):kvs.length<=sizeLine/\(a == sysModules)=false /\
  ∃ xs,KT H kvs xs/\h.DictOfH (tupleKind (aJ P w)) a xs:=by
 obtain⟨z,y,xs,r,o,es,ep,h1,h2,h3,h4,h5⟩:=(show bb P w H h a (.dT kvs) from F1 ok e)
 refine⟨z,y,xs,r,o,es,ep,h1,h2,h3,h4,fun x hx=>?_,h5⟩
 have all: ∀{l:List (List Key × V)}{m:List (List Key × Addr × Value)},KT H l m-> ∀ x∈m,(tupleKind (aJ P w)).is h x.1 x.2.1:=by
  intro l m q
  induction q with
  | nil=>intro x hx;exact nomatch hx
  | @cons p q ps qs hq t ih =>
   intro x hx
   rcases List.mem_cons.mp hx with e | hx
   · subst e
     exact ly ok (by rw[<- hq.1];exact hq.2.1)
   · exact ih x hx
 exact all r x hx
theorem M4{kvs:List (List Key × V)}(ok:jm P w H h)(e:H a=some (.dT kvs)):kvs.length<=sizeLine/\(a == sysModules)=false /\
  ∃ xs,KT H kvs xs/\h.DictOfH (tupleKind (aJ P w)) a xs:=nc ok (.inl e)
end
noncomputable def i8(H:Hp)(a:Addr)(y:V)(r:Option V):Prop :=
 (∃ kvs k,Rd H a (.dK kvs)/\y=kV k/\r=gq kvs k)\/ ∃ kvs k b,Rd H a (.dT kvs)/\y= .ref b/\H b=some (.tup (k.map kV))/\r=gq kvs k
noncomputable def vE(H:Hp)(a:Addr)(y v:V)(H':Hp):Prop :=
 (∃ kvs k,H a=some (.dK kvs)/\y=kV k/\kvs.length < sizeLine/\H'=upd H a (.dK (putK kvs k v))) \/
 ∃ kvs k b,H a=some (.dT kvs)/\y= .ref b/\H b=some (.tup (k.map kV))/\kvs.length < sizeLine/\H'=upd H a (.dT (putK kvs k v))
theorem i8.k{H:Hp}{a:Addr}{kvs:List (Key × V)}{k:Key}(e:H a=some (.dK kvs)):i8 H a (kV k) (gq kvs k):= .inl ⟨kvs,k,.inl e,rfl,rfl⟩
theorem i8.t{H:Hp}{a b:Addr}{kvs:List (List Key × V)}{k:List Key}(e:H a=some (.dT kvs))(eb:H b=some (.tup (k.map kV))):i8 H a (.ref b) (gq kvs k):= .inr ⟨kvs,k,b,.inl e,rfl,eb,rfl⟩
theorem vE.k{H:Hp}{a:Addr}{kvs:List (Key × V)}{k:Key}{v:V}(e:H a=some (.dK kvs))(hl:kvs.length < sizeLine):vE H a (kV k) v (upd H a (.dK (putK kvs k v))):= .inl ⟨kvs,k,e,rfl,hl,rfl⟩
theorem vE.t{H:Hp}{a b:Addr}{kvs:List (List Key × V)}{k:List Key}{v:V}(e:H a=some (.dT kvs))(eb:H b=some (.tup (k.map kV)))(hl:kvs.length < sizeLine) :
  vE H a (.ref b) v (upd H a (.dT (putK kvs k v))):= .inr ⟨kvs,k,b,e,rfl,eb,hl,rfl⟩
section
variable{X:Cx}{pins:List (Addr × Obj)}{σ :St}{H:Hp}{s:Shared}{a:Addr}{y v:V}{u r:Value}{o:Option V}{A:Around}{E:Value->Shared->Prop}
theorem Inv.big(I:Inv X pins σ H s):sysModules < s.heap.objs.size:=by
 have h:mainGlobals < s.heap.objs.size:=(I.mod.glob.keeps I.bk).lt
 exact Nat.lt_trans (by decide) h
theorem xp{Q:Value->Shared->Prop}(hu:A.units+1 < cLine)(I:Inv X pins σ H s)(g:i8 H a y (some v))(ry:RelV y u)(h: ∀ w' s',Inv X pins σ H s'->RelV v w'->Q w' s') :
  wpAny (model X.prog X.w) A (getItem (.ref a) u) Q E s:=by
 rcases g with⟨kvs,k,e,ey,l⟩ | ⟨kvs,k,b,e,ey,eb,l⟩
 · subst ey
   obtain⟨z,hd,vs,rel,dd⟩:=lT I.bu e
   obtain⟨w',hw,rw'⟩:=j7.some_of (v:=v) (o:=valueAt vs k) (by rw[l];exact rel.val k)
   exact wpAny_getItem_of (kf ry) dd.mapOf hw (h w' _ (I.tok _) rw')
 · subst ey
   cases(show u=Value.ref b from ry)
   obtain⟨z,hd,xs,rel,dd⟩:=nc I.bu e
   obtain⟨w',hw,rw'⟩:=j7.some_of (v:=v) (o:=(atKey xs k).map (·.2)) (by rw[l];exact rel.val k)
   obtain⟨p,hp,hp2⟩:=Option.map_eq_some_iff.mp hw
   refine wpAny_getItem_heap (tupleKind_room_in1 hu) (ly I.bu eb) dd hp ?_
   rw[hp2]
   exact h w' _ (I.tok _) rw'
theorem N3{Q:Value->Shared->Prop}(hu:A.units+1 < cLine)(I:Inv X pins σ H s)(g:i8 H a y o)(ry:RelV y u)(h: ∀ s',Inv X pins σ H s'->Q (.bool o.isSome) s') :
  wpAny (model X.prog X.w) A (compareOp .In u (.ref a)) Q E s:=by
 rcases g with⟨kvs,k,e,ey,l⟩ | ⟨kvs,k,b,e,ey,eb,l⟩
 · subst ey
   obtain⟨z,hd,vs,rel,dd⟩:=lT I.bu e
   refine wpAny_in_of (kf ry) hd dd.mapOf ?_
   rw[<- (rel.val k).gm,<- l]
   exact h _ (I.tok _)
 · subst ey
   cases(show u=Value.ref b from ry)
   obtain⟨z,hd,xs,rel,dd⟩:=nc I.bu e
   refine wpAny_in_heap (tupleKind_room_in1 hu) (ly I.bu eb) hd dd ?_
   have q:=(rel.val k).gm
   rw[Option.isSome_map] at q
   rw[<- q,<- l]
   exact h _ (I.tok _)
theorem CJ{Q:Value->Shared->Prop}(hu:A.units+1 < cLine)(I:Inv X pins σ H s)(g:i8 H a y o)(ry:RelV y u)(h: ∀ s',Inv X pins σ H s'->Q (.bool (!o.isSome)) s') :
  wpAny (model X.prog X.w) A (compareOp .NotIn u (.ref a)) Q E s:=by
 rcases g with⟨kvs,k,e,ey,l⟩ | ⟨kvs,k,b,e,ey,eb,l⟩
 · subst ey
   obtain⟨z,hd,vs,rel,dd⟩:=lT I.bu e
   refine wpAny_notIn_of (kf ry) hd dd.mapOf ?_
   rw[<- (rel.val k).gm,<- l]
   exact h _ (I.tok _)
 · subst ey
   cases(show u=Value.ref b from ry)
   obtain⟨z,hd,xs,rel,dd⟩:=nc I.bu e
   refine wpAny_notIn_heap (tupleKind_room_in1 hu) (ly I.bu eb) hd dd ?_
   have q:=(rel.val k).gm
   rw[Option.isSome_map] at q
   rw[<- q,<- l]
   exact h _ (I.tok _)
theorem mL{h':Heap}{t':Nat}{ob:HO}(I:Inv X pins σ H s)(mu:K3 (H a))(hs:Heap.SameBut a s.heap h')(he: ∃ q,h'.get? a=some q)(new:bb X.prog X.w (upd H a ob) h' a ob) :
  Inv X pins σ (upd H a ob) { s with heap:=h',toks:=t' } :=
 I.write (x:=a) (e:=a) mu (.inl rfl) (fun b q hb z=>(hs.2 b hb).trans z) he new
theorem mV{P:Program}{w:World}{H':Hp}{h':Heap}{kvs:List (Key × V)}{vs:List (Key × Value)}(z:kvs.length<=sizeLine)(hd:(a == sysModules)=false)(rel:KV kvs vs)(dd:h'.DictOf (aJ P w) a vs) :
  bb P w H' h' a (.dK kvs):=⟨z,hd,vs,rel,dd⟩
theorem xl{H':Hp}{Q:Unit->Shared->Prop}(hu:A.units+1 < cLine)(I:Inv X pins σ H s)(g:vE H a y v H')(ry:RelV y u)(rv:RelV v r)(h: ∀ s',Inv X pins σ H' s'->Q () s') :
  wpAny (model X.prog X.w) A (setItem (.ref a) u r) Q E s:=by
 rcases g with⟨kvs,k,e,ey,l,eH⟩ | ⟨kvs,k,b,e,ey,eb,l,eH⟩
 · subst ey eH
   obtain⟨z,hd,vs,rel,dd⟩:=og I.bu e
   have hz:vs.length<=sizeLine:=by rw[<- rel.length];exact z
   have hl:(putK kvs k v).length<=sizeLine:=by have:=iF kvs k v;omega
   refine wpAny_setItem_pairs (hsz:=hz) (kf ry) dd fun h' dd' hs=>h _ ?_
   have he: ∃ q,h'.get? a=some q:=let ⟨q,_,_,hq,_⟩:=dd';⟨q,hq⟩
   exact mL I (by rw[e];exact True.intro) hs he (mV hl hd (rel.put k rv) dd')
 · subst ey eH
   cases(show u=Value.ref b from ry)
   obtain⟨z,hd,xs,rel,dd⟩:=M4 I.bu e
   have hz:xs.length<=sizeLine:=by rw[<- Paired.length rel];exact z
   have hl:(putK kvs k v).length<=sizeLine:=by have:=iF kvs k v;omega
   refine wpAny_setItem_heap (hsz:=hz) (tupleKind_room_in1 hu) (ly I.bu eb) dd fun h' dd' hs=>h _ ?_
   obtain⟨q,es,ep,hq,h2,h3,h4,_,h5⟩:=dd'
   refine mL I (by rw[e];exact True.intro) hs ⟨q,hq⟩ ⟨hl,hd,_,(rel.put k eb rv).keeps fun c ys ec=>?_,q,es,ep,hq,h2,h3,h4,h5⟩
   rw[aA (qx ec e (fun z=>nomatch z))]
   exact ec
end
section
variable{X:Cx}{pins:List (Addr × Obj)}{σ :St}{H:Hp}{s:Shared}{a:Addr}{kvs:List (Key × V)}{k:Key}{u:Value}{A:Around}{E:Value->Shared->Prop}
theorem Nk{Q:Value->Shared->Prop}(I:Inv X pins σ H s)(e:Rd H a (.dK kvs))(h: ∀ t s',Inv X pins σ H s'->Q (.int kvs.length t) s'):wpAny (model X.prog X.w) A (call (.builtin "len") [.ref a]) Q E s:=by
 obtain⟨z,hd,vs,rel,dd⟩:=lT I.bu e
 refine call_len_dict hd dd (by rw[<- rel.length];rw[sizeLine_eq] at z;omega) ?_
 rw[<- rel.length]
 exact h _ _ (I.tok _)
end
noncomputable def Ci(i:Expr):Prop:= ∀ ov iv,subscripted i false ov iv=operate [ov,iv] (getItem ov iv)
theorem Cy{prog : Program}{w : World}{A : Around}{E : Value -> Shared -> Prop}{s : Shared}{env : Env}{value slice : Expr}{pos : Pos}{T id : String}{Q : Value -> Shared -> Prop}
    (hl : typeLookup (.type T) "__getitem__" = pure (some (.builtin id))) (hs : Ci slice)
    (h : wpAny (model prog w) A (eval value env) (fun o s₁ => wpAny (model prog w) A (eval slice env) (fun i s₂ => s₂.TypeIs o T /\ wpAny (model prog w) A (getItem o i) Q E s₂) E s₁) E s) :
    wpAny (model prog w) A (eval (.Subscript value slice pos) env) Q E s := by
  refine Subscript_ (wpAny_mono h (fun o s₁ h₁ => wpAny_mono h₁ (fun i s₂ h₂ => ?_) fun _ _ x => x) fun _ _ x => x)
  obtain⟨hT, h₂⟩ := h₂
  unfold subscriptTail
  refine wpAny_bind ?_
  rw[getitemInPython_of_ne hT.not_modules]
  refine wpAny_bind (wpAny_specialOf hT hl ?_)
  have fin : wpAny (model prog w) A (subscripted slice false o i) (fun r s₃ => wpAny (model prog w) A (letTemporaryGo value o r >>= fun _ => pure r) Q E s₃) E s₂ := by
    rw[hs o i]
    exact wpAny_operating (wpAny_mono h₂ (fun r s₃ h₃ => wpAny_bind (wpAny_letTemporaryGo (wpAny_pure h₃))) fun _ _ x => x)
  first
    | exact wpAny_pure (wpAny_bind fin)
    | exact wpAny_bind (wpAny_pure (wpAny_bind fin))
    | exact wpAny_bind fin
theorem sQ{X:Cx}{pins:List (Addr × Obj)}{σ :St}{H:Hp}{s:Shared}{a:Addr}{y:V}{o:Option V}(I:Inv X pins σ H s)(g:i8 H a y o):s.TypeIs (.ref a) "dict" :=by
 rcases g with⟨kvs,k,e,_,_⟩ | ⟨kvs,k,b,e,_,_,_⟩
 · obtain⟨_,_,vs,_,dd⟩:=lT I.bu e
   exact dd.typeIs
 · obtain⟨_,_,xs,_,dd⟩:=nc I.bu e
   exact dd.typeIs
section
variable{X:Cx}{o i e value:Expr}{pos pos' tpos:Pos}{td ty tv:TE}
end
theorem ui{P:Program}{w:World}{H:Hp}(h:Heap)(hb:sysModules < h.objs.size):bb P w H (h.push { cls:= .type "dict",data:= .dict #[] }) h.objs.size (.dK []) :=
 ⟨Nat.zero_le _,beq_eq_false_iff_ne.mpr (Ne.symm (Nat.ne_of_lt hb)),[],.nil,Heap.DictOf.new h⟩
noncomputable def zK:TE:=fun _ H Q=> ∀ p,H p=none->Q (.ref p) (upd H p (.dK []))
section
variable{X:Cx}{pos:Pos}
theorem zr:PE X (.Dict [] [] pos) zK:=fun pins s σ H Q I h =>
 wpAny_Dict_empty ⟨.ref s.heap.objs.size,_,I.laid (a:=s.heap.objs.size) (o:= .dK []) (t':=s.toks) (fun _ _ q=>Heap.get?_push_of_some _ q) (Nat.le_refl _) (ui s.heap I.big),rfl,h _ (I.bu.fresh (Nat.le_refl _))⟩
end
noncomputable def lu:List (TE × TE)->St->Hp->(List (V × V)->Hp->Prop)->Prop
 | [],_,H,Q=>Q [] H
 | (tk,tv)::r, σ,H,Q=>tk σ H fun x H1=>tv σ H1 fun y H2=>lu r σ H2 fun ps H3=>Q ((x,y)::ps) H3
abbrev VV:List (V × V)->List (Value × Value)->Prop:=Paired fun p q=>RelV p.1 q.1/\RelV p.2 q.2
noncomputable def MQ(X:Cx)(pos:Pos)(keys:List (Option Expr))(values:List Expr)(trs:List (TE × TE)):Prop :=
 ∀(pins:List (Addr × Obj))(s:Shared)(σ :St)(H:Hp)(Q:List (V × V)->Hp->Prop),Inv X pins σ H s->lu trs σ H Q ->
  wpAny (model X.prog X.w) X.A (evalPairs (pairTrees keys values X.env pos)) (fun vs s'=> ∃ ps H',Inv X pins σ H' s'/\VV ps vs/\Q ps H') X.xe s
theorem Cd{X:Cx}{pos:Pos}:MQ X pos [] [] []:=fun pins s σ H Q I h=>pairTrees_nil_walk ⟨[],H,I,.nil,h⟩
theorem An{X:Cx}{pos:Pos}{k v:Expr}{ks:List (Option Expr)}{vs:List Expr}{tk tv:TE}{trs:List (TE × TE)}(hk:PE X k tk)(hv:PE X v tv)(hr:MQ X pos ks vs trs) :
  MQ X pos (some k::ks) (v::vs) ((tk,tv)::trs):=fun pins s σ H Q I h =>
 pairTrees_cons_walk (cD (hk pins s σ H _ I h) fun u s1 ⟨x,H1,I1,rx,q1⟩=>cD (hv pins s1 σ H1 _ I1 q1) fun w2 s2 ⟨y,H2,I2,ry,q2⟩ =>
  cD (hr pins s2 σ H2 _ I2 q2) fun ws s3 ⟨ps,H3,I3,rel,q3⟩=>⟨(x,y)::ps,H3,I3,.cons ⟨rx,ry⟩ rel,q3⟩)
noncomputable def cE(kvs more:List (Key × V)):List (Key × V):=more.foldl (fun acc kv=>putK acc kv.1 kv.2) kvs
theorem KV.merge: ∀{more:List (Key × V)}{rs:List (Key × Value)}{kvs:List (Key × V)}{vs:List (Key × Value)},KV more rs->KV kvs vs->KV (cE kvs more) (merged vs rs):=by
 intro more rs kvs vs r
 unfold KV at r
 induction r generalizing kvs vs with
 | nil=>intro q;exact q
 | @cons p q ps qs h t ih =>
  intro r0
  have e:KV (putK kvs p.1 p.2) (stored vs q.1 q.2):=by
   have:=r0.put p.1 h.2
   rw[<- h.1];exact this
  exact ih e
theorem cY: ∀(more kvs:List (Key × V)),(cE kvs more).length<=kvs.length+more.length
 | [],kvs=>by show kvs.length<=kvs.length+0;omega
 | p::r,kvs=>by
  have h1:=cY r (putK kvs p.1 p.2)
  have h2:=iF kvs p.1 p.2
  show(cE (putK kvs p.1 p.2) r).length<=_
  rw[List.length_cons];omega
theorem ny{P:Program}{w:World}: ∀{kvs:List (Key × V)}{ws:List (Value × Value)},VV (kvs.map fun kv=>(kV kv.1,kv.2)) ws-> ∃ rs,Carries (aJ P w) ws rs/\KV kvs rs
 | [],_,r=>by rw[List.map_nil] at r;cases r;exact⟨[],True.intro,.nil⟩
 | p::kvs,_,r=>by
  rw[List.map_cons] at r
  cases r with
  | @cons a b as bs h t =>
   obtain⟨rs,c,q⟩:=ny (P:=P) (w:=w) t
   obtain⟨b1,b2⟩:=b
   exact⟨(p.1,b2)::rs,⟨kf h.1,rfl,c⟩,.cons ⟨rfl,h.2⟩ q⟩
noncomputable def F2(trs:List (TE × TE)):TE:=fun σ H Q=> ∀ p,H p=none->lu trs σ (upd H p (.dK [])) fun ps H2=>H2 p=some (.dK [])/\ ∃ kvs:List (Key × V),ps=kvs.map (fun kv=>(kV kv.1,kv.2))/\kvs.length<=15/\Q (.ref p) (upd H2 p (.dK (cE [] kvs)))
theorem D2{X:Cx}{pos:Pos}{keys:List (Option Expr)}{values:List Expr}{trs:List (TE × TE)}(h:MQ X pos keys values trs)(hall:keys.all (·.isSome)=true)(hl:keys.length=values.length)(h0:keys≠[])
  (h15:keys.length<=15):PE X (.Dict keys values pos) (F2 trs):=by
 intro pins s σ H Q I q
 have hn:=I.bu.fresh (Nat.le_refl s.heap.objs.size)
 have I1:=I.laid (a:=s.heap.objs.size) (o:= .dK []) (h':=s.heap.push { cls:= .type "dict",data:= .dict #[] }) (t':=s.toks) (fun _ _ q=>Heap.get?_push_of_some _ q) (Nat.le_refl _) (ui s.heap I.big)
 refine wpAny_Dict_walk (knd:=aJ X.prog X.w) hall hl h0 h15 (cD (h pins _ σ _ _ I1 (q _ hn)) fun ws s2 ⟨ps,H2,I2,rel,e,kvs,ep,lk,q2⟩=>?_)
 subst ep
 obtain⟨rs,c,rk⟩:=ny (P:=X.prog) (w:=X.w) rel
 obtain⟨z,hd,vs0,r0,dd⟩:=og I2.bu e
 cases r0
 refine⟨rs,c,dd,fun h' dd' hs=>⟨.ref s.heap.objs.size,_,?_,rfl,q2⟩⟩
 have hz:(cE [] kvs).length<=sizeLine:=by
  have h1:=cY kvs []
  rw[List.length_nil] at h1
  rw[sizeLine_eq];omega
 have he: ∃ q,h'.get? s.heap.objs.size=some q:=let ⟨q,_,_,hq,_⟩:=dd';⟨q,hq⟩
 exact mL I2 (by rw[e];exact True.intro) hs he (mV hz hd (rk.merge .nil) dd')
structure M1(X:Cx)(o:Expr)(m:Str)(apos:Pos)(e:Expr)(cpos:Pos):Prop where
 base:attributeBase o m X.env (eval o X.env)=eval o X.env
 kF:((backTo cpos (starEach [e] X.env)).all (fun x=> !x.1)&&(backToKw cpos (keywordEach [] X.env)).all (fun x=>x.1.isSome)
  && decide (([e]:List Expr).length+([]:List Keyword).length+(if ([]:List Keyword).isEmpty then 0 else 1) < 30))=true
 line:(apos.endLine == cpos.line)=true
 trees:backTo cpos (starEach [e] X.env)=[(false,eval e X.env)]
structure M2(X:Cx)(o:Expr)(m:Str)(apos:Pos)(e f:Expr)(cpos:Pos):Prop where
 base:attributeBase o m X.env (eval o X.env)=eval o X.env
 kF:((backTo cpos (starEach [e,f] X.env)).all (fun x=> !x.1)&&(backToKw cpos (keywordEach [] X.env)).all (fun x=>x.1.isSome)
  && decide (([e,f]:List Expr).length+([]:List Keyword).length+(if ([]:List Keyword).isEmpty then 0 else 1) < 30))=true
 line:(apos.endLine == cpos.line)=true
 trees:backTo cpos (starEach [e,f] X.env)=[(false,eval e X.env),(false,eval f X.env)]
noncomputable def O2(H:Hp)(a:Addr):Prop:=(∃ kvs,Rd H a (.dK kvs))\/ ∃ kvs,Rd H a (.dT kvs)
theorem GH{X:Cx}{pins:List (Addr × Obj)}{σ :St}{H:Hp}{s:Shared}{a:Addr}(I:Inv X pins σ H s)(d:O2 H a) :
  s.TypeIs (.ref a) "dict" /\(∀ b,Value.ref a= .ref b-> ∃ ob,s.heap.get? b=some ob/\ob.dict=none)/\(a == sysModules)=false:=by
 rcases d with⟨kvs,e⟩ | ⟨kvs,e⟩
 · obtain⟨_,hd,vs,_,dd⟩:=lT I.bu e
   refine⟨dd.typeIs,fun b q=>?_,hd⟩
   cases q
   obtain⟨ob,_,_,h1,h2,_⟩:=dd
   exact⟨ob,h1,h2.2.1⟩
 · obtain⟨_,hd,xs,_,dd⟩:=nc I.bu e
   refine⟨dd.typeIs,fun b q=>?_,hd⟩
   cases q
   obtain⟨ob,_,_,h1,h2,_⟩:=dd
   exact⟨ob,h1,h2.2.1⟩
section
variable{X:Cx}{pins:List (Addr × Obj)}{σ :St}{H:Hp}{s:Shared}{a:Addr}{y d:V}{u r:Value}{o:Option V}{A:Around}{E:Value->Shared->Prop}
theorem KI{Q:Value->Shared->Prop}(hu:A.units+1 < cLine)(I:Inv X pins σ H s)(g:i8 H a y o)(ry:RelV y u)(rd:RelV d r)(h: ∀ w' s',Inv X pins σ H s'->RelV (o.getD d) w'->Q w' s') :
  wpAny (model X.prog X.w) A (call (.builtin "dict.get") [.ref a,u,r]) Q E s:=by
 rcases g with⟨kvs,k,e,ey,l⟩ | ⟨kvs,k,b,e,ey,eb,l⟩
 · subst ey
   obtain⟨z,hd,vs,rel,dd⟩:=lT I.bu e
   refine call_meetsIn PySem.F.slot_dict_get dd.typeIs PySem.F.entry_dict_get (PySem.F.args_dict_get_3 _ _ _) (meets_dict_get_default (aJ X.prog X.w) a (kf ry) hd r) ⟨_,dd.mapOf,h _ _ (I.tok _) ?_⟩
   rw[l]
   exact(rel.val k).getD rd
 · subst ey
   cases(show u=Value.ref b from ry)
   obtain⟨z,hd,xs,rel,dd⟩:=nc I.bu e
   refine call_meetsIn PySem.F.slot_dict_get dd.typeIs PySem.F.entry_dict_get (PySem.F.args_dict_get_3 _ _ _) (meetsH_dict_get_default (tupleKind (aJ X.prog X.w)) a b hd r) ⟨tupleKind_room_in1 hu,k,xs,ly I.bu eb,dd,h _ _ (I.tok _) ?_⟩
   rw[l]
   exact(rel.val k).getD rd
end
noncomputable def BA(td ty tx:TE):TE:=fun σ H Q=>td σ H fun x H1=> ∃ a,x= .ref a/\O2 H1 a/\ty σ H1 fun y H2=>tx σ H2 fun z H3=> ∃ o,i8 H3 a y o/\Q (o.getD z) H3
section
variable{X:Cx}{o e f:Expr}{apos cpos:Pos}{td ty tx:TE}
theorem AX(hu:X.A.units+1 < cLine)(ho:PE X o td)(he:PE X e ty)(hf:PE X f tx)(m:M2 X o "get" apos e f cpos):PE X (.Call (.Attribute o "get" apos) [e,f] [] cpos) (BA td ty tx):=by
 intro pins s σ H Q I h
 refine wpAny_Call_method m.base m.kF m.line PySem.F.plainAttrs_dict PySem.F.slot_dict_get PySem.F.type_dict_get (cD (ho pins s σ H _ I h) fun u s1 ⟨x,H1,I1,rx,a,ex,d,q1⟩=>?_)
 subst ex
 obtain rfl:u=Value.ref a:=rx
 obtain⟨t1,t2,_⟩:=GH I1 d
 refine⟨t1,t2,?_⟩
 rw[m.trees]
 refine Calls.callWith_builtin rfl (Calls.evalArgs_plain (Calls.spliced_cons (cD (he pins s1 σ H1 _ I1 q1) fun iv s2 ⟨y,H2,I2,ry,q2⟩ =>
  Calls.spliced_cons (cD (hf pins s2 σ H2 _ I2 q2) fun fv s3 ⟨z,H3,I3,rz,ov,g,q3⟩=>Calls.spliced_nil ?_))))
 exact KI hu I3 g ry rz fun w' s4 I4 rw'=>⟨_,H3,I4,rw',q3⟩
end
section
variable{X:Cx}{pins:List (Addr × Obj)}{σ :St}{H:Hp}{s:Shared}{a:Addr}{kvs:List (Key × V)}{A:Around}{E:Value->Shared->Prop}
end
section
variable{X:Cx}{pins:List (Addr × Obj)}{σ :St}{H:Hp}{s:Shared}{a:Addr}{y:V}{u:Value}{A:Around}{E:Value->Shared->Prop}
end
open PySem PySem.Spec PyProof.Rows
section
variable{X:Cx}
theorem x6:bq X (.builtin "len") (fun xs H Q=> ∃ a kvs,xs=[V.ref a]/\H a=some (.dK kvs)/\Q (.int kvs.length) H):=by
 intro pins s σ H xs us Q I r h
 obtain⟨a,kvs,rfl,ha,q⟩:=h
 obtain⟨u,rfl,ru⟩:=vals1 r
 cases ru
 exact Nk I (.inl ha) fun t s' I'=>⟨.int kvs.length,H,I',⟨t,rfl⟩,q⟩
end
open PySem PySem.Spec PyProof.Rows
section
variable{κ :Type}[DecidableEq κ]
end
end L2
end
section
open PySem PySem.W PyProof.Rows
namespace L2
open PySem PySem.Spec PyProof.Rows
noncomputable def mask(n:Str):Str:=⟨n.cps.push 0⟩
noncomputable def hU(sc fn:List (Str × NameKind))(N vars:List Str):Bool :=
 sc.all (fun p=>p.2 != .cell&&(p.2 != .free||(fn.lookup p.1 == some .cell||fn.lookup p.1 == some .free))&&(p.2 != .local||sc.lookup p.1 == some .local)) &&
 N.all (fun n=>vars.contains n||sc.lookup n !=some .local)&&vars.all (fun v=>sc.lookup (mask v) == none)
noncomputable def uv(N vars:List Str):List Str:=N.map (fun n=>if vars.contains n then mask n else n)++vars
noncomputable def fG(X:Cx)(vars:List Str)(scope:Scope)(cl:List (Str × Addr))(C:Addr)(s₀ :Shared)(H₀ :Hp)(ex:List Addr)(pn:List (Addr × Obj)):Cx :=
 { X with N:=uv X.N vars,env:=compEnvC scope cl C X.env,s₀ :=s₀,H₀ :=H₀,outer:=X.stack,ex:=ex,fn:=fun _=>false,pn:=pn }
theorem jr(f : Str -> NameKind -> NameKind)(x : Str) : ∀ names : List (Str × NameKind), (names.map fun p => (p.1, f p.1 p.2)).lookup x = (names.lookup x).map (f x)
  | [] => rfl
  | p :: r => by
    have ih := jr f x r
    rw[List.map_cons, List.lookup_cons, List.lookup_cons, ih]
    cases q : x == p.1 with
    | true => obtain rfl : x = p.1 := by simpa using q
              rfl
    | false => rfl
theorem ib{env:Env}{names:List (Str × NameKind)}{x:Str} :
  (names.map fun (n,k)=>if (k == NameKind.free&&env.scope.kind == .function&&env.kindOf n == some .cell) then(n,NameKind.cell) else(n,k)).lookup x =
   (names.lookup x).map fun k=>if (k == NameKind.free&&env.scope.kind == .function&&env.kindOf x == some .cell) then NameKind.cell else k:=by
 rw[<- jr (fun n k=>if (k == NameKind.free&&env.scope.kind == .function&&env.kindOf n == some .cell) then NameKind.cell else k) x names]
 congr 2
 funext p
 obtain⟨n,k⟩:=p
 show(if _ then _ else _)=_
 split<;>rename_i z<;>simp[z]
theorem lookup_mem{β :Type}{x:Str}{c: β}: ∀{l:List (Str × β)},l.lookup x=some c->(x,c)∈l
 | [],h=>by simp at h
 | p::r,h=>by
  rw[List.lookup_cons] at h
  cases q:x == p.1 with
  | true =>
   rw[q] at h
   obtain rfl:x=p.1:=by simpa using q
   obtain rfl:p.2=c:=by simpa using h
   exact List.mem_cons_self
  | false=>rw[q] at h;exact List.mem_cons_of_mem _ (lookup_mem h)
theorem fD{β :Type}{x:Str}{c: β}: ∀{l:List (Str × β)},(x,c)∈l-> ∃ d,l.lookup x=some d
 | [],h=>nomatch h
 | (n,k)::r,h=>by
  cases hx:x == n with
  | true=>exact⟨k,by simp only[List.lookup_cons,hx]⟩
  | false =>
   have h':(x,c)∈r:=by
    rcases List.mem_cons.mp h with e | e
    · cases e;simp at hx
    · exact e
   obtain⟨d,q⟩:=fD h'
   exact⟨d,by simp only[List.lookup_cons,hx];exact q⟩
theorem jv{env:Env}: ∀(names:List (Str × NameKind))(acc:List (Str × Addr)),(∀ p∈names,p.2= .free-> ∃ c,env.cells.lookup p.1=some c) ->
  ∃ cl,(forIn names acc fun (x:Str × NameKind) (r:List (Str × Addr))=>(match x with | (name,kind)=>if (kind == NameKind.free)=true then do let a <- cellOf env name;pure (ForInStep.yield ((name,a)::r)) else pure (ForInStep.yield r):Sem (ForInStep (List (Str × Addr)))))=pure cl /\
   (∀ p∈cl,p∈acc\/env.cells.lookup p.1=some p.2)/\(∀ p∈acc,p∈cl)/\ ∀ p∈names,p.2= .free-> ∃ c,(p.1,c)∈cl
 | [],acc,_=>⟨acc,rfl,fun p h=> .inl h,fun p h=>h,fun p h=>nomatch h⟩
 | (n,k)::r,acc,h=>by
  by_cases hk:(k == NameKind.free)=true
  · obtain⟨c,hc⟩:=h (n,k) List.mem_cons_self (by simpa using hk)
    obtain⟨cl,e,h1,h2,h3⟩:=jv r ((n,c)::acc) fun p hp=>h p (List.mem_cons_of_mem _ hp)
    refine⟨cl,?_,fun p hp=>?_,fun p hp=>h2 p (List.mem_cons_of_mem _ hp),fun p hp hf=>?_⟩
    · rw[List.forIn_cons]
      have z:cellOf env n=pure c:=by unfold cellOf;have hc':env.cells.lookup n=some c:=hc;rw[hc']
      simp only[hk,if_true,z]
      exact e
    · rcases h1 p hp with q | q
      · rcases List.mem_cons.mp q with q | q
        · exact .inr (by rw[q];exact hc)
        · exact .inl q
      · exact .inr q
    · rcases List.mem_cons.mp hp with q | q
      · exact⟨c,by rw[q];exact h2 _ List.mem_cons_self⟩
      · exact h3 p q hf
  · obtain⟨cl,e,h1,h2,h3⟩:=jv r acc fun p hp=>h p (List.mem_cons_of_mem _ hp)
    refine⟨cl,?_,h1,h2,fun p hp hf=>?_⟩
    · rw[List.forIn_cons]
      simp only[if_neg hk]
      exact e
    · rcases List.mem_cons.mp hp with q | q
      · rw[q] at hf
        exact absurd (by simpa using hf) hk
      · exact h3 p q hf
theorem oG{env:Env}{scope:Scope}(h: ∀ p∈scope.names,p.2= .free-> ∃ c,env.cells.lookup p.1=some c) :
  ∃ cl,closureFor scope env=pure cl/\(∀ x c,cl.lookup x=some c->env.cells.lookup x=some c)/\ ∀ x,scope.names.lookup x=some .free-> ∃ c,cl.lookup x=some c:=by
 obtain⟨cl,e,h1,_,h3⟩:=jv scope.names [] h
 refine⟨cl,?_,fun x c q=>?_,fun x q=>?_⟩
 · unfold closureFor
   show(forIn scope.names ([]:List (Str × Addr)) _ >>= fun r=>pure r)=_
   erw [e]
   rfl
 · rcases h1 _ (lookup_mem q) with z | z
   · cases z
   · exact z
 · obtain⟨c,q'⟩:=h3 _ (lookup_mem q) rfl
   exact fD q'
end L2
end
section
open PySem PySem.W PyProof.Rows
namespace L2
open PySem PySem.Spec PyProof.Rows
noncomputable def C3(cs:List Expr)(v:Env):Sem Bool :=
 forIn cs true fun c r=>if r=true then(isTrue c v (eval c v) >>= fun ok=>pure (ForInStep.yield ok)) else pure (ForInStep.yield r)
noncomputable def vj(M:Model)(A:Around)(v:Env)(e:Expr)(acc:Value)(X:Value->Shared->Prop)(D:Shared->Prop):Bool->Shared->Prop:=fun ok u=>if ok=true then
  wpAny M A (eval e v) (fun x u1=>wpAny M A (call (.builtin "list.append") [acc,x]) (fun _ u2=>D u2) X u1) X u
 else D u
noncomputable def GJ(M:Model)(A:Around)(v:Env)(tg e:Expr)(cs:List Expr)(it acc:Value)(X:Value->Shared->Prop)(D:Shared->Prop)(i:Value)(u:Shared):Prop :=
 wpAny M A (letOwnedTupleGo tg it i) (fun _ u1=>wpAny M A (assign tg v i) (fun _ u2=>wpAny M A (C3 cs v) (vj M A v e acc X D) X u2) X u1) X u
theorem nX{prog:Program}{w:World}{A:Around}{R:Result->Shared->Prop}{s:Shared}{elt target iter:Expr}{ifs:List Expr}{scope:Scope}{pos:Pos}{it acc:Value}{env:Env}(I:Nat->Shared->Prop)
  (turn: ∀ k u,I k u->wpAny (model prog w) A (pyNext it) (fun r u1=>match r with
   | none=>R (.ok .next) u1
   | some i=>GJ (model prog w) A env target elt ifs it acc (notedBy (model prog w) A env fun e s'=>R (.error e) s') (fun u2=> ∃ m,m < k/\I m u2) i u1) (notedBy (model prog w) A env fun e s'=>R (.error e) s') u)
  (n:Nat) (h:I n s):codeAny (model prog w) A (.compLoop (.ListComp elt [⟨target,iter,ifs,0⟩] scope pos) 0 it acc env) R s:=by
 refine codeAny_loop rfl I (fun k u hu=>wpAny_noted (m:=compTurn (.ListComp elt [⟨target,iter,ifs,0⟩] scope pos) 0 it acc env) ?_) n h
 rw[compTurn_list]
 refine wpAny_bind (wpAny_standAt (wpAny_bind (wpAny_mono (turn k u hu) (fun r u1 g=>?_) fun _ _ z=>z)))
 match r,g with
 | none,g=>exact wpAny_pure g
 | some i,g =>
  refine wpAny_bind (wpAny_mono g (fun _ _ g=>wpAny_bind (wpAny_mono g (fun _ _ g=>wpAny_bind (wpAny_mono g (fun ok u4 g=>?_) fun _ _ z=>z)) fun _ _ z=>z)) fun _ _ z=>z)
  match ok,g with
  | false,g=>exact wpAny_pure (And.intro rfl g)
  | true,g=>exact wpAny_bind (wpAny_bind (wpAny_mono g (fun _ _ g=>wpAny_bind (wpAny_mono g (fun _ _ g=>wpAny_pure (wpAny_pure (And.intro rfl g))) fun _ _ z=>z)) fun _ _ z=>z))
noncomputable def PF(X:Cx)(ifs:List Expr)(t:TT):Prop :=
 ∀(pins:List (Addr × Obj))(s:Shared)(σ :St)(H:Hp)(Q:Bool->Hp->Prop),Inv X pins σ H s->t σ H Q ->
  wpAny (model X.prog X.w) X.A (forIn ifs true fun c r=>if r=true then do let ok <- isTrue c X.env (eval c X.env);pure (ForInStep.yield ok) else pure (ForInStep.yield r)) (TP X pins σ Q) X.xe s
noncomputable def FV:TT:=fun _ H Q=>Q true H
theorem KC{X:Cx}:PF X [] FV:=fun _ _ σ H Q I h=>wpAny_tests_nil ⟨H,I,h⟩
theorem IS{X:Cx}{c:Expr}{t:TT}(h:PT X c t):PF X [c] t:=fun pins s σ H Q I q=>wpAny_tests_one (h pins s σ H Q I q)
noncomputable def NH(k:Nat)(wi:TI)(g:TG)(tt:TT)(te:TE):TE:=fun σ H Q=>wi σ H fun J H1=> ∃ W:Nat->Nat->List V->Hp->Prop,(∃ m,W 0 m [] H1)/\ ∀ i m ys H,W i m ys H ->
 (J.stop i H/\ ∀ p,H p=none->Q (.ref p) (upd H p (.lst ys))) \/
 (J.go i H/\ys.length < sizeLine/\ ∀ x H',J.KQ i H x H'->g x (σ ++List.replicate k none) H' fun σ2 H2=>tt σ2 H2 fun b H3 =>
  if b=true then te σ2 H3 fun y H4=> ∃ m',m' < m/\W (i+1) m' (ys++[y]) H4 else ∃ m',m' < m/\W (i+1) m' ys H3)
section
variable{X:Cx}{pins:List (Addr × Obj)}{σ :St}{H:Hp}{s:Shared}{scope:Scope}{vars:List Str}{cl:List (Str × Addr)}
theorem g7(h:hU scope.names X.env.scope.names X.N vars=true): ∀ p∈scope.names,p.2≠ .cell/\(p.2= .free->X.env.kindOf p.1=some .cell\/X.env.kindOf p.1=some .free)/\(p.2= .local->scope.names.lookup p.1=some .local):=by
 intro p hp
 unfold hU at h
 simp only[Bool.and_eq_true,List.all_eq_true] at h
 obtain⟨⟨h1,_⟩,_⟩:=h
 have q:=h1 p hp
 simp only[Bool.or_eq_true,bne_iff_ne,ne_eq,beq_iff_eq] at q
 obtain⟨⟨q1,q2⟩,q3⟩:=q
 refine⟨q1,fun e=>?_,fun e=>?_⟩
 · rcases q2 with z | z
   · exact absurd e z
   · exact z
 · rcases q3 with z | z
   · exact absurd e z
   · exact z
theorem JN(h:hU scope.names X.env.scope.names X.N vars=true): ∀ n∈X.N,¬ n∈vars->scope.names.lookup n≠some .local:=by
 intro n hn hv
 unfold hU at h
 simp only[Bool.and_eq_true,List.all_eq_true] at h
 obtain⟨⟨_,h2⟩,_⟩:=h
 have q:=h2 n hn
 simp only[Bool.or_eq_true,bne_iff_ne,ne_eq,List.contains_iff_mem] at q
 exact q.resolve_left hv
theorem xo(h:hU scope.names X.env.scope.names X.N vars=true): ∀ n∈vars,scope.names.lookup (mask n)=none:=by
 intro n hn
 unfold hU at h
 simp only[Bool.and_eq_true,List.all_eq_true] at h
 simpa using h.2 n hn
theorem Inv.fG{C:Addr}{h':Heap}{t':Nat}{m':Str->Option Value}{fp:List Addr}(I:Inv X pins σ H s)(hkind:scope.kind= .function)(hlc:hU scope.names X.env.scope.names X.N vars=true)
  (hc1: ∀ x c,cl.lookup x=some c->X.env.cells.lookup x=some c) (hc2: ∀ x,scope.names.lookup x=some .free-> ∃ c,cl.lookup x=some c)
  (hfp: ∀ b∈fp,mz X pins H b) (hfo: ∀ b∈fp,∃ o,s.heap.get? b=some o) (hC:s.heap.objs.size<=C) (hn:h'.Ns C m') (k: ∀ b o,s.heap.get? b=some o->h'.get? b=some o) :
  Inv (fG X vars scope cl C s H fp (X.pn++pins)) [] (σ ++List.replicate vars.length none) H { s with heap:=h',toks:=t' }:=by
 have hHC:H C=none:=I.bu.fresh hC
 have cellOf: ∀ x c,cl.lookup x=some c->c < s.heap.objs.size:=fun x c e=>by
  obtain⟨v,q⟩:=I.cell x c (hc1 x c e)
  exact q.lt
 refine⟨?ok,rfl,I.bare,Un.kept k,⟨m',hn,?loc⟩,fun x c e=>?cell,hHC,fun x c e=>I.iC x c (hc1 x c e),?pin,I.bu.kept k,?len⟩
 case ok =>
  refine{ mod:=I.ok.mod,kind:=?_,glob:=I.ok.glob,blt:=I.ok.blt,above:=hC,inj:=?_,has:=?_,KU:=(fun _ _ e=>by cases e),hd:=I.ok.hd,frames:=I.ok.frames,LJ:= .inl rfl,N8:=?_,bs:=I.bs,B6:=Nat.le_trans I.ok.B6 I.sz,yv:=?_,yZ:=?_,kR:=I.stack,FN:=I.wJ }
  · exact hkind
  · exact fun x y c e1 e2=>I.ok.inj x y c (hc1 x c e1) (hc1 y c e2)
  · intro x hx
    have hx':(compEnvC scope cl C X.env).kindOf x=some .cell\/(compEnvC scope cl C X.env).kindOf x=some .free:=hx
    have e:(compEnvC scope cl C X.env).kindOf x=(scope.names.lookup x).map fun k=>if (k == NameKind.free&&X.env.scope.kind == .function&&X.env.kindOf x == some .cell) then NameKind.cell else k:=ib
    rw[e] at hx'
    cases q:scope.names.lookup x with
    | none=>rw[q] at hx';simp at hx'
    | some kd =>
     have hm:=g7 (X:=X) hlc _ (lookup_mem q)
     by_cases hf:kd= .free
     · subst hf;exact hc2 x q
     · rw[q] at hx'
       have hf':(kd == NameKind.free)=false:=by simpa using hf
       simp only[Option.map_some,hf',Bool.false_and,Bool.false_eq_true,if_false,Option.some.injEq] at hx'
       rcases hx' with z | z
       · exact absurd z hm.1
       · exact absurd z hf
  · intro b hb
    have f:=hfp b hb
    obtain⟨o,e⟩:=hfo b hb
    exact⟨Nat.ne_of_lt (Nat.lt_of_lt_of_le (Heap.lt_size e) hC),fun x c e=>f.2.2.2.2.1 x c (hc1 x c e)⟩
  · intro b o e hb
    have f:=hfp b hb
    rcases f.2.2.2.1 with z | z
    · exact I.ok.yv b o e z
    · exact absurd (Nat.lt_of_lt_of_le (Heap.lt_size (I.ok.bs b o e).1) z) (Nat.lt_irrefl _)
  · intro b hb z
    have f:=hfp b hb
    rcases List.mem_cons.mp (I.kK b z) with q | q
    · exact f.2.1 q
    · exact f.2.2.1 q
 case loc =>
  intro i x v e1 e2 e3
  have e1':(uv X.N vars)[i]?=some x:=e1
  have e:(compEnvC scope cl C X.env).scope.names.lookup x=(scope.names.lookup x).map fun k=>if (k == NameKind.free&&X.env.scope.kind == .function&&X.env.kindOf x == some .cell) then NameKind.cell else k:=ib
  by_cases hi:i < σ.length
  · rw[List.getElem?_append_left hi] at e2
    unfold uv at e1'
    rw[List.getElem?_append_left (by rw[List.length_map,<- I.len];exact hi),List.getElem?_map] at e1'
    cases q:X.N[i]? with
    | none=>rw[q] at e1';cases e1'
    | some n =>
     rw[q] at e1'
     have e1'':(if vars.contains n=true then mask n else n)=x:=Option.some.inj e1'
     have vis:(scope.names.lookup x).isSome=true:=by
      unfold FF at e3
      have e3':(compEnvC scope cl C X.env).scope.names.lookup x=some .local\/(compEnvC scope cl C X.env).scope.names.lookup x=some .cell\/(compEnvC scope cl C X.env).scope.names.lookup x=some .free:=e3
      rw[e] at e3'
      cases z:scope.names.lookup x with
      | none=>rw[z] at e3';simp at e3'
      | some _=>rfl
     by_cases hv:n∈vars
     · rw[if_pos (by simpa using hv)] at e1''
       have:=xo (X:=X) hlc n hv
       rw[e1''] at this
       rw[this] at vis;cases vis
     · rw[if_neg (by simpa using hv)] at e1''
       subst e1''
       have nl:=JN (X:=X) hlc n (List.mem_of_getElem? q) hv
       cases z:scope.names.lookup n with
       | none=>rw[z] at vis;cases vis
       | some kd =>
        have hm:=g7 (X:=X) hlc _ (lookup_mem z)
        have hkd:kd= .free:=by
         unfold FF at e3
         have e3':(compEnvC scope cl C X.env).scope.names.lookup n=some .local\/(compEnvC scope cl C X.env).scope.names.lookup n=some .cell\/(compEnvC scope cl C X.env).scope.names.lookup n=some .free:=e3
         rw[e,z] at e3'
         by_cases hf:kd= .free
         · exact hf
         · have hf':(kd == NameKind.free)=false:=by simpa using hf
           simp only[Option.map_some,hf',Bool.false_and,Bool.false_eq_true,if_false,Option.some.injEq] at e3'
           rcases e3' with y | y | y
           · rw[y] at z;exact absurd z nl
           · exact absurd y hm.1
           · exact y
        subst hkd
        have kk:=hm.2.1 rfl
        obtain⟨m,_,hl⟩:=I.loc
        obtain⟨u,r,look⟩:=hl i n v q e2 (.inr kk)
        obtain⟨c,hcl⟩:=hc2 n z
        have look': ∃ c,X.env.cells.lookup n=some c/\s.heap.IsCell c (some u):=by
         rcases look with⟨y,_⟩ | ⟨_,y⟩
         · rcases kk with w | w<;>(rw[w] at y;cases y)
         · exact y
        obtain⟨c',hc',⟨o,ho,hd⟩⟩:=look'
        have ec:c=c':=Option.some.inj ((hc1 n c hcl).symm.trans hc')
        subst ec
        refine⟨u,r,.inr ⟨?_,c,hcl,o,k c o ho,hd⟩⟩
        show(compEnvC scope cl C X.env).scope.names.lookup n=some .cell\/(compEnvC scope cl C X.env).scope.names.lookup n=some .free
        rw[e,z]
        simp only[Option.map_some]
        split
        · exact .inl rfl
        · exact .inr rfl
  · rw[List.getElem?_append_right (Nat.not_lt.mp hi),List.getElem?_replicate] at e2
    split at e2<;>cases e2
 case cell =>
  obtain⟨v,o,ho,hd⟩:=I.cell x c (hc1 x c e)
  exact⟨v,o,k c o ho,hd⟩
 case pin =>
  intro p hp
  have hp':p∈X.pn++pins:=by simpa [L2.fG] using hp
  obtain⟨e,n,ne,nf,d⟩:=I.pin p hp'
  refine⟨k _ _ e,n,Nat.ne_of_lt (Nat.lt_of_lt_of_le (Heap.lt_size e) hC),fun z=>?_,d⟩
  rcases List.mem_cons.mp (I.kK p.1 z) with q | q
  · exact ne q
  · exact nf q
 case len =>
  show(σ ++List.replicate vars.length none).length=(uv X.N vars).length
  unfold uv
  rw[List.length_append,List.length_append,List.length_map,List.length_replicate,I.len]
end
end L2
end
section
open PySem PySem.W PyProof.Rows
namespace L2
open PySem PySem.Spec PyProof.Rows
noncomputable def GK(n:Nat)(g:TG):Prop:= ∀ x σ H Q,g x σ H Q->g x σ H fun σ2 H2=>Q σ2 H2/\ ∀ j,j < n-> σ2[j]?= σ[j]?
noncomputable def Ll(n:Nat)(g:qp):Prop:= ∀ xs σ H Q,g xs σ H Q->g xs σ H fun σ2 H2=>Q σ2 H2/\ ∀ j,j < n-> σ2[j]?= σ[j]?
noncomputable def vd(g:TG):Prop:= ∀ x σ H Q Q',(∀ σ2 H2,Q σ2 H2->Q' σ2 H2)->g x σ H Q->g x σ H Q'
theorem E3{n i:Nat}(h:n<=i):GK n (fw i):=fun x σ H Q q=>⟨q,fun j hj=>List.getElem?_set_ne (by omega)⟩
theorem vz{i:Nat}:vd (fw i):=fun x σ H Q Q' f q=>f _ _ q
theorem GU{n:Nat}:Ll n xN:=fun xs σ H Q q=>⟨q.1,q.2,fun _ _=>rfl⟩
theorem C5{n:Nat}{g:TG}{gs:qp}(h:GK n g)(hm:vd g)(hs:Ll n gs):Ll n (lQ g gs):=fun xs σ H Q q=>by
 obtain⟨v,r,e,z⟩:=q
 refine⟨v,r,e,hm _ _ _ _ _ (fun σ2 H2 y=>?_) (h _ _ _ _ z)⟩
 have y':=hs _ _ _ _ y.1
 have:(fun σ3 H3=>(Q σ3 H3/\ ∀ j,j < n-> σ3[j]?= σ2[j]?))=fun σ3 H3=>(Q σ3 H3/\ ∀ j,j < n-> σ3[j]?= σ[j]?):=by
  funext σ3 H3
  exact propext ⟨fun w=>⟨w.1,fun j hj=>(w.2 j hj).trans (y.2 j hj)⟩,fun w=>⟨w.1,fun j hj=>(w.2 j hj).trans (y.2 j hj).symm⟩⟩
 rw[this] at y'
 exact y'
theorem Ky{K:PySem.W.Frag}{n m:Nat}{gs:qp}(hs:Ll n gs):GK n (uz K m gs):=fun x σ H Q q=>by
 obtain⟨a,xs,e,h1,h2,h3⟩:=q
 exact⟨a,xs,e,h1,h2,hs _ _ _ _ h3⟩
section
variable{X:Cx}{scope:Scope}{vars:List Str}{elt tg iter:Expr}{ifs:List Expr}{pos:Pos}{wi:TI}{g:TG}{tt:TT}{te:TE}
theorem nr{pins:List (Addr × Obj)}{σ :St}{H2:Hp}{s2:Shared}{cl:List (Str × Addr)}{it:Addr}{fp:List Addr}{tn:Nat->Heap->Prop}{J:It}{RR:Value->Addr->Result->Shared->Prop}{Q:VK}{E:Value->Shared->Prop}
  (hc:X.calm=true) (hx: ∀ v s,¬ X.xe v s) (hkind:scope.kind= .function) (hlc:hU scope.names X.env.scope.names X.N vars=true)
  (hb: ∀ cl C s₀ H₀ ex pn,PG (fG X vars scope cl C s₀ H₀ ex pn) tg g/\PF (fG X vars scope cl C s₀ H₀ ex pn) ifs tt/\PE (fG X vars scope cl C s₀ H₀ ex pn) elt te) (hgk:GK X.N.length g)
  (hc1: ∀ x c,cl.lookup x=some c->X.env.cells.lookup x=some c) (hc2: ∀ x,scope.names.lookup x=some .free-> ∃ c,cl.lookup x=some c)
  (I2:Inv X pins σ H2 s2) (T:Turn X.prog X.w X.K tg J fp it tn) (st2:tn 0 s2.heap) (f2: ∀ b∈fp,mz X pins H2 b)
  {W:Nat->Nat->List V->Hp->Prop} {m0:Nat} (w0:W 0 m0 [] H2)
  (turn: ∀ i m ys H,W i m ys H->(J.stop i H/\ ∀ p,H p=none->Q (.ref p) (upd H p (.lst ys))) \/
   (J.go i H/\ys.length < sizeLine/\ ∀ x H',J.KQ i H x H'->g x (σ ++List.replicate vars.length none) H' fun σ2 H2=>tt σ2 H2 fun b H3 =>
    if b=true then te σ2 H3 fun y H4=> ∃ m',m' < m/\W (i+1) m' (ys++[y]) H4 else ∃ m',m' < m/\W (i+1) m' ys H3))
  (hRR: ∀ D C s4 H4 ys m,Inv X pins σ (upd H4 D (.lst ys)) s4->s4.heap.Ns C m->H4 D=none->(upd H4 D (.lst ys)) C=none->C≠X.env.locals->X.s₀.heap.objs.size<=C->(∀ x c,X.env.cells.lookup x=some c->c≠C)->(∀ p∈X.pn++pins,p.1≠C) ->
   Q (.ref D) (upd H4 D (.lst ys))->RR (.ref D) C (.ok .next) s4) :
  wpAny (model X.prog X.w) X.A (newList []) (fun acc s₃ =>wpAny (model X.prog X.w) X.A (newFunctionEnv scope X.env.globals cl [] X.env.qual none .none (some X.env)) (fun cenv s₄ =>
   codeAny (model X.prog X.w) X.A (.compStart (.ListComp elt [⟨tg,iter,ifs,0⟩] scope pos) 0 (.ref it) acc { cenv with scope:=relabel scope X.env }) (RR acc cenv.locals) s₄) E s₃) E s2:=by
 have hcell: ∀ y∈scope.names,y.2≠ .cell:=fun y hy=>(g7 (X:=X) hlc y hy).1
 refine wpAny_newObj_type (wpAny_newFunctionEnv hcell (fun y hy=>absurd hy (by simp)) (fun h₁ hns₁ hsb₁ =>?_) hkind)
 dsimp only at hns₁ hsb₁ ⊢
 generalize hH2:s2.heap.push { cls:= .type "list",dict:=none,data:= .seq ([]:List Value).toArray }=P2 at hns₁ hsb₁ ⊢
 have hC:P2.objs.size=s2.heap.objs.size+1:=by rw[<- hH2,Heap.size_push]
 have hDC:s2.heap.objs.size≠P2.objs.size:=by rw[hC];exact Nat.ne_of_lt (Nat.lt_succ_self _)
 have hCle:s2.heap.objs.size<=P2.objs.size:=by rw[hC];exact Nat.le_succ _
 have below: ∀ b,b < s2.heap.objs.size->b≠P2.objs.size/\b≠s2.heap.objs.size:=fun b hb=>⟨by rw[hC];exact Nat.ne_of_lt (Nat.lt_succ_of_lt hb),Nat.ne_of_lt hb⟩
 have old: ∀ b o,s2.heap.get? b=some o->h₁.get? b=some o:=fun b o e=>hsb₁.extBut b o (below b (Heap.lt_size e)).1 (Heap.get?_push_of_some _ (hH2 ▸ Heap.get?_push_of_some _ e))
 have hacc:h₁.get? s2.heap.objs.size=some { cls:= .type "list",data:= .seq ([]:List Value).toArray 0 }:=hsb₁.extBut _ _ hDC (Heap.get?_push_of_some _ (hH2 ▸ Heap.get?_push_size _ rfl))
 generalize hDe:s2.heap.objs.size=D at *
 generalize hCe:P2.objs.size=C at *
 have fo: ∀ b∈fp,∃ o,s2.heap.get? b=some o:=fun b hb=>let ⟨o,e,_⟩:=T.obj _ _ st2 b hb;⟨o,e⟩
 have fpD: ∀ b∈fp,b < D:=fun b hb=>by obtain⟨o,e⟩:=fo b hb;rw[<- hDe];exact Heap.lt_size e
 have pnlt: ∀ p∈X.pn++pins,p.1 < D:=fun p hp=>by rw[<- hDe];exact Heap.lt_size (I2.pin p hp).1
 have cllt: ∀ x c,X.env.cells.lookup x=some c->c < D:=fun x c e=>by obtain⟨v,q⟩:=I2.cell x c e;rw[<- hDe];exact q.lt
 have hLD:X.env.locals < D:=by rw[<- hDe];exact I2.lt
 have hD0:X.s₀.heap.objs.size<=D:=by rw[<- hDe];exact I2.sz
 have IY0:Inv (fG X vars scope cl C s2 H2 fp (X.pn++pins)) [] (σ ++List.replicate vars.length none) H2 { s2 with heap:=h₁,toks:=s2.toks+([]:List (Str × Value)).length } :=
  I2.fG hkind hlc hc1 hc2 f2 fo (by rw[hDe];exact hCle) hns₁ old
 have st1:tn 0 h₁ :=T.keep _ _ _ st2 fun b _ o e=>old b o e
 obtain⟨hg,hf,he⟩:=hb cl C s2 H2 fp (X.pn++pins)
 generalize hY:fG X vars scope cl C s2 H2 fp (X.pn++pins)=Y at *
 have Yprog:Y.prog=X.prog:=by rw[<- hY];rfl
 have Yw:Y.w=X.w:=by rw[<- hY];rfl
 have YK:Y.K=X.K:=by rw[<- hY];rfl
 have YA:Y.A=X.A:=by rw[<- hY];rfl
 have Ycalm:Y.calm=true:=by rw[<- hY];exact hc
 have Yenv:Y.env=compEnvC scope cl C X.env:=by rw[<- hY];rfl
 have Yloc:Y.env.locals=C:=by rw[Yenv];rfl
 have Yex:Y.ex=fp:=by rw[<- hY];rfl
 have Yfs:Y.fs=yA X.stack:=by rw[<- hY];rfl
 have Ys0:Y.s₀ =s2:=by rw[<- hY];rfl
 have YH0:Y.H₀ =H2:=by rw[<- hY];rfl
 have Ypn:Y.pn=X.pn++pins:=by rw[<- hY];rfl
 have YN:Y.N=uv X.N vars:=by rw[<- hY];rfl
 have Yxe: ∀ v s,¬ Y.xe v s:=by rw[<- hY];exact hx
 have noE: ∀{E':Value->Shared->Prop}{v:Value}{s:Shared},Y.xe v s->E' v s:=fun h=>absurd h (Yxe _ _)
 have Ycell: ∀ x c,Y.env.cells.lookup x=some c->c < D:=fun x c e=>by rw[Yenv] at e;exact cllt x c (hc1 x c e)
 have fpY: ∀{H':Hp}{pl:List (Addr × Obj)},(∀ b∈fp,H' b=none)->(∀ p∈pl,D<=p.1)-> ∀ b∈fp,mz Y pl H' b:=fun {H' pl} hn hp b hb=>by
  refine⟨hn b hb,?_,?_,.inl (by rw[Yex];exact hb),?_,?_⟩
  · rw[Yloc];exact Nat.ne_of_lt (Nat.lt_of_lt_of_le (fpD b hb) hCle)
  · rw[Yfs];intro z
    rcases List.mem_cons.mp (I2.kK b z) with q | q
    · exact(f2 b hb).2.1 q
    · exact(f2 b hb).2.2.1 q
  · intro x c e z
    rw[Yenv] at e
    exact(f2 b hb).2.2.2.2.1 x c (hc1 x c e) z
  · intro p hp'
    rcases List.mem_append.mp hp' with q | q
    · rw[Ypn] at q;exact(f2 b hb).2.2.2.2.2 p q
    · intro z
      have:=hp p q
      rw[z] at this
      exact absurd (Nat.lt_of_lt_of_le (fpD b hb) this) (Nat.lt_irrefl _)
 have Dfs:D ∉ Y.fs:=by
  rw[Yfs];intro z
  rcases List.mem_cons.mp (I2.kK D z) with q | q
  · exact absurd hLD (by rw[q];exact Nat.lt_irrefl _)
  · exact I2.L0 (by rw[hDe];exact Nat.le_refl _) q
 have loop:codeAny (model X.prog X.w) X.A (.compLoop (.ListComp elt [⟨tg,iter,ifs,0⟩] scope pos) 0 (.ref it) (.ref D) (compEnvC scope cl C X.env)) (RR (.ref D) C) { s2 with heap:=h₁,toks:=s2.toks+([]:List (Str × Value)).length }:=by
  refine nX (fun n s'=> ∃ i ys H' ay k,Inv Y [(D,{ cls:= .type "list",data:= .seq ay k })] (σ ++List.replicate vars.length none) H' s'/\tn i s'.heap/\(∀ b∈fp,H' b=none)/\W i n ys H'/\Vals ys ay.toList/\ys.length<=sizeLine) ?_ m0
   ⟨0,[],H2,_,0,IY0.iM (fun p hp=>?_),st1,fun b hb=>(f2 b hb).1,w0,.nil,Nat.zero_le _⟩
  · rintro n s3 ⟨i,ys,H3,ay,k,I3,st3,fr3,w3,hv,hlen⟩
    rcases turn i n ys H3 w3 with⟨stop,q⟩ | ⟨go,hlt,step⟩
    · have d:=T.done Y Yprog Yw YK Ycalm i _ s3 _ H3 (notedBy (model X.prog X.w) X.A (compEnvC scope cl C X.env) fun e s'=>RR (.ref D) C (.error e) s') I3 (fpY fr3 (by intro p hp;rw[List.mem_singleton.mp hp];exact Nat.le_refl _)) st3 stop
      rw[YA] at d
      refine wpAny_mono d (fun r s4 hr=>?_) fun _ _ z=>z
      obtain⟨rfl,I4⟩:=hr
      obtain⟨eD,nD,_,_,_⟩:=I4.pin (D,_) (List.mem_append_right _ List.mem_cons_self)
      dsimp only at eD nD
      obtain⟨m,hnC,_⟩:=I4.loc
      rw[Yloc] at hnC
      have hb4:=I4.base
      rw[Yfs,Yex,YH0,Ys0] at hb4
      have hok4:=I4.bu
      rw[Yprog,Yw] at hok4
      have hCf:=I4.free
      rw[Yloc] at hCf
      have neD: ∀ b o,s2.heap.get? b=some o->b≠D:=fun b o e=>by rw[<- hDe];exact Nat.ne_of_lt (Heap.lt_size e)
      have IX:Inv X pins σ (upd H3 D (.lst ys)) s4:=by
       refine I2.Lb (ch:=fp) (I4.os.trans (by rw[Ys0])) ⟨hb4.keep,hb4.slot,fun b o e n hx'=>?_,hb4.there,fun b xs e=>?_,fun b o u e=>?_,fun b ps e=>?_⟩ (fun b u e=>?_) I4.bare (fun b hb'=>?_)
       · rw[aA (neD b o e)];exact hb4.free b o e n hx'
       · rw[aA (aB (hb4.kb b xs e) nD)];exact hb4.kb b xs e
       · rw[aA (aB (hb4.jB b o u e) nD)];exact hb4.jB b o u e
       · obtain⟨more,e'⟩:=hb4.kY b ps e
         exact⟨more,by rw[aA (aB e' nD)];exact e'⟩
       · by_cases hbD:b=D
         · subst hbD
           rw[a8] at e;cases e
           exact⟨hlen,ay.toList,k,hv,by simpa using eD⟩
         · rw[aA hbD] at e
           exact(hok4 b u e).rJ (fun c v _ z=>z) (fun c z=>by rw[aA (aB z nD)];exact z) fun c xs z=>by rw[aA (aB z nD)];exact z
       · have f:=f2 b hb'
         exact⟨f.2.2.2.1,f.2.1,f.2.2.2.2.1,f.2.2.2.2.2⟩
      refine hRR D C s4 H3 ys m IX hnC nD (by rw[aA (Ne.symm hDC)];exact hCf) (Nat.ne_of_gt (Nat.lt_of_lt_of_le hLD hCle)) (Nat.le_trans hD0 hCle) (fun x c e=>Nat.ne_of_lt (Nat.lt_of_lt_of_le (cllt x c e) hCle)) (fun p hp=>Nat.ne_of_lt (Nat.lt_of_lt_of_le (pnlt p hp) hCle)) (q D nD)
    · have d:=T.item Y Yprog Yw YK Ycalm i _ s3 _ H3 (notedBy (model X.prog X.w) X.A (compEnvC scope cl C X.env) fun e s'=>RR (.ref D) C (.error e) s') I3 (fpY fr3 (by intro p hp;rw[List.mem_singleton.mp hp];exact Nat.le_refl _)) st3 go
      rw[YA] at d
      refine wpAny_mono d (fun r s4 hr=>?_) fun _ _ z=>z
      obtain⟨u,rfl,h4⟩:=hr
      refine wpAny_mono h4 (fun _ s5 h5=>?_) fun _ _ z=>z
      obtain⟨x,H5,I5,r5,y5,st5,fr5⟩:=h5
      have I5':=I5.pinned (fpY fr5 (by intro p hp;rw[List.mem_singleton.mp hp];exact Nat.le_refl _)) (T.obj _ _ st5)
      have a1:=hg _ s5 _ H5 x u _ I5' r5 (hgk _ _ _ _ (step x H5 y5))
      rw[Yprog,Yw,YA,Yenv] at a1
      refine wpAny_mono a1 (fun _ s6 h6=>?_) fun _ _ z=>noE z
      obtain⟨σ6,H6,I6,q6,k6⟩:=h6
      have a2:=hf _ s6 σ6 H6 _ I6 q6
      rw[Yprog,Yw,YA,Yenv] at a2
      have back: ∀{pl:List (Addr × Obj)}{H':Hp}{s':Shared},Inv Y pl σ6 H' s'->Inv Y pl (σ ++List.replicate vars.length none) H' s':=fun {pl H' s'} I'=>by
       refine I'.weak ?_ fun j v e=>?_
       · rw[I'.len,<- I3.len]
       · by_cases hj:j < σ.length
         · rw[k6 j (by rw[<- I2.len];exact hj)];exact e
         · rw[List.getElem?_append_right (Nat.not_lt.mp hj),List.getElem?_replicate] at e
           split at e<;>cases e
      refine wpAny_mono a2 (fun ok s7 h7=>?_) fun _ _ z=>noE z
      obtain⟨H7,I7,q7⟩:=h7
      cases ok with
      | false =>
       rw[if_neg Bool.false_ne_true] at q7
       unfold vj
       rw[if_neg (show ¬ false=true from Bool.false_ne_true)]
       obtain⟨m',hm',w7⟩:=q7
       refine⟨m',hm',i+1,ys,H7,ay,k,(back I7).iM (fun p hp=>I7.pin p (List.mem_append_right _ (List.mem_append_left _ hp))),T.keep _ _ _ st5 fun b hb' o e=>(I7.pin (b,o) (List.mem_append_right _ (List.mem_append_right _ (dX hb' e)))).1,fun b hb'=>?_,w7,hv,hlen⟩
       obtain⟨o,e,_⟩:=T.obj _ _ st5 b hb'
       exact(I7.pin (b,o) (List.mem_append_right _ (List.mem_append_right _ (dX hb' e)))).2.1
      | true =>
       rw[if_pos rfl] at q7
       unfold vj
       rw[if_pos (show true=true from rfl)]
       have a3:=he _ s7 σ6 H7 _ I7 q7
       rw[Yprog,Yw,YA,Yenv] at a3
       refine wpAny_mono a3 (fun y s8 h8=>?_) fun _ _ z=>noE z
       obtain⟨v,H8,I8,r8,m',hm',w8⟩:=h8
       obtain⟨eD,nD,neL,nfD,dD⟩:=I8.pin (D,_) (List.mem_append_right _ (List.mem_append_left _ List.mem_cons_self))
       dsimp only at eD nD neL nfD dD
       refine append_at (hsz:=by have:=hv.length;simp at this;omega) eD fun h9 hs9 e9=>?_
       have st8:tn (i+1) s8.heap:=T.keep _ _ _ st5 fun b hb' o e=>(I8.pin (b,o) (List.mem_append_right _ (List.mem_append_right _ (dX hb' e)))).1
       have fr8: ∀ b∈fp,H8 b=none:=fun b hb'=>by
        obtain⟨o,e,_⟩:=T.obj _ _ st5 b hb'
        exact(I8.pin (b,o) (List.mem_append_right _ (List.mem_append_right _ (dX hb' e)))).2.1
       have I8':Inv Y [] (σ ++List.replicate vars.length none) H8 s8:=(back I8).iM fun p hp=>nomatch hp
       have I9:=I8'.turned (it:=D) (h':=h9) (t':=s8.toks) (fun b o hb' e=>hs9.extBut b o hb' e) nD neL (.inr (by rw[Ys0,hDe];exact Nat.le_refl _)) (fun x c e=>Nat.ne_of_lt (Ycell x c e)) (fun p hp=>by
        rw[List.append_nil,Ypn] at hp
        exact Nat.ne_of_lt (pnlt p hp))
       refine⟨m',hm',i+1,ys++[v],H8,ay.push y,k+1,I9.iM (fun p hp=>?_),T.keep _ _ _ st8 fun b hb' o e=>hs9.extBut b o (Nat.ne_of_lt (fpD b hb')) e,fr8,w8,?_,?_⟩
       · obtain rfl:=List.mem_singleton.mp hp
         exact⟨e9,nD,neL,nfD,fun v=>by simp⟩
       · rw[Array.toList_push]
         exact Vals.append hv (.cons r8 .nil)
       · rw[List.length_append,List.length_singleton];exact hlt
  · obtain rfl:=List.mem_singleton.mp hp
    refine⟨hacc,I2.bu.fresh (by rw[hDe];exact Nat.le_refl _),?_,Dfs,fun v=>by simp⟩
    rw[Yloc];exact hDC
 exact codeAny_compStart_list loop (T.self _ 0 _ _ _ st1 loop)
end
end L2
end
section
open PySem PySem.W PyProof.Rows
namespace L2
open PySem PySem.Spec PyProof.Rows
section
variable{X:Cx}{scope:Scope}{vars:List Str}{elt tg iter:Expr}{ifs:List Expr}{pos spos py:Pos}{wi:TI}{g:TG}{tt:TT}{te:TE}{i:Nat}{y:Str}
theorem Br(vars:List Str)(hc:X.calm=true)(hx: ∀ v s,¬ X.xe v s)(hkind:scope.kind= .function)(hlc:hU scope.names X.env.scope.names X.N vars=true)(hi:PI X tg iter wi)
  (hb: ∀ cl C s₀ H₀ ex pn,PG (fG X vars scope cl C s₀ H₀ ex pn) tg g/\PF (fG X vars scope cl C s₀ H₀ ex pn) ifs tt/\PE (fG X vars scope cl C s₀ H₀ ex pn) elt te) (hgk:GK X.N.length g)
  (hs: ∀ x,foldedSetIterable iter X.env x=pure x:=by intro _;rfl):PE X (.ListComp elt [⟨tg,iter,ifs,0⟩] scope pos) (NH vars.length wi g tt te):=by
 intro pins s σ H Q I h
 obtain⟨cl,hcl,hc1,hc2⟩:=oG (env:=X.env) (scope:=scope) fun p hp hf=>I.ok.has p.1 ((g7 (X:=X) hlc p hp).2.1 hf)
 rw[eval_ListComp]
 refine wpAny_comprehension_free (use:=none) rfl hs hcl hkind (fun p hp=>(g7 (X:=X) hlc p hp).2.2) ?_
 refine wpAny_mono (hi pins s σ H _ I h) (fun v s1 h1=>wpAny_mono h1 (fun itv s2 h2=>?_) fun _ _ z=>z) fun _ _ z=>z
 obtain⟨it,fp,tn,J,H2,rfl,I2,T,st2,f2,W,⟨m0,w0⟩,turn⟩:=h2
 refine nr (Q:=Q) (RR:=fun acc C=>compPost (model X.prog X.w) X.A X.xe none (EP X pins σ Q) acc C) hc hx hkind hlc hb hgk hc1 hc2 I2 T st2 f2 w0 turn ?_
 intro D C s4 H4 ys m I4 hn nD nC neL hsz hcell hpin q
 refine⟨m,hn,fun h' hs'=>⟨.ref D,_,I4.turned (it:=C) (t':=s4.toks) (fun b o hb e=>hs'.extBut b o hb e) nC neL (.inr hsz) hcell hpin,rfl,q⟩⟩
noncomputable def zO(k i:Nat)(wi:TI)(g:TG)(tt:TT)(te:TE):TS:=fun D σ H=>NH k wi g tt te σ H fun v H1=>D.nx (σ.set i (some v)) H1
theorem Ah(vars:List Str)(i:Nat)(hc:X.calm=true)(hx: ∀ v s,¬ X.xe v s)(hkind:scope.kind= .function)(hlc:hU scope.names X.env.scope.names X.N vars=true)(hN:X.N.Nodup)(hiy:X.N[i]?=some y)(hy:Loc X.env.scope y)
  (hi:PI X tg iter wi)
  (hb: ∀ cl C s₀ H₀ ex pn,PG (fG X vars scope cl C s₀ H₀ ex pn) tg g/\PF (fG X vars scope cl C s₀ H₀ ex pn) ifs tt/\PE (fG X vars scope cl C s₀ H₀ ex pn) elt te) (hgk:GK X.N.length g)
  (hsw:swapsWith (.ListComp elt [⟨tg,iter,ifs,0⟩] scope pos) (some (.Name y py)) spos.line X.env=pure true:=by rfl)
  (hs: ∀ x,foldedSetIterable iter X.env x=pure x:=by intro _;rfl)
  (hf:X.fn y=true\/X.env.scope.names.lookup y=some .local:=by first | exact .inl rfl | exact .inr rfl | assumption) :
  PS X (.Assign [.Name y py] (.ListComp elt [⟨tg,iter,ifs,0⟩] scope pos) spos) (zO vars.length i wi g tt te):=by
 intro pins s σ H Dn I h
 obtain⟨cl,hcl,hc1,hc2⟩:=oG (env:=X.env) (scope:=scope) fun p hp hf=>I.ok.has p.1 ((g7 (X:=X) hlc p hp).2.1 hf)
 rw[exec_Assign_Name_used _ _ _ _ hsw];refine wpAny_bind (wpAny_standAt (wpAny_bind ?_))
 show wpAny _ X.A (do let _ <- comprehension (.ListComp elt [⟨tg,iter,ifs,0⟩] scope pos) scope X.env _ (newList []) false (eval iter X.env) (some (assign (.Name y py) X.env))) _ _ s
 refine wpAny_bind (wpAny_mono (wpAny_comprehension_free (use:=some (assign (.Name y py) X.env)) (Q:=fun _ s'=>SP X pins Dn .next s') rfl hs hcl hkind (fun p hp=>(g7 (X:=X) hlc p hp).2.2) ?_) (fun _ s' hq=>wpAny_pure (wpAny_pure hq)) fun _ _ e=>e)
 refine wpAny_mono (hi pins s σ H _ I h) (fun v s1 h1=>wpAny_mono h1 (fun itv s2 h2=>?_) fun _ _ z=>z) fun _ _ z=>z
 obtain⟨it,fp,tn,J,H2,rfl,I2,T,st2,f2,W,⟨m0,w0⟩,turn⟩:=h2
 refine nr (Q:=fun v H1=>Dn.nx (σ.set i (some v)) H1) (RR:=fun acc C=>compPost (model X.prog X.w) X.A X.xe (some (assign (.Name y py) X.env)) (fun _ s'=>SP X pins Dn .next s') acc C) hc hx hkind hlc hb hgk hc1 hc2 I2 T st2 f2 w0 turn ?_
 intro D C s4 H4 ys m I4 hn nD nC neL hsz hcell hpin q
 show wpAny _ X.A (assign (.Name y py) X.env (.ref D)) _ _ s4
 refine wpAny_assign_Name (qj I4 hN hiy hy (v:= .ref D) rfl (fun s5 I5 ⟨a,hsb,ha⟩=>?_) hf)
 have hCa:C≠a:=by
  rcases ha with z | z
  · rw[z];exact neL
  · exact Ne.symm (hcell _ _ z)
 refine⟨m,hn.sameBut hsb hCa,fun h' hs'=>?_⟩
 exact⟨_,_,I5.turned (it:=C) (t':=s5.toks) (fun b o hb e=>hs'.extBut b o hb e) nC neL (.inr hsz) hcell hpin,q⟩
end
end L2
end
section
open PySem PySem.W PyProof.Rows
namespace L2
open PySem PySem.Spec PyProof.Rows
theorem sO{X:Cx}:bq X (.builtin "isinstance") (fun xs H Q=> ∃ x T t b,xs=[x,.ty T]/\jc X.K H x t/\PySem.W.kitOne X.K t (.type T)=some b/\Q (.bl b) H):=by
 intro pins s σ H xs us Q I r h
 obtain⟨x,T,t,b,rfl,ty,k,q⟩:=h
 obtain⟨u,c,rfl,ru,rc⟩:=vals2 r
 cases(show c=Value.type T from rc)
 exact xW I ru ty k fun tk=>⟨.bl b,H,I.tok tk,rfl,q⟩
theorem bb.get{P:Program}{w:World}{H:Hp}{h:Heap}{a:Addr}{o:HO}(x:bb P w H h a o): ∃ ob,h.get? a=some ob:=by
 induction o with
 | lst xs=>obtain⟨_,ay,n,_,e⟩:=x;exact⟨_,e⟩
 | tup xs=>obtain⟨_,ay,_,ob,e,_⟩:=x;exact⟨_,e⟩
 | dK kvs=>obtain⟨_,_,vs,_,ob,es,ep,e,_⟩:=x;exact⟨_,e⟩
 | dT kvs=>obtain⟨_,_,xs,_,ob,es,ep,e,_⟩:=x;exact⟨_,e⟩
 | set S n=>obtain⟨ob,es,ep,t,e,_⟩:=x;exact⟨_,e⟩
 | ins C dx fs=>obtain⟨_,_,_,e,_⟩:=x;exact⟨_,e⟩
 | own y=>exact x
 | xd fs=>obtain⟨mA,⟨od,es,ep,e,_⟩,_⟩:=x;exact⟨_,e⟩
 | yJ lo hi=>obtain⟨t,u,v,e⟩:=x;exact⟨_,e⟩
 | jy ob u ih=>obtain⟨e,_⟩:=x;exact⟨_,e⟩
 | tbl ps=>exact⟨_,x⟩
 | met f y=>exact⟨_,x⟩
 | ext φ =>obtain⟨_,e,_⟩:=x;exact e
theorem Inv.kP{X:Cx}{pins:List (Addr × Obj)}{σ :St}{H:Hp}{s:Shared}{h':Heap}{a:Addr}{o:HO}{t':Nat}(I:Inv X pins σ H s)(k: ∀ b u,s.heap.get? b=some u->h'.get? b=some u)(hp:s.heap.get? a=none)(new:bb X.prog X.w (upd H a o) h' a o) :
  H a=none/\Inv X pins σ (upd H a o) { s with heap:=h',toks:=t' }:=by
 have hn:H a=none:=by
  cases q:H a with
  | none=>rfl
  | some u =>
   obtain⟨ob,e⟩:=(I.bu a u q).get
   rw[hp] at e;cases e
 have ne: ∀ b u,s.heap.get? b=some u->b≠a:=fun b u e z=>by rw[z,hp] at e;cases e
 refine⟨hn,I.un ⟨fun b u q _ _ _=>k b u q,fun b u q _ _ _=>⟨u.slots,k b u q⟩,fun b u q n _=>?_,fun b u q _=>⟨u,k b u q⟩,fun b xs q=>?_,fun b u xs q=>?_,fun b ps q=>?_⟩ fun b u e=>?_⟩
 · rw[aA (ne b u q)];exact n
 · rw[aA (aB q hn)];exact q
 · rw[aA (aB q hn)];exact q
 · exact⟨#[],by rw[aA (aB q hn),q];simp⟩
 · by_cases hb:b=a
   · subst hb;rw[a8] at e;cases e;exact new
   · rw[aA hb] at e
     exact(I.bu b u e).rJ (fun c v _ q=>k c v q) (fun c q=>by rw[aA (aB q hn)];exact q) fun c xs q=>by rw[aA (aB q hn)];exact q
theorem kU{h h':Heap}(k: ∀ b o,h.get? b=some o->h'.get? b=some o):h.get? h'.objs.size=none:=by
 cases q:h.get? h'.objs.size with
 | none=>rfl
 | some o=>exact absurd (Heap.lt_size (k _ _ q)) (Nat.lt_irrefl _)
section
variable{prog:Program}{w:World}{A:Around}{E:Value->Shared->Prop}{s:Shared}
theorem jO{a:Addr}{vs:List Value}{ss:List Str}{n:Nat}{Q:Value->Shared->Prop}(ho:s.heap.get? a=some (seqObj "list" vs.toArray n))(hS:StrsAre vs ss)(h64:vs.length < 64)
  (h: ∀(out:Array Value)(ss':List Str),StrsAre out.toList ss'->ss'.Perm ss->sortedS ss'=true->Q .none { s with heap:=sortedHeap s.heap a vs out }) :
  wpAny (model prog w) A (call (.builtin "list.sort") [.ref a]) Q E s:=by
 refine wpAny_call_entry PyProof.Rows.slot_list_sort ⟨_,ho,rfl⟩ PyProof.Rows.entry_list_sort (list_sort_treeK strKind_oneLt ho hS.keysOf (fun v₁ v₂ rest e=>keyKind_strs (by rw[<- e];exact hS)) h64 fun st' hp hs=>⟨_,rfl,?_⟩) (PyProof.Rows.args_list_sort _)
 have z:=sorted_out_str hS hp hs
 exact h _ z.choose z.choose_spec.1 z.choose_spec.2.1 z.choose_spec.2.2
theorem vy{T:String}{r d:Addr}{n:Nat}{P:Nat->Value->Prop}{OK:Heap->Prop}{Q:Value->Shared->Prop}(K:PySem.W.KdlSrc prog w T r d n P OK)(hh:A.handled=none)(bu:OK s.heap)(hn:n<=sizeLine)
  (h: ∀(D:Addr)(h':Heap)(tk:Nat)(vs:List Value),(∀ b o,s.heap.get? b=some o->h'.get? b=some o)->h'.get? D=some (seqObj "list" vs.toArray 0)->s.heap.get? D=none->vs.length=n->(∀(j:Nat)(v:Value),vs[j]?=some v->P j v) ->
   wpAny (model prog w) A.in1 (call (.builtin "list.sort") [.ref D]) (fun _ z=>Q (.ref D) z) E { s with heap:=h',toks:=tk }):wpAny (model prog w) A (call (.builtin "sorted") [.ref r]) Q E s:=by
 refine Calls.call_function_entry kind_sorted plain_sorted entry_sorted (args_sorted1 (.ref r)) ?_
 unfold Builtin.«sorted»
 refine wpAny_bind (m:=checkCount "sorted" 1 1 [Value.ref r].length) (wpAny_pure (wpAny_bind (PySem.W.kdu_collect (A:=A.in1) K hh bu hn fun h' tk acc hk hacc=>?_)))
 have many:acc.toList.length=n:=Array.length_toList.trans hacc.1
 refine wpAny_bind (wpAny_newList (wpAny_bind (wpAny_holding (wpAny_mono (h h'.objs.size (h'.push { cls:= .type "list",data:= .seq acc.toList.toArray }) tk acc.toList (fun b o e=>Heap.get?_push_of_some _ (hk b o e)) (Heap.get?_push_size _ rfl) (kU hk) many
  fun j v e=>hacc.2 j v (Array.getElem?_toList ▸ e)) (fun _ z q=>wpAny_pure (Exists.intro _ (And.intro rfl q))) fun _ _ e=>e))) (many ▸ hn))
end
theorem jE{ss:List Str}: ∀{us:List Value},Vals (ss.map V.str) us->StrsAre us ss:=by
 induction ss with
 | nil=>intro us h;cases h;exact .nil
 | cons x r ih =>
  intro us h
  cases h with
  | cons hx ht =>
   obtain⟨t,rfl⟩:=hx
   exact .cons x t (ih ht)
theorem iJ: ∀{us:List Value}{ss:List Str},StrsAre us ss->Vals (ss.map V.str) us
 | _,_,.nil=> .nil
 | _,_,.cons x t h=> .cons ⟨t,rfl⟩ (iJ h)
theorem wo{P:Nat->Value->Prop}: ∀{ss:List Str}{vs:List Value},vs.length=ss.length->(∀(j:Nat)(v:Value)(x:Str),vs[j]?=some v->ss[j]?=some x-> ∃ t,v=Value.str x t)->StrsAre vs ss
 | [],[],_,_=> .nil
 | x::r,v::vs,hl,h=>by
  obtain⟨t,rfl⟩:=h 0 v x rfl rfl
  exact .cons x t (wo (P:=P) (by simpa using hl) fun j v y e1 e2=>h (j+1) v y (by simpa using e1) (by simpa using e2))
section
variable{X:Cx}
theorem lK:bq X (.builtin "sorted") (fun xs H Q=> ∃ p ss,xs=[.ref p]/\gA X.K H p (ss.map V.str)/\ss.length < 64/\ ∀ l ss',H l=none->ss'.Perm ss->sortedS ss'=true->Q (.ref l) (upd H l (.lst (ss'.map V.str)))):=by
 intro pins s σ H xs us Q I r h
 obtain⟨p,ss,rfl,hS,h64,q⟩:=h
 obtain⟨u,rfl,ru⟩:=vals1 r
 cases(show u=Value.ref p from ru)
 obtain⟨ay,hv,hl,hz⟩:=I.list hS
 have sa:=jE hv
 refine sorted_strs hl.isList sa (by rw[sa.length];exact h64) fun out ss' a1 a2 a3=>?_
 obtain⟨e,he⟩:=sortedAll_at s.heap ay out
 have hlen:(ss'.map V.str).length<=sizeLine:=by rw[List.length_map,a2.length_eq];exact Nat.le_of_lt (Nat.lt_of_lt_of_le h64 (by decide))
 obtain⟨hn,I'⟩:=I.kP (a:=s.heap.objs.size+1) (o:= .lst (ss'.map V.str)) (t':=s.toks) (fun b o e=>sortedAll_old e) (Heap.get?_none_of_le (Nat.le_succ _)) ⟨hlen,out.toList,e,iJ a1,by simpa [seqObj] using he⟩
 exact⟨.ref _,_,I',rfl,q _ ss' hn a2 a3⟩
theorem lH(hc:X.calm=true):bq X (.builtin "sorted") (fun xs H Q=> ∃ d kvs ss,xs=[.ref d]/\H d=some (.dK kvs)/\kvs.map (·.1)=ss.map Sum.inr/\ss.length < 64/\ ∀ l ss',H l=none->ss'.Perm ss->sortedS ss'=true->Q (.ref l) (upd H l (.lst (ss'.map V.str)))):=by
 intro pins s σ H xs us Q I r h
 obtain⟨d,kvs,ss,rfl,hd,hk,h64,q⟩:=h
 obtain⟨u,rfl,ru⟩:=vals1 r
 cases(show u=Value.ref d from ru)
 obtain⟨z,lo,vs,rel,dd⟩:=og I.bu hd
 obtain⟨ep,da⟩:=dd.dictAt
 have hlen:vs.length=ss.length:=by
  have e1:=rel.length
  have e2:(kvs.map (·.1)).length=(ss.map (Sum.inr (α :=Int))).length:=by rw[hk]
  rw[List.length_map,List.length_map] at e2
  omega
 refine vy (PySem.W.kdl_dict (knd:=aJ X.prog X.w) (kvs:=vs) (ep:=ep) lo) (I.ok.hd hc) da (by rw[hlen];exact Nat.le_of_lt (Nat.lt_of_lt_of_le h64 (by decide))) fun D h' tk ws keep hD hDn hl hP=>?_
 have sa:StrsAre ws ss:=by
  refine wo (P:=fun _ _=>True) (by rw[hl,hlen]) fun j v x e1 e2=>?_
  obtain⟨k,y,e3,hk'⟩:=hP j v e1
  have e4:(kvs.map (·.1))[j]?=some k:=by
   have e5:=rel.keys
   rw[e5,List.getElem?_map,e3];rfl
  rw[hk,List.getElem?_map,e2] at e4
  have e6:(Sum.inr x:Key)=k:=Option.some.inj e4
  subst e6
  rcases bK (show nI (Sum.inr x) v=true from hk') with⟨i,t,z,_⟩ | ⟨x',t,z,e⟩
  · cases z
  · cases z;exact⟨t,e⟩
 refine jO (n:=0) hD sa (by rw[hl,hlen];exact h64) fun out ss' a1 a2 a3=>?_
 obtain⟨e,he⟩:=sortedHeap_at (out:=out) hD
 have hle:(ss'.map V.str).length<=sizeLine:=by rw[List.length_map,a2.length_eq];exact Nat.le_of_lt (Nat.lt_of_lt_of_le h64 (by decide))
 have keep': ∀ b o,s.heap.get? b=some o->(sortedHeap h' D ws out).get? b=some o:=fun b o e=>by
  rw[sortedHeap_old (fun z=>by rw[z,hDn] at e;cases e) (Heap.lt_size (keep b o e))];exact keep b o e
 obtain⟨hn,I'⟩:=I.kP (a:=D) (o:= .lst (ss'.map V.str)) (t':=tk) keep' hDn ⟨hle,out.toList,e,iJ a1,by simpa [seqObj] using he⟩
 exact⟨.ref _,_,I',rfl,q _ ss' hn a2 a3⟩
end
end L2
end
section
open PySem PySem.W PyProof.Rows
namespace L2
open PySem PySem.Spec PyProof.Rows
section
variable{prog:Program}{w:World}{A:Around}{E:Value->Shared->Prop}{s:Shared}
theorem pF:typeLookup (.type "tuple") "keys" =pure none:=am_miss_of_fast (by decide +kernel)
set_option maxHeartbeats 4500000 in
set_option maxRecDepth 9000 in
theorem oZ{a:Addr}{o:Obj}{xs:Array Value}{k:Nat}{Q:Option Value->Shared->Prop}
  (hx:s.heap.get? a=some o) (hc:o.cls= .type "tuple") (hdat:o.data= .seq xs k) (hd:o.dict=none) (hA:A.handled=none)
  (h: ∀ h' tk,(∀ b o,s.heap.get? b=some o->h'.get? b=some o)->Q none { s with heap:=h',toks:=tk }):wpAny (model prog w) A (getAttr? (.ref a) "keys") Q E s:=by
 obtain⟨c,dct,dat,sl⟩:=o
 simp only at hc hdat hd
 subst hc hdat hd
 obtain⟨h0,gs,dr,t0,o0⟩:=s
 have hT: ∀ k,(Shared.mk h0 gs dr k o0).TypeIs (.ref a) "tuple" :=fun _=>Exists.intro _ (And.intro hx rfl)
 have f1:=sub_AttributeError;have f3:=F.slot_tuple_getattribute.lookup;have f4:=F.slot_tuple_getattribute.bind (.ref a);have f5:=am_tuple_getattr_none
 unfold getAttr?;unfold getAttrBy?;unfold getAttrBy
 repeat (any_goals (first | assumption | exact hT _ | ((with_reducible show wpAny _ _ (call (Value.builtin "tuple.__getattribute__") _ _) _ _ _);refine call_meets F.slot_tuple_getattribute (hT _) am_entry_tuple_getattribute (F.args_tuple_getattribute_2 _ _) (meets_getattribute_miss_tuple a xs k sl "keys" _ pF (by decide +kernel)) ⟨hx,hA,fun h' tk' e hx'=>?_⟩) | wp_step))
 obtain⟨_,_,he⟩:=hx'.there
 with_reducible_and_instances unfold getattributeRaised
 repeat (any_goals (first | exact he | assumption | wp_step))
 exact h _ _ fun b o e=>hx'.keeps b o e
end
end L2
end
section
open PySem PySem.W PyProof.Rows
namespace L2
open PySem PySem.Spec PyProof.Rows
section
variable{prog:Program}{w:World}{A:Around}{E:Value->Shared->Prop}{s:Shared}
theorem fX:entryFor table "dict.update.loop" =some Builtin.«dict.update.loop» :=entryFor_of_tree (by kernel_rfl)
theorem cF:plainId "dict.update.loop" =true:=by decide +kernel
theorem NV{c:Prop}[Decidable c]{m m':Sem α}{M:Model}{Q: α ->Shared->Prop}(hc:c)(h:wpAny M A m Q E s):wpAny M A (if c then m else m') Q E s:=by rw[if_pos hc];exact h
noncomputable def lb(prog:Program)(w:World)(h:Heap)(v:Value)(kv:Key × Value):Prop:= ∃ b o kx n,v= .ref b/\h.get? b=some o/\o.cls= .type "tuple" /\o.data= .seq #[kx,kv.2] n/\(aJ prog w).is kv.1 kx=true
theorem lb.keeps{h h':Heap}{v:Value}{kv:Key × Value}(x:lb prog w h v kv)(k: ∀ b o,h.get? b=some o->o.cls= .type "tuple" ->h'.get? b=some o):lb prog w h' v kv :=
 let ⟨b,o,kx,n,e,g,c,d,r⟩:=x;⟨b,o,kx,n,e,k b o g c,c,d,r⟩
theorem tu{R:Result->Shared->Prop}{it tp d:Addr}{items:Array Value}{kvs:List (Key × Value)}{res:Value}(hh:A.handled=none)(hne:tp≠it)(hdi:d≠it)(hdt:d≠tp)(hl:kvs.length=items.size)(hz:items.size < sizeLine) :
  ∀(k i:Nat)(ii:Int)(s:Shared)(acc:List (Key × Value)),items.size - i=k->i<=items.size->acc.length<=i->s.heap.IsTupleIter it tp i->s.heap.IsTuple tp items->s.heap.DictOf (aJ prog w) d acc->(∃ od,s.heap.get? d=some od/\od.cls= .type "dict")->(∃ oi,s.heap.get? it=some oi/\oi.cls= .type "tuple_iterator") ->
   (∀(j:Nat)(v:Value)(kv:Key × Value),items[j]?=some v->kvs[j]?=some kv->lb prog w s.heap v kv) ->
   (∀ s' ,s'.heap.DictOf (aJ prog w) d (merged acc (kvs.drop i))->(∃ h' tk,s'={ s with heap:=h',toks:=tk })->(∀ b o,b≠d->b≠it->s.heap.get? b=some o->s'.heap.get? b=some o)->R (.ok (.ret res)) s') ->
   codeAny (model prog w) A (.builtin "dict.update.loop" ⟨[.ref d,.ref it,.int ii 0,res],[]⟩) R s:=by
 have W:=Walks.tuple (prog:=prog) (w:=w) (A:=A.in1) hh it tp hne items
 intro k
 induction k with
 | zero =>
  intro i ii s acc hk hi hac hit htp hd hdc hic hP hR
  obtain rfl:i=items.size:=Nat.le_antisymm hi (by omega)
  refine codeAny_builtin fX ?_
  rw[Around.under_plainId cF _]
  show wpAny _ A.in1 (pyNext (.ref it) >>= _) _ _ s
  refine wpAny_bind (W.done s _ _ ⟨hit,htp⟩ fun h' tk keep=>?_)
  refine wpAny_bind (m:=Builtin.Dict.addKeywords d []) (wpAny_pure ?_)
  refine wpAny_pure (hR _ ?_ ⟨h',tk,rfl⟩ fun b o _ hb e=>keep b o (by simpa using hb) e)
  rw[List.drop_eq_nil_of_le (by omega)]
  exact hd.at fun o e=>keep d o (by simpa using hdi) e
 | succ k ih =>
  intro i ii s acc hk hi hac hit htp hd hdc hic hP hR
  have hlt:i < items.size:=Nat.lt_of_le_of_ne hi (by omega)
  refine codeAny_builtin fX ?_
  rw[Around.under_plainId cF _]
  show wpAny _ A.in1 (pyNext (.ref it) >>= _) _ _ s
  refine wpAny_bind (W.item i s _ _ hlt ⟨hit,htp⟩ fun v h' tk hv hst keep=>?_)
  have hkv:i < kvs.length:=by omega
  obtain⟨b,o,kx,n,rfl,hb,hc,hdat,his⟩:=hP i v kvs[i] hv (by simp[hkv])
  have hbi:b≠it:=fun z=>by
   obtain⟨oi,e1,e2⟩:=hic
   rw[z,e1] at hb;cases hb;rw[e2] at hc;exact absurd hc (by decide)
  have hb':h'.get? b=some o:=keep b o (by simpa using hbi) hb
  have hT:(({ s with heap:=h',toks:=tk }:Shared)).TypeIs (.ref b) "tuple" :=⟨o,hb',hc⟩
  have hd':h'.DictOf (aJ prog w) d acc:=hd.at fun o e=>keep d o (by simpa using hdi) e
  dsimp only
  refine wpAny_bind (wpAny_holding (wpAny_bind (wpAny_tryCatch ?_)))
  unfold Builtin.Dict.pairItems
  refine wpAny_bind (wpAny_typeOf hT (NV (by decide) (wpAny_bind (wpAny_seqItems hb' hdat (wpAny_pure ?_)))))
  show wpAny _ _ (holding [kx,kvs[i].2] (dictSet d kx kvs[i].2)) _ _ _
  refine wpAny_holding (wpAny_dictSet_pairs (hsz:=by omega) his hd' fun h'' dd hs=>?_)
  obtain⟨od,hod,hodc⟩:=hdc
  have hbd:b≠d:=fun z=>by rw[z,hod] at hb;cases hb;rw[hodc] at hc;exact absurd hc (by decide)
  have keep2: ∀ b o,b≠d->b≠it->s.heap.get? b=some o->h''.get? b=some o:=fun b o h1 h2 e=>(hs.2 b h1).trans (keep b o (by simpa using h2) e)
  refine wpAny_pure ⟨plainId_quiet cF _,?_⟩
  refine ih (i+1) (ii+1) _ (stored acc kvs[i].1 kvs[i].2) (by omega) hlt (Nat.le_trans (stored_length_le _ _ _) (by omega)) (hst.1.at fun o e=>(hs.2 it (Ne.symm hdi)).trans e) (htp.at fun o e=>keep2 tp o (Ne.symm hdt) hne e) dd ?_ ?_ ?_ ?_
  · obtain⟨q,es,ep,e1,e2,_⟩:=dd
    exact⟨q,e1,e2.1⟩
  · obtain⟨oi,e1,e2,_⟩:=hst.1
    exact⟨oi,(hs.2 it (Ne.symm hdi)).trans e1,e2⟩
  · intro j v kv e1 e2
    refine(hP j v kv e1 e2).keeps fun b' o' e3 e4=>keep2 b' o' (fun z=>?_) (fun z=>?_) e3
    · rw[z,hod] at e3;cases e3;rw[hodc] at e4;exact absurd e4 (by decide)
    · obtain⟨oi,f1,f2⟩:=hic
      rw[z,f1] at e3;cases e3;rw[f2] at e4;exact absurd e4 (by decide)
  · rintro s' dd' ⟨h3,tk3,rfl⟩ keep3
    refine hR _ ?_ ⟨h3,tk3,rfl⟩ fun b o h1 h2 e=>keep3 b o h1 h2 (keep2 b o h1 h2 e)
    have e:kvs.drop i=kvs[i]::kvs.drop (i+1):=List.drop_eq_getElem_cons hkv
    rw[e]
    exact dd'
theorem pq{p:Addr}{o:Obj}{items:Array Value}{n:Nat}{kvs:List (Key × Value)}{Q:Value->Shared->Prop}(hh:A.handled=none)(hb:sysModules < s.heap.objs.size)(hp:s.heap.get? p=some o)(hc:o.cls= .type "tuple")(hdt:o.data= .seq items n)(hdn:o.dict=none)
  (hl:kvs.length=items.size) (hz:items.size < sizeLine) (hP: ∀(j:Nat)(v:Value)(kv:Key × Value),items[j]?=some v->kvs[j]?=some kv->lb prog w s.heap v kv)
  (h: ∀ h' tk,h'.DictOf (aJ prog w) s.heap.objs.size (merged [] kvs)->(∀ b o,s.heap.get? b=some o->h'.get? b=some o)->Q (.ref s.heap.objs.size) { s with heap:=h',toks:=tk }) :
  wpAny (model prog w) A (call (.type "dict") [.ref p]) Q E s:=by
 refine callType_codes (Q₁ :=fun z u=>z= .ref s.heap.objs.size/\u={ s with heap:=s.heap.push { cls:= .type "dict",data:= .dict #[] } }) F.kt_called_dict (F.kt_typeCall_dict_1 _) F.entry_dict_init (kt_code_dict_new _ ⟨rfl,rfl⟩) ?_
 rintro obj s₁ ⟨rfl,rfl⟩
 have up: ∀ b o,s.heap.get? b=some o->(s.heap.push { cls:= .type "dict",data:= .dict #[] }).get? b=some o:=fun b o e=>Heap.get?_push_of_some _ e
 have hnew:(s.heap.push { cls:= .type "dict",data:= .dict #[] }).DictOf (aJ prog w) s.heap.objs.size []:=Heap.DictOf.new s.heap
 have hp1:=up _ _ hp
 refine⟨hnew.typeIs,F.args_dict_init_2 (.ref s.heap.objs.size) (.ref p),?_⟩
 with_unfolding_all refine wpAny_bind (m:=Builtin.Dict.selfAndRest _ _) (wpAny_bind (wpAny_notOrdered_dict hnew.typeIs (wpAny_pure ?_)))
 show wpAny _ _ (Builtin.Dict.updateFrom "dict.__init__" s.heap.objs.size (.ref p) [] .none) _ _ _
 unfold Builtin.Dict.updateFrom;refine wpAny_bind (wpAny_typeOf (T:= "tuple") ⟨o,hp1,hc⟩ ?_)
 rw[if_pos (by decide)]
 refine wpAny_bind (oZ hp1 hc hdt hdn hh fun h1 tk1 k1=>?_)
 simp only[Option.isNone_none,if_true]
 refine wpAny_bind (wpAny_rule ?_)
 have htp1:h1.IsTuple p items:=⟨o,k1 _ _ hp1,hc,n,hdt⟩
 refine wpAny_bind (wpAny_pyIter_tuple htp1 ?_)
 have up2: ∀ b o,h1.get? b=some o->(h1.push { cls:= .type "tuple_iterator",data:= .fields #[.ref p,.int 0 0] }).get? b=some o:=fun b o e=>Heap.get?_push_of_some _ e
 have hd1:h1.get? s.heap.objs.size=some { cls:= .type "dict",data:= .dict #[] }:=k1 _ _ (Heap.get?_push_size _ rfl)
 have hpl:p < h1.objs.size:=Heap.lt_size (k1 _ _ hp1)
 have hdl:s.heap.objs.size < h1.objs.size:=Heap.lt_size hd1
 have hps:p < s.heap.objs.size:=Heap.lt_size hp
 refine wpAny_pure ⟨plainId_quiet cF _,?_⟩
 refine tu (A:=A.in1) (it:=h1.objs.size) (tp:=p) (kvs:=kvs) hh (Nat.ne_of_lt hpl) (Nat.ne_of_lt hdl) (Nat.ne_of_gt hps) hl hz items.size 0 0 _ [] rfl (Nat.zero_le _) (Nat.le_refl _) ⟨_,Heap.get?_push_size _ rfl,rfl,rfl⟩ (htp1.push _) ?_ ⟨_,up2 _ _ hd1,rfl⟩ ⟨_,Heap.get?_push_size _ rfl,rfl⟩ ?_ ?_
 · exact(hnew.at fun o e=>up2 _ o (k1 _ o e))
 · exact fun j v kv e1 e2=>(hP j v kv e1 e2).keeps fun b o e _=>up2 b o (k1 b o (up b o e))
 · rintro s' dd ⟨h3,tk3,rfl⟩ keep3
   refine⟨rfl,h h3 tk3 (by simpa using dd) fun b o e=>keep3 b o (Nat.ne_of_lt (Heap.lt_size e)) (Nat.ne_of_lt (Heap.lt_size (k1 _ _ (up _ _ e)))) (up2 _ _ (k1 _ _ (up _ _ e)))⟩
end
section
variable{X:Cx}
noncomputable def pV(H:Hp)(y:V)(kv:Key × V):Prop:= ∃ b,y= .ref b/\H b=some (.tup [kV kv.1,kv.2])
theorem qf{P:Program}{w:World}{H:Hp}{h:Heap}(ok:jm P w H h): ∀{ys:List V}{kvs:List (Key × V)}{ay:List Value},Paired (pV H) ys kvs->Vals ys ay-> ∃ vs:List (Key × Value),KV kvs vs/\vs.length=ay.length /\
  ∀(j:Nat)(v:Value)(kv:Key × Value),ay[j]?=some v->vs[j]?=some kv->lb P w h v kv
 | _,_,_,.nil,.nil=>⟨[],.nil,rfl,fun j v kv e=>by simp at e⟩
 | _,_,_,.cons (b:=kv0) hp hr,.cons hv hrv=>by
  obtain⟨vs,h1,h2,h3⟩:=qf ok hr hrv
  obtain⟨b,rfl,hb⟩:=hp
  obtain⟨_,its0,r0,o,e1,e2,n,e3,_⟩:=(show bb P w H h b (.tup [kV kv0.1,kv0.2]) from ok b _ hb)
  obtain⟨u1,u2,rfl,r1,r2⟩:=vals2 r0
  cases(show _=Value.ref b from hv)
  refine⟨(kv0.1,u2)::vs,.cons ⟨rfl,r2⟩ h1,by simp[h2],fun j v kv f1 f2=>?_⟩
  cases j with
  | zero =>
   simp only[List.getElem?_cons_zero,Option.some.injEq] at f1 f2
   subst f1 f2
   exact⟨b,o,u1,n,rfl,e1,e2,e3,kf r1⟩
  | succ j=>exact h3 j v kv (by simpa using f1) (by simpa using f2)
theorem KV.uh{kvs:List (Key × V)}{vs:List (Key × Value)}(r:KV kvs vs):KV (cE [] kvs) (merged [] vs):=KV.merge r .nil
theorem mn(hc:X.calm=true):bq X (.type "dict") (fun xs H Q=> ∃ p ys kvs,xs=[.ref p]/\H p=some (.tup ys)/\Paired (pV H) ys kvs/\ys.length < sizeLine/\ ∀ d,H d=none->Q (.ref d) (upd H d (.dK (cE [] kvs)))):=by
 intro pins s σ H xs us Q I r h
 obtain⟨p,ys,kvs,rfl,hp,hP,hz,q⟩:=h
 obtain⟨u,rfl,ru⟩:=vals1 r
 cases(show u=Value.ref p from ru)
 obtain⟨_,ay,r0,o,e1,e2,n,e3,e4⟩:=(show bb X.prog X.w H s.heap p (.tup ys) from I.bu p _ hp)
 obtain⟨vs,h1,h2,h3⟩:=qf I.bu hP r0
 have hlen:=r0.length
 have hk:=Paired.length hP
 refine pq (kvs:=vs) (I.ok.hd hc) I.big e1 e2 e3 e4 (by simpa using h2) (by simp;omega) (fun j v kv f1 f2=>h3 j v kv (by simpa using f1) f2) fun h' tk dd keep=>?_
 have hle:(cE [] kvs).length<=sizeLine:=by have:=cY kvs [];simp at this;omega
 obtain⟨hn,I'⟩:=I.kP (a:=s.heap.objs.size) (o:= .dK (cE [] kvs)) (t':=tk) keep (Heap.get?_none_of_le (Nat.le_refl _)) (mV hle (beq_eq_false_iff_ne.mpr (Ne.symm (Nat.ne_of_lt I.big))) (KV.uh h1) dd)
 exact⟨.ref _,_,I',rfl,q _ hn⟩
end
end L2
end
section
open PySem PySem.W PyProof.Rows
namespace L2
open PySem PySem.Spec PyProof.Rows
noncomputable def hX(P:Program)(w:World)(K:PySem.W.Frag)(mg:Str->Option Value)(base:Heap)(x:Str)(k:Nat)(ps:List Str)(sp:Sp):Prop :=
 ∃(f:Addr)(fd:FuncData),iD P w K mg base si k f fd ps sp/\mg x=some (.ref f)/\PySem.W.keepIn K (.ref f)=true/\Binds K fd ps []/\ ∀ us:List Value,us.length=ps.length->bindArgs fd ⟨us,[]⟩=pure (ps.zip us)
theorem yz.args{K:PySem.W.Frag}{x qual:Str}{st:Stmt}{f:Addr}{fd:FuncData}{ps:List Str}(F:yz K x qual st f fd)
  (h: ∀(kV doc pm:Value)(an:Option Addr)(cdv ct:Value)(us:List Value),us.length=ps.length->bindArgs (PySem.W.fnOf x qual (cO st) (bx st) (ai st) .none kV doc pm an cdv ct) ⟨us,[]⟩=pure (ps.zip us)): ∀ us:List Value,us.length=ps.length->bindArgs fd ⟨us,[]⟩=pure (ps.zip us):=by
 obtain⟨oc,od,kV,doc,pm,an,cdv,ct,osl,rfl,lk,hcd⟩:=F.ex
 exact h kV doc pm an cdv ct
noncomputable def At(K:PySem.W.Frag)(mg:Str->Option Value)(x:Str)(st:Stmt):Prop:= ∃(f:Addr)(fd:FuncData),yz K x x st f fd/\mg x=some (.ref f)
section
variable{P:Program}{w:World}{K:PySem.W.Frag}{mg:Str->Option Value}{base:Heap}
theorem hX.mono{x:Str}{j k:Nat}{ps:List Str}{sp:Sp}(d:hX P w K mg base x j ps sp)(h:j<=k):hX P w K mg base x k ps sp:=let ⟨f,fd,F,r⟩:=d;⟨f,fd,F.mono h,r⟩
theorem At.ok{x:Str}{st:Stmt}{N ps:List Str}{k:Nat}{sp:Sp}(a:At K mg x st)(S:au N ps (ai st))
  (hb: ∀(kV doc pm:Value)(an:Option Addr)(cdv ct:Value)(us:List Value),us.length=ps.length->bindArgs (PySem.W.fnOf x x (cO st) (bx st) (ai st) .none kV doc pm an cdv ct) ⟨us,[]⟩=pure (ps.zip us))
  (len: ∀ vs H Q E,sp vs H Q E->vs.length=ps.length)
  (hbody: ∀(f:Addr)(cdv:Value)(A:Around)(outer:List Env)(s:Shared)(H:Hp)(vs:List V)(Q:VK)(E:XK),dz k (A.deeper (envOfC x (ai st) s.heap.objs.size f cdv))->sp vs H Q E ->
   ∃ t,vU (jG si P w K mg base N x (ai st) f cdv A outer s H E).pL (bx st) t/\t { nx:=fun _ H'=>Q .non H',rt:=Q } (start N vs) H):hX P w K mg base x (k+1) ps sp:=by
 obtain⟨f,fd,F,hm⟩:=a
 exact⟨f,fd,F.ok S len fun cdv A outer s H vs Q E=>hbody f cdv A outer s H vs Q E,hm,F.kp,F.binds hb,F.args hb⟩
theorem At.yn{x:Str}{st:Stmt}{ps:List Str}{sp:Sp}(a:At K mg x st)(hb: ∀(kV doc pm:Value)(an:Option Addr)(cdv ct:Value)(us:List Value),us.length=ps.length->bindArgs (PySem.W.fnOf x x (cO st) (bx st) (ai st) .none kV doc pm an cdv ct) ⟨us,[]⟩=pure (ps.zip us))
  (no: ∀ vs H Q E,¬ sp vs H Q E):hX P w K mg base x 0 ps sp:=by
 obtain⟨f,fd,F,hm⟩:=a
 exact⟨f,fd,⟨fun vs H Q E h=>absurd h (no vs H Q E),fun A outer s H args us vs Q E _ _ _ _ h=>absurd h (no vs H Q E)⟩,hm,F.kp,F.binds hb,F.args hb⟩
end
section
variable{X:Cx}{x:Str}{k j:Nat}{ps:List Str}{sp:Sp}{e:Expr}{es:List Expr}{t:TA}{p pos:Pos}
theorem OH(D:hX X.prog X.w X.K X.mg X.base x j ps sp)(hr:dz k X.A)(hg:Gl X x)(hj:j<=k)(ha:PA X (e::es) t)(hdb:(x == ("__debug__" :Str))=false:=by decide)
  (he:starEach (e::es) X.env=(false,eval e X.env)::starEach es X.env:=by rfl) (hpl:(backTo pos (starEach es X.env)).any (·.1)=false:=by rfl):PE X (.Call (.Name x p) (e::es) [] pos) (wN sp [] E0 t):=by
 obtain⟨f,fd,F,hm,kp,bd,_⟩:=D
 exact Fe F (hr.mono hj) hg hm kp bd .nil LC ha hdb he hpl
end
theorem bg{K:PySem.W.Frag}{mg:Str->Option Value}{h:Heap}{x:Str}{st:Stmt}{f:Addr}{oc:Value}{od an:Option Addr}{osl:Array (Option Value)}{kV doc pm cdv ct:Value}(X:K.In h)(G:h.Ns mainGlobals mg)
  (a:PySem.W.nsIn K mainGlobals x=some (some (.ref f))) (l:K.lookup f=some ⟨oc,od,.func (PySem.W.fnOf x x (cO st) (bx st) (ai st) .none kV doc pm an cdv ct),osl⟩) (c:PySem.W.codeIn K cdv x=true) (k:PySem.W.keepIn K (.ref f)=true):At K mg x st :=
 ⟨f,_,KH l c k,PySem.W.mg_of X G a⟩
structure Bl(mg:Str->Option Value):Prop where
 len:mg "len" =none
 range:mg "range" =none
 isinstance:mg "isinstance" =none
 int:mg "int" =none
 bool:mg "bool" =none
 tuple:mg "tuple" =none
 dict:mg "dict" =none
 sorted:mg "sorted" =none
 min:mg "min" =none
 max:mg "max" =none
 abs:mg "abs" =none
noncomputable def Kp(a:Addr)(H H':Hp):Prop:= ∀ b o,b≠a->H b=some o->H' b=some o
theorem Kp.refl(a:Addr)(H:Hp):Kp a H H:=fun _ _ _ h=>h
theorem Kp.trans{a:Addr}{H H1 H2:Hp}(x:Kp a H H1)(y:Kp a H1 H2):Kp a H H2:=fun b o n h=>y b o n (x b o n h)
theorem jb.kp{a:Addr}{H H':Hp}(x:jb H H'):Kp a H H':=fun b o _ h=>x b o h
theorem Kp.st{a:Addr}{H:Hp}{o:HO}:Kp a H (upd H a o):=fun b u n q=>by rw[aA n];exact q
theorem Kp.lst{a b:Addr}{H H':Hp}{K:PySem.W.Frag}{xs:List V}{kvs:List (Key × V)}(x:Kp a H H')(ha:H a=some (.dK kvs))(h:gA K H b xs):gA K H' b xs:=by
 rcases h with(h | ⟨o,h⟩) | h
 · exact .inl (.inl (x _ _ (qx h ha (by intro z;cases z)) h))
 · exact .inl (.inr ⟨o,x _ _ (qx h ha (by intro z;cases z)) h⟩)
 · exact .inr h
theorem Kp.tup{a b:Addr}{H H':Hp}{xs:List V}{kvs:List (Key × V)}(x:Kp a H H')(ha:H a=some (.dK kvs))(h:H b=some (.tup xs)):H' b=some (.tup xs):=x _ _ (qx h ha (by intro z;cases z)) h
end L2
end
section
open PySem PySem.W PyProof.Rows
namespace L2
open PySem PySem.Spec PyProof.Rows
class F3 (t:TE):Prop where
 m: ∀ σ H Q Q',(∀ x H1,Q x H1->Q' x H1)->t σ H Q->t σ H Q'
class FP (t:TT):Prop where
 m: ∀ σ H Q Q',(∀ x H1,Q x H1->Q' x H1)->t σ H Q->t σ H Q'
class Pg (t:TA):Prop where
 m: ∀ σ H Q Q',(∀ x H1,Q x H1->Q' x H1)->t σ H Q->t σ H Q'
class Pw (t:TO):Prop where
 m: ∀ σ H Q Q',(∀ x H1,Q x H1->Q' x H1)->t σ H Q->t σ H Q'
class Pj (t:TI):Prop where
 m: ∀ σ H Q Q',(∀ x H1,Q x H1->Q' x H1)->t σ H Q->t σ H Q'
class O1 (r:R2):Prop where
 m: ∀ x y H Q Q',(∀ x H1,Q x H1->Q' x H1)->r x y H Q->r x y H Q'
class Pn (r:V->Hp->VK->Prop):Prop where
 m: ∀ x H Q Q',(∀ x H1,Q x H1->Q' x H1)->r x H Q->r x H Q'
class O5 (r:List V->Hp->VK->Prop):Prop where
 m: ∀ x H Q Q',(∀ x H1,Q x H1->Q' x H1)->r x H Q->r x H Q'
class O6 (r:V->List V->Hp->VK->Prop):Prop where
 m: ∀ x xs H Q Q',(∀ x H1,Q x H1->Q' x H1)->r x xs H Q->r x xs H Q'
class Pf (r:V->Option Int->Option Int->Hp->VK->Prop):Prop where
 m: ∀ x l u H Q Q',(∀ x H1,Q x H1->Q' x H1)->r x l u H Q->r x l u H Q'
class Od (sp:Sp):Prop where
 m: ∀ vs H Q Q' E,(∀ x H1,Q x H1->Q' x H1)->sp vs H Q E->sp vs H Q' E
section
variable{X:Cx}
noncomputable def Nq(K:PySem.W.Frag):List V->Hp->VK->Prop:=fun xs H Q=> ∃ p ys,xs=[.ref p]/\(gA K H p ys\/eY K H p ys)/\Q (.int ys.length) H
noncomputable def LL:List V->Hp->VK->Prop:=fun xs H Q=> ∃ z,xs=[.str z]/\z.length<=sizeLine/\Q (.int z.length) H
theorem Fi:bq X (.builtin "len") (fun xs H Q=>Nq X.K xs H Q\/LL xs H Q):=sf.or rV
noncomputable def Mi(K:PySem.W.Frag):List V->Hp->VK->Prop:=fun xs H Q=> ∃ x T t b,xs=[x,.ty T]/\jc K H x t/\PySem.W.kitOne K t (.type T)=some b/\Q (.bl b) H
theorem EG:bq X (.builtin "isinstance") (Mi X.K):=sO
noncomputable def zm(K:PySem.W.Frag):List V->Hp->VK->Prop:=fun xs H Q=> ∃ p ss,xs=[.ref p]/\gA K H p (ss.map V.str)/\ss.length < 64/\ ∀ l ss',H l=none->ss'.Perm ss->sortedS ss'=true->Q (.ref l) (upd H l (.lst (ss'.map V.str)))
noncomputable def AL:List V->Hp->VK->Prop:=fun xs H Q=> ∃ d kvs ss,xs=[.ref d]/\H d=some (.dK kvs)/\kvs.map (·.1)=ss.map Sum.inr/\ss.length < 64/\ ∀ l ss',H l=none->ss'.Perm ss->sortedS ss'=true->Q (.ref l) (upd H l (.lst (ss'.map V.str)))
noncomputable def IM:List V->Hp->VK->Prop:=fun xs H Q=> ∃ p ys kvs,xs=[.ref p]/\H p=some (.tup ys)/\Paired (pV H) ys kvs/\ys.length < sizeLine/\ ∀ d,H d=none->Q (.ref d) (upd H d (.dK (cE [] kvs)))
theorem Bg(hc:X.calm=true):bq X (.type "dict") IM:=mn hc
noncomputable def Im(K:PySem.W.Frag):List V->Hp->VK->Prop:=fun xs H Q=> ∃ p ys,xs=[.ref p]/\((gA K H p ys/\ ∀ l,H l=none->Q (.ref l) (upd H l (.tup ys)))\/(eY K H p ys/\Q (.ref p) H))
theorem CI:bq X (.type "tuple") (Im X.K):=ph
end
end L2
end
section
open PySem PySem.W PyProof.Rows
namespace L2
open PySem PySem.Spec PyProof.Rows
structure Hs(D D':Ends):Prop where
 nx: ∀ σ H,D.nx σ H->D'.nx σ H
 rt: ∀ v H,D.rt v H->D'.rt v H
 bk: ∀ σ H,D.bk σ H->D'.bk σ H
 ct: ∀ σ H,D.ct σ H->D'.ct σ H
class Pe (t:TS):Prop where
 m: ∀ D D' σ H,Hs D D'->t D σ H->t D' σ H
class FA (g:TG):Prop where
 m: ∀ x σ H Q Q',(∀ σ2 H2,Q σ2 H2->Q' σ2 H2)->g x σ H Q->g x σ H Q'
class OU (g:qp):Prop where
 m: ∀ x σ H Q Q',(∀ σ2 H2,Q σ2 H2->Q' σ2 H2)->g x σ H Q->g x σ H Q'
open PySem PySem.Spec PyProof.Rows
end L2
end
section
open PySem PySem.W PyProof.Rows
namespace L2
open PySem PySem.Spec PyProof.Rows
noncomputable def stK(a:Addr)(k:Int)(l:Option Int):List (Key × V):=match l with
 | none=>[(.inr "script",.ref a),(.inr "k",.int k)]
 | some l=>[(.inr "script",.ref a),(.inr "k",.int k),(.inr "left",.int l)]
noncomputable def wt(K:PySem.W.Frag)(H:Hp)(a:Addr)(xs:List V):Prop:=(∃ o,H a=some (.jy o (.lst xs))) \/
 ∃(o:Obj)(ay:Array Value)(n:Nat),K.lookup a=some o/\o.cls= .type "list" /\o.dict=none/\o.data= .seq ay n/\ay.size<=sizeLine/\Vals xs ay.toList
theorem wt.sq{K:PySem.W.Frag}{H:Hp}{a:Addr}{xs:List V}(h:wt K H a xs):gA K H a xs:=by
 rcases h with⟨o,h⟩ | h
 · exact .inl (.inr ⟨o,h⟩)
 · exact .inr h
theorem wt.upd{K:PySem.W.Frag}{H:Hp}{a c:Addr}{xs:List V}{u o':HO}(h:wt K H a xs)(hc:H c=some u)(hu: ∀ o w,u≠ .jy o w):wt K (upd H c o') a xs:=by
 rcases h with⟨o,h⟩ | h
 · exact .inl ⟨o,by rw[aA (qx h hc fun z=>hu _ _ z.symm)];exact h⟩
 · exact .inr h
theorem Kp.jy{st a:Addr}{H H':Hp}{K:PySem.W.Frag}{xs:List V}{kvs:List (Key × V)}(x:Kp st H H')(ha:H st=some (.dK kvs))(h:wt K H a xs):wt K H' a xs:=by
 rcases h with⟨o,h⟩ | h
 · exact .inl ⟨o,x _ _ (qx h ha (by intro z;cases z)) h⟩
 · exact .inr h
theorem jb.jy{a:Addr}{H H':Hp}{K:PySem.W.Frag}{xs:List V}(x:jb H H')(h:wt K H a xs):wt K H' a xs:=by
 rcases h with⟨o,h⟩ | h
 · exact .inl ⟨o,x _ _ h⟩
 · exact .inr h
noncomputable def jW(K:PySem.W.Frag)(H:Hp)(st:Addr)(k:Int)(l:Option Int):Prop:= ∃(a:Addr)(ns:List Int),H st=some (.dK (stK a k l))/\wt K H a (ns.map V.int)/\ns.length<=63/\0<=k
theorem jW.keep{K:PySem.W.Frag}{H H':Hp}{st:Addr}{k:Int}{l:Option Int}(x:jW K H st k l)(y:Kp st H H')(e:H' st=H st):jW K H' st k l :=
 let ⟨a,ns,h1,h2,h3,h4⟩:=x;⟨a,ns,e.trans h1,y.jy h1 h2,h3,h4⟩
theorem jW.same{K:PySem.W.Frag}{H H':Hp}{st:Addr}{k:Int}{l:Option Int}(x:jW K H st k l)(y:jb H H'):jW K H' st k l :=
 let ⟨a,ns,h1,h2,h3,h4⟩:=x;jW.keep ⟨a,ns,h1,h2,h3,h4⟩ y.kp ((y _ _ h1).trans h1.symm)
theorem jW.upd{K:PySem.W.Frag}{H:Hp}{st c:Addr}{k:Int}{l:Option Int}{u o:HO}(x:jW K H st k l)(hc:H c=some u)(hu: ∀ o w,u≠ .jy o w)(hn:c≠st):jW K (upd H c o) st k l :=
 let ⟨a,ns,h1,h2,h3,h4⟩:=x;⟨a,ns,by rw[aA (Ne.symm hn)];exact h1,h2.upd hc hu,h3,h4⟩
theorem jW.at{K:PySem.W.Frag}{H:Hp}{st:Addr}{k:Int}{l:Option Int}(x:jW K H st k l): ∃ kvs,H st=some (.dK kvs):=let ⟨a,ns,h1,_⟩:=x;⟨_,h1⟩
theorem jW.pos{K:PySem.W.Frag}{H:Hp}{st:Addr}{k:Int}{l:Option Int}(x:jW K H st k l):0<=k:=let ⟨a,ns,h1,_,_,h⟩:=x;h
end L2
end
section
open PySem PySem.W PyProof.Rows
namespace L2
open PySem PySem.Spec PyProof.Rows
noncomputable def noStar:Expr->Bool
 | .Starred _ _=>false
 | _=>true
theorem ck{e:Expr}{es:List Expr}{env:Env}(h:noStar e=true):starEach (e::es) env=(false,eval e env)::starEach es env:=by
 cases e<;>first | rfl | cases h
theorem kz{pos:Pos}{env:Env}: ∀{es:List Expr},es.all noStar=true->(backTo pos (starEach es env)).any (·.1)=false
 | [],_=>rfl
 | e::es,h=>by
  have h:=Bool.and_eq_true_iff.mp (List.all_cons ▸ h)
  rw[ck h.1]
  have:=kz (pos:=pos) (env:=env) h.2
  unfold backTo at this ⊢
  simp only[List.map_cons,List.any_cons,Bool.false_or]
  exact this
section
variable{X:Cx}{e:Expr}{es:List Expr}{te:TE}{t:TA}
theorem pk(ha:PE X e te)(hr:PA X es t)(hs:noStar e=true:=by rfl):PA X (e::es) (Bv te t):=Dg ha hr (ck hs)
variable{x:Str}{k j:Nat}{ps:List Str}{sp:Sp}{p pos:Pos}{id T:String}{r:List V->Hp->VK->Prop}
theorem kd(D:hX X.prog X.w X.K X.mg X.base x j ps sp)(hr:dz k X.A)(hg:Gl X x)(hj:j<=k)(ha:PA X (e::es) t)(hdb:(x == ("__debug__" :Str))=false:=by decide)(he:noStar e=true:=by rfl)(hpl:es.all noStar=true:=by rfl) :
  PE X (.Call (.Name x p) (e::es) [] pos) (wN sp [] E0 t):=OH D hr hg hj ha hdb (ck he) (kz hpl)
theorem kB(hc:bq X (.builtin id) r)(hg:Gl X x)(hm:X.mg x=none)(hv:bootBuiltins x=some (.builtin id))(ha:PA X (e::es) t)(hn:x≠ "__name__" :=by decide)(hdb:(x == ("__debug__" :Str))=false:=by decide)(he:noStar e=true:=by rfl)(hpl:es.all noStar=true:=by rfl) :
  PE X (.Call (.Name x p) (e::es) [] pos) (IW r t):=AB hc hg hm hv ha hn hdb (ck he) (kz hpl)
theorem kT(hc:bq X (.type T) r)(hg:Gl X x)(hm:X.mg x=none)(hv:bootBuiltins x=some (.type T))(ha:PA X (e::es) t)(hn:x≠ "__name__" :=by decide)(hdb:(x == ("__debug__" :Str))=false:=by decide)(he:noStar e=true:=by rfl)(hpl:es.all noStar=true:=by rfl) :
  PE X (.Call (.Name x p) (e::es) [] pos) (IW r t):=ye hc hg hm hv ha hn hdb (ck he) (kz hpl)
end
open PySem PySem.Spec PyProof.Rows
end L2
end
section
open PySem PySem.W PyProof.Rows
namespace L2
open PySem PySem.Spec PyProof.Rows
structure QE(X:Cx)(e:Expr)(t:TE):Prop where h:PE X e t
structure QT(X:Cx)(e:Expr)(t:TT):Prop where h:PT X e t
structure QW(X:Cx)(e:Expr)(t:TT):Prop where h:PW X e t
structure QA(X:Cx)(es:List Expr)(t:TA):Prop where h:PA X es t
structure QO(X:Cx)(e:Option Expr)(t:TO):Prop where h:PO X e t
structure QS(X:Cx)(s:Stmt)(t:TS):Prop where h:PS X s t
structure Ae(X:Cx)(s:List Stmt)(t:TS):Prop where h:vU X s t
structure QG(X:Cx)(e:Expr)(t:TG):Prop where h:PG X e t
structure KS(X:Cx)(e:List Expr)(t:qp):Prop where h:Mm X e t
structure QI(X:Cx)(tg e:Expr)(t:TI):Prop where h:PI X tg e t
structure QF(X:Cx)(es:List Expr)(t:TT):Prop where h:PF X es t
structure QP(X:Cx)(pos:Pos)(ks:List (Option Expr))(vs:List Expr)(t:List (TE × TE)):Prop where h:MQ X pos ks vs t
section
variable{X:Cx}{a b c e o i:Expr}{es:List Expr}{ta tb tc te td ty tx tv to ti:TE}{t t':TT}{tr:TA}{pos p p2 pos' apos cpos:Pos}{x y:Str}
theorem qv(i:Nat){x:Str}{pos:Pos}(hN:X.N[i]?=some x:=by rfl)(hv:FF X.env.scope x:=by first | exact Or.inl rfl | exact Or.inr (Or.inl rfl) | exact Or.inr (Or.inr rfl))(hd:(x == ("__debug__" :Str))=false:=by decide)
  (hcd:(x == ("__classdict__" :Str))=false:=by decide):QE X (.Name x pos) (F5 i):=⟨yI hN hv hd hcd⟩
theorem Hc{n:Int}{j:Nat}:QE X (.Constant (.int n) j pos) (tC (.int n)):=⟨J7⟩
theorem MJ{n:Bool}{j:Nat}:QE X (.Constant (.bool n) j pos) (tC (.bl n)):=⟨LO⟩
theorem Js{j:Nat}:QE X (.Constant .none j pos) (tC .non):=⟨KP⟩
theorem Gv{n:Str}{j:Nat}:QE X (.Constant (.str n) j pos) (tC (.str n)):=⟨Hn⟩
theorem Ek{v:V}{u:Value}(hg:Gl X x)(hm:X.mg x=some u)(r:RelV v u)(hd:(x == ("__debug__" :Str))=false:=by decide):QE X (.Name x pos) (tC v):=⟨xc hg hm r hd⟩
theorem Eg{v:V}{u:Value}(hg:Gl X x)(hm:X.mg x=none)(hv:bootBuiltins x=some u)(r:RelV v u)(hn:x≠ "__name__" :=by decide)(hd:(x == ("__debug__" :Str))=false:=by decide):QE X (.Name x pos) (tC v):=⟨CL hg hm hv r hn hd⟩
theorem Lj{op:Operator}{r:R2}(ho:cX X (binaryOp op) r)(ha:QE X a ta)(hb:QE X b tb):QE X (.BinOp a op b pos) (Cn r ta tb):=⟨MR ho ha.h hb.h⟩
theorem Li{op:UnaryOp}{r:V->Hp->VK->Prop}(ho:KW X (unaryOp op) r)(ha:QE X a ta):QE X (.UnaryOp op a pos) (Ph r ta):=⟨LH ho ha.h⟩
theorem Gu(ha:QE X a ta):QE X (.UnaryOp .Not a pos) (Fu ta):=⟨Iu ha.h⟩
theorem Hj{op:BoolOp}(h:QE X a ta):QE X (.BoolOp op [a] pos) ta:=⟨JM h.h⟩
theorem Ke{rest:List Expr}(ha:QE X a ta)(hb:QE X (.BoolOp .And (b::rest) pos) tb):QE X (.BoolOp .And (a::b::rest) pos) (FL ta tb):=⟨IH ha.h hb.h⟩
theorem L4{rest:List Expr}(ha:QE X a ta)(hb:QE X (.BoolOp .Or (b::rest) pos) tb):QE X (.BoolOp .Or (a::b::rest) pos) (M9 ta tb):=⟨Mt ha.h hb.h⟩
theorem zG(hc:QT X c t)(ha:QE X a ta)(hb:QE X b tb):QE X (.IfExp c a b pos) (Pq t ta tb):=⟨zP hc.h ha.h hb.h⟩
theorem IK{x1}(h:QA X es tr):QE X (.Tuple es x1 pos) (L3 tr):=⟨J0 h.h⟩
theorem J5(h:QA X es tr):QE X (.List es pos) (Nx tr):=⟨IF h.h⟩
theorem Aj:QE X (.Dict [] [] pos) zK:=⟨zr⟩
theorem E7:QP X pos [] [] []:=⟨Cd⟩
theorem Bx{k v:Expr}{ks:List (Option Expr)}{vs:List Expr}{tk:TE}{trs:List (TE × TE)}(hk:QE X k tk)(hv:QE X v tv)(hr:QP X pos ks vs trs):QP X pos (some k::ks) (v::vs) ((tk,tv)::trs):=⟨An hk.h hv.h hr.h⟩
theorem EK{ks:List (Option Expr)}{vs:List Expr}{trs:List (TE × TE)}(h:QP X pos ks vs trs)(hall:ks.all (·.isSome)=true)(hl:ks.length=vs.length)(h0:ks≠[])(h15:ks.length<=15):QE X (.Dict ks vs pos) (F2 trs):=⟨D2 h.h hall hl h0 h15⟩
theorem El:QO X none wd:=⟨DR⟩
theorem Dr(h:QE X e te):QO X (some e) (FC te):=⟨CW h.h⟩
theorem BD{r:V->Option Int->Option Int->Hp->VK->Prop}{lo hi:Option Expr}{tl th:TO}(hr:B3 X r)(he:QE X e te)(hl:QO X lo tl)(hu:QO X hi th):QE X (.Subscript e (.Slice lo hi none p2) pos) (OY r te tl th):=⟨Ba hr he.h hl.h hu.h⟩
theorem LI{r:R2}(hr:xv X r)(ha:QE X a ta)(hb:QE X b tb)(hs:q9 b):QE X (.Subscript a b pos) (Cn r ta tb):=⟨MC hr ha.h hb.h hs⟩
theorem zE{f:Expr}(hu:X.A.units+1 < cLine)(ho:QE X o td)(he:QE X e ty)(hf:QE X f tx)(m:M2 X o "get" apos e f cpos):QE X (.Call (.Attribute o "get" apos) [e,f] [] cpos) (BA td ty tx):=⟨AX hu ho.h he.h hf.h m⟩
theorem uK:QA X [] Ny:=⟨Hm⟩
theorem qk(ha:QE X e te)(hr:QA X es tr)(hs:noStar e=true:=by rfl):QA X (e::es) (Bv te tr):=⟨pk ha.h hr.h hs⟩
variable{k j:Nat}{ps:List Str}{sp:Sp}{id T:String}{r:List V->Hp->VK->Prop}
theorem qd(D:hX X.prog X.w X.K X.mg X.base x j ps sp)(hr:dz k X.A)(hg:Gl X x)(hj:j<=k)(ha:QA X (e::es) tr)(hdb:(x == ("__debug__" :Str))=false:=by decide)(he:noStar e=true:=by rfl)(hpl:es.all noStar=true:=by rfl) :
  QE X (.Call (.Name x p) (e::es) [] pos) (wN sp [] E0 tr):=⟨kd D hr hg hj ha.h hdb he hpl⟩
theorem qB(hc:bq X (.builtin id) r)(hg:Gl X x)(hm:X.mg x=none)(hv:bootBuiltins x=some (.builtin id))(ha:QA X (e::es) tr)(hn:x≠ "__name__" :=by decide)(hdb:(x == ("__debug__" :Str))=false:=by decide)(he:noStar e=true:=by rfl)(hpl:es.all noStar=true:=by rfl) :
  QE X (.Call (.Name x p) (e::es) [] pos) (IW r tr):=⟨kB hc hg hm hv ha.h hn hdb he hpl⟩
theorem qT(hc:bq X (.type T) r)(hg:Gl X x)(hm:X.mg x=none)(hv:bootBuiltins x=some (.type T))(ha:QA X (e::es) tr)(hn:x≠ "__name__" :=by decide)(hdb:(x == ("__debug__" :Str))=false:=by decide)(he:noStar e=true:=by rfl)(hpl:es.all noStar=true:=by rfl) :
  QE X (.Call (.Name x p) (e::es) [] pos) (IW r tr):=⟨kT hc hg hm hv ha.h hn hdb he hpl⟩
theorem Lq{name:Str}{rm:V->List V->Hp->VK->Prop}(pa:PlainAttrs T)(slot:Slot T name id)(hty:typeOf (.builtin id)=pure (.type "method_descriptor"))(hm:FJ X id rm)(ho:QE X o to)(ha:QA X [e] tr)
  (hbase:attributeBase o name X.env (eval o X.env)=eval o X.env:=by rfl) (hline:(apos.endLine == cpos.line)=true:=by rfl) (hs:noStar e=true:=by rfl) :
  QE X (.Call (.Attribute o name apos) [e] [] cpos) (Pl X.K T rm to tr):=⟨Ln pa slot hty hm ho.h ha.h hbase (by rw[ck hs];rfl) hline (ck hs) rfl⟩
theorem E1{op:CmpOp}{r:R2}(ho:cX X (compareOp op) r)(ha:QE X a ta)(hb:QE X b tb)(hm:behindInMarks op b=false):QE X (.Compare a [op] [b] pos) (Cn r ta tb):=⟨CY ho ha.h hb.h hm⟩
theorem Cr{op:CmpOp}{r:R2}(ho:cX X (compareOp op) r)(ha:QE X a ta)(hb:QE X b tb)(hm:behindInMarks op b=false):QT X (.Compare a [op] [b] pos) (yO (Cn r ta tb)):=⟨D9 ho ha.h hb.h hm⟩
theorem zX{op op':CmpOp}{r r':R2}(ho:cX X (compareOp op) r)(ho':cX X (compareOp op') r')(ha:QE X a ta)(hb:QE X b tb)(hc:QE X c tc)(hm:lastMarks [op,op'] [b,c]=false:=by with_unfolding_all rfl):QE X (.Compare a [op,op'] [b,c] pos) (vG r r' ta tb tc):=⟨yG ho ho' ha.h hb.h hc.h hm⟩
theorem Jl{j:Nat}(ha:QE X a ta):QE X (.Compare a [.Is] [.Constant .none j pos'] pos) (JJ ta):=⟨Ja (Bp ha.h)⟩
theorem GW{j:Nat}(ha:QE X a ta):QT X (.Compare a [.Is] [.Constant .none j pos'] pos) (tB (JJ ta)):=⟨zU (Bp ha.h)⟩
theorem EB{j:Nat}(ha:QE X a ta):QT X (.Compare a [.IsNot] [.Constant .none j pos'] pos) (tB (FH ta)):=⟨zU (CP ha.h)⟩
theorem DW(ha:QT X a t):QW X (.BoolOp .And [a] pos) t:=⟨pw_and1 ha.h⟩
theorem Gp(ha:QT X a t):QW X (.BoolOp .Or [a] pos) t:=⟨pw_or1 ha.h⟩
theorem J9{rest:List Expr}(ha:QT X a t)(hb:QW X (.BoolOp .And (b::rest) pos) t'):QW X (.BoolOp .And (a::b::rest) pos) (MD t t'):=⟨pw_and ha.h hb.h⟩
theorem LN{rest:List Expr}(ha:QT X a t)(hb:QW X (.BoolOp .Or (b::rest) pos) t'):QW X (.BoolOp .Or (a::b::rest) pos) (Pd t t'):=⟨pw_or ha.h hb.h⟩
theorem QW.pt(h:QW X e t):QT X e t:=⟨h.h.pt⟩
theorem Jd(ha:QT X a t):QT X (.UnaryOp .Not a pos) (Mh t):=⟨IJ ha.h⟩
theorem HZ(h:QE X e te)(he: ∀ whole,isTrue e X.env whole=(do let v <- whole;standAt e.pos;holding [v] (truthy v)):=by intro _;rfl):QT X e (tB te):=⟨Hd h.h he⟩
theorem wX{i:Nat}(hN:X.N.Nodup)(hi:X.N[i]?=some x)(hx:Loc X.env.scope x)(hf:X.fn x=true\/X.env.scope.names.lookup x=some .local:=by first | exact .inl rfl | exact .inr rfl | assumption):QG X (.Name x pos) (fw i):=⟨ES hN hi hx hf⟩
theorem B7:KS X [] xN:=⟨CB⟩
theorem yK{t:TG}{u:qp}(h1:QG X e t)(h2:KS X es u)(hs:(assignEach (e::es) X.env).map (·.2)=assign e X.env::(assignEach es X.env).map (·.2):=by rfl):KS X (e::es) (lQ t u):=⟨zV h1.h h2.h hs⟩
theorem BW{k:Nat}{t:qp}{n:Nat}(hc:X.calm=true)(h:KS X es t)(hn:(assignEach es X.env).length=n:=by rfl)(hst:(assignEach es X.env).findIdx? (·.1)=none:=by rfl):QG X (.Tuple es k pos) (uz X.K n t):=⟨Ji hc h.h hn hst⟩
variable{tg iter l:Expr}{wi:TI}{g:TG}{ta':TA}
theorem Hw:QF X [] FV:=⟨KC⟩
theorem JK(h:QT X c t):QF X [c] t:=⟨IS h.h⟩
variable{scope:Scope}{ifs:List Expr}{body rest:List Stmt}{spos py:Pos}{tb' ts us:TS}{st:Stmt}
theorem AW(vars:List Str)(hc:X.calm=true)(hx: ∀ v s,¬ X.xe v s)(hkind:scope.kind= .function)(hlc:hU scope.names X.env.scope.names X.N vars=true)(hi:QI X tg iter wi)
  (hb: ∀ cl C s₀ H₀ ex pn,QG (fG X vars scope cl C s₀ H₀ ex pn) tg g/\QF (fG X vars scope cl C s₀ H₀ ex pn) ifs t/\QE (fG X vars scope cl C s₀ H₀ ex pn) e te) (hgk:GK X.N.length g)
  (hs: ∀ x,foldedSetIterable iter X.env x=pure x:=by intro _;rfl):QE X (.ListComp e [⟨tg,iter,ifs,0⟩] scope pos) (NH vars.length wi g t te) :=
 ⟨Br vars hc hx hkind hlc hi.h (fun cl C s₀ H₀ ex pn=>let ⟨h1,h2,h3⟩:=hb cl C s₀ H₀ ex pn;⟨h1.h,h2.h,h3.h⟩) hgk hs⟩
theorem Bi(vars:List Str)(i:Nat)(hc:X.calm=true)(hx: ∀ v s,¬ X.xe v s)(hkind:scope.kind= .function)(hlc:hU scope.names X.env.scope.names X.N vars=true)(hN:X.N.Nodup)(hiy:X.N[i]?=some y)(hy:Loc X.env.scope y)(hi:QI X tg iter wi)
  (hb: ∀ cl C s₀ H₀ ex pn,QG (fG X vars scope cl C s₀ H₀ ex pn) tg g/\QF (fG X vars scope cl C s₀ H₀ ex pn) ifs t/\QE (fG X vars scope cl C s₀ H₀ ex pn) e te) (hgk:GK X.N.length g)
  (hsw:swapsWith (.ListComp e [⟨tg,iter,ifs,0⟩] scope pos) (some (.Name y py)) spos.line X.env=pure true:=by rfl) (hs: ∀ x,foldedSetIterable iter X.env x=pure x:=by intro _;rfl)
  (hf:X.fn y=true\/X.env.scope.names.lookup y=some .local:=by first | exact .inl rfl | exact .inr rfl | assumption) :
  QS X (.Assign [.Name y py] (.ListComp e [⟨tg,iter,ifs,0⟩] scope pos) spos) (zO vars.length i wi g t te) :=
 ⟨Ah vars i hc hx hkind hlc hN hiy hy hi.h (fun cl C s₀ H₀ ex pn=>let ⟨h1,h2,h3⟩:=hb cl C s₀ H₀ ex pn;⟨h1.h,h2.h,h3.h⟩) hgk hsw hs hf⟩
theorem Gb{i:Nat}(hN:X.N.Nodup)(hi:X.N[i]?=some x)(hx:Loc X.env.scope x)(he:QE X e te)(hs:swapsWith e (some (.Name x pos')) pos.line X.env=pure false:=by rfl)(hf:X.fn x=true\/X.env.scope.names.lookup x=some .local:=by first | exact .inl rfl | exact .inr rfl | assumption) :
  QS X (.Assign [.Name x pos'] e pos) (Cf te (fw i)):=⟨G6 hN hi hx he.h hs hf⟩
theorem yM(he:QE X e te)(hg:QG X tg g)(hs:swapsWithSole [tg] e pos.line X.env=pure false:=by rfl)(hw:swappedStores [tg] e X.env=pure none:=by rfl)(h1:(assignEach [tg] X.env).map (·.2)=[assign tg X.env]:=by rfl):QS X (.Assign [tg] e pos) (Cf te g):=⟨GQ he.h hg.h hs hw h1⟩
theorem Ng{A B:List Stmt}(hc:QT X c t)(ha:Ae X A ts)(hb:Ae X B us):QS X (.If c A B pos) (Lu t ts us):=⟨MZ hc.h ha.h hb.h⟩
theorem JD(hp:PassesOwn (model X.prog X.w) X.A X.env X.xe)(hc:X.calm=true)(hi:QI X tg iter wi)(hg:QG X tg g)(hb:Ae X body tb')(hs: ∀ x,foldedSetIterable iter X.env x=pure x:=by intro _;rfl):QS X (.For tg iter body [] pos) (Mu wi g tb'):=⟨Jk hp hc hi.h hg.h hb.h hs⟩
theorem Bf(hp:PassesOwn (model X.prog X.w) X.A X.env X.xe)(hc:QT X c t)(hb:Ae X body tb'):QS X (.While c body [] pos) (yV t tb'):=⟨AO hp hc.h hb.h⟩
theorem EA(he:QE X e te)(hs:swapsWith e none pos.line X.env=pure false:=by rfl):QS X (.Expr e pos) (FU te):=⟨Et he.h hs⟩
theorem IG(he:QE X e te):QS X (.Return (some e) pos) (LU te):=⟨He he.h⟩
theorem De:Ae X [] Ax:=⟨DM⟩
theorem zh(h1:QS X st ts)(h2:Ae X rest us):Ae X (st::rest) (Jo ts us):=⟨Aa h1.h h2.h⟩
theorem Ew(h1:QS X st ts):Ae X [st] ts:=⟨Du h1.h⟩
end
theorem At.N2{P:Program}{w:World}{K:PySem.W.Frag}{mg:Str->Option Value}{base:Heap}{x:Str}{st:Stmt}{N ps:List Str}{k:Nat}{sp:Sp}(a:At K mg x st)(S:au N ps (ai st))
  (hb: ∀(kV doc pm:Value)(an:Option Addr)(cdv ct:Value)(us:List Value),us.length=ps.length->bindArgs (PySem.W.fnOf x x (cO st) (bx st) (ai st) .none kV doc pm an cdv ct) ⟨us,[]⟩=pure (ps.zip us))
  (len: ∀ vs H Q E,sp vs H Q E->vs.length=ps.length)
  (hbody: ∀(f:Addr)(cdv:Value)(A:Around)(outer:List Env)(s:Shared)(H:Hp)(vs:List V)(Q:VK)(E:XK),dz k (A.deeper (envOfC x (ai st) s.heap.objs.size f cdv))->sp vs H Q E ->
   ∃ t,Ae (jG si P w K mg base N x (ai st) f cdv A outer s H E).pL (bx st) t/\t { nx:=fun _ H'=>Q .non H',rt:=Q } (start N vs) H):hX P w K mg base x (k+1) ps sp :=
 a.ok S hb len fun f cdv A outer s H vs Q E hr h=>let ⟨t,q,z⟩:=hbody f cdv A outer s H vs Q E hr h;⟨t,q.h,z⟩
end L2
end
section
open PySem PySem.W PyProof.Rows
namespace L2
open PySem PySem.Spec PyProof.Rows
theorem fA{xs:List V}{r:Int}(h:0<=r):mB xs (some r) none=xs.drop r.toNat:=by
 have e:r=((r.toNat:Nat):Int):=by omega
 unfold mB
 rw[e,HT.mK,HT.jQ]
 simp only[Int.toNat_natCast]
 rcases Nat.le_total r.toNat xs.length with z | z
 · rw[Nat.min_eq_left z];exact List.take_of_length_le (by rw[List.length_drop];omega)
 · rw[Nat.min_eq_right z,List.drop_eq_nil_of_le (Nat.le_refl _),List.drop_eq_nil_of_le z];simp
theorem oS{xs:List V}{r:Int}(h:0<=r):mB xs none (some r)=xs.take r.toNat:=by
 have e:r=((r.toNat:Nat):Int):=by omega
 unfold mB
 rw[e,HT.mK,HT.jQ]
 simp only[Int.toNat_natCast,List.drop_zero,Nat.sub_zero]
 rcases Nat.le_total r.toNat xs.length with z | z
 · rw[Nat.min_eq_left z]
 · rw[Nat.min_eq_right z,List.take_of_length_le (Nat.le_refl _),List.take_of_length_le z]
theorem PY{c A B:Prop}[Decidable c](hc: ¬ c)(h:B):if c then A else B:=by rw[if_neg hc];exact h
open PySem PySem.Spec PyProof.Rows
noncomputable def PL(k:Nat)(g:TG)(tt:TT)(te:TE)(σ :St)(Q:VK)(J:It)(H1:Hp):Prop:= ∃ W:Nat->Nat->List V->Hp->Prop,(∃ m,W 0 m [] H1)/\ ∀ i m ys H,W i m ys H ->
 (J.stop i H/\ ∀ p,H p=none->Q (.ref p) (upd H p (.lst ys))) \/
 (J.go i H/\ys.length < sizeLine/\ ∀ x H',J.KQ i H x H'->g x (σ ++List.replicate k none) H' fun σ2 H2=>tt σ2 H2 fun b H3 =>
  if b=true then te σ2 H3 fun y H4=> ∃ m',m' < m/\W (i+1) m' (ys++[y]) H4 else ∃ m',m' < m/\W (i+1) m' ys H3)
class N4 (trs:List (TE × TE)):Prop where
 m: ∀ σ H Q Q',(∀ ps H1,Q ps H1->Q' ps H1)->lu trs σ H Q->lu trs σ H Q'
open PySem PySem.Spec PyProof.Rows
theorem yz.N2{P:Program}{w:World}{K:PySem.W.Frag}{mg:Str->Option Value}{base:Heap}{x:Str}{st:Stmt}{f:Addr}{fd:FuncData}{N ps:List Str}{k:Nat}{sp:Sp}(F:yz K x x st f fd)(S:au N ps (ai st))(len: ∀ vs H Q E,sp vs H Q E->vs.length=ps.length)
  (hbody: ∀(f:Addr)(cdv:Value)(A:Around)(outer:List Env)(s:Shared)(H:Hp)(vs:List V)(Q:VK)(E:XK),dz k (A.deeper (envOfC x (ai st) s.heap.objs.size f cdv))->sp vs H Q E ->
   ∃ t,Ae (jG si P w K mg base N x (ai st) f cdv A outer s H E).pL (bx st) t/\t { nx:=fun _ H'=>Q .non H',rt:=Q } (start N vs) H):iD P w K mg base si (k+1) f fd ps sp :=
 F.ok S len fun cdv A outer s H vs Q E hr h=>let ⟨t,q,z⟩:=hbody f cdv A outer s H vs Q E hr h;⟨t,q.h,z⟩
theorem Ka{K:PySem.W.Frag}{H:Hp}{a:Addr}{xs:List V}(o:Ad H)(h:gA K H a xs):wt K H a xs:=by
 rcases h with(h | ⟨u,h⟩) | h
 · rcases o a with z | ⟨u,ys,z⟩<;>(rw[h] at z;cases z)
 · exact .inl ⟨u,h⟩
 · exact .inr h
end L2
end
section
open PySem PySem.W PyProof.Rows
namespace L2
open PySem PySem.Spec PyProof.Rows
noncomputable def KD(P:Program)(w:World)(K:PySem.W.Frag)(a:Addr)(kvs:List (Key × V)):Prop:=(a == sysModules)=false /\
 ∃(o:Obj)(es:Array DictEntry)(ep:Nat)(vs:List (Key × Value)),K.lookup a=some o/\o.ExactDict/\o.data= .dict es ep/\PySem.KeysOf (aJ P w) es/\Pairs (aJ P w) es.toList vs/\(vs.map (·.1)).Nodup/\KV kvs vs
theorem Inv.kd{X:Cx}{pins:List (Addr × Obj)}{σ :St}{H:Hp}{s:Shared}{a:Addr}{kvs:List (Key × V)}(I:Inv X pins σ H s)(h:KD X.prog X.w X.K a kvs): ∃ vs,KV kvs vs/\s.heap.DictOf (aJ X.prog X.w) a vs:=by
 obtain⟨_,o,es,ep,vs,h1,h2,h3,h4,h5,h6,h7⟩:=h
 exact⟨vs,h7,o,es,ep,I.kH a o h1,h2,h3,h4,h5,h6⟩
noncomputable def FY(kvs:List (Key × V))(ty:TE):TE:=fun σ H Q=>ty σ H fun y H2=> ∃ k v,y=kV k/\gq kvs k=some v/\Q v H2
section
variable{X:Cx}{o i:Expr}{pos:Pos}{ty:TE}{a:Addr}{kvs:List (Key × V)}
theorem DQ(hk:KD X.prog X.w X.K a kvs)(ho:PE X o (tC (.ref a)))(hi:PE X i ty)(hs:Ci i):PE X (.Subscript o i pos) (FY kvs ty):=by
 intro pins s σ H Q I h
 refine Cy PySem.F.slot_dict_getitem.lookup hs (cD (ho pins s σ H (fun x H1=>x= .ref a/\H1=H) I ⟨rfl,rfl⟩) fun u s1 ⟨x,H1,I1,rx,ex,eH⟩=>?_)
 subst ex eH
 obtain rfl:u=Value.ref a:=rx
 refine cD (hi pins s1 σ H1 _ I1 h) fun iv s2 ⟨y,H2,I2,ry,k,v,ey,l,q2⟩=>?_
 subst ey
 obtain⟨vs,rel,dd⟩:=I2.kd hk
 obtain⟨w',hw,rw'⟩:=j7.some_of (v:=v) (o:=valueAt vs k) (by rw[<- l];exact rel.val k)
 exact⟨dd.typeIs,wpAny_getItem_of (kf ry) dd.mapOf hw ⟨v,H2,I2.tok _,rw',q2⟩⟩
theorem Eo(hk:KD X.prog X.w X.K a kvs)(ho:QE X o (tC (.ref a)))(hi:QE X i ty)(hs:Ci i):QE X (.Subscript o i pos) (FY kvs ty):=⟨DQ hk ho.h hi.h hs⟩
end
noncomputable def CS(w:World)(p:Str × Tok × Value):DictEntry:={ hash:=PyData.keyHash w.params p.1,key:= .str p.1 p.2.1,val:=p.2.2 }
theorem Le{P:Program}{w:World}{K:PySem.W.Frag}{a:Addr}{ls:List (Str × Tok × Value)}{kvs:List (Key × V)}{ep:Nat}(hl:K.lookup a=some { cls:= .type "dict",data:= .dict (ls.map (CS w)).toArray ep })(ha:(a == sysModules)=false)
  (hn:(ls.map fun p=>(Sum.inr p.1:Key)).Nodup) (hk:KV kvs (ls.map fun p=>((Sum.inr p.1:Key),p.2.2))):KD P w K a kvs:=by
 refine⟨ha,_,_,ep,ls.map fun p=>((Sum.inr p.1:Key),p.2.2),hl,⟨rfl,rfl,rfl⟩,rfl,?_,?_,by rw[List.map_map];exact hn,hk⟩
 · intro e he
   have he':e∈ls.map (CS w):=List.mem_toArray.mp he
   obtain⟨p,_,rfl⟩:=List.mem_map.mp he'
   exact⟨.inr p.1,kO p.1 p.2.1,rfl⟩
 · clear hl hn hk
   show Pairs (aJ P w) (ls.map (CS w)) _
   induction ls with
   | nil=>exact .nil
   | cons p r ih=>exact .cons (kO p.1 p.2.1) rfl ih
open PySem PySem.Spec PyProof.Rows
section
variable{X:Cx}
end
open PySem PySem.Spec PyProof.Rows
noncomputable def NM(x:Str):It:=⟨fun i _=>i < x.cps.size,fun i H v H'=>H'=H/\ ∃ c,x.cps[i]?=some c/\v= .str ⟨#[c]⟩,fun i _=>i=x.cps.size⟩
theorem tY{P:Program}{w:World}{K:PySem.W.Frag}{tg:Expr}{ty:String}(x:Str)(t:Tok)(it:Addr)(hty:["enumerate", "zip", "dict_itemiterator", "dict_reverseitemiterator", "odict_iterator", "itertools.zip_longest", "itertools.pairwise"].contains ty=false)
  (W: ∀ A:Around,A.handled=none->Walks P w A it [it] [it] x.cps.size (SignAt x) (fun i h=>h.IsStrIter it ty x t i)) (S: ∀(A:Around)(i:Nat)(s:Shared)(Q:Value->Shared->Prop)(E:Value->Shared->Prop),s.heap.IsStrIter it ty x t i->Q (.ref it) s->wpAny (model P w) A (pyIter (.ref it)) Q E s) :
  Turn P w K tg (NM x) [it] it (fun i h=>h.IsStrIter it ty x t i) where
 mem:=by simp
 obj:=fun i h st b hb=>by
  have e:b=it:=by simpa using hb
  subst e
  obtain⟨o,e,c,d⟩:=st
  exact⟨o,e,fun v z=>by rw[d] at z;cases z⟩
 keep:=fun i h h' st k=>let ⟨o,e,r⟩:=st;⟨o,k it (by simp) o e,r⟩
 item:=by
  intro X hP hw hK hc i pins s σ H E I hf st hg
  subst hP hw hK
  obtain⟨f0,f1,f2,f3,f4,f5⟩:=hf it (by simp)
  refine(W X.A (I.ok.hd hc)).item i s _ _ hg st fun v h' tk hv st' hk=>?_
  obtain⟨c,u,hx,rfl⟩:=hv
  have I1:Inv X pins σ H { s with heap:=h',toks:=tk }:=I.turned (t':=tk) (fun b o hb e=>hk b o (by simpa using hb) e) f0 f1 f3 f4 f5
  obtain⟨o,e,cc,d⟩:=id st'
  exact⟨_,rfl,vZ (s:={ s with heap:=h',toks:=tk }) e cc d hty ⟨.str ⟨#[c]⟩,H,I1,⟨_,rfl⟩,⟨rfl,c,hx,rfl⟩,st',fun b hb=>(hf b hb).1⟩⟩
 done:=by
  intro X hP hw hK hc i pins s σ H E I hf st hg
  subst hP hw hK
  obtain⟨f0,f1,f2,f3,f4,f5⟩:=hf it (by simp)
  have hi:i=x.cps.size:=hg
  subst hi
  exact(W X.A (I.ok.hd hc)).done s _ _ st fun h' tk hk=>⟨rfl,I.turned (t':=tk) (fun b o hb e=>hk b o (by simpa using hb) e) f0 f1 f3 f4 f5⟩
 self:=fun A i s Q E st h=>S A i s Q E st h
theorem je{x:Str}{k:Nat}{g:TG}{tt:TT}{te:TE}[FA g][FP tt][F3 te]{σ :St}{H:Hp}{Q:VK}(Pv:Nat->List V->Hp->Prop)(h0:Pv 0 [] H)(hl: ∀ i ys H,i<=x.cps.size->Pv i ys H->ys.length<=i)(hz:x.cps.size<=sizeLine)
  (hs: ∀ i c ys H,x.cps[i]?=some c->Pv i ys H->g (.str ⟨#[c]⟩) (σ ++List.replicate k none) H fun σ2 H2=>tt σ2 H2 fun b H3=>if b=true then te σ2 H3 fun y H4=>Pv (i+1) (ys++[y]) H4 else Pv (i+1) ys H3)
  (hd: ∀ ys H,Pv x.cps.size ys H-> ∀ p,H p=none->Q (.ref p) (upd H p (.lst ys))):PL k g tt te σ Q (NM x) H:=by
 refine⟨fun i m ys H=>m=x.cps.size - i/\i<=x.cps.size/\Pv i ys H,⟨x.cps.size,by simp,Nat.zero_le _,h0⟩,?_⟩
 rintro i m ys H ⟨rfl,hi,p⟩
 have hy:=hl i ys H hi p
 by_cases hlt:i < x.cps.size
 · refine .inr ⟨hlt,by omega,fun v H' y=>?_⟩
   obtain⟨e,c,hc,rfl⟩:=y
   subst e
   refine FA.m (g:=g) _ _ _ _ _ (fun σ2 H2 z=>FP.m (t:=tt) _ _ _ _ (fun b H3 z=>?_) z) (hs i c ys _ hc p)
   cases b with
   | true =>
    rw[if_pos rfl] at z ⊢
    exact F3.m (t:=te) _ _ _ _ (fun v H4 w=>⟨x.cps.size - (i+1),by omega,rfl,hlt,w⟩) z
   | false =>
    rw[if_neg Bool.false_ne_true] at z ⊢
    exact⟨x.cps.size - (i+1),by omega,rfl,hlt,z⟩
 · have e:i=x.cps.size:=by omega
   subst e
   exact .inl ⟨rfl,hd ys H p⟩
end L2
end
section
open PySem PySem.W PyProof.Rows
namespace L2
open PySem PySem.Spec PyProof.Rows
section
variable{X:Cx}
end
open PySem PySem.Spec PyProof.Rows
open PySem PySem.Spec PyProof.Rows
open PySem PySem.Spec PyProof.Rows
theorem Cv{X:Cx}{x:Str}{a:Addr}{pos:Pos}(hg:Gl X x)(hm:X.mg x=some (.ref a))(hd:(x == ("__debug__" :Str))=false:=by decide):QE X (.Name x pos) (tC (.ref a)):=⟨xc hg hm rfl hd⟩
end L2
end
section
open PySem PySem.W PyProof.Rows
namespace L2
open PySem PySem.Spec PyProof.Rows
theorem pK(l:Addr)(o:Obj)(b:Str)(u:Tok) :
  Meets (Builtin.«dict.__eq__» ⟨[.ref l,.str b u],[]⟩) (fun _ R s=>s.heap.get? l=some o/\R (.ok (.ret .notImplemented)) s) :=
 .of_wp fun prog w A R s h=>by
  obtain⟨hp,g,d,tk,os⟩:=s;obtain⟨hl,h⟩:=h;have f1:=PySem.F.sub_str_dict;wp_walk;exact⟨_,rfl,h⟩
theorem qS(b:Str)(u:Tok)(l:Addr)(c:Value)(es:Array DictEntry)(ep:Nat)(dd:Option Addr)(sl:Array (Option Value)) :
  Meets (Builtin.«str.__eq__» ⟨[.str b u,.ref l],[]⟩) (fun _ R s=>s.heap.get? l=some { cls:=c,dict:=dd,data:= .dict es ep,slots:=sl }/\R (.ok (.ret .notImplemented)) s) :=
 .of_wp fun prog w A R s h=>by obtain⟨hp,g,d,tk,os⟩:=s;obtain⟨hl,h⟩:=h;wp_walk using AutoSeq1.wpAny_loadPart' hl,wpAny_load hl;exact⟨_,rfl,h⟩
theorem uj{A:Around}{s:Shared}{l:Addr}{o:Obj}{es:Array DictEntry}{ep:Nat}(b:Str)(u:Tok)(hl:s.heap.get? l=some o)(hx:o.ExactDict)(hd:o.data= .dict es ep)(hu:A.units < cLine):SeqAt.RcAt A s (.ref l) (.str b u) false:=fun prog w E Q h=>by
 obtain⟨cls,dd,data,sl⟩:=o
 have hc:cls= .type "dict" :=hx.1
 simp only at hd
 subst hc hd
 exact SeqAt.rc_eq_decline_or (k:=false) ⟨_,hl,rfl⟩ (typeIs_str s b u) (by decide) PySem.F.sub_str_dict PySem.F.slot_dict_eq PySem.F.slot_str_eq_refl
  (fun _ hq=>call_meets PySem.F.slot_dict_eq ⟨_,hl,rfl⟩ PySem.F.entry_dict_eq (PySem.F.args_dict_eq_2 _ _) (pK l _ b u) ⟨hl,hq⟩)
  (fun _ hq=>call_meets PySem.F.slot_str_eq_refl (typeIs_str s b u) PySem.F.entry_str_eq (PySem.F.args_str_eq_2 _ _) (qS b u l (.type "dict") es ep dd sl) ⟨hl,hq⟩)
  (fun _ z=>wpAny_of_eq (show isSame (.ref l) (.str b u)=pure false from rfl) z) (.inr hu) h
noncomputable def Lx(K:PySem.W.Frag):R2:=fun x y H Q=> ∃ p z,x= .ref p/\y= .str z/\((∃ xs,gA K H p xs)\/(∃ xs,eY K H p xs)\/ ∃ kvs,H p=some (.dK kvs))/\Q (.bl false) H
noncomputable def M0(K:PySem.W.Frag):V->Option Int->Option Int->Hp->VK->Prop:=fun x lo hi H Q=> ∃ a xs,x= .ref a/\eY K H a xs/\(HT.dc xs.length 0 lo=0/\HT.dc xs.length xs.length hi=xs.length)/\Q (.ref a) H
noncomputable def F0(K:PySem.W.Frag):R2:=fun x y H Q=> ∃ a b ys,x= .ref a/\y= .ref b/\eY K H a []/\eY K H b ys/\Q (.ref b) H
noncomputable def FW:R2:=fun x y H Q=> ∃ a b,x= .str a/\y= .str b/\a.length+b.length<=sizeLine/\Q (.str (a++b)) H
theorem lF:fillsNumberSlot (.type "tuple") "mul" =pure false :=
 PySem.fillsNumberSlot_seq (id:= "tuple.__mul__") (r:=some (.builtin "tuple.__rmul__")) PySem.F.slot_tuple_mul.lookup (by decide +kernel) PySem.F.slot_tuple_rmul.lookup (by decide +kernel)
theorem q8:seqRepeat? (.type "tuple")=pure (some (.builtin "tuple.__mul__")):=by
 unfold seqRepeat?
 rw[PySem.seqSlot_of (T:= "tuple") (name:= "__mul__") (id:= "tuple.__mul__") PySem.F.slot_tuple_mul.lookup (by decide +kernel),PySem.seqSlot_of (T:= "tuple") (name:= "__rmul__") (id:= "tuple.__rmul__") PySem.F.slot_tuple_rmul.lookup (by decide +kernel)]
 rfl
theorem ni(a:Int)(t:Tok)(l:Addr)(items:Array Value)(n:Nat)(dd:Option Addr)(sl:Array (Option Value)) :
  Meets (Builtin.«int.__rmul__» ⟨[.int a t,.ref l],[]⟩) (fun _ R s=>s.heap.get? l=some { cls:= .type "tuple",dict:=dd,data:= .seq items n,slots:=sl }/\R (.ok (.ret Value.notImplemented)) s) :=
 .of_wp fun prog w A R s h=>by obtain⟨hp,g,d,tk,os⟩:=s;obtain⟨hl,h⟩:=h;wp_walk using AutoSeq1.wpAny_loadPart' hl,wpAny_load hl;exact⟨_,rfl,h⟩
theorem oX{prog:Program}{w:World}{A:Around}{E:Value->Shared->Prop}{s:Shared}{t sl:Addr}{items:Array Value}{vl vu:Value}{lo hi:Option Int}{Q:Value->Shared->Prop}(ht:IsTup s.heap t items)(hs:s.heap.IsSliceOf sl vl vu .none)(pl:IsPart vl lo)(pu:IsPart vu hi)
  (hw:HT.dc items.size 0 lo=0/\HT.dc items.size items.size hi=items.size) (h:Q (.ref t) s):wpAny (model prog w) A (getItem (.ref t) (.ref sl)) Q E s:=by
 obtain⟨os,hos,hcs,hds⟩:=id hs
 have hTs:s.TypeIs (.ref sl) "slice" :=⟨os,hos,hcs⟩
 unfold getItem
 try with_reducible refine wpAny_holding ?_
 first | refine wpAny_bind (wpAny_pure ?_) | skip
 refine wpAny_bind (wpAny_sequenceKey ht.typeIs (by decide) ?_)
 refine wpAny_bind (wpAny_callSpecial?_slot (name:=Str.ofString "__getitem__") ht.typeIs PyProof.Rows.slot_tuple_getitem
  (wpAny_call_entry PyProof.Rows.slot_tuple_getitem ht.typeIs entry_tuple_getitem ?_ (args_tuple_getitem _ _)))
 show wpAny _ _ (Builtin.Tuple.tupleItemsOf (.ref t) >>= _) _ _ s
 refine wpAny_bind (tupleItemsOf_ ht ?_)
 refine wpAny_bind (wpAny_typeOf hTs ?_)
 rw[if_pos (by decide)]
 refine wpAny_bind (HT.gv hs pl pu ?_)
 show wpAny _ _ (if (((HT.dc items.size 0 lo:Nat):Int) == 0&&(1:Int) == 1&&(HT.dc items.size items.size hi - HT.dc items.size 0 lo) == items.size)=true then _ else _) _ _ s
 rw[if_pos (by rw[hw.1,hw.2];simp)]
 refine wpAny_bind (m:=Builtin.Tuple.tupleIsExact _) (wpAny_bind (wpAny_typeOf ht.typeIs (wpAny_pure ?_)))
 rw[if_pos (by decide)]
 exact wpAny_bind (wpAny_rule (wpAny_pure ⟨_,rfl,wpAny_pure h⟩))
section
variable{X:Cx}
theorem E5(hu:X.A.units < cLine):cX X (compareOp .Eq) (Lx X.K):=by
 intro pins s σ H x y v u Q I rx ry h
 obtain⟨p,z,rfl,rfl,hp,hQ⟩:=h
 cases(show v=Value.ref p from rx)
 obtain⟨t,rfl⟩:=ry
 have fin:EP X pins σ Q (.bool false) s:=⟨.bl false,H,I,rfl,hQ⟩
 rcases hp with⟨xs,hp⟩ | ⟨xs,hp⟩ | ⟨kvs,hp⟩
 · obtain⟨ay,hv,pl,hz⟩:=I.list hp
   exact SeqAt.RcAt.list_str z t pl.isList hu _ _ _ _ fin
 · obtain⟨ay,hv,pl,hz⟩:=I.tuple hp
   exact SeqAt.RcAt.tuple_str z t pl hu _ _ _ _ fin
 · obtain⟨_,_,vs,_,o,es,ep,e,hx,hd,_⟩:=og I.bu hp
   exact uj z t e hx hd hu _ _ _ _ fin
theorem ER:B3 X (M0 X.K):=by
 intro pins s σ H x v vl vu lo hi sl Q I rx hs pl pu h
 obtain⟨a,xs,rfl,hx,hw,q⟩:=h
 cases rx
 obtain⟨ay,r,ht,hz⟩:=I.tuple hx
 have hlen:ay.toArray.size=xs.length:=by rw[List.size_toArray];exact r.length.symm
 refine⟨"tuple",_,PyProof.Rows.slot_tuple_getitem.lookup,ht.typeIs,?_⟩
 exact oX ht hs pl pu (by rw[hlen];exact hw) ⟨.ref a,H,I,rfl,q⟩
theorem DG:cX X (binaryOp .Add) (F0 X.K):=by
 intro pins s σ H x y v u Q I rx ry h
 obtain⟨a,b,ys,rfl,rfl,ha,hb,q⟩:=h
 cases(show v=Value.ref a from rx)
 cases(show u=Value.ref b from ry)
 obtain⟨ay,r1,p1,_⟩:=I.tuple ha
 obtain⟨its2,r2,p2,_⟩:=I.tuple hb
 have e1:ay=[]:=by cases r1;rfl
 subst e1
 obtain⟨⟨cls,dd,data,sl⟩,ho,hc,n,hd⟩:=id p1
 obtain⟨⟨cls2,dd2,data2,sl2⟩,ho2,hc2,n2,hd2⟩:=id p2
 simp only at hc hd hc2 hd2
 subst hc hd hc2 hd2
 exact concat_meets ⟨_,ho,rfl⟩ ⟨_,ho2,rfl⟩ noFill_tuple_add seq_tuple_add PySem.F.slot_tuple_add PySem.F.entry_tuple_add (PySem.F.args_tuple_add_2 _ _)
  (tuple_addW0 a b _ _ n n2 dd dd2 sl sl2 rfl) ⟨ho,ho2,⟨.ref b,H,I,rfl,q⟩⟩
theorem CK:cX X (binaryOp .Add) FW:=by
 intro pins s σ H x y v u Q I rx ry h
 obtain⟨a,b,rfl,rfl,hz,q⟩:=h
 obtain⟨t,rfl⟩:=rx
 obtain⟨t',rfl⟩:=ry
 exact PyProof.Rows.add_str (fun t' tk=>⟨.str (a++b),H,I.tok _,⟨_,rfl⟩,q⟩) hz
theorem Ha:cX X (binaryOp .Add) (fun x y H Q=>(B2 fun i j=> .int (i+j)) x y H Q\/(LF x y H Q\/(Fw X.K x y H Q\/(F0 X.K x y H Q\/FW x y H Q)))):=IT.or (JV.or (Ef.or (DG.or CK)))
theorem P4:B3 X (fun x lo hi H Q=>MH X.K x lo hi H Q\/(Mf X.K x lo hi H Q\/M0 X.K x lo hi H Q)):=D3.or (F8.or ER)
end
section
variable{X:Cx}{o i:Expr}{pos:Pos}{ty:TE}{a:Addr}{kvs:List (Key × V)}
end
end L2
end
section
open PySem PySem.W PyProof.Rows
namespace L2
open PySem PySem.Spec PyProof.Rows
noncomputable def wH{α :Type}(c:Nat->Nat->Bool):KasT α -> α
 | .ret a=>a
 | .ask i j k=>wH c (k (c i j))
noncomputable def BE{α :Type}(n:Nat)(c:Nat->Nat->Bool):KasT α ->Bool
 | .ret _=>true
 | .ask i j k=>decide (i < n)&&decide (j < n)&& !decide (i=j)&&BE n c (k (c i j))
theorem sR{α :Type}{cmp:Nat->Nat->(Bool->Shared->Prop)->Shared->Prop}{n:Nat}{c:Nat->Nat->Bool}{s:Shared}(hc: ∀ i j C,i < n->j < n->i≠j->C (c i j) s->cmp i j C s){Q: α ->Shared->Prop} :
  ∀ t:KasT α,BE n c t=true->Q (wH c t) s->t.kasWp cmp Q s
 | .ret a,_,q=>q
 | .ask i j k,h,q=>by
  simp only[BE,Bool.and_eq_true,decide_eq_true_eq,Bool.not_eq_true',decide_eq_false_iff_not] at h
  exact hc i j _ h.1.1.1 h.1.1.2 h.1.2 (sR hc (k (c i j)) h.2 q)
noncomputable def gj{α :Type}(n:Nat)(c:Nat->Nat->Bool)(t:KasT α)(Q: α ->Prop):Prop:=BE n c t=true/\Q (wH c t)
theorem gj.ret{α :Type}{n:Nat}{c:Nat->Nat->Bool}{a: α}{Q: α ->Prop}(h:Q a):gj n c (.ret a) Q:=⟨rfl,h⟩
theorem gj.ask{α :Type}{n:Nat}{c:Nat->Nat->Bool}{i j:Nat}{k:Bool->KasT α}{Q: α ->Prop}(hi:i < n)(hj:j < n)(hij:i≠j)(h:gj n c (k (c i j)) Q):gj n c (.ask i j k) Q :=
 ⟨by simp only[BE,hi,hj,hij,h.1,decide_true,decide_false,Bool.not_false,Bool.and_self],h.2⟩
theorem gj.bind{α β :Type}{n:Nat}{c:Nat->Nat->Bool}{f: α ->KasT β}{Q: β ->Prop}: ∀{t:KasT α},gj n c t (fun a=>gj n c (f a) Q)->gj n c (t.bind f) Q
 | .ret a,h=>h.2
 | .ask i j k,h=>by
  have e:=h.1
  simp only[BE,Bool.and_eq_true,decide_eq_true_eq,Bool.not_eq_true',decide_eq_false_iff_not] at e
  exact gj.ask e.1.1.1 e.1.1.2 e.1.2 (gj.bind (t:=k (c i j)) ⟨e.2,h.2⟩)
theorem gj.mono{α :Type}{n:Nat}{c:Nat->Nat->Bool}{t:KasT α}{Q Q': α ->Prop}(h:gj n c t Q)(f: ∀ a,Q a->Q' a):gj n c t Q':=⟨h.1,f _ h.2⟩
structure fI(n:Nat)(p:Array Nat):Prop where
 perm:p.toList.Perm (List.range n)
theorem fI.size{n:Nat}{p:Array Nat}(h:fI n p):p.size=n:=by simpa using h.perm.length_eq
theorem fI.lt{n:Nat}{p:Array Nat}(h:fI n p){i:Nat}(hi:i < n):p.getD i 0 < n:=by
 have hi':i < p.size:=h.size ▸ hi
 have:p.getD i 0∈p.toList:=by
  rw[Array.getD_eq_getD_getElem?,Array.getElem?_eq_getElem hi']
  exact Array.getElem_mem_toList hi'
 exact List.mem_range.mp (h.perm.mem_iff.mp this)
theorem fI.ne{n:Nat}{p:Array Nat}(h:fI n p){i j:Nat}(hi:i < n)(hj:j < n)(hij:i≠j):p.getD i 0≠p.getD j 0:=fun e=>by
 have hi':i < p.size:=h.size ▸ hi
 have hj':j < p.size:=h.size ▸ hj
 have nd:p.toList.Nodup:=h.perm.nodup_iff.mpr List.nodup_range
 rw[Array.getD_eq_getD_getElem?,Array.getD_eq_getD_getElem?,Array.getElem?_eq_getElem hi',Array.getElem?_eq_getElem hj'] at e
 exact hij ((List.getElem?_inj (by simpa using hi') nd).mp (by rw[Array.getElem?_toList,Array.getElem?_toList,Array.getElem?_eq_getElem hi',Array.getElem?_eq_getElem hj'];exact congrArg some e))
theorem fI.of{n:Nat}{p q:Array Nat}(h:fI n p)(pm:q.Perm p):fI n q:=⟨(Array.perm_iff_toList_perm.mp pm).trans h.perm⟩
theorem uG(n:Nat):fI n (List.toArray (List.range n)):=⟨List.Perm.refl _⟩
section
variable{n:Nat}{r:Nat->Nat}
noncomputable def rk(r:Nat->Nat)(p:Array Nat)(i:Nat):Nat:=r (p.getD i 0)
noncomputable def oW(r:Nat->Nat)(p:Array Nat)(k:Nat):Prop:= ∀ i j,i < j->j < k->rk r p i < rk r p j
noncomputable def mY(r:Nat->Nat)(p:Array Nat)(k:Nat):Prop:= ∀ i j,i < j->j < k->rk r p j < rk r p i
noncomputable def cN(r:Nat->Nat)(i j:Nat):Bool:=decide (r i < r j)
noncomputable def qX(n:Nat)(r:Nat->Nat):Prop:= ∀ i j,i < n->j < n->r i=r j->i=j
theorem Bc{p:Array Nat}(hr:qX n r)(h:fI n p){i j:Nat}(hi:i < n)(hj:j < n)(hij:i≠j):rk r p i≠rk r p j:=fun e=>h.ne hi hj hij (hr _ _ (h.lt hi) (h.lt hj) e)
theorem Ce{p:Array Nat}{k:Nat}(h:oW r p k)(hk:1<=k)(x:rk r p (k - 1) < rk r p k):oW r p (k+1):=fun i j hij hj=>by
 rcases Nat.lt_or_ge j k with c | c
 · exact h i j hij c
 · have:j=k:=by omega
   subst this
   rcases Nat.lt_or_ge i (j - 1) with d | d
   · exact Nat.lt_trans (h i (j - 1) d (by omega)) x
   · have:i=j - 1:=by omega
     subst this;exact x
theorem qc{p:Array Nat}{k:Nat}(h:mY r p k)(hk:1<=k)(x:rk r p k < rk r p (k - 1)):mY r p (k+1):=fun i j hij hj=>by
 rcases Nat.lt_or_ge j k with c | c
 · exact h i j hij c
 · have:j=k:=by omega
   subst this
   rcases Nat.lt_or_ge i (j - 1) with d | d
   · exact Nat.lt_trans x (h i (j - 1) d (by omega))
   · have:i=j - 1:=by omega
     subst this;exact x
theorem uX{p:Array Nat}(hr:qX n r)(h:fI n p): ∀(f m:Nat),1<=m->m+f<=n->oW r p m ->
  gj n (cN r) (kas_asc p f m) fun m'=>m<=m'/\m'<=m+f/\oW r p m'/\(m' < m+f->rk r p m' < rk r p (m' - 1))
 | 0,m,h1,hm,u=>gj.ret ⟨Nat.le_refl _,Nat.le_refl _,u,fun x=>absurd x (Nat.lt_irrefl _)⟩
 | f+1,m,h1,hm,u=>by
  refine gj.ask (h.lt (by omega)) (h.lt (by omega)) (h.ne (by omega) (by omega) (by omega)) ?_
  have ne:=Bc hr h (i:=m) (j:=m - 1) (by omega) (by omega) (by omega)
  by_cases c:rk r p m < rk r p (m - 1)
  · have e:cN r (p.getD m 0) (p.getD (m - 1) 0)=true:=decide_eq_true c
    rw[e,if_pos rfl]
    exact gj.ret ⟨Nat.le_refl _,by omega,u,fun _=>c⟩
  · have e:cN r (p.getD m 0) (p.getD (m - 1) 0)=false:=decide_eq_false c
    rw[e,if_neg (by simp)]
    refine(uX hr h f (m+1) (by omega) (by omega) (Ce u h1 (by omega))).mono fun m' x=>⟨by omega,by omega,x.2.2.1,fun y=>x.2.2.2 (by omega)⟩
theorem wY{p:Array Nat}(hr:qX n r)(h:fI n p): ∀(f m:Nat),1<=m->m+f<=n->mY r p m ->
  gj n (cN r) (kas_desc f p m 0) fun t=>t.1=p/\t.2.2=0/\m<=t.2.1/\t.2.1<=m+f/\mY r p t.2.1
 | 0,m,h1,hm,u=>gj.ret ⟨rfl,rfl,Nat.le_refl _,Nat.le_refl _,u⟩
 | f+1,m,h1,hm,u=>by
  refine gj.ask (h.lt (by omega)) (h.lt (by omega)) (h.ne (by omega) (by omega) (by omega)) ?_
  have ne:=Bc hr h (i:=m) (j:=m - 1) (by omega) (by omega) (by omega)
  by_cases c:rk r p m < rk r p (m - 1)
  · have e:cN r (p.getD m 0) (p.getD (m - 1) 0)=true:=decide_eq_true c
    rw[e,if_pos rfl,if_neg (by omega)]
    refine(wY hr h f (m+1) (by omega) (by omega) (qc u h1 c)).mono fun t x=>⟨x.1,x.2.1,by omega,by omega,x.2.2.2.2⟩
  · have e:cN r (p.getD m 0) (p.getD (m - 1) 0)=false:=decide_eq_false c
    rw[e,if_neg (by simp)]
    refine gj.ask (h.lt (by omega)) (h.lt (by omega)) (h.ne (by omega) (by omega) (by omega)) ?_
    have e2:cN r (p.getD (m - 1) 0) (p.getD m 0)=true:=decide_eq_true (show rk r p (m - 1) < rk r p m by omega)
    rw[e2,if_pos rfl]
    exact gj.ret ⟨rfl,rfl,Nat.le_refl _,Nat.le_add_right _ _,u⟩
theorem By{p:Array Nat}{m:Nat}(hm:m<=p.size)(k:Nat):rk r (kas_rev p 0 m) k=if k < m then rk r p (m - 1 - k) else rk r p k:=by
 unfold rk kas_rev
 rw[Array.getD_eq_getD_getElem?,getElem?_mirror_all hm]
 by_cases c:k < m
 · rw[if_pos ⟨Nat.zero_le _,c⟩,if_pos c,Array.getD_eq_getD_getElem?,Nat.zero_add]
 · rw[if_neg (fun x=>c x.2),if_neg c,Array.getD_eq_getD_getElem?]
theorem zC{p:Array Nat}(hr:qX n r)(h:fI n p){m:Nat}(h1:1<=m)(hm:m<=n)(u:mY r p m):gj n (cN r) (kas_tail3 m n p) fun t=>fI n t.2/\1<=t.1/\t.1<=n/\oW r t.2 t.1:=by
 have h':fI n (kas_rev p 0 m):=h.of (mirror_perm _ _ _ _)
 refine gj.bind ((uX hr h' (n - m) m h1 (by omega) fun i j hij hj=>?_).mono fun m' x=>gj.ret ⟨h',by omega,by omega,x.2.2.1⟩)
 rw[By (by rw[h.size];exact hm),By (by rw[h.size];exact hm),if_pos (by omega),if_pos hj]
 exact u _ _ (by omega) (by omega)
theorem Ap{p:Array Nat}(hr:qX n r)(h:fI n p)(h1:1<=n):gj n (cN r) (kas_count n p) fun t=>fI n t.2/\1<=t.1/\t.1<=n/\oW r t.2 t.1:=by
 refine gj.bind ((uX hr h (n - 1) 1 (Nat.le_refl _) (by omega) fun i j hij hj=>by omega).mono fun m x=>?_)
 obtain⟨x1,x2,x3,x4⟩:=x
 by_cases c:m=n
 · rw[if_pos (by simpa using c)]
   exact gj.ret ⟨h,x1,by omega,x3⟩
 · rw[if_neg (by simpa using c)]
   by_cases c2:m > 1
   · rw[if_pos c2]
     refine gj.ask (h.lt (by omega)) (h.lt (by omega)) (h.ne (by omega) (by omega) (by omega)) ?_
     have e2:cN r (p.getD 0 0) (p.getD (m - 1) 0)=true:=decide_eq_true (x3 0 (m - 1) (by omega) (by omega))
     rw[e2,if_pos rfl]
     exact gj.ret ⟨h,x1,by omega,x3⟩
   · rw[if_neg c2]
     have:m=1:=by omega
     subst this
     refine gj.bind ((wY hr h (n - (1+1)) (1+1) (by omega) (by omega) (qc (fun i j hij hj=>by omega) (Nat.le_refl _) (x4 (by omega)))).mono fun t y=>?_)
     obtain⟨y1,y2,y3,y4,y5⟩:=y
     rw[if_neg (by omega),y1]
     exact zC hr h (by omega) (by omega) y5
theorem oD{p:Array Nat}(hr:qX n r)(h:fI n p){k:Nat}(hk:k < n)(u:oW r p k): ∀(f l m:Nat),l<=m->m<=k->m - l<=f->(∀ i,i < l->rk r p i < rk r p k)->(∀ i,m<=i->i < k->rk r p k < rk r p i) ->
  gj n (cN r) (kas_place p k f l m) fun t=>t<=k/\(∀ i,i < t->rk r p i < rk r p k)/\(∀ i,t<=i->i < k->rk r p k < rk r p i)
 | 0,l,m,h1,h2,h3,a,b=>gj.ret ⟨by omega,a,fun i hi hik=>b i (by omega) hik⟩
 | f+1,l,m,h1,h2,h3,a,b=>by
  unfold kas_place
  by_cases c:l ≥ m
  · rw[if_pos c];exact gj.ret ⟨by omega,a,fun i hi hik=>b i (by omega) hik⟩
  · rw[if_neg c]
    refine gj.ask (h.lt (by omega)) (h.lt (by omega)) (h.ne (by omega) (by omega) (by omega)) ?_
    have ne:=Bc hr h (i:=k) (j:=(l+m) / 2) (by omega) (by omega) (by omega)
    by_cases d:rk r p k < rk r p ((l+m) / 2)
    · have e:cN r (p.getD k 0) (p.getD ((l+m) / 2) 0)=true:=decide_eq_true d
      rw[e,if_pos rfl]
      refine oD hr h hk u f l ((l+m) / 2) (by omega) (by omega) (by omega) a fun i hi hik=>?_
      rcases Nat.lt_or_ge ((l+m) / 2) i with z | z
      · exact Nat.lt_trans d (u _ _ z hik)
      · have:i=(l+m) / 2:=by omega
        rw[this];exact d
    · have e:cN r (p.getD k 0) (p.getD ((l+m) / 2) 0)=false:=decide_eq_false d
      rw[e,if_neg (by simp)]
      refine oD hr h hk u f ((l+m) / 2+1) m (by omega) (by omega) (by omega) (fun i hi=>?_) b
      have d':rk r p ((l+m) / 2) < rk r p k:=by omega
      rcases Nat.lt_or_ge i ((l+m) / 2) with z | z
      · exact Nat.lt_trans (u _ _ z (by omega)) d'
      · have:i=(l+m) / 2:=by omega
        rw[this];exact d'
theorem pS{p:Array Nat}{k d:Nat}(hk:k < p.size)(hd:d<=k)(i:Nat):rk r (bubble p k d) i=if i=k - d then rk r p k else if k - d < i/\i<=k then rk r p (i - 1) else rk r p i:=by
 have g: ∀(q:Array Nat)(j:Nat),rk r q j=r (q[j]?.getD 0):=fun q j=>by unfold rk;rw[Array.getD_eq_getD_getElem?]
 rw[g,g,g,g,getElem?_bubble hk d hd]
 repeat' split
 all_goals rfl
theorem ze(hr:qX n r): ∀(f:Nat)(p:Array Nat)(k:Nat),fI n p->k+f=n->oW r p k->gj n (cN r) (kas_bin f p k) fun q=>fI n q/\oW r q n
 | 0,p,k,h,e,u=>gj.ret ⟨h,(show k=n from e) ▸ u⟩
 | f+1,p,k,h,e,u=>by
  refine gj.bind ((oD hr h (by omega) u k 0 k (by omega) (by omega) (by omega) (fun i hi=>by omega) (fun i h1 h2=>by omega)).mono fun l x=>?_)
  obtain⟨x1,x2,x3⟩:=x
  refine ze hr f _ (k+1) (h.of (bubble_perm _ _ _)) (by omega) fun i j hij hj=>?_
  have hs:k < p.size:=by rw[h.size];omega
  rw[pS hs (by omega),pS hs (by omega)]
  repeat' split
  all_goals first | (exfalso;omega) | exact u _ _ (by omega) (by omega) | exact x2 _ (by omega) | exact x3 _ (by omega) (by omega)
theorem Fn(hr:qX n r)(h1:1<=n):gj n (cN r) (kas_sort n) fun q=>fI n q/\oW r q n:=by
 refine gj.bind ((Ap hr (uG n) h1).mono fun t x=>?_)
 obtain⟨x1,x2,x3,x4⟩:=x
 by_cases c:t.1 < n
 · rw[if_pos c]
   have:max t.1 1=t.1:=by omega
   rw[this]
   exact ze hr _ _ _ x1 (by omega) x4
 · rw[if_neg c]
   have:t.1=n:=by omega
   exact gj.ret ⟨x1,this ▸ x4⟩
end
theorem sG{α :Type}{n:Nat}{c c':Nat->Nat->Bool}(h: ∀ i j,i < n->j < n->c i j=c' i j): ∀ t:KasT α,BE n c' t=true->BE n c t=true/\wH c t=wH c' t
 | .ret a,_=>⟨rfl,rfl⟩
 | .ask i j k,e=>by
  simp only[BE,Bool.and_eq_true,decide_eq_true_eq,Bool.not_eq_true',decide_eq_false_iff_not] at e
  have hc:=h i j e.1.1.1 e.1.1.2
  have:=sG h (k (c' i j)) e.2
  simp only[BE,wH,Bool.and_eq_true,decide_eq_true_eq,Bool.not_eq_true',decide_eq_false_iff_not]
  rw[hc]
  exact⟨⟨e.1,this.1⟩,this.2⟩
noncomputable def hI(a b:Str):Prop:=a.cps.toList < b.cps.toList
instance (a b:Str):Decidable (hI a b):=inferInstanceAs (Decidable (a.cps.toList < b.cps.toList))
theorem gU(a:Str): ¬ hI a a:=List.lt_irrefl _
theorem iX{a b c:Str}(h1:hI a b)(h2:hI b c):hI a c:=List.lt_trans h1 h2
theorem iP{a b:Str}(h:hI a b): ¬ hI b a:=fun z=>gU a (iX h z)
theorem Ct{a b:Str}(h:a.cps.toList=b.cps.toList):a=b:=by
 cases a;cases b;simp only at h;rw[Array.toList_inj.mp h]
theorem lN{a b:Str}(h:a≠b):hI a b\/hI b a:=by
 by_cases h1:hI a b
 · exact .inl h1
 · by_cases h2:hI b a
   · exact .inr h2
   · exact absurd (Ct (List.le_antisymm (List.not_lt.mp h2) (List.not_lt.mp h1))) h
noncomputable def kE(xs:List Str)(x:Str):Nat:=(xs.filter fun y=>decide (hI y x)).length
theorem qr{xs:List Str}{x y:Str}(hx:x∈xs)(h:hI x y):kE xs x < kE xs y:=by
 unfold kE
 have sub: ∀ l:List Str,(l.filter fun z=>decide (hI z x)).length<=(l.filter fun z=>decide (hI z y)).length:=fun l=>by
  induction l with
  | nil=>exact Nat.le_refl _
  | cons z r ih =>
   by_cases h1:hI z x
   · rw[List.filter_cons_of_pos (by simpa using h1),List.filter_cons_of_pos (by simpa using iX h1 h)];simpa using ih
   · rw[List.filter_cons_of_neg (by simpa using h1)]
     by_cases h2:hI z y
     · rw[List.filter_cons_of_pos (by simpa using h2)];exact Nat.le_succ_of_le ih
     · rw[List.filter_cons_of_neg (by simpa using h2)];exact ih
 induction xs with
 | nil=>cases hx
 | cons z r ih =>
  rcases List.mem_cons.mp hx with rfl | hr
  · rw[List.filter_cons_of_neg (by simpa using gU x),List.filter_cons_of_pos (by simpa using h)]
    exact Nat.lt_succ_of_le (sub r)
  · by_cases h1:hI z x
    · rw[List.filter_cons_of_pos (by simpa using h1),List.filter_cons_of_pos (by simpa using iX h1 h)];simpa using ih hr
    · rw[List.filter_cons_of_neg (by simpa using h1)]
      by_cases h2:hI z y
      · rw[List.filter_cons_of_pos (by simpa using h2)];exact Nat.lt_succ_of_lt (ih hr)
      · rw[List.filter_cons_of_neg (by simpa using h2)];exact ih hr
theorem AU{xs:List Str}{x y:Str}(hx:x∈xs)(hy:y∈xs):kE xs x < kE xs y↔hI x y:=by
 refine⟨fun h=>?_,qr hx⟩
 by_cases e:x=y
 · subst e;exact absurd h (Nat.lt_irrefl _)
 · rcases lN e with z | z
   · exact z
   · exact absurd (qr hy z) (Nat.lt_asymm h)
noncomputable def cS(xs:List Str)(i j:Nat):Bool:=decide (hI (xs.getD i "") (xs.getD j ""))
theorem getD_mem{xs:List Str}{i:Nat}(h:i < xs.length):xs.getD i "" ∈xs:=by
 rw[List.getD_eq_getElem?_getD,List.getElem?_eq_getElem h];exact List.getElem_mem h
theorem sk{xs:List Str}(h1:1<=xs.length)(nd:xs.Nodup) :
  BE xs.length (cS xs) (kas_sort xs.length)=true/\(wH (cS xs) (kas_sort xs.length)).toList.Perm (List.range xs.length)/\((wH (cS xs) (kas_sort xs.length)).toList.map fun i=>xs.getD i "").Pairwise hI:=by
 have rkI: ∀ i j,i < xs.length->j < xs.length->(kE xs (xs.getD i "") < kE xs (xs.getD j "")↔hI (xs.getD i "") (xs.getD j "")):=fun i j hi hj=>AU (getD_mem hi) (getD_mem hj)
 have hr:qX xs.length fun i=>kE xs (xs.getD i ""):=fun i j hi hj e=>by
  have a:=rkI i j hi hj
  have b:=rkI j i hj hi
  have e':xs.getD i "" =xs.getD j "" :=Decidable.byContradiction fun ne=>by
   rcases lN ne with z | z
   · have:=a.mpr z;simp only at e;omega
   · have:=b.mpr z;simp only at e;omega
  rw[List.getD_eq_getElem?_getD,List.getD_eq_getElem?_getD,List.getElem?_eq_getElem hi,List.getElem?_eq_getElem hj] at e'
  exact(List.getElem?_inj hi nd).mp (by rw[List.getElem?_eq_getElem hi,List.getElem?_eq_getElem hj];exact congrArg some e')
 have ok:=Fn hr h1
 have al: ∀ i j,i < xs.length->j < xs.length->cS xs i j=cN (fun i=>kE xs (xs.getD i "")) i j:=fun i j hi hj=>by
  unfold cS cN
  rw[decide_eq_decide]
  exact(rkI i j hi hj).symm
 have ea:=sG al (kas_sort xs.length) ok.1
 rw[ea.2]
 have sh:=ok.2.1
 refine⟨ea.1,sh.perm,?_⟩
 rw[List.pairwise_map,List.pairwise_iff_getElem]
 intro i j hi hj hij
 have hj':j < xs.length:=by rw[<- sh.size];simpa using hj
 have:=ok.2.2 i j hij hj'
 unfold rk at this
 have:=(rkI _ _ (sh.lt (by omega)) (sh.lt hj')).mp this
 rw[Array.getD_eq_getD_getElem?,Array.getD_eq_getD_getElem?,Array.getElem?_eq_getElem (by simpa using hi),Array.getElem?_eq_getElem (by simpa using hj)] at this
 simpa using this
open PySem PySem.Spec PyProof.Rows
section
variable{prog:Program}{w:World}{A:Around}{E:Value->Shared->Prop}{s:Shared}
noncomputable def df(h:Heap)(a:Addr)(vs:List Value):Heap:=((h.update a (Obj.mapSeq fun _=>(#[]:Array Value))).push (seqObj "tuple" vs.toArray 0)).push (seqObj "list" #[] 0)
theorem oK{h:Heap}{a b:Addr}{vs:List Value}(hb:b < h.objs.size):(df h a vs).get? b=(h.update a (Obj.mapSeq fun _=>(#[]:Array Value))).get? b :=
 (Heap.get?_push_ne _ _ _ (Nat.ne_of_lt (Nat.lt_of_lt_of_eq (Nat.lt_succ_of_lt hb) ((size_push' _ _).trans (congrArg (· +1) (Heap.size_update _ _ _))).symm))).trans
  (Heap.get?_push_ne _ _ _ (Nat.ne_of_lt (Nat.lt_of_lt_of_eq hb (Heap.size_update _ _ _).symm)))
theorem t7{h:Heap}{a b:Addr}{vs:List Value}{o:Obj}(hb:b≠a)(e:h.get? b=some o):(df h a vs).get? b=some o :=
 (oK (Heap.lt_size e)).trans ((Heap.get?_update_ne _ _ _ _ hb).trans e)
theorem kF{vs:List Value}(h:vs.length < 64):vs.length<=sizeLine:=Nat.le_trans (Nat.le_of_lt h) (by decide)
theorem pB{a:Addr}{vs:List Value}{n:Nat}{P:PySem.Fin->Shared->Prop}{κ :SortKind}{G:Array Nat->Prop}(ho:s.heap.get? a=some (seqObj "list" vs.toArray n))(h64:vs.length < 64)
  (hk:2<=vs.length-> ∀ Q':SortKind->Shared->Prop,Q' κ { s with heap:=df s.heap a vs }->wpAny (model prog w) A (keyKind' vs.toArray) Q' E { s with heap:=df s.heap a vs })
  (ha:2<=vs.length-> ∀ Q':Array Nat->Shared->Prop,(∀ p,G p->Q' p { s with heap:=df s.heap a vs })->(kas_sort vs.length).kasWp (kas_ask prog w A κ vs) Q' { s with heap:=df s.heap a vs })
  (h0:vs.length < 2->P (.done (.ret .none)) { s with heap:=sortedHeap s.heap a vs vs.toArray })
  (h: ∀ p:Array Nat,p.size=vs.length->G p->P (.done (.ret .none)) { s with heap:=sortedHeap s.heap a vs (p.toList.map fun i=>vs.getD i Value.none).toArray }):wpAny (model prog w) A (Builtin.«list.sort» ⟨[.ref a],[]⟩) P E s:=by
 obtain⟨ep,g1⟩: ∃ k,(s.heap.update a (Obj.mapSeq fun _=>(#[]:Array Value))).get? a=some (seqObj "list" #[] k):=⟨_,get?_update_seq ho fun _=> #[]⟩
 have g2:(df s.heap a vs).get? a=some (seqObj "list" #[] ep):=(oK (Heap.lt_size ho)).trans g1
 have z:=List.size_toArray (as:=vs)
 rw[list_sort_plain]
 refine wpAny_bind (listItems_at ho rfl (wpAny_bind (listUpdate_at ho rfl (wpAny_bind (seqEpoch_at g1 rfl (wpAny_bind (wpAny_newTuple (wpAny_bind (wpAny_newList (wpAny_holding ?_) (Nat.zero_le _))) (kF h64))))) (z ▸ kF h64) (Nat.zero_le _))))
 show wpAny (model prog w) A _ P E { s with heap:=df s.heap a vs }
 dsimp only
 have last: ∀ out:Array Value,out.size<=sizeLine->P (.done (.ret .none)) { s with heap:=sortedHeap s.heap a vs out }->P (.done (.ret .none)) { s with heap:=(df s.heap a vs).update a (Obj.mapSeq fun _=>out) }:=fun _ _ q=>q
 rcases Nat.lt_or_ge vs.toArray.size 2 with c | c
 · rw[if_pos c,if_pos c]
   have e:(arrOf (SortSt.mk' general' (vs.toArray.zip vs.toArray) #[] 7 none)).map (·.2)=vs.toArray:=by
    apply Array.toList_inj.mp
    show((vs.toArray.zip vs.toArray).map (·.2)).toList=_
    rw[Array.toList_map,Array.toList_zip]
    exact List.map_snd_zip (Nat.le_refl _)
   refine wpAny_bind (m:=pure general') (wpAny_pure ?_)
   rw[StateT.run_pure]
   refine wpAny_bind (wpAny_pure (wpAny_bind (seqEpoch_at g2 rfl (wpAny_bind (listUpdate_at g2 rfl ?_ (Nat.zero_le _) (hsz2:=by rw[e,z];exact Nat.le_succ_of_le (kF h64)))))))
   rw[if_neg (by simp)]
   refine wpAny_pure ?_
   rw[e]
   exact last _ (by rw[z];exact kF h64) (h0 (z ▸ c))
 · rw[if_neg (Nat.not_lt.mpr c),if_neg (Nat.not_lt.mpr c)]
   have c':2<=vs.length:=z ▸ c
   have run:=kat_run (E:=E) (ks:=vs) (vs:=vs) (Q:=fun st u=>u={ s with heap:=df s.heap a vs }/\ ∃ p:Array Nat,p.size=vs.length/\arrOf st=p.map (kas_item (vs.toArray.zip vs.toArray))/\failedOf st=none/\G p)
    (G:=fun p u=>u={ s with heap:=df s.heap a vs }/\G p) rfl c' h64 (fun p st u b1 b2 b3 b4=>⟨b4.1,p,b1,b2,b3,b4.2⟩) (ha c' _ fun p g=>⟨rfl,g⟩)
   refine wpAny_bind (hk c' _ (wpAny_bind (wpAny_mono run (fun r u x=>?_) fun _ _ x=>x)))
   obtain⟨⟨⟩,st⟩:=r
   obtain⟨rfl,p,hp,har,hf,g⟩:=x
   have el:(List.toArray (p.toList.map fun i=>vs.getD i Value.none)).size<=sizeLine:=by rw[List.size_toArray,List.length_map,Array.length_toList,hp];exact kF h64
   dsimp only
   rw[kat_snds rfl har,hf]
   refine wpAny_bind (seqEpoch_at g2 rfl (wpAny_bind (listUpdate_at g2 rfl ?_ (Nat.zero_le _) (Nat.le_succ_of_le el))))
   rw[if_neg (by simp)]
   exact wpAny_pure (last _ el (h p hp g))
abbrev ki(h:Heap)(vs:List Value):Heap:=((h.push (seqObj "list" #[] 0)).update h.objs.size (Obj.mapSeq (· ++vs.toArray))).push (seqObj "list" vs.toArray 0)
theorem eS(h:Heap)(vs:List Value):((h.push (seqObj "list" #[] 0)).update h.objs.size (Obj.mapSeq (· ++vs.toArray))).objs.size=h.objs.size+1:=(Heap.size_update _ _ _).trans (size_push' _ _)
theorem ic(h:Heap)(vs:List Value):(ki h vs).get? (h.objs.size+1)=some (seqObj "list" vs.toArray 0):=(eS h vs) ▸ Heap.get?_push_size _ rfl
theorem sv{h:Heap}{vs:List Value}{b:Addr}{o:Obj}(e:h.get? b=some o):(ki h vs).get? b=some o:=by
 have l:=Heap.lt_size e
 have z:=eS h vs
 exact(Heap.get?_push_ne _ _ _ (Nat.ne_of_lt (Nat.lt_of_lt_of_eq (Nat.lt_succ_of_lt l) z.symm))).trans ((Heap.get?_update_ne _ _ _ _ (Nat.ne_of_lt l)).trans ((Heap.get?_push_ne _ _ _ (Nat.ne_of_lt l)).trans e))
theorem vJ{l:Addr}{vs:List Value}{Q:Value->Shared->Prop}{κ :SortKind}{G:Array Nat->Prop}(hl:s.heap.IsList l vs.toArray)(h64:vs.length < 64)
  (hk: ∀ h':Heap,(∀ b o,s.heap.get? b=some o->h'.get? b=some o)->2<=vs.length-> ∀ Q':SortKind->Shared->Prop,Q' κ { s with heap:=h' }->wpAny (model prog w) A.in1.in1 (keyKind' vs.toArray) Q' E { s with heap:=h' })
  (ha: ∀ h':Heap,(∀ b o,s.heap.get? b=some o->h'.get? b=some o)->2<=vs.length-> ∀ Q':Array Nat->Shared->Prop,(∀ p,G p->Q' p { s with heap:=h' })->(kas_sort vs.length).kasWp (kas_ask prog w A.in1.in1 κ vs) Q' { s with heap:=h' })
  (h0:vs.length < 2->Q (.ref (s.heap.objs.size+1)) { s with heap:=sortedAll s.heap vs vs.toArray })
  (h: ∀ p:Array Nat,p.size=vs.length->G p->Q (.ref (s.heap.objs.size+1)) { s with heap:=sortedAll s.heap vs (p.toList.map fun i=>vs.getD i Value.none).toArray }):wpAny (model prog w) A (call (.builtin "sorted") [.ref l]) Q E s:=by
 have kp: ∀ b o,s.heap.get? b=some o->(df (ki s.heap vs) (s.heap.objs.size+1) vs).get? b=some o:=fun b o e=>t7 (Nat.ne_of_lt (Nat.lt_succ_of_lt (Heap.lt_size e))) (sv e)
 refine Calls.call_function_entry kind_sorted plain_sorted entry_sorted (args_sorted1 (.ref l)) ?_
 unfold Builtin.«sorted»
 refine wpAny_bind (m:=checkCount "sorted" 1 1 [Value.ref l].length) (wpAny_pure (wpAny_bind (collect_list hl (wpAny_bind (wpAny_newList ?_ (kF h64))) (kF h64))))
 show wpAny _ _ _ _ _ { s with heap:=ki s.heap vs }
 rw[eS]
 refine wpAny_bind (wpAny_holding (wpAny_call_entry slot_list_sort ⟨_,ic s.heap vs,rfl⟩ entry_list_sort (pB (G:=G) (κ := κ) (ic s.heap vs) h64 (hk _ kp) (ha _ kp) (fun c=>⟨_,rfl,?_⟩) fun p hp g=>⟨_,rfl,?_⟩) (args_list_sort (.ref (s.heap.objs.size+1)))))
 · exact wpAny_pure ⟨_,rfl,h0 c⟩
 · exact wpAny_pure ⟨_,rfl,h p hp g⟩
end
open PySem PySem.Spec PyProof.Rows
noncomputable def jh(H:Hp)(y:V)(q:Str × Int):Prop:= ∃ b,y= .ref b/\H b=some (.tup [.str q.1,.int q.2])
theorem jh.v{H:Hp}{y:V}{q:Str × Int}(h:jh H y q):pV H y (.inr q.1,.int q.2):=h
theorem jh.same{H H':Hp}{y:V}{q:Str × Int}(h:jh H y q)(s:jb H H'):jh H' y q:=let ⟨b,e,h⟩:=h;⟨b,e,s _ _ h⟩
noncomputable def Cj(h:Heap)(v:Value)(q:Str × Int):Prop:= ∃ b o k t u,v= .ref b/\h.get? b=some o/\o.cls= .type "tuple" /\o.data= .seq #[.str q.1 t,.int q.2 u] k
theorem Cj.kept{h h':Heap}{v:Value}{q:Str × Int}(k: ∀ b o,h.get? b=some o->h'.get? b=some o)(x:Cj h v q):Cj h' v q:=let ⟨b,o,n,t,u,e1,e2,e3,e4⟩:=x;⟨b,o,n,t,u,e1,k _ _ e2,e3,e4⟩
theorem uo{P:Program}{w:World}{H:Hp}{h:Heap}(ok:jm P w H h): ∀{ys:List V}{ps:List (Str × Int)}{ay:List Value},Paired (jh H) ys ps->Vals ys ay->Paired (Cj h) ay ps
 | _,_,_,.nil,.nil=> .nil
 | _,_,_,.cons hp hr,.cons hv hrv=>by
  obtain⟨b,rfl,hb⟩:=hp
  obtain⟨_,its0,r0,o,e1,e2,n,e3,_⟩:=(show bb P w H h b (.tup [.str _,.int _]) from ok b _ hb)
  obtain⟨u1,u2,rfl,⟨t1,rfl⟩,⟨t2,rfl⟩⟩:=vals2 r0
  cases(show _=Value.ref b from hv)
  exact .cons ⟨b,o,n,t1,t2,rfl,e1,e2,e3⟩ (uo ok hr hrv)
theorem rN{h:Heap}: ∀{vs:List Value}{ps:List (Str × Int)},Paired (Cj h) vs ps-> ∀{i:Nat},i < vs.length-> ∃ q,ps[i]?=some q/\Cj h (vs.getD i Value.none) q
 | _,_,.nil,i,hi=>absurd hi (Nat.not_lt_zero _)
 | _,_,.cons hp hr,0,_=>⟨_,rfl,hp⟩
 | _,_,.cons hp hr,i+1,hi=>by
  obtain⟨q,e,a⟩:=rN hr (i:=i) (by simpa using hi)
  exact⟨q,by simpa using e,by simpa using a⟩
theorem ud{h : Heap} : ∀{vs : List Value}{ps : List (Str × Int)}, Paired (Cj h) vs ps -> ∃ fs, KatTups h vs fs /\ fs.length = vs.length /\ ∀ v ∈ fs, ∃ x t, v = Value.str x t
  | _, _, .nil => ⟨[], .nil, rfl, fun v m => nomatch m⟩
  | _, _, .cons hp hr => by
    obtain⟨fs, k, l, st⟩ := ud hr
    obtain⟨b, o, n, t, u, rfl, e1, e2, e3⟩ := hp
    exact⟨_, .cons e1 e2 e3 rfl k, by simp[l], fun v m => by rcases List.mem_cons.mp m with rfl | m; · exact⟨_, _, rfl⟩
                                                               · exact st v m⟩
section
variable{prog:Program}{w:World}{A:Around}{E:Value->Shared->Prop}{s:Shared}
theorem xO{vs:List Value}{ps:List (Str × Int)}(hp:Paired (Cj s.heap) vs ps)(nd:(ps.map (·.1)).Nodup){i j:Nat}{C:Bool->Shared->Prop}(hi:i < vs.length)(hj:j < vs.length)(hij:i≠j)(h:C (cS (ps.map (·.1)) i j) s):kas_ask prog w A (tuples' true) vs i j C s:=by
 obtain⟨q1,f1,b1,o1,n1,t1,u1,e1,g1,c1,d1⟩:=rN hp hi
 obtain⟨q2,f2,b2,o2,n2,t2,u2,e2,g2,c2,d2⟩:=rN hp hj
 have hne:q1.1≠q2.1:=fun z=>hij ((List.getElem?_inj (by rw[List.length_map];exact(List.getElem?_eq_some_iff.mp f1).1) nd).mp (by rw[List.getElem?_map,List.getElem?_map,f1,f2];simp[z]))
 unfold kas_ask
 rw[e1,e2]
 refine kat_lt g1 d1 g2 d2 (SeqAt.EqAt.str_str q1.1 t1 q2.1 t2 _ _ _ _ ?_)
 refine PY (by simpa using hne) ?_
 refine oneLt_str ?_
 have e:cS (ps.map (·.1)) i j=decide (q1.1.cps.toList < q2.1.cps.toList):=by
  unfold cS
  rw[List.getD_eq_getElem?_getD,List.getD_eq_getElem?_getD,List.getElem?_map,List.getElem?_map,f1,f2]
  rfl
 rw[e] at h
 exact h
theorem vx{vs:List Value}{ps:List (Str × Int)}(hp:Paired (Cj s.heap) vs ps)(h2:2<=vs.length){Q':SortKind->Shared->Prop}(q:Q' (tuples' true) s):wpAny (model prog w) A (keyKind' vs.toArray) Q' E s:=by
 obtain⟨fs,k,l,st⟩:=ud hp
 refine kat_kind (T:= .type "str") k (by omega) (fun v m=>?_) (by decide) q
 obtain⟨x,t,rfl⟩:=st v m
 exact Looks.now
end
theorem nU{α β :Type}{R: α -> β ->Prop}: ∀{xs:List α}{zs:List β},Paired R xs zs-> ∀{i:Nat}(d: α)(e: β),i < xs.length->R (xs.getD i d) (zs.getD i e)
 | _,_,.nil,i,_,_,hi=>absurd hi (Nat.not_lt_zero _)
 | _,_,.cons hp hr,0,_,_,_=>hp
 | _,_,.cons hp hr,i+1,d,e,hi=>by simpa using nU hr (i:=i) d e (by simpa using hi)
theorem lY{α β :Type}{R: α -> β ->Prop}{xs:List α}{zs:List β}(hp:Paired R xs zs)(d: α)(e: β): ∀{is:List Nat},(∀ i∈is,i < xs.length)->Paired R (is.map fun i=>xs.getD i d) (is.map fun i=>zs.getD i e)
 | [],_=> .nil
 | i::r,hi=> .cons (nU hp d e (hi i List.mem_cons_self)) (lY hp d e fun j m=>hi j (List.mem_cons_of_mem _ m))
theorem sX: ∀{xs:List V}{us:List Value},Vals xs us-> ∀{i:Nat},i < xs.length->RelV (xs.getD i .non) (us.getD i .none)
 | _,_,.nil,i,hi=>absurd hi (Nat.not_lt_zero _)
 | _,_,.cons hp hr,0,_=>hp
 | _,_,.cons hp hr,i+1,hi=>by simpa using sX hr (i:=i) (by simpa using hi)
theorem pR{xs:List V}{us:List Value}(h:Vals xs us): ∀{is:List Nat},(∀ i∈is,i < xs.length)->Vals (is.map fun i=>xs.getD i .non) (is.map fun i=>us.getD i .none)
 | [],_=> .nil
 | i::r,hi=> .cons (sX h (hi i List.mem_cons_self)) (pR h fun j m=>hi j (List.mem_cons_of_mem _ m))
theorem xK{α :Type}(l:List α)(d: α):(List.range l.length).map (fun i=>l.getD i d)=l:=by
 refine List.ext_getElem? fun i=>?_
 rw[List.getElem?_map]
 by_cases h:i < l.length
 · rw[List.getElem?_range h,List.getElem?_eq_getElem h];simp[h]
 · rw[List.getElem?_eq_none (by rw[List.length_range];omega),List.getElem?_eq_none (by omega)];rfl
noncomputable def vk(K:PySem.W.Frag):List V->Hp->VK->Prop:=fun xs H Q=> ∃(p:Addr)(ys:List V)(ps:List (Str × Int)),xs=[.ref p]/\gA K H p ys/\Paired (jh H) ys ps/\ps.length < 64/\(ps.map (·.1)).Nodup /\
 ∀ l ys' ps',H l=none->ps'.Perm ps->(ps'.map (·.1)).Pairwise hI->Paired (jh H) ys' ps'->Q (.ref l) (upd H l (.lst ys'))
section
variable{X:Cx}
theorem qG:bq X (.builtin "sorted") (vk X.K):=by
 intro pins s σ H xs us Q I r h
 obtain⟨p,ys,ps,rfl,hS,hP,h5,nd,q⟩:=h
 obtain⟨u,rfl,ru⟩:=vals1 r
 cases(show u=Value.ref p from ru)
 obtain⟨ay,hv,hl,hz⟩:=I.list hS
 have hat:=uo I.bu hP hv
 have hlen:=hv.length
 have hpl:=Paired.length hP
 have fs0:=sk (xs:=ps.map (·.1))
 rw[List.length_map] at fs0
 have el:ay.length=ps.length:=by omega
 have fin: ∀(out:List Value)(ys':List V)(ps':List (Str × Int)),ys'.length=ps.length->Vals ys' out->ps'.Perm ps->(ps'.map (·.1)).Pairwise hI->Paired (jh H) ys' ps'->EP X pins σ Q (.ref (s.heap.objs.size+1)) { s with heap:=sortedAll s.heap ay out.toArray }:=fun out ys' ps' hl' hv' pm pw pp=>by
  obtain⟨e,he⟩:=sortedAll_at s.heap ay out.toArray
  obtain⟨hn,I'⟩:=I.kP (a:=s.heap.objs.size+1) (o:= .lst ys') (t':=s.toks) (fun b o e=>sortedAll_old e) (Heap.get?_none_of_le (Nat.le_succ _)) ⟨by rw[hl'];exact Nat.le_trans (Nat.le_of_lt h5) (by decide),out,e,hv',by simpa [seqObj] using he⟩
  exact⟨.ref _,_,I',rfl,q _ ys' ps' hn pm pw pp⟩
 refine vJ (κ :=tuples' true) (G:=fun p=>2<=ay.length/\p=wH (cS (ps.map (·.1))) (kas_sort ps.length)) hl.isList (by omega)
  (fun h' k h2 Q' hq=>vx (s:={ s with heap:=h' }) (Paired.yp hat fun v q x=>x.kept k) h2 hq)
  (fun h' k h2 Q' hq=>sR (n:=ay.length) (c:=cS (ps.map (·.1))) (fun i j C hi hj hij hc=>xO (s:={ s with heap:=h' }) (Paired.yp hat fun v q x=>x.kept k) nd hi hj hij hc) _ (by rw[el];exact(fs0 (by omega) nd).1) (hq _ ⟨h2,by rw[el]⟩))
  (fun h2=>?_) fun pp hpp g=>?_
 · refine fin ay ys ps (by omega) hv (List.Perm.refl _) ?_ hP
   cases ps with
   | nil=>exact .nil
   | cons x r=>cases r with
    | nil=>exact List.pairwise_singleton _ _
    | cons y r'=>simp at el;omega
 · obtain⟨g2,g⟩:=g
   have fs:=fs0 (by omega) nd
   subst g
   have lt: ∀ i∈(wH (cS (ps.map (·.1))) (kas_sort ps.length)).toList,i < ps.length:=fun i hi=>List.mem_range.mp (fs.2.1.mem_iff.mp hi)
   refine fin _ ((wH (cS (ps.map (·.1))) (kas_sort ps.length)).toList.map fun i=>ys.getD i .non) ((wH (cS (ps.map (·.1))) (kas_sort ps.length)).toList.map fun i=>ps.getD i ("",0)) ?_ (pR hv fun i hi=>by have:=lt i hi;omega) ?_ ?_ (lY hP _ _ fun i hi=>by have:=lt i hi;omega)
   · rw[List.length_map,Array.length_toList,hpp,el]
   · have:=fs.2.1.map (fun i=>ps.getD i ("",0))
     rw[xK] at this
     exact this
   · have e:(((wH (cS (ps.map (·.1))) (kas_sort ps.length)).toList.map fun i=>ps.getD i ("",0)).map (·.1))=(wH (cS (ps.map (·.1))) (kas_sort ps.length)).toList.map fun i=>(ps.map (·.1)).getD i ("" :Str):=by
      rw[List.map_map]
      refine List.map_congr_left fun i hi=>?_
      show(ps.getD i ("",0)).1=_
      rw[List.getD_eq_getElem?_getD,List.getD_eq_getElem?_getD,List.getElem?_map,List.getElem?_eq_getElem (lt i hi)];rfl
     rw[e]
     exact fs.2.2
theorem t9(hc:X.calm=true):bq X (.builtin "sorted") (fun xs H Q=>zm X.K xs H Q\/(AL xs H Q\/vk X.K xs H Q)):=lK.or ((lH hc).or qG)
end
open PySem PySem.Spec PyProof.Rows
section
variable{X:Cx}{K:PySem.W.Frag}(h:X.K=K)
include h
end
end L2
end
section
open PySem PySem.W PyProof.Rows
namespace L2
open PySem PySem.Spec PyProof.Rows
noncomputable def FK(K:PySem.W.Frag):List V->Hp->VK->Prop:=fun xs H Q=> ∃ x p Ts T b,xs=[x,.ref p]/\H p=some (.tup (List.map V.ty Ts))/\jc K H x (.type T)/\PySem.W.kitAny K (.type T) (List.map Value.type Ts)=some b/\Q (.bl b) H
theorem wy: ∀{Ts:List String}{us:List Value},Vals (Ts.map V.ty) us->us=Ts.map Value.type
 | [],_,.nil=>rfl
 | T::r,u::us,.cons h t=>by rw[wy t,show u=Value.type T from h];rfl
section
variable{X:Cx}
theorem rK:bq X (.builtin "isinstance") (FK X.K):=by
 intro pins s σ H xs us Q I r h
 obtain⟨x,p,Ts,T,b,rfl,hp,ty,e,q⟩:=h
 obtain⟨u,c,rfl,ru,rc⟩:=vals2 r
 cases(show c=Value.ref p from rc)
 obtain⟨_,ay,hv,⟨oc,dd,dat,sl⟩,e1,e2,n,e3,_⟩:=(show bb X.prog X.w H s.heap p (.tup (Ts.map V.ty)) from I.bu p _ hp)
 simp only at e2 e3
 subst e2 e3
 obtain rfl:=wy hv
 have fin: ∀ tk,EP X pins σ Q (.bool b) { s with toks:=tk }:=fun tk=>⟨.bl b,H,I.tok tk,rfl,q⟩
 generalize hT:Value.type T=t at ty e
 cases ty with
 | non=>cases(show u=Value.none from ru);exact kia_tup kitx_none I.kH trivial e1 e nofun fin
 | bl y=>cases(show u=Value.bool y from ru);exact kia_tup kitx_bool I.kH trivial e1 e nofun fin
 | int i=>obtain⟨_,rfl⟩:=(show ∃ t,u=Value.int i t from ru);exact kia_tup kitx_int I.kH trivial e1 e nofun fin
 | str y=>obtain⟨_,rfl⟩:=(show ∃ t,u=Value.str y t from ru);exact kia_tup kitx_str I.kH trivial e1 e nofun fin
 | flt y=>obtain⟨_,rfl⟩:=(show ∃ t,u=Value.float y t from ru);exact kia_tup kitx_float I.kH trivial e1 e nofun fin
 | @lst a xs ea =>
  cases(show u=Value.ref a from ru)
  obtain⟨_,_,_,_,g⟩:=(show bb X.prog X.w H s.heap a (.lst xs) from I.bu a _ ea)
  exact kia_tup kitx_list I.kH ⟨_,g,rfl⟩ e1 e nofun fin
 | @jy a ob xs ea =>
  cases(show u=Value.ref a from ru)
  obtain⟨_,_,_,_,_,g⟩:=(show bb X.prog X.w H s.heap a (.jy ob (.lst xs)) from I.bu a _ ea)
  exact kia_tup kitx_list I.kH ⟨_,g,rfl⟩ e1 e nofun fin
 | @tup a xs ea =>
  cases(show u=Value.ref a from ru)
  obtain⟨_,_,_,o,g1,g2,_⟩:=(show bb X.prog X.w H s.heap a (.tup xs) from I.bu a _ ea)
  exact kia_tup kitx_tuple I.kH ⟨o,g1,g2⟩ e1 e nofun fin
 | @dK a kvs ea =>
  cases(show u=Value.ref a from ru)
  obtain⟨_,_,_,_,o,_,_,g1,g2,_⟩:=(show bb X.prog X.w H s.heap a (.dK kvs) from I.bu a _ ea)
  exact kia_tup kitx_dict I.kH ⟨o,g1,g2.1⟩ e1 e nofun fin
 | @dT a kvs ea =>
  cases(show u=Value.ref a from ru)
  obtain⟨_,_,_,_,o,_,_,g1,g2,_⟩:=(show bb X.prog X.w H s.heap a (.dT kvs) from I.bu a _ ea)
  exact kia_tup kitx_dict I.kH ⟨o,g1,g2.1⟩ e1 e nofun fin
 | ins=>cases hT
theorem AR:bq X (.builtin "isinstance") (fun xs H Q=>Mi X.K xs H Q\/FK X.K xs H Q):=EG.or rK
end
section
variable{X:Cx}{K:PySem.W.Frag}(h:X.K=K)
include h
end
end L2
end
section
open PySem PySem.W PyProof.Rows
namespace L2
open PySem PySem.Spec PyProof.Rows
section
variable{prog:Program}{w:World}{A:Around}{E:Value->Shared->Prop}{s:Shared}
theorem Oj{α :Type}{c:Prop}[Decidable c]{m m':Sem α}{M:Model}{Q: α ->Shared->Prop}(hc: ¬ c)(h:wpAny M A m' Q E s):wpAny M A (if c then m else m') Q E s:=by rw[if_neg hc];exact h
theorem gP{it t:Addr}{i:Nat}{items:Array Value}{x:Value}{Q:Value->Shared->Prop}(hit:s.heap.IsTupleIter it t i)(ht:s.heap.IsTuple t items)(hx:items[i]?=some x)
  (q: ∀ h',h'.IsTupleIter it t (i+1)->Heap.SameBut it s.heap h'->Q x { s with heap:=h' }):wpAny (model prog w) A (Builtin.SmallTypes.nextOf (.ref it)) Q E s:=by
 obtain⟨oi,g1,c1,d1⟩:=id hit
 obtain⟨ot,g2,_,k,d2⟩:=id ht
 have new:(s.heap.update it (Obj.mapFields (·.setIfInBounds 1 (rawInt ((i:Int)+1))))).IsTupleIter it t (i+1):=⟨_,Heap.get?_update_self _ g1 (Obj.isFreed_of_fields (Obj.data_mapFields d1 _)),(Obj.cls_mapFields ..).trans c1,(Obj.data_mapFields d1 _).trans (by simp[rawInt])⟩
 refine wpAny_bind (wpAny_callSpecial?_slot (name:=Str.ofString "__next__") hit.typeIs PySem.F.slot_tuple_iterator_next (wpAny_call_entry PySem.F.slot_tuple_iterator_next hit.typeIs PySem.F.entry_tuple_iterator_next ?_ (PySem.F.args_tuple_iterator_next_1 (.ref it))))
 refine wpAny_bind (m:=field (.ref it) 0) (wpAny_field g1 d1 (x:= .ref t) rfl (Oj (fun z=>nomatch z) (wpAny_bind (m:=field (.ref it) 1) (wpAny_field g1 d1 (x:= .int i 0) rfl (wpAny_bind (m:=seqItems? (.ref t)) (wpAny_seqItems g2 d2 ?_))))))
 dsimp only
 rw[Int.toNat_natCast,hx]
 exact wpAny_bind (wpAny_setField g1 d1 (by simp) (wpAny_pure ⟨x,rfl,wpAny_pure (q _ new (Heap.SameBut.update ..))⟩))
theorem lG{it t:Addr}{i:Nat}{items:Array Value}{Q:Value->Shared->Prop}(hh:A.handled=none)(hit:s.heap.IsTupleIter it t i)(ht:s.heap.IsTuple t items)(hx:items[i]?=none)
  (q: ∀ h' e,Heap.ExtBut it s.heap h'->(∃ o,h'.get? e=some o/\o.cls= .type "StopIteration")->E (.ref e) { s with heap:=h' }):wpAny (model prog w) A (Builtin.SmallTypes.nextOf (.ref it)) Q E s:=by
 obtain⟨oi,g1,c1,d1⟩:=id hit
 obtain⟨ot,g2,_,k,d2⟩:=id ht
 refine wpAny_bind (wpAny_callSpecial?_slot (name:=Str.ofString "__next__") hit.typeIs PySem.F.slot_tuple_iterator_next (wpAny_call_entry PySem.F.slot_tuple_iterator_next hit.typeIs PySem.F.entry_tuple_iterator_next ?_ (PySem.F.args_tuple_iterator_next_1 (.ref it))))
 refine wpAny_bind (m:=field (.ref it) 0) (wpAny_field g1 d1 (x:= .ref t) rfl (Oj (fun z=>nomatch z) (wpAny_bind (m:=field (.ref it) 1) (wpAny_field g1 d1 (x:= .int i 0) rfl (wpAny_bind (m:=seqItems? (.ref t)) (wpAny_seqItems g2 d2 ?_))))))
 dsimp only
 rw[Int.toNat_natCast,hx]
 refine wpAny_bind (wpAny_rule (wpAny_bind (wpAny_setField g1 d1 (by simp) (wpAny_bind (m:=newExc (.type "StopIteration") []) (wpAny_bind (m:=newTuple []) (wpAny_newObj_type ?_ (by size_fits)))))))
 refine wpAny_bind (m:=firstArgMember _ _) (wpAny_of_eq (a:=Value.none) (by simp only[firstArgMember];rfl) (wpAny_newObj_type ?_ (by size_fits)))
 unfold raiseNew;refine wpAny_bind (wpAny_handled ?_);rw[show A.in1.handled=none from hh]
 exact wpAny_bind (wpAny_pure (wpAny_throw (q _ _ (((Heap.SameBut.update ..).extBut.push _).push _) ⟨_,Heap.get?_push_size _ rfl,rfl⟩)))
structure tQ(h:Heap)(z TI TO i1 i2 l1 l2:Addr)(k:Nat):Prop where
 xB:IsZip h z TI TO .none
 ay:IsPair h TI (.ref i1) (.ref i2)
 old: ∃ a b,IsPair h TO a b
 one:h.IsTupleIter i1 l1 k
 two:h.IsTupleIter i2 l2 k
theorem xy{z TI TO i1 i2 l1 l2:Addr}{k:Nat}{xs ys:Array Value}{x y:Value}{Q:Value->Shared->Prop}(D:ZipApart z TI TO i1 i2 l1 l2)(Z:tQ s.heap z TI TO i1 i2 l1 l2 k)(t1:s.heap.IsTuple l1 xs)(t2:s.heap.IsTuple l2 ys)(hx:xs[k]?=some x)(hy:ys[k]?=some y)
  (q: ∀ h',IsZip h' z TI TO (rawInt s.heap.objs.size)->IsPair h' TI (.ref i1) (.ref i2)->IsPair h' TO x y->h'.IsTupleIter i1 l1 (k+1)->h'.IsTupleIter i2 l2 (k+1)->IsPair h' s.heap.objs.size x y ->
   (∀ c o,c≠z->c≠TO->c≠i1->c≠i2->s.heap.get? c=some o->h'.get? c=some o)->Q (.ref s.heap.objs.size) { s with heap:=h' }):wpAny (model prog w) A (Builtin.«zip.__next__» ⟨[.ref z],[]⟩) (fun r u=> ∃ v,r= .done (.ret v)/\Q v u) E s:=by
 obtain⟨hz,hTI,⟨a,b,hTO⟩,o1,o2⟩:=Z
 refine wpAny_bind (m:=field (.ref z) 2) (wpAny_field hz rfl (x:= .bool false) rfl ?_)
 refine wpAny_bind (m:=field (.ref z) 3) (wpAny_field hz rfl (x:= .ref TI) rfl (wpAny_bind (wpAny_seqItems hTI rfl ?_)))
 refine wpAny_bind (m:=Builtin.SmallTypes.ownedTupleIsFree (.ref z)) (wpAny_bind (m:=field (.ref z) 0) (wpAny_field hz rfl (x:= .none) rfl (wpAny_pure (NV rfl (wpAny_bind (wpAny_rule ?_))))))
 refine wpAny_bind (m:=field (.ref z) 4) (wpAny_field hz rfl (x:= .ref TO) rfl (wpAny_bind (wpAny_setField_rec hz (by simp) fun u1 z1 b1=>?_)))
 replace z1:IsZip u1 z TI TO .ellipsis:=z1
 refine wpAny_bind ?_
 rw[show(#[Value.ref i1,Value.ref i2]:Array Value).toList.zipIdx=[(Value.ref i1,0),(Value.ref i2,1)] from rfl,List.forIn_cons]
 refine wpAny_bind (wpAny_bind (wpAny_onRaise (wpAny_bind (m:=Builtin.SmallTypes.nextOf (.ref i1)) (gP (o1.at fun o e=>b1.extBut _ _ D.i1z e) (t1.at fun o e=>b1.extBut _ _ D.l1z e) hx fun u2 p1 b2=>wpAny_pure ?_))))
 have T2:IsPair u2 TO a b:=b2.extBut _ _ D.TOi1 (b1.extBut _ _ D.TOz hTO)
 refine wpAny_bind (wpAny_seqItems T2 rfl (wpAny_bind (wpAny_updateSeq_pair T2 fun u3 T3 b3=>wpAny_bind (wpAny_letGo (wpAny_pure ?_)))))
 replace T3:IsPair u3 TO x b:=T3
 have k3: ∀ c o,c≠z->c≠TO->c≠i1->s.heap.get? c=some o->u3.get? c=some o:=fun c o n1 n2 n3 e=>b3.extBut _ _ n2 (b2.extBut _ _ n3 (b1.extBut _ _ n1 e))
 dsimp only
 rw[List.forIn_cons]
 refine wpAny_bind (wpAny_bind (wpAny_onRaise (wpAny_bind (m:=Builtin.SmallTypes.nextOf (.ref i2)) (gP (o2.at fun o e=>k3 _ o D.i2z D.TOi2.symm D.i12.symm e) (t2.at fun o e=>k3 _ o D.l2z D.l2TO D.l2i1 e) hy fun u4 p2 b4=>wpAny_pure ?_))))
 have T4:IsPair u4 TO x b:=b4.extBut _ _ D.TOi2 T3
 refine wpAny_bind (wpAny_seqItems T4 rfl (wpAny_bind (wpAny_updateSeq_pair T4 fun u5 T5 b5=>wpAny_bind (wpAny_letGo (wpAny_pure ?_)))))
 replace T5:IsPair u5 TO x y:=T5
 have k5: ∀ c o,c≠z->c≠TO->c≠i1->c≠i2->s.heap.get? c=some o->u5.get? c=some o:=fun c o n1 n2 n3 n4 e=>b5.extBut _ _ n2 (b4.extBut _ _ n4 (k3 c o n1 n2 n3 e))
 have sz:u5.objs.size=s.heap.objs.size:=b5.1.trans (b4.1.trans (b3.1.trans (b2.1.trans b1.1)))
 have z5:IsZip u5 z TI TO .ellipsis:=b5.extBut _ _ D.TOz.symm (b4.extBut _ _ D.i2z.symm (b3.extBut _ _ D.TOz.symm (b2.extBut _ _ D.i1z.symm z1)))
 have p15:u5.IsTupleIter i1 l1 (k+1):=p1.at fun o e=>b5.extBut _ _ D.TOi1.symm (b4.extBut _ _ D.i12 (b3.extBut _ _ D.TOi1.symm e))
 have p25:u5.IsTupleIter i2 l2 (k+1):=p2.at fun o e=>b5.extBut _ _ D.TOi2.symm e
 have lz:z < u5.objs.size:=Heap.lt_size z5
 dsimp only
 rw[List.forIn_nil]
 refine wpAny_pure (wpAny_bind (wpAny_seqItems T5 rfl (wpAny_bind (wpAny_newTuple ?_ (by show 2<=sizeLine;decide)))))
 have z6:IsZip (u5.push { cls:= .type "tuple",data:= .seq #[x,y] }) z TI TO .ellipsis:=Heap.get?_push_of_some _ z5
 refine wpAny_bind (m:=Builtin.SmallTypes.ownedTupleHandOut (.ref z) (.ref u5.objs.size)) (wpAny_bind (wpAny_setField_rec z6 (by simp) fun u7 z7 b7=>wpAny_setField_rec (show IsZip u7 z TI TO (rawInt u5.objs.size) from z7) (by simp) fun u8 z8 b8=>wpAny_pure ⟨_,rfl,?_⟩))
 have up: ∀ c o,c≠z->u5.get? c=some o->u8.get? c=some o:=fun c o n e=>b8.extBut _ _ n (b7.extBut _ _ n (Heap.get?_push_of_some _ e))
 have T8:IsPair u8 u5.objs.size x y:=b8.extBut _ _ (Nat.ne_of_gt lz) (b7.extBut _ _ (Nat.ne_of_gt lz) (Heap.get?_push_size _ rfl))
 replace z8:IsZip u8 z TI TO (rawInt u5.objs.size):=z8
 rw[sz] at z8 T8 ⊢
 exact q u8 z8 (up _ _ D.TIz (k5 _ _ D.TIz D.TITO D.TIi1 D.TIi2 hTI)) (up _ _ D.TOz T5) (p15.at fun o e=>up _ o D.i1z e) (p25.at fun o e=>up _ o D.i2z e) T8 fun c o n1 n2 n3 n4 e=>up c o n1 (k5 c o n1 n2 n3 n4 e)
theorem yN{z TI TO i1 i2 l1 l2:Addr}{k:Nat}{xs ys:Array Value}{Q:PySem.Fin->Shared->Prop}(hh:A.handled=none)(D:ZipApart z TI TO i1 i2 l1 l2)(Z:tQ s.heap z TI TO i1 i2 l1 l2 k)(t1:s.heap.IsTuple l1 xs)(t2:s.heap.IsTuple l2 ys)(he:xs[k]?=none\/ys[k]?=none)
  (q: ∀ h' e,(∀ c o,c≠z->c≠TO->c≠i1->c≠i2->s.heap.get? c=some o->h'.get? c=some o)->(∃ o,h'.get? e=some o/\o.cls= .type "StopIteration")->E (.ref e) { s with heap:=h' }):wpAny (model prog w) A (Builtin.«zip.__next__» ⟨[.ref z],[]⟩) Q E s:=by
 obtain⟨hz,hTI,⟨a,b,hTO⟩,o1,o2⟩:=Z
 have ap: ∀(h':Heap)(f0:Value)(e:Addr)(o:Obj),IsZip h' z TI TO f0->h'.get? e=some o->o.cls= .type "StopIteration" ->e≠z:=fun h' f0 e o y g c n=>by rw[n,y] at g;cases g;simp at c
 refine wpAny_bind (m:=field (.ref z) 2) (wpAny_field hz rfl (x:= .bool false) rfl ?_)
 refine wpAny_bind (m:=field (.ref z) 3) (wpAny_field hz rfl (x:= .ref TI) rfl (wpAny_bind (wpAny_seqItems hTI rfl ?_)))
 refine wpAny_bind (m:=Builtin.SmallTypes.ownedTupleIsFree (.ref z)) (wpAny_bind (m:=field (.ref z) 0) (wpAny_field hz rfl (x:= .none) rfl (wpAny_pure (NV rfl (wpAny_bind (wpAny_rule ?_))))))
 refine wpAny_bind (m:=field (.ref z) 4) (wpAny_field hz rfl (x:= .ref TO) rfl (wpAny_bind (wpAny_setField_rec hz (by simp) fun u1 z1 b1=>?_)))
 replace z1:IsZip u1 z TI TO .ellipsis:=z1
 refine wpAny_bind ?_
 rw[show(#[Value.ref i1,Value.ref i2]:Array Value).toList.zipIdx=[(Value.ref i1,0),(Value.ref i2,1)] from rfl,List.forIn_cons]
 match hx:xs[k]? with
 | none =>
  refine wpAny_bind (wpAny_bind (wpAny_onRaise (wpAny_bind (m:=Builtin.SmallTypes.nextOf (.ref i1)) (lG hh (o1.at fun o e=>b1.extBut _ _ D.i1z e) (t1.at fun o e=>b1.extBut _ _ D.l1z e) hx fun u2 e b2 g=>?_))))
  obtain⟨oe,g1,g2⟩:=g
  have z2:IsZip u2 z TI TO .ellipsis:=b2 _ _ D.i1z.symm z1
  exact wpAny_setField_rec z2 (by simp) fun u3 _ b3=>q u3 e (fun c o n1 _ n3 _ y=>b3.extBut _ _ n1 (b2 _ _ n3 (b1.extBut _ _ n1 y))) ⟨oe,b3.extBut _ _ (ap u2 _ e oe z2 g1 g2) g1,g2⟩
 | some x =>
  have hy:ys[k]?=none:=he.resolve_left (by rw[hx];intro y;cases y)
  refine wpAny_bind (wpAny_bind (wpAny_onRaise (wpAny_bind (m:=Builtin.SmallTypes.nextOf (.ref i1)) (gP (o1.at fun o e=>b1.extBut _ _ D.i1z e) (t1.at fun o e=>b1.extBut _ _ D.l1z e) hx fun u2 p1 b2=>wpAny_pure ?_))))
  have T2:IsPair u2 TO a b:=b2.extBut _ _ D.TOi1 (b1.extBut _ _ D.TOz hTO)
  refine wpAny_bind (wpAny_seqItems T2 rfl (wpAny_bind (wpAny_updateSeq_pair T2 fun u3 T3 b3=>wpAny_bind (wpAny_letGo (wpAny_pure ?_)))))
  have k3: ∀ c o,c≠z->c≠TO->c≠i1->s.heap.get? c=some o->u3.get? c=some o:=fun c o n1 n2 n3 e=>b3.extBut _ _ n2 (b2.extBut _ _ n3 (b1.extBut _ _ n1 e))
  dsimp only
  rw[List.forIn_cons]
  refine wpAny_bind (wpAny_bind (wpAny_onRaise (wpAny_bind (m:=Builtin.SmallTypes.nextOf (.ref i2)) (lG hh (o2.at fun o e=>k3 _ o D.i2z D.TOi2.symm D.i12.symm e) (t2.at fun o e=>k3 _ o D.l2z D.l2TO D.l2i1 e) hy fun u4 e b4 g=>?_))))
  obtain⟨oe,g1,g2⟩:=g
  have z4:IsZip u4 z TI TO .ellipsis:=b4 _ _ D.i2z.symm (b3.extBut _ _ D.TOz.symm (b2.extBut _ _ D.i1z.symm z1))
  exact wpAny_setField_rec z4 (by simp) fun u5 _ b5=>q u5 e (fun c o n1 n2 n3 n4 y=>b5.extBut _ _ n1 (b4 _ _ n4 (k3 c o n1 n2 n3 y))) ⟨oe,b5.extBut _ _ (ap u4 _ e oe z4 g1 g2) g1,g2⟩
theorem oP{z TI TO i1 i2 l1 l2:Addr}{k:Nat}{xs ys:Array Value}{x y:Value}{Q:Option Value->Shared->Prop}(D:ZipApart z TI TO i1 i2 l1 l2)(Z:tQ s.heap z TI TO i1 i2 l1 l2 k)(t1:s.heap.IsTuple l1 xs)(t2:s.heap.IsTuple l2 ys)(hx:xs[k]?=some x)(hy:ys[k]?=some y)
  (q: ∀ h',IsZip h' z TI TO (rawInt s.heap.objs.size)->IsPair h' TI (.ref i1) (.ref i2)->IsPair h' TO x y->h'.IsTupleIter i1 l1 (k+1)->h'.IsTupleIter i2 l2 (k+1)->IsPair h' s.heap.objs.size x y ->
   (∀ c o,c≠z->c≠TO->c≠i1->c≠i2->s.heap.get? c=some o->h'.get? c=some o)->Q (some (.ref s.heap.objs.size)) { s with heap:=h' }):wpAny (model prog w) A (pyNext (.ref z)) Q E s :=
 have ty:s.TypeIs (.ref z) "zip" :=⟨_,Z.xB,rfl⟩
 wpAny_bind (wpAny_attempt (wpAny_callSpecial?_slot (name:=Str.ofString "__next__") ty PySem.F.slot_zip_next (wpAny_call_entry PySem.F.slot_zip_next ty PySem.F.entry_zip_next (xy D Z t1 t2 hx hy fun h' a1 a2 a3 a4 a5 a6 a7=>wpAny_pure (q h' a1 a2 a3 a4 a5 a6 a7)) (PySem.F.args_zip_next_1 (.ref z)))))
theorem pM{z TI TO i1 i2 l1 l2:Addr}{k:Nat}{xs ys:Array Value}{Q:Option Value->Shared->Prop}(hh:A.handled=none)(D:ZipApart z TI TO i1 i2 l1 l2)(Z:tQ s.heap z TI TO i1 i2 l1 l2 k)(t1:s.heap.IsTuple l1 xs)(t2:s.heap.IsTuple l2 ys)(he:xs[k]?=none\/ys[k]?=none)
  (q: ∀ h',(∀ c o,c≠z->c≠TO->c≠i1->c≠i2->s.heap.get? c=some o->h'.get? c=some o)->Q none { s with heap:=h' }):wpAny (model prog w) A (pyNext (.ref z)) Q E s :=
 have ty:s.TypeIs (.ref z) "zip" :=⟨_,Z.xB,rfl⟩
 wpAny_bind (wpAny_attempt (wpAny_callSpecial?_slot (name:=Str.ofString "__next__") ty PySem.F.slot_zip_next (wpAny_call_entry PySem.F.slot_zip_next ty PySem.F.entry_zip_next (yN (A:=A.in1) hh D Z t1 t2 he fun h' e a1 g =>
  let ⟨o,g1,g2⟩:=g;wpAny_bind (wpAny_isInstance (T:= "StopIteration") (b:=true) ⟨o,g1,g2⟩ isSubtype_stop (wpAny_pure (q h' a1)))) (PySem.F.args_zip_next_1 (.ref z)))))
end
end L2
end
section
open PySem PySem.W PyProof.Rows
namespace P3
open PySem PySem.Spec PyProof.Rows L2
inductive PV where
 | non | bl (b:Bool) | int (i:Int) | str (x:Str) | tup (xs:List PV) | ktup (xs:List PV) | ref (n:Nat) | ty (n:String)
mutual
def PV.beq:PV->PV->Bool
 | .non,.non=>true
 | .bl a,.bl b=>decide (a=b)
 | .int a,.int b=>decide (a=b)
 | .str a,.str b=>decide (a=b)
 | .tup a,.tup b=>PV.uR a b
 | .ktup a,.ktup b=>PV.uR a b
 | .ref a,.ref b=>decide (a=b)
 | .ty a,.ty b=>decide (a=b)
 | _,_=>false
def PV.uR:List PV->List PV->Bool
 | [],[]=>true
 | a::x,b::y=>PV.beq a b&&PV.uR x y
 | _,_=>false
end
mutual
theorem PV.beq_iff: ∀(a b:PV),PV.beq a b=true↔a=b
 | .non,b=>by cases b<;>simp[PV.beq]
 | .bl _,b=>by cases b<;>simp[PV.beq]
 | .int _,b=>by cases b<;>simp[PV.beq]
 | .str _,b=>by cases b<;>simp[PV.beq]
 | .ref _,b=>by cases b<;>simp[PV.beq]
 | .ty _,b=>by cases b<;>simp[PV.beq]
 | .tup a,b=>by
  cases b with
  | tup b=>rw[PV.beq,PV.ox a b];simp
  | _=>simp[PV.beq]
 | .ktup a,b=>by
  cases b with
  | ktup b=>rw[PV.beq,PV.ox a b];simp
  | _=>simp[PV.beq]
theorem PV.ox: ∀(a b:List PV),PV.uR a b=true↔a=b
 | [],b=>by cases b<;>simp[PV.uR]
 | a::x,b=>by
  cases b with
  | nil=>simp[PV.uR]
  | cons b y=>rw[PV.uR,Bool.and_eq_true,PV.beq_iff a b,PV.ox x y];simp
end
instance:DecidableEq PV:=fun a b=>decidable_of_iff _ (PV.beq_iff a b)
mutual
def PV.flat:PV->Bool
 | .ref _=>false
 | .tup xs=>PV.bF xs
 | .ktup xs=>PV.bF xs
 | _=>true
def PV.bF:List PV->Bool
 | []=>true
 | x::r=>x.flat&&PV.bF r
end
mutual
def PV.jg(n:Nat):PV->Bool
 | .ref m=>decide (m < n)
 | .tup xs=>PV.jI n xs
 | .ktup xs=>PV.jI n xs
 | _=>true
def PV.jI(n:Nat):List PV->Bool
 | []=>true
 | x::r=>x.jg n&&PV.jI n r
end
inductive PO where
 | lst (xs:List PV) | kM (xs:List PV) | dct (kvs:List (Key × PV))
 deriving DecidableEq
noncomputable def PO.fT:PO->Bool
 | .kM _=>false
 | _=>true
noncomputable def PO.jg(n:Nat):PO->Bool
 | .lst xs=>PV.jI n xs
 | .kM xs=>PV.jI n xs
 | .dct kvs=>PV.jI n (kvs.map (·.2))
abbrev PH:=List PO
abbrev ax:=List (Option PV)
noncomputable def KT(K:PySem.W.Frag)(a:Addr)(xs:List V):Prop:= ∃(o:Obj)(ay:Array Value)(n:Nat),K.lookup a=some o/\o.cls= .type "tuple" /\o.data= .seq ay n/\ay.size<=sizeLine/\Vals xs ay.toList
mutual
def rel(K:PySem.W.Frag)(ρ :List Addr)(H:Hp):PV->V->Prop
 | .non,v=>v= .non
 | .bl b,v=>v= .bl b
 | .int i,v=>v= .int i
 | .str x,v=>v= .str x
 | .ty n,v=>v= .ty n
 | .ref n,v=> ∃ a, ρ[n]?=some a/\v= .ref a
 | .tup xs,v=> ∃ a vs,v= .ref a/\H a=some (.tup vs)/\ar K ρ H xs vs
 | .ktup xs,v=> ∃ a vs,v= .ref a/\KT K a vs/\ar K ρ H xs vs
def ar(K:PySem.W.Frag)(ρ :List Addr)(H:Hp):List PV->List V->Prop
 | [],vs=>vs=[]
 | x::r,vs=> ∃ v t,vs=v::t/\rel K ρ H x v/\ar K ρ H r t
end
structure Gr(ρ :List Addr)(H:Hp)(ρ':List Addr)(H':Hp):Prop where
 pre: ∀(n:Nat)(a:Addr), ρ[n]?=some a-> ρ'[n]?=some a
 tup: ∀ a xs,H a=some (.tup xs)->H' a=some (.tup xs)
 jy: ∀ a o u,H a=some (.jy o u)->H' a=some (.jy o u)
theorem Gr.refl(ρ :List Addr)(H:Hp):Gr ρ H ρ H:=⟨fun _ _ h=>h,fun _ _ h=>h,fun _ _ _ h=>h⟩
theorem Gr.trans{ρ ρ1 ρ2:List Addr}{H H1 H2:Hp}(a:Gr ρ H ρ1 H1)(b:Gr ρ1 H1 ρ2 H2):Gr ρ H ρ2 H2 :=
 ⟨fun n x h=>b.pre n x (a.pre n x h),fun x xs h=>b.tup x xs (a.tup x xs h),fun x o u h=>b.jy x o u (a.jy x o u h)⟩
section
variable{K:PySem.W.Frag}{ρ ρ':List Addr}{H H':Hp}
theorem Gr.B5(g:Gr ρ H ρ' H'){a:Addr}{xs:List V}(h:eY K H a xs):eY K H' a xs:=by
 rcases h with(h | ⟨o,h⟩) | h
 · exact .inl (.inl (g.tup _ _ h))
 · exact .inl (.inr ⟨o,g.jy _ _ _ h⟩)
 · exact .inr h
theorem Gr.PB(g:Gr ρ H ρ' H'){a:Addr}{xs:List V}(h:wt K H a xs):wt K H' a xs:=by
 rcases h with⟨o,h⟩ | h
 · exact .inl ⟨o,g.jy _ _ _ h⟩
 · exact .inr h
mutual
theorem rel.gr(g:Gr ρ H ρ' H'): ∀(x:PV)(v:V),rel K ρ H x v->rel K ρ' H' x v
 | .non,v,h=>by simpa only[rel] using h
 | .bl _,v,h=>by simpa only[rel] using h
 | .int _,v,h=>by simpa only[rel] using h
 | .str _,v,h=>by simpa only[rel] using h
 | .ty _,v,h=>by simpa only[rel] using h
 | .ref n,v,h=>by
  rw[rel] at h ⊢
  obtain⟨a,e,h⟩:=h
  exact⟨a,g.pre _ _ e,h⟩
 | .tup xs,v,h=>by
  rw[rel] at h ⊢
  obtain⟨a,vs,e,s,r⟩:=h
  exact⟨a,vs,e,g.tup _ _ s,ar.gr g xs vs r⟩
 | .ktup xs,v,h=>by
  rw[rel] at h ⊢
  obtain⟨a,vs,e,s,r⟩:=h
  exact⟨a,vs,e,s,ar.gr g xs vs r⟩
theorem ar.gr(g:Gr ρ H ρ' H'): ∀(xs:List PV)(vs:List V),ar K ρ H xs vs->ar K ρ' H' xs vs
 | [],vs,h=>by simpa only[ar] using h
 | x::r,vs,h=>by
  rw[ar] at h ⊢
  obtain⟨v,t,e,h1,h2⟩:=h
  exact⟨v,t,e,rel.gr g x v h1,ar.gr g r t h2⟩
end
noncomputable def PV.seq?:PV->Option (List PV)
 | .tup xs=>some xs
 | .ktup xs=>some xs
 | _=>none
theorem rel.seq{x:PV}{xs:List PV}{v:V}(e:x.seq?=some xs)(h:rel K ρ H x v): ∃ a vs,v= .ref a/\eY K H a vs/\ar K ρ H xs vs:=by
 cases x<;>simp only[PV.seq?,reduceCtorEq,Option.some.injEq] at e
 · subst e;rw[rel] at h;obtain⟨a,vs,e,z,r⟩:=h;exact⟨a,vs,e,.of z,r⟩
 · subst e;rw[rel] at h;obtain⟨a,vs,e,z,r⟩:=h;exact⟨a,vs,e,.inr z,r⟩
theorem aO{vs:List V}:ar K ρ H [] vs↔vs=[]:=by rw[ar]
theorem aC{x:PV}{r:List PV}{vs:List V}:ar K ρ H (x::r) vs↔ ∃ v t,vs=v::t/\rel K ρ H x v/\ar K ρ H r t:=by rw[ar]
theorem ar.len: ∀{xs:List PV}{vs:List V},ar K ρ H xs vs->xs.length=vs.length
 | [],vs,h=>by rw[aO] at h;rw[h];rfl
 | x::r,vs,h=>by
  obtain⟨v,t,rfl,_,h2⟩:=aC.mp h
  simp[ar.len h2]
theorem ar.get: ∀{xs:List PV}{vs:List V}{i:Nat}{x:PV},ar K ρ H xs vs->xs[i]?=some x-> ∃ v,vs[i]?=some v/\rel K ρ H x v
 | [],vs,i,x,h,e=>by simp at e
 | y::r,vs,i,x,h,e=>by
  obtain⟨v,t,rfl,h1,h2⟩:=aC.mp h
  cases i with
  | zero=>simp at e;subst e;exact⟨v,rfl,h1⟩
  | succ i=>simpa using ar.get h2 (by simpa using e)
theorem ar.app: ∀{xs ys:List PV}{vs ws:List V},ar K ρ H xs vs->ar K ρ H ys ws->ar K ρ H (xs++ys) (vs++ws)
 | [],ys,vs,ws,h,h'=>by rw[aO] at h;subst h;exact h'
 | x::r,ys,vs,ws,h,h'=>by
  obtain⟨v,t,rfl,h1,h2⟩:=aC.mp h
  exact aC.mpr ⟨v,t++ws,rfl,h1,ar.app h2 h'⟩
theorem ar.one{x:PV}{v:V}(h:rel K ρ H x v):ar K ρ H [x] [v]:=aC.mpr ⟨v,[],rfl,h,aO.mpr rfl⟩
theorem ar.take: ∀{xs:List PV}{vs:List V}(n:Nat),ar K ρ H xs vs->ar K ρ H (xs.take n) (vs.take n)
 | xs,vs,0,h=>by simp[aO]
 | [],vs,n+1,h=>by rw[aO] at h;subst h;simp[aO]
 | x::r,vs,n+1,h=>by
  obtain⟨v,t,rfl,h1,h2⟩:=aC.mp h
  exact aC.mpr ⟨v,t.take n,rfl,h1,ar.take n h2⟩
theorem ar.drop: ∀{xs:List PV}{vs:List V}(n:Nat),ar K ρ H xs vs->ar K ρ H (xs.drop n) (vs.drop n)
 | xs,vs,0,h=>h
 | [],vs,n+1,h=>by rw[aO] at h;subst h;simp[aO]
 | x::r,vs,n+1,h=>by
  obtain⟨v,t,rfl,h1,h2⟩:=aC.mp h
  exact ar.drop n h2
theorem ar.set: ∀{xs:List PV}{vs:List V}{x:PV}{v:V}(i:Nat),ar K ρ H xs vs->rel K ρ H x v->ar K ρ H (xs.set i x) (vs.set i v)
 | [],vs,x,v,i,h,hv=>by rw[aO] at h;subst h;simp[aO]
 | y::r,vs,x,v,i,h,hv=>by
  obtain⟨w,t,rfl,h1,h2⟩:=aC.mp h
  cases i with
  | zero=>exact aC.mpr ⟨v,t,rfl,hv,h2⟩
  | succ i=>exact aC.mpr ⟨w,t.set i v,rfl,h1,ar.set i h2 hv⟩
theorem ar.ints: ∀(ns:List Int),ar K ρ H (ns.map PV.int) (ns.map V.int)
 | []=>aO.mpr rfl
 | n::r=>aC.mpr ⟨.int n,r.map V.int,rfl,by rw[rel],ar.ints r⟩
end
noncomputable def k8(K:PySem.W.Frag)(ρ :List Addr)(H:Hp)(a:Addr):PO->Prop
 | .lst xs=> ∃ vs,H a=some (.lst vs)/\ar K ρ H xs vs
 | .kM xs=> ∃ vs,wt K H a vs/\ar K ρ H xs vs
 | .dct kvs=> ∃ kws,H a=some (.dK kws)/\Paired (fun (p:Key × PV) (q:Key × V)=>p.1=q.1/\rel K ρ H p.2 q.2) kvs kws
structure cW(K:PySem.W.Frag)(ρ :List Addr)(h:PH)(H:Hp):Prop where
 len: ρ.length=h.length
 nd: ∀(i j:Nat)(a:Addr)(oi oj:PO),h[i]?=some oi->h[j]?=some oj->oi.fT=true->oj.fT=true-> ρ[i]?=some a-> ρ[j]?=some a->i=j
 ob: ∀(i:Nat)(o:PO)(a:Addr),h[i]?=some o-> ρ[i]?=some a->k8 K ρ H a o
section
variable{K:PySem.W.Frag}{ρ ρ':List Addr}{H H':Hp}{h:PH}
theorem cW.at(s:cW K ρ h H){i:Nat}{o:PO}(e:h[i]?=some o): ∃ a, ρ[i]?=some a/\k8 K ρ H a o:=by
 have hi:i < ρ.length:=by rw[s.len];exact(List.getElem?_eq_some_iff.mp e).1
 exact⟨ρ[i],List.getElem?_eq_getElem hi,s.ob i o _ e (List.getElem?_eq_getElem hi)⟩
theorem Paired.eX{kvs:List (Key × PV)}{kws:List (Key × V)}(g:Gr ρ H ρ' H')(h:Paired (fun (p:Key × PV) (q:Key × V)=>p.1=q.1/\rel K ρ H p.2 q.2) kvs kws) :
  Paired (fun (p:Key × PV) (q:Key × V)=>p.1=q.1/\rel K ρ' H' p.2 q.2) kvs kws:=Paired.yp h fun _ _ z=>⟨z.1,rel.gr g _ _ z.2⟩
theorem iB{a:Addr}{o:PO}(m:o.fT=true)(r:k8 K ρ H a o):(∃ vs,H a=some (.lst vs))\/ ∃ kws,H a=some (.dK kws):=by
 cases o with
 | lst xs=>obtain⟨vs,e,_⟩:=r;exact .inl ⟨vs,e⟩
 | kM xs=>exact nomatch m
 | dct kvs=>obtain⟨kws,e,_⟩:=r;exact .inr ⟨kws,e⟩
theorem kS{a:Addr}{o:PO}(g:Gr ρ H ρ' H')(k:o.fT=true->H' a=H a)(r:k8 K ρ H a o):k8 K ρ' H' a o:=by
 cases o with
 | lst xs=>obtain⟨vs,e,r⟩:=r;exact⟨vs,(k rfl).trans e,ar.gr g _ _ r⟩
 | kM xs=>obtain⟨vs,e,r⟩:=r;exact⟨vs,g.PB e,ar.gr g _ _ r⟩
 | dct kvs=>obtain⟨kws,e,r⟩:=r;exact⟨kws,(k rfl).trans e,Paired.eX g r⟩
theorem Gr.new{p : Addr}{o : HO}(hp : H p = none)(l : List Addr) : Gr ρ H (ρ ++ l) (upd H p o) :=
  ⟨fun n a e => by rw[List.getElem?_append_left (List.getElem?_eq_some_iff.mp e).1]; exact e,
   fun a xs e => by rw[aA (aB e hp)]; exact e, fun a o u e => by rw[aA (aB e hp)]; exact e⟩
theorem Gr.uU{p:Addr}{o:HO}(hp:H p=none):Gr ρ H ρ (upd H p o):=by simpa using Gr.new (ρ := ρ) (o:=o) hp []
theorem cW.tup(s:cW K ρ h H){p:Addr}{o:HO}(hp:H p=none):cW K ρ h (upd H p o) :=
 ⟨s.len,s.nd,fun i x a e1 e2=>kS (Gr.uU hp) (fun m=>by
  have:=iB m (s.ob i x a e1 e2)
  refine aA ?_
  rcases this with⟨_,z⟩ | ⟨_,z⟩<;>exact aB z hp) (s.ob i x a e1 e2)⟩
theorem cW.new(s:cW K ρ h H){p:Addr}{ho:HO}{o:PO}(hp:H p=none)(r:k8 K (ρ ++[p]) (upd H p ho) p o):cW K (ρ ++[p]) (h++[o]) (upd H p ho):=by
 have g:Gr ρ H (ρ ++[p]) (upd H p ho):=Gr.new hp [p]
 have old: ∀{i:Nat}{x:PO},(h++[o])[i]?=some x->(i < h.length/\h[i]?=some x)\/(i=h.length/\x=o):=fun {i x} e=>by
  rcases Nat.lt_or_ge i h.length with z | z
  · rw[List.getElem?_append_left z] at e;exact .inl ⟨z,e⟩
  · rw[List.getElem?_append_right z] at e
    have:i - h.length=0:=by
     rcases Nat.eq_zero_or_pos (i - h.length) with y | y
     · exact y
     · rw[List.getElem?_eq_none (by simp;omega)] at e;exact nomatch e
    rw[this] at e
    exact .inr ⟨by omega,by simpa using e.symm⟩
 have oldρ : ∀{i:Nat}{a:Addr},i < h.length->(ρ ++[p])[i]?=some a-> ρ[i]?=some a:=fun {i a} z e=>by
  rw[List.getElem?_append_left (by rw[s.len];exact z)] at e;exact e
 have newρ : ∀{a:Addr},(ρ ++[p])[h.length]?=some a->a=p:=fun {a} e=>by
  rw[<- s.len,List.getElem?_append_right (Nat.le_refl _)] at e
  simpa using e.symm
 refine⟨by simp[s.len],fun i j a oi oj ei ej mi mj ri rj=>?_,fun i x a e1 e2=>?_⟩
 · rcases old ei with⟨zi,ei⟩ | ⟨zi,ei⟩<;>rcases old ej with⟨zj,ej⟩ | ⟨zj,ej⟩
   · exact s.nd i j a oi oj ei ej mi mj (oldρ zi ri) (oldρ zj rj)
   · subst zj
     have:=iB mi (s.ob i oi a ei (oldρ zi ri))
     rw[newρ rj] at this
     rcases this with⟨_,z⟩ | ⟨_,z⟩<;>(rw[hp] at z;exact nomatch z)
   · subst zi
     have:=iB mj (s.ob j oj a ej (oldρ zj rj))
     rw[newρ ri] at this
     rcases this with⟨_,z⟩ | ⟨_,z⟩<;>(rw[hp] at z;exact nomatch z)
   · rw[zi,zj]
 · rcases old e1 with⟨z,e⟩ | ⟨z,e⟩
   · refine kS g (fun m=>?_) (s.ob i x a e (oldρ z e2))
     have:=iB m (s.ob i x a e (oldρ z e2))
     refine aA ?_
     rcases this with⟨_,y⟩ | ⟨_,y⟩<;>exact aB y hp
   · subst z;subst e;rw[newρ e2];exact r
theorem Gr.write{a : Addr}{ho : HO}(m : (∃ vs, H a = some (.lst vs)) \/ ∃ kws, H a = some (.dK kws)) : Gr ρ H ρ (upd H a ho) :=
  ⟨fun _ _ h => h, fun b xs e => by rw[aA]; · exact e
                                    · rintro rfl; rcases m with⟨_, z⟩ | ⟨_, z⟩ <;> (rw[e] at z; exact nomatch z),
   fun b o u e => by rw[aA]; · exact e
                     · rintro rfl; rcases m with⟨_, z⟩ | ⟨_, z⟩ <;> (rw[e] at z; exact nomatch z)⟩
theorem cW.write(s:cW K ρ h H){i:Nat}{a:Addr}{ho:HO}{o o':PO}(e:h[i]?=some o)(ea: ρ[i]?=some a)(m:o.fT=true)(m':o'.fT=true)(r:k8 K ρ (upd H a ho) a o') :
  cW K ρ (h.set i o') (upd H a ho):=by
 have ma:=iB m (s.ob i o a e ea)
 have g:Gr ρ H ρ (upd H a ho):=Gr.write ma
 have hi:i < h.length:=(List.getElem?_eq_some_iff.mp e).1
 have at_: ∀{j:Nat}{x:PO},(h.set i o')[j]?=some x->(j=i/\x=o')\/(j≠i/\h[j]?=some x):=fun {j x} q=>by
  by_cases z:j=i
  · subst z;rw[List.getElem?_set_self hi] at q;exact .inl ⟨rfl,by simpa using q.symm⟩
  · rw[List.getElem?_set_ne (Ne.symm z)] at q;exact .inr ⟨z,q⟩
 refine⟨by simp[s.len],fun j k b oj ok ej ek mj mk rj rk=>?_,fun j x b e1 e2=>?_⟩
 · rcases at_ ej with⟨zj,_⟩ | ⟨_,ej2⟩<;>rcases at_ ek with⟨zk,_⟩ | ⟨_,ek2⟩
   · rw[zj,zk]
   · rw[zj] at rj ⊢; exact s.nd _ _ b o ok e ek2 m mk rj rk
   · rw[zk] at rk ⊢; exact s.nd _ _ b oj o ej2 e mj m rj rk
   · exact s.nd j k b oj ok ej2 ek2 mj mk rj rk
 · rcases at_ e1 with⟨rfl,rfl⟩ | ⟨z,e1⟩
   · rw[ea] at e2;cases e2;exact r
   · refine kS g (fun mx=>aA fun q=>z ?_) (s.ob j x b e1 e2)
     subst q
     exact s.nd j i b x o e1 e mx m e2 ea
end
end P3
end
section
open PySem PySem.W PyProof.Rows
namespace P3
open PySem PySem.Spec PyProof.Rows L2
inductive RV(α :Type) where
 | ok (a: α) (h:PH) | ex (c:String) (vs:List PV) (h:PH) | no
variable{α β :Type}
noncomputable def RV.bind:RV α ->(α ->PH->RV β)->RV β
 | .ok a h,f=>f a h
 | .ex c vs h,_=> .ex c vs h
 | .no,_=> .no
theorem bQ{a: α}{h:PH}{f: α ->PH->RV β}:(RV.ok a h).bind f=f a h:=rfl
theorem bind_eq{r:RV α}{f: α ->PH->RV β}{b: β}{h':PH}:r.bind f= .ok b h'↔ ∃ a h,r= .ok a h/\f a h= .ok b h':=by
 cases r with
 | ok a h=>exact⟨fun e=>⟨a,h,rfl,e⟩,fun ⟨a',h2,e,q⟩=>by cases e;exact q⟩
 | ex c vs h=>exact⟨fun e=>(nomatch e),fun ⟨_,_,e,_⟩=>(nomatch e)⟩
 | no=>exact⟨fun e=>(nomatch e),fun ⟨_,_,e,_⟩=>(nomatch e)⟩
theorem Bq{c:Prop}[Decidable c]{a b:RV α}{f: α ->PH->RV β}:(if c then a else b).bind f=if c then a.bind f else b.bind f:=by split<;>rfl
noncomputable def Ok(r:RV α)(Q: α ->PH->Prop):Prop:= ∃ a h,r= .ok a h/\Q a h
theorem Ok.mono{r:RV α}{Q Q': α ->PH->Prop}(h:Ok r Q)(f: ∀ a h,Q a h->Q' a h):Ok r Q':=let ⟨a,h,e,q⟩:=h;⟨a,h,e,f _ _ q⟩
abbrev CF:=String->List PV->PH->RV PV
abbrev ME:=CF->ax->PH->RV PV
abbrev MT:=CF->ax->PH->RV Bool
abbrev MA:=CF->ax->PH->RV (List PV)
inductive Fl where
 | nx (e:ax) | rt (v:PV) | bk (e:ax) | ct (e:ax)
abbrev MS:=CF->ax->PH->RV Fl
abbrev MG:=PV->ax->PH->RV ax
structure iV where
 gd:Option Nat
 items:List PV
abbrev MI:=CF->ax->PH->RV iV
structure Df where
 ps:List Str
 nl:Nat
 body:MS
structure Tb where
 fns:String->Option Df
 con:Str->Option PV
 yB:Str->Option (List (Key × PV))
noncomputable def cb(n:Nat):PH->PH->Bool
 | [],_=>true
 | _::_,[]=>false
 | o::h,o'::h'=>(decide (o=o')||(o'.jg n&&o.fT == o'.fT))&&cb n h h'
noncomputable def settle(h:PH)(v:PV)(h':PH):RV PV:=if (v.flat&&cb h.length h h')=true then .ok v (h'.take h.length) else .ok v h'
theorem ju(n:Nat): ∀(h g:PH),cb n h (h++g)=true
 | [],g=>rfl
 | o::h,g=>by rw[List.cons_append,cb,ju n h g];simp
theorem nR{n:Nat}{o':PO}(hu:o'.jg n=true): ∀(h h':PH)(i:Nat)(o:PO),cb n h h'=true->h[i]?=some o->o.fT=o'.fT->cb n h (h'.set i o')=true
 | [],h',i,o,_,e,_=>by simp at e
 | a::h,[],i,o,q,_,_=>by simp[cb] at q
 | a::h,b::h',0,o,q,e,m=>by
  rw[cb,Bool.and_eq_true] at q
  simp at e;subst e
  rw[List.set_cons_zero,cb,q.2,hu,m];simp
 | a::h,b::h',i+1,o,q,e,m=>by
  rw[cb,Bool.and_eq_true] at q
  rw[List.set_cons_succ,cb,nR hu h h' i o q.2 (by simpa using e) m,q.1];rfl
theorem ou{n:Nat}: ∀{h h':PH},cb n h h'=true->h.length<=h'.length
 | [],h',_=>Nat.zero_le _
 | o::h,[],e=>by simp[cb] at e
 | o::h,o'::h',e=>by
  rw[cb,Bool.and_eq_true] at e
  simp only[List.length_cons]
  exact Nat.succ_le_succ (ou e.2)
theorem pX{n:Nat}: ∀{h h':PH}{i:Nat}{o':PO},cb n h h'=true->(h'.take h.length)[i]?=some o'-> ∃ o,h[i]?=some o/\o.fT=o'.fT/\(o=o'\/o'.jg n=true)
 | [],h',i,o',_,e=>by simp at e
 | a::h,[],i,o',q,_=>by simp[cb] at q
 | a::h,b::h',0,o',q,e=>by
  rw[cb,Bool.and_eq_true,Bool.or_eq_true,Bool.and_eq_true] at q
  simp at e;subst e
  refine⟨a,rfl,?_,?_⟩
  · rcases q.1 with z | z
    · rw[of_decide_eq_true z]
    · simpa using z.2
  · rcases q.1 with z | z
    · exact .inl (of_decide_eq_true z)
    · exact .inr z.1
 | a::h,b::h',i+1,o',q,e=>by
  rw[cb,Bool.and_eq_true] at q
  simpa using pX q.2 (by simpa using e)
noncomputable def run(pg:Tb):Nat->CF
 | 0,_,_,_=> .no
 | k+1,f,vs,h=>match pg.fns f with
  | none=> .no
  | some d=>if vs.length=d.ps.length then
    (match d.body (run pg k) (vs.map some++List.replicate d.nl none) h with
    | .ok (.rt v) h'=>settle h v h'
    | .ok (.nx _) h'=>settle h .non h'
    | .ok _ _=> .no
    | .ex c us h'=> .ex c us h'
    | .no=> .no)
   else .no
noncomputable def dy(K:PySem.W.Frag)(ρ :List Addr)(H:Hp)(v:PV)(h':PH)(Q:VK):Prop:= ∀ v' ρ' H',Gr ρ H ρ' H'->cW K ρ' h' H'->rel K ρ' H' v v'->Q v' H'
noncomputable def l0(K:PySem.W.Frag)(ρ :List Addr)(H:Hp)(h':PH)(Q:Hp->Prop):Prop:= ∀ ρ' H',Gr ρ H ρ' H'->cW K ρ' h' H'->Q H'
noncomputable def wA(K:PySem.W.Frag)(ρ :List Addr)(H:Hp)(vs:List PV)(h':PH)(Q:List V->Hp->Prop):Prop:= ∀ us ρ' H',Gr ρ H ρ' H'->cW K ρ' h' H'->ar K ρ' H' vs us->Q us H'
structure dQ(K:PySem.W.Frag)(ρ :List Addr)(H:Hp)(e:ax)(σ :L2.St):Prop where
 len:e.length= σ.length
 get: ∀(i:Nat)(v:PV),e[i]?=some (some v)-> ∃ v', σ[i]?=some (some v')/\rel K ρ H v v'
noncomputable def fg(K:PySem.W.Frag)(ρ :List Addr)(H:Hp)(e':ax)(h':PH)(Q:L2.St->Hp->Prop):Prop:= ∀ σ' ρ' H',Gr ρ H ρ' H'->cW K ρ' h' H'->dQ K ρ' H' e' σ'->Q σ' H'
noncomputable def wZ(K:PySem.W.Frag)(ρ :List Addr)(H:Hp)(D:Ends)(h':PH):Fl->Prop
 | .nx e=>fg K ρ H e h' D.nx
 | .bk e=>fg K ρ H e h' D.bk
 | .ct e=>fg K ρ H e h' D.ct
 | .rt v=>dy K ρ H v h' D.rt
section
variable{K:PySem.W.Frag}{ρ ρ1:List Addr}{H H1:Hp}{h':PH}
theorem dQ.gr{e:ax}{σ :L2.St}(r:dQ K ρ H e σ)(g:Gr ρ H ρ1 H1):dQ K ρ1 H1 e σ :=⟨r.len,fun i v q=>let ⟨v',a,b⟩:=r.get i v q;⟨v',a,rel.gr g _ _ b⟩⟩
theorem dQ.set{e:ax}{σ :L2.St}{v:PV}{v':V}(r:dQ K ρ H e σ)(i:Nat)(h:rel K ρ H v v'):dQ K ρ H (e.set i (some v)) (σ.set i (some v')):=by
 refine⟨by simp[r.len],fun j x q=>?_⟩
 by_cases z:j=i
 · subst z
   have hj:j < e.length:=by
    have:=(List.getElem?_eq_some_iff.mp q).1
    simpa using this
   rw[List.getElem?_set_self hj] at q
   cases q
   exact⟨v',List.getElem?_set_self (by rw[<- r.len];exact hj),h⟩
 · rw[List.getElem?_set_ne (Ne.symm z)] at q ⊢
   exact r.get j x q
theorem dQ.more{e:ax}{σ :L2.St}(r:dQ K ρ H e σ)(k:Nat):dQ K ρ H (e++List.replicate k none) (σ ++List.replicate k none):=by
 refine⟨by simp[r.len],fun j x q=>?_⟩
 rcases Nat.lt_or_ge j e.length with z | z
 · rw[List.getElem?_append_left z] at q
   rw[List.getElem?_append_left (by rw[<- r.len];exact z)]
   exact r.get j x q
 · rw[List.getElem?_append_right z,List.getElem?_replicate] at q
   split at q<;>exact nomatch q
theorem dy.gr{v:PV}{Q:VK}(p:dy K ρ H v h' Q)(g:Gr ρ H ρ1 H1):dy K ρ1 H1 v h' Q:=fun v' ρ' H' g'=>p v' ρ' H' (g.trans g')
theorem l0.gr{Q:Hp->Prop}(p:l0 K ρ H h' Q)(g:Gr ρ H ρ1 H1):l0 K ρ1 H1 h' Q:=fun ρ' H' g'=>p ρ' H' (g.trans g')
theorem wA.gr{vs:List PV}{Q:List V->Hp->Prop}(p:wA K ρ H vs h' Q)(g:Gr ρ H ρ1 H1):wA K ρ1 H1 vs h' Q:=fun v' ρ' H' g'=>p v' ρ' H' (g.trans g')
theorem fg.gr{e:ax}{Q:L2.St->Hp->Prop}(p:fg K ρ H e h' Q)(g:Gr ρ H ρ1 H1):fg K ρ1 H1 e h' Q:=fun v' ρ' H' g'=>p v' ρ' H' (g.trans g')
theorem wZ.gr{D:Ends}{f:Fl}(p:wZ K ρ H D h' f)(g:Gr ρ H ρ1 H1):wZ K ρ1 H1 D h' f:=by
 cases f with
 | nx e=>exact fg.gr p g
 | bk e=>exact fg.gr p g
 | ct e=>exact fg.gr p g
 | rt e=>exact dy.gr p g
end
noncomputable def SE(c:CF)(K:PySem.W.Frag)(t:TE)(m:ME):Prop:= ∀ ρ h H e σ Q v h',cW K ρ h H->dQ K ρ H e σ ->m c e h= .ok v h'->dy K ρ H v h' Q->t σ H Q
noncomputable def ST(c:CF)(K:PySem.W.Frag)(t:TT)(m:MT):Prop:= ∀ ρ h H e σ Q b h',cW K ρ h H->dQ K ρ H e σ ->m c e h= .ok b h'->l0 K ρ H h' (Q b)->t σ H Q
noncomputable def SA(c:CF)(K:PySem.W.Frag)(t:TA)(m:MA):Prop:= ∀ ρ h H e σ Q vs h',cW K ρ h H->dQ K ρ H e σ ->m c e h= .ok vs h'->wA K ρ H vs h' Q->t σ H Q
noncomputable def SS(c:CF)(K:PySem.W.Frag)(t:TS)(m:MS):Prop:= ∀ ρ h H e σ D f h',cW K ρ h H->dQ K ρ H e σ ->m c e h= .ok f h'->wZ K ρ H D h' f->t D σ H
noncomputable def SG(K:PySem.W.Frag)(t:TG)(m:MG):Prop:= ∀ ρ h H e σ Q v v' e' h',cW K ρ h H->dQ K ρ H e σ ->rel K ρ H v v'->m v e h= .ok e' h'->fg K ρ H e' h' Q->t v' σ H Q
noncomputable def iV.gx(it:iV)(h:PH):Bool:=match it.gd with
 | none=>true
 | some n=>decide (h[n]?=some (.lst it.items)\/h[n]?=some (.kM it.items))
noncomputable def Pm(K:PySem.W.Frag)(ρ0:List Addr)(H0:Hp)(J:It)(it:iV):Prop:= ∀ i ρ h H,Gr ρ0 H0 ρ H->cW K ρ h H->it.gx h=true ->
 (∀ x,it.items[i]?=some x->J.go i H/\ ∀ v H',J.KQ i H v H'-> ∃ ρ',Gr ρ H ρ' H'/\cW K ρ' h H'/\rel K ρ' H' x v)/\(i=it.items.length->J.stop i H)
noncomputable def SI(c:CF)(K:PySem.W.Frag)(t:TI)(m:MI):Prop:= ∀ ρ h H e σ R it h',cW K ρ h H->dQ K ρ H e σ ->m c e h= .ok it h'->(∀ ρ' H' J,Gr ρ H ρ' H'->cW K ρ' h' H'->Pm K ρ' H' J it->R J H')->t σ H R
noncomputable def uA(K:PySem.W.Frag)(pg:Tb)(k:Nat)(f:String):Sp:=fun vs H Q _=> ∃ ρ h args v h',cW K ρ h H/\ar K ρ H args vs/\run pg k f args h= .ok v h'/\dy K ρ H v h' Q
noncomputable def iI:List Str:=["len", "range", "isinstance", "int", "bool", "tuple", "dict", "sorted", "min", "max", "abs", "all", "any", "sum", "str", "list", "zip", "set", "repr", "enumerate"]
structure de(X:Cx)(pg:Tb)(k:Nat):Prop where
 room:dz k X.A
 calm:X.calm=true
 pL: ∀ v s,¬ X.xe v s
 defs: ∀ f d,pg.fns f=some d->hX X.prog X.w X.K X.mg X.base (Str.ofString f) k d.ps (uA X.K pg k f)
 blt: ∀ x∈iI,X.mg x=none
 con: ∀ x v,pg.con x=some v-> ∃ u v',X.mg x=some u/\RelV v' u/\ ∀ ρ H,rel X.K ρ H v v'
 yB: ∀ x kvs,pg.yB x=some kvs-> ∃ a kws,X.mg x=some (.ref a)/\KD X.prog X.w X.K a kws/\ ∀ ρ H,Paired (fun (p:Key × PV) (q:Key × V)=>p.1=q.1/\rel X.K ρ H p.2 q.2) kvs kws
theorem de.fG{X:Cx}{pg:Tb}{k:Nat}(a:de X pg k)(vars:List Str)(scope:Scope)(cl:List (Str × Addr))(C:Addr)(s₀ :Shared)(H₀ :Hp)(ex:List Addr)(pn:List (Addr × Obj)):de (fG X vars scope cl C s₀ H₀ ex pn) pg k :=
 ⟨a.room,a.calm,a.pL,a.defs,a.blt,a.con,a.yB⟩
structure JE(X:Cx)(pg:Tb)(k:Nat)(e:Expr)(m:ME):Prop where h:de X pg k-> ∃ t,QE X e t/\SE (run pg k) X.K t m
structure JT(X:Cx)(pg:Tb)(k:Nat)(e:Expr)(m:MT):Prop where h:de X pg k-> ∃ t,QT X e t/\ST (run pg k) X.K t m
structure JW(X:Cx)(pg:Tb)(k:Nat)(e:Expr)(m:MT):Prop where h:de X pg k-> ∃ t,QW X e t/\ST (run pg k) X.K t m
structure JA(X:Cx)(pg:Tb)(k:Nat)(e:List Expr)(m:MA):Prop where h:de X pg k-> ∃ t,QA X e t/\SA (run pg k) X.K t m
structure JS(X:Cx)(pg:Tb)(k:Nat)(s:Stmt)(m:MS):Prop where h:de X pg k-> ∃ t,QS X s t/\SS (run pg k) X.K t m
structure xC(X:Cx)(pg:Tb)(k:Nat)(s:List Stmt)(m:MS):Prop where h:de X pg k-> ∃ t,Ae X s t/\SS (run pg k) X.K t m
structure JG(X:Cx)(pg:Tb)(k:Nat)(e:Expr)(m:MG):Prop where h:de X pg k-> ∃ t,QG X e t/\SG X.K t m
structure JI(X:Cx)(pg:Tb)(k:Nat)(tg e:Expr)(m:MI):Prop where h:de X pg k-> ∃ t,QI X tg e t/\SI (run pg k) X.K t m
structure JF(X:Cx)(pg:Tb)(k:Nat)(es:List Expr)(m:MT):Prop where h:de X pg k-> ∃ t,QF X es t/\ST (run pg k) X.K t m
noncomputable def lS(K:PySem.W.Frag)(r:R2)(f:PV->PV->PH->RV PV):Prop:= ∀ ρ h H x y x' y' Q v h',cW K ρ h H->rel K ρ H x x'->rel K ρ H y y'->f x y h= .ok v h'->dy K ρ H v h' Q->r x' y' H Q
noncomputable def B0(K:PySem.W.Frag)(r:List V->Hp->VK->Prop)(f:List PV->PH->RV PV):Prop:= ∀ ρ h H xs us Q v h',cW K ρ h H->ar K ρ H xs us->f xs h= .ok v h'->dy K ρ H v h' Q->r us H Q
noncomputable def NC(K:PySem.W.Frag)(T:String)(r:V->List V->Hp->VK->Prop)(f:PV->List PV->PH->RV PV)(ty:PV->PH->Bool):Prop :=
 (∀ ρ h H x x',cW K ρ h H->rel K ρ H x x'->ty x h=true->Nu K T x' H) /\
 ∀ ρ h H x x' xs us Q v h',cW K ρ h H->rel K ρ H x x'->ar K ρ H xs us->f x xs h= .ok v h'->dy K ρ H v h' Q->r x' us H Q
end P3
end
section
open PySem PySem.W PyProof.Rows
namespace P3
open PySem PySem.Spec PyProof.Rows L2
noncomputable def ab(i:Nat):ME:=fun _ e h=>match e[i]? with
 | some (some v)=> .ok v h
 | _=> .no
noncomputable def eC(v:PV):ME:=fun _ _ h=> .ok v h
noncomputable def ag(f:PV->PV->PH->RV PV)(a b:ME):ME:=fun c e h=>(a c e h).bind fun x h1=>(b c e h1).bind fun y h2=>f x y h2
noncomputable def oO(f:PV->PH->RV PV)(a:ME):ME:=fun c e h=>(a c e h).bind f
noncomputable def wO(v:PV)(h:PH):RV Bool:=match v with
 | .bl b=> .ok b h
 | _=> .no
noncomputable def uN(a b:ME):ME:=fun c e h=>((a c e h).bind wO).bind fun x h1=>if x=true then b c e h1 else .ok (.bl false) h1
noncomputable def LK(a b:ME):ME:=fun c e h=>((a c e h).bind wO).bind fun x h1=>if x=true then .ok (.bl true) h1 else b c e h1
noncomputable def EV(a:ME):ME:=fun c e h=>((a c e h).bind wO).bind fun x h1=> .ok (.bl (!x)) h1
noncomputable def AQ(t:MT)(a b:ME):ME:=fun c e h=>(t c e h).bind fun x h1=>if x=true then a c e h1 else b c e h1
noncomputable def ao(a:ME):MT:=fun c e h=>(a c e h).bind wO
noncomputable def oQ(a b:MT):MT:=fun c e h=>(a c e h).bind fun x h1=>if x=true then b c e h1 else .ok false h1
noncomputable def Fp(a b:MT):MT:=fun c e h=>(a c e h).bind fun x h1=>if x=true then .ok true h1 else b c e h1
noncomputable def vw(a:MT):MT:=fun c e h=>(a c e h).bind fun x h1=> .ok (!x) h1
noncomputable def eA:MT:=fun _ _ h=> .ok true h
noncomputable def ae:MA:=fun _ _ h=> .ok [] h
noncomputable def aa(a:ME)(r:MA):MA:=fun c e h=>(a c e h).bind fun x h1=>(r c e h1).bind fun xs h2=> .ok (x::xs) h2
noncomputable def kF(n:Nat)(r:RV α):RV α :=if n<=sizeLine then r else .no
noncomputable def aw(r:MA):ME:=fun c e h=>(r c e h).bind fun xs h1=>kF xs.length (.ok (.tup xs) h1)
noncomputable def aT(r:MA):ME:=fun c e h=>(r c e h).bind fun xs h1=>kF xs.length (.ok (.ref h1.length) (h1++[.lst xs]))
noncomputable def af(f:String)(r:MA):ME:=fun c e h=>(r c e h).bind fun xs h1=>c f xs h1
noncomputable def eB(f:List PV->PH->RV PV)(r:MA):ME:=fun c e h=>(r c e h).bind f
noncomputable def eM(f:PV->List PV->PH->RV PV)(ty:PV->PH->Bool)(a:ME)(r:MA):ME:=fun c e h=>(a c e h).bind fun x h1=>if ty x h1=true then(r c e h1).bind fun xs h2=>f x xs h2 else .no
noncomputable def qP(f g:PV->PV->PH->RV PV)(a b d:ME):ME:=fun c e h=>(a c e h).bind fun x h1=>(b c e h1).bind fun y h2=>((f x y h2).bind wO).bind fun k h3=>if k=true then(d c e h3).bind fun z h4=>g y z h4 else .ok (.bl false) h3
theorem jw{n:Nat}{r:RV α}{a: α}{h:PH}:kF n r= .ok a h↔n<=sizeLine/\r= .ok a h:=by
 unfold kF;split
 · exact⟨fun e=>⟨by assumption,e⟩,fun e=>e.2⟩
 · exact⟨fun e=>(nomatch e),fun e=>absurd e.1 (by assumption)⟩
theorem nV{v:PV}{h h':PH}{b:Bool}:wO v h= .ok b h'↔v= .bl b/\h'=h:=by
 cases v<;>simp[wO,eq_comm]
section
variable{X:Cx}{pg:Tb}{k:Nat}{a b c d e:Expr}{es:List Expr}{ma mb mc md:ME}{mr:MA}{mt mt':MT}{pos p pos' apos cpos:Pos}{x:Str}
theorem Km(i:Nat){x:Str}{pos:Pos}(hN:X.N[i]?=some x:=by rfl)(hv:FF X.env.scope x:=by first | exact Or.inl rfl | exact Or.inr (Or.inl rfl) | exact Or.inr (Or.inr rfl))(hd:(x == ("__debug__" :Str))=false:=by decide)
  (hcd:(x == ("__classdict__" :Str))=false:=by decide):JE X pg k (.Name x pos) (ab i):=⟨fun A=>⟨_,qv i hN hv hd hcd,fun ρ h H e σ Q v h' s r q P=>by
 unfold ab at q
 split at q
 · cases q
   obtain⟨v',e1,e2⟩:=r.get i v (by assumption)
   exact⟨v',e1,P v' ρ H (.refl _ _) s e2⟩
 · exact nomatch q⟩⟩
theorem xQ{cf:CF}{K:PySem.W.Frag}{v:PV}{v':V}(hr: ∀ ρ H,rel K ρ H v v'):SE cf K (tC v') (eC v):=fun ρ h H e σ Q w h' s r q P=>by cases q;exact P v' ρ H (.refl _ _) s (hr ρ H)
theorem HX{n:Int}{j:Nat}:JE X pg k (.Constant (.int n) j pos) (eC (.int n)):=⟨fun A=>⟨_,Hc,xQ fun ρ H=>by rw[rel]⟩⟩
theorem LS{n:Bool}{j:Nat}:JE X pg k (.Constant (.bool n) j pos) (eC (.bl n)):=⟨fun A=>⟨_,MJ,xQ fun ρ H=>by rw[rel]⟩⟩
theorem Kv{j:Nat}:JE X pg k (.Constant .none j pos) (eC .non):=⟨fun A=>⟨_,Js,xQ fun ρ H=>by rw[rel]⟩⟩
theorem Gz{n:Str}{j:Nat}:JE X pg k (.Constant (.str n) j pos) (eC (.str n)):=⟨fun A=>⟨_,Gv,xQ fun ρ H=>by rw[rel]⟩⟩
theorem Hf{v:PV}(hc:pg.con x=some v)(hg:Gl X x)(hd:(x == ("__debug__" :Str))=false:=by decide):JE X pg k (.Name x pos) (eC v):=⟨fun A=>let ⟨u,v',e1,e2,e3⟩:=A.con x v hc;⟨_,Ek hg e1 e2 hd,xQ e3⟩⟩
theorem sS{T:String}(hg:Gl X x)(hb:x∈iI)(hv:bootBuiltins x=some (.type T))(hn:x≠ "__name__" :=by decide)(hd:(x == ("__debug__" :Str))=false:=by decide):JE X pg k (.Name x pos) (eC (.ty T)) :=
 ⟨fun A=>⟨_,Eg (v:= .ty T) hg (A.blt x hb) hv rfl hn hd,xQ fun ρ H=>by rw[rel]⟩⟩
theorem wI{cf:CF}{K:PySem.W.Frag}{r:R2}{f:PV->PV->PH->RV PV}{ta tb:TE}(ho:lS K r f)(ha:SE cf K ta ma)(hb:SE cf K tb mb):SE cf K (Cn r ta tb) (ag f ma mb):=fun ρ h H e σ Q v h' s r q P=>by
 obtain⟨x,h1,e1,q⟩:=bind_eq.mp q
 obtain⟨y,h2,e2,q⟩:=bind_eq.mp q
 refine ha ρ h H e σ _ x h1 s r e1 fun x' ρ1 H1 g1 s1 r1=>?_
 refine hb ρ1 h1 H1 e σ _ y h2 s1 (r.gr g1) e2 fun y' ρ2 H2 g2 s2 r2=>?_
 exact ho ρ2 h2 H2 x y x' y' Q v h' s2 (rel.gr g2 _ _ r1) r2 q (P.gr (g1.trans g2))
theorem Nv{op:Operator}{f:PV->PV->PH->RV PV}(ho:de X pg k-> ∃ r,cX X (binaryOp op) r/\lS X.K r f)(ha:JE X pg k a ma)(hb:JE X pg k b mb):JE X pg k (.BinOp a op b pos) (ag f ma mb):=⟨fun A =>
 let ⟨_,q1,s1⟩:=ha.h A;let ⟨_,q2,s2⟩:=hb.h A;let ⟨_,q,s⟩:=ho A;⟨_,Lj q q1 q2,wI s s1 s2⟩⟩
theorem yX{op:CmpOp}{f:PV->PV->PH->RV PV}(ho:de X pg k-> ∃ r,cX X (compareOp op) r/\lS X.K r f)(ha:JE X pg k a ma)(hb:JE X pg k b mb)(hm:behindInMarks op b=false):JE X pg k (.Compare a [op] [b] pos) (ag f ma mb):=⟨fun A =>
 let ⟨_,q1,s1⟩:=ha.h A;let ⟨_,q2,s2⟩:=hb.h A;let ⟨_,q,s⟩:=ho A;⟨_,E1 q q1 q2 hm,wI s s1 s2⟩⟩
theorem qF{cf:CF}{K:PySem.W.Frag}{ta:TE}(ha:SE cf K ta ma):ST cf K (yO ta) (ao ma):=fun ρ h H e σ Q v h' s r q P=>by
 obtain⟨x,h1,e1,q⟩:=bind_eq.mp q
 obtain⟨rfl,rfl⟩:=nV.mp q
 refine ha ρ h H e σ _ _ _ s r e1 fun x' ρ1 H1 g1 s1 r1=>?_
 rw[rel] at r1
 exact⟨v,r1,P ρ1 H1 g1 s1⟩
theorem Ai{op:CmpOp}{f:PV->PV->PH->RV PV}(ho:de X pg k-> ∃ r,cX X (compareOp op) r/\lS X.K r f)(ha:JE X pg k a ma)(hb:JE X pg k b mb)(hm:behindInMarks op b=false):JT X pg k (.Compare a [op] [b] pos) (ao (ag f ma mb)):=⟨fun A =>
 let ⟨_,q1,s1⟩:=ha.h A;let ⟨_,q2,s2⟩:=hb.h A;let ⟨_,q,s⟩:=ho A;⟨_,Cr q q1 q2 hm,qF (wI s s1 s2)⟩⟩
theorem KA(ha:JE X pg k e ma)(he: ∀ whole,isTrue e X.env whole=(do let v <- whole;standAt e.pos;holding [v] (truthy v)):=by intro _;rfl):JT X pg k e (ao ma):=⟨fun A =>
 let ⟨_,q1,s1⟩:=ha.h A;⟨_,HZ q1 he,qF s1⟩⟩
theorem LX{op:UnaryOp}{f:PV->PH->RV PV}(ho:de X pg k-> ∃ r,KW X (unaryOp op) r/\ ∀ ρ h H x x' Q v h',cW X.K ρ h H->rel X.K ρ H x x'->f x h= .ok v h'->dy X.K ρ H v h' Q->r x' H Q)(ha:JE X pg k a ma):JE X pg k (.UnaryOp op a pos) (oO f ma):=⟨fun A =>
 let ⟨_,q1,s1⟩:=ha.h A;let ⟨_,q,s⟩:=ho A;⟨_,Li q q1,fun ρ h H e σ Q v h' z r q P=>by
  obtain⟨x,h1,e1,q⟩:=bind_eq.mp q
  exact s1 ρ h H e σ _ x h1 z r e1 fun x' ρ1 H1 g1 z1 r1=>s ρ1 h1 H1 x x' Q v h' z1 r1 q (P.gr g1)⟩⟩
theorem Hb(ha:JE X pg k a ma):JE X pg k (.UnaryOp .Not a pos) (EV ma):=⟨fun A =>
 let ⟨_,q1,s1⟩:=ha.h A;⟨_,Gu q1,fun ρ h H e σ Q v h' s r q P=>by
  obtain⟨x,h2,q2,q⟩:=bind_eq.mp q
  obtain⟨y,h1,e1,q2⟩:=bind_eq.mp q2
  obtain⟨rfl,rfl⟩:=nV.mp q2
  cases q
  refine s1 ρ h H e σ _ _ _ s r e1 fun x' ρ1 H1 g1 z1 r1=>?_
  rw[rel] at r1
  exact⟨x,r1,P _ ρ1 H1 g1 z1 (by rw[rel])⟩⟩⟩
theorem GP{op:BoolOp}(h:JE X pg k a ma):JE X pg k (.BoolOp op [a] pos) ma:=⟨fun A=>let ⟨_,q1,s1⟩:=h.h A;⟨_,Hj q1,s1⟩⟩
theorem Jx{rest:List Expr}(ha:JE X pg k a ma)(hb:JE X pg k (.BoolOp .And (b::rest) pos) mb):JE X pg k (.BoolOp .And (a::b::rest) pos) (uN ma mb):=⟨fun A =>
 let ⟨_,q1,s1⟩:=ha.h A;let ⟨_,q2,s2⟩:=hb.h A;⟨_,Ke q1 q2,fun ρ h H e σ Q v h' s r q P=>by
  obtain⟨x,h2,q2,q⟩:=bind_eq.mp q
  obtain⟨y,h1,e1,q2⟩:=bind_eq.mp q2
  obtain⟨rfl,rfl⟩:=nV.mp q2
  refine s1 ρ h H e σ _ _ _ s r e1 fun x' ρ1 H1 g1 z1 r1=>?_
  rw[rel] at r1
  refine⟨x,r1,?_⟩
  cases x with
  | true=>exact s2 ρ1 _ H1 e σ _ _ _ z1 (r.gr g1) q (P.gr g1)
  | false=>cases q;exact P _ ρ1 H1 g1 z1 (by rw[rel])⟩⟩
theorem M3{rest:List Expr}(ha:JE X pg k a ma)(hb:JE X pg k (.BoolOp .Or (b::rest) pos) mb):JE X pg k (.BoolOp .Or (a::b::rest) pos) (LK ma mb):=⟨fun A =>
 let ⟨_,q1,s1⟩:=ha.h A;let ⟨_,q2,s2⟩:=hb.h A;⟨_,L4 q1 q2,fun ρ h H e σ Q v h' s r q P=>by
  obtain⟨x,h2,q2,q⟩:=bind_eq.mp q
  obtain⟨y,h1,e1,q2⟩:=bind_eq.mp q2
  obtain⟨rfl,rfl⟩:=nV.mp q2
  refine s1 ρ h H e σ _ _ _ s r e1 fun x' ρ1 H1 g1 z1 r1=>?_
  rw[rel] at r1
  refine⟨x,r1,?_⟩
  cases x with
  | false=>exact s2 ρ1 _ H1 e σ _ _ _ z1 (r.gr g1) q (P.gr g1)
  | true=>cases q;exact P _ ρ1 H1 g1 z1 (by rw[rel])⟩⟩
theorem BJ(hc:JT X pg k c mt)(ha:JE X pg k a ma)(hb:JE X pg k b mb):JE X pg k (.IfExp c a b pos) (AQ mt ma mb):=⟨fun A =>
 let ⟨_,q0,s0⟩:=hc.h A;let ⟨_,q1,s1⟩:=ha.h A;let ⟨_,q2,s2⟩:=hb.h A;⟨_,zG q0 q1 q2,fun ρ h H e σ Q v h' s r q P=>by
  obtain⟨x,h1,e1,q⟩:=bind_eq.mp q
  refine s0 ρ h H e σ _ _ _ s r e1 fun ρ1 H1 g1 z1=>?_
  cases x with
  | true=>exact s1 ρ1 _ H1 e σ _ _ _ z1 (r.gr g1) q (P.gr g1)
  | false=>exact s2 ρ1 _ H1 e σ _ _ _ z1 (r.gr g1) q (P.gr g1)⟩⟩
theorem Dy(ha:JT X pg k a mt):JW X pg k (.BoolOp .And [a] pos) mt:=⟨fun A=>let ⟨_,q1,s1⟩:=ha.h A;⟨_,DW q1,s1⟩⟩
theorem Jr(ha:JT X pg k a mt):JW X pg k (.BoolOp .Or [a] pos) mt:=⟨fun A=>let ⟨_,q1,s1⟩:=ha.h A;⟨_,Gp q1,s1⟩⟩
theorem yF{rest:List Expr}(ha:JT X pg k a mt)(hb:JW X pg k (.BoolOp .And (b::rest) pos) mt'):JW X pg k (.BoolOp .And (a::b::rest) pos) (oQ mt mt'):=⟨fun A =>
 let ⟨_,q1,s1⟩:=ha.h A;let ⟨_,q2,s2⟩:=hb.h A;⟨_,J9 q1 q2,fun ρ h H e σ Q v h' s r q P=>by
  obtain⟨x,h1,e1,q⟩:=bind_eq.mp q
  refine s1 ρ h H e σ _ _ _ s r e1 fun ρ1 H1 g1 z1=>?_
  cases x with
  | true=>exact s2 ρ1 _ H1 e σ _ _ _ z1 (r.gr g1) q (P.gr g1)
  | false=>cases q;exact P ρ1 H1 g1 z1⟩⟩
theorem Fo{rest:List Expr}(ha:JT X pg k a mt)(hb:JW X pg k (.BoolOp .Or (b::rest) pos) mt'):JW X pg k (.BoolOp .Or (a::b::rest) pos) (Fp mt mt'):=⟨fun A =>
 let ⟨_,q1,s1⟩:=ha.h A;let ⟨_,q2,s2⟩:=hb.h A;⟨_,LN q1 q2,fun ρ h H e σ Q v h' s r q P=>by
  obtain⟨x,h1,e1,q⟩:=bind_eq.mp q
  refine s1 ρ h H e σ _ _ _ s r e1 fun ρ1 H1 g1 z1=>?_
  cases x with
  | false=>exact s2 ρ1 _ H1 e σ _ _ _ z1 (r.gr g1) q (P.gr g1)
  | true=>cases q;exact P ρ1 H1 g1 z1⟩⟩
theorem JW.pt(h:JW X pg k e mt):JT X pg k e mt:=⟨fun A=>let ⟨_,q1,s1⟩:=h.h A;⟨_,q1.pt,s1⟩⟩
theorem Gq(ha:JT X pg k a mt):JT X pg k (.UnaryOp .Not a pos) (vw mt):=⟨fun A=>let ⟨_,q1,s1⟩:=ha.h A;⟨_,Jd q1,fun ρ h H e σ Q v h' s r q P=>by
  obtain⟨x,h1,e1,q⟩:=bind_eq.mp q
  cases q
  exact s1 ρ h H e σ _ _ _ s r e1 fun ρ1 H1 g1 z1=>P ρ1 H1 g1 z1⟩⟩
theorem Jp:JF X pg k [] eA:=⟨fun A=>⟨_,Hw,fun ρ h H e σ Q v h' s r q P=>by cases q;exact P ρ H (.refl _ _) s⟩⟩
theorem Jj(h:JT X pg k c mt):JF X pg k [c] mt:=⟨fun A=>let ⟨_,q1,s1⟩:=h.h A;⟨_,JK q1,s1⟩⟩
theorem Kd:JA X pg k [] ae:=⟨fun A=>⟨_,uK,fun ρ h H e σ Q v h' s r q P=>by cases q;exact P [] ρ H (.refl _ _) s (aO.mpr rfl)⟩⟩
theorem Fh(ha:JE X pg k e ma)(hr:JA X pg k es mr)(hs:noStar e=true:=by rfl):JA X pg k (e::es) (aa ma mr):=⟨fun A =>
 let ⟨_,q1,s1⟩:=ha.h A;let ⟨_,q2,s2⟩:=hr.h A;⟨_,qk q1 q2 hs,fun ρ h H e σ Q v h' s r q P=>by
  obtain⟨x,h1,e1,q⟩:=bind_eq.mp q
  obtain⟨xs,h2,e2,q⟩:=bind_eq.mp q
  cases q
  refine s1 ρ h H e σ _ _ _ s r e1 fun x' ρ1 H1 g1 z1 r1=>?_
  refine s2 ρ1 h1 H1 e σ _ _ _ z1 (r.gr g1) e2 fun us ρ2 H2 g2 z2 r2=>?_
  exact P _ ρ2 H2 (g1.trans g2) z2 (aC.mpr ⟨x',us,rfl,rel.gr g2 _ _ r1,r2⟩)⟩⟩
theorem Ju{x1}(h:JA X pg k es mr):JE X pg k (.Tuple es x1 pos) (aw mr):=⟨fun A =>
 let ⟨_,q1,s1⟩:=h.h A;⟨_,IK q1,fun ρ h H e σ Q v h' s r q P=>by
  obtain⟨xs,h1,e1,q⟩:=bind_eq.mp q
  obtain⟨hl,q⟩:=jw.mp q
  cases q
  refine s1 ρ h H e σ _ _ _ s r e1 fun us ρ1 H1 g1 z1 r1=>⟨by rw[<- r1.len];exact hl,fun p hp=>?_⟩
  refine P _ ρ1 _ (g1.trans (Gr.uU hp)) (z1.tup hp) ?_
  rw[rel]
  exact⟨p,us,rfl,a8,ar.gr (Gr.uU hp) _ _ r1⟩⟩⟩
theorem d8{K:PySem.W.Frag}{ρ :List Addr}{h:PH}{H:Hp}{xs:List PV}{us:List V}{Q:VK}(s:cW K ρ h H)(r:ar K ρ H xs us)(P:dy K ρ H (.ref h.length) (h++[.lst xs]) Q)(p:Addr)(hp:H p=none):Q (.ref p) (upd H p (.lst us)):=by
 refine P _ (ρ ++[p]) _ (Gr.new hp [p]) (s.new hp ⟨us,a8,ar.gr (Gr.new hp [p]) _ _ r⟩) ?_
 rw[rel]
 exact⟨p,by rw[<- s.len,List.getElem?_append_right (Nat.le_refl _)];simp,rfl⟩
theorem GI(h:JA X pg k es mr):JE X pg k (.List es pos) (aT mr):=⟨fun A =>
 let ⟨_,q1,s1⟩:=h.h A;⟨_,J5 q1,fun ρ h H e σ Q v h' s r q P=>by
  obtain⟨xs,h1,e1,q⟩:=bind_eq.mp q
  obtain⟨hl,q⟩:=jw.mp q
  cases q
  exact s1 ρ h H e σ _ _ _ s r e1 fun us ρ1 H1 g1 z1 r1=>⟨by rw[<- r1.len];exact hl,fun p hp=>d8 z1 r1 (P.gr g1) p hp⟩⟩⟩
theorem Co{f:String}{d:Df}(hf:pg.fns f=some d)(hg:Gl X (Str.ofString f))(ha:JA X pg k (e::es) mr)(hdb:(Str.ofString f == ("__debug__" :Str))=false:=by decide)(he:noStar e=true:=by rfl)(hpl:es.all noStar=true:=by rfl) :
  JE X pg k (.Call (.Name (Str.ofString f) p) (e::es) [] pos) (af f mr):=⟨fun A =>
 let ⟨_,q1,s1⟩:=ha.h A;⟨_,qd (A.defs f d hf) A.room hg (Nat.le_refl _) q1 hdb he hpl,fun ρ h H e σ Q v h' s r q P=>by
  obtain⟨xs,h1,e1,q⟩:=bind_eq.mp q
  refine s1 ρ h H e σ _ _ _ s r e1 fun us ρ1 H1 g1 z1 r1=>?_
  rw[List.append_nil]
  exact⟨ρ1,h1,xs,v,h',z1,r1,q,P.gr g1⟩⟩⟩
theorem Lf{cf:CF}{K:PySem.W.Frag}{r:List V->Hp->VK->Prop}{f:List PV->PH->RV PV}{ta:TA}(ho:B0 K r f)(ha:SA cf K ta mr):SE cf K (IW r ta) (eB f mr):=fun ρ h H e σ Q v h' s r q P=>by
 obtain⟨xs,h1,e1,q⟩:=bind_eq.mp q
 exact ha ρ h H e σ _ _ _ s r e1 fun us ρ1 H1 g1 z1 r1=>ho ρ1 h1 H1 xs us Q v h' z1 r1 q (P.gr g1)
theorem Ga{id:String}{f:List PV->PH->RV PV}(hc:de X pg k-> ∃ r,bq X (.builtin id) r/\B0 X.K r f)(hg:Gl X x)(hb:x∈iI)(hv:bootBuiltins x=some (.builtin id))(ha:JA X pg k (e::es) mr)
  (hn:x≠ "__name__" :=by decide) (hdb:(x == ("__debug__" :Str))=false:=by decide) (he:noStar e=true:=by rfl) (hpl:es.all noStar=true:=by rfl):JE X pg k (.Call (.Name x p) (e::es) [] pos) (eB f mr):=⟨fun A =>
 let ⟨_,q1,s1⟩:=ha.h A;let ⟨_,q,s⟩:=hc A;⟨_,qB q hg (A.blt x hb) hv q1 hn hdb he hpl,Lf s s1⟩⟩
theorem Kz{T:String}{f:List PV->PH->RV PV}(hc:de X pg k-> ∃ r,bq X (.type T) r/\B0 X.K r f)(hg:Gl X x)(hb:x∈iI)(hv:bootBuiltins x=some (.type T))(ha:JA X pg k (e::es) mr)
  (hn:x≠ "__name__" :=by decide) (hdb:(x == ("__debug__" :Str))=false:=by decide) (he:noStar e=true:=by rfl) (hpl:es.all noStar=true:=by rfl):JE X pg k (.Call (.Name x p) (e::es) [] pos) (eB f mr):=⟨fun A =>
 let ⟨_,q1,s1⟩:=ha.h A;let ⟨_,q,s⟩:=hc A;⟨_,qT q hg (A.blt x hb) hv q1 hn hdb he hpl,Lf s s1⟩⟩
theorem Gm{name:Str}{id T:String}{f:PV->List PV->PH->RV PV}{ty:PV->PH->Bool}(pa:PlainAttrs T)(slot:Slot T name id)(hty:typeOf (.builtin id)=pure (.type "method_descriptor"))(hm:de X pg k-> ∃ r,FJ X id r/\NC X.K T r f ty)
  (ho:JE X pg k d md) (ha:JA X pg k [e] mr) (hbase:attributeBase d name X.env (eval d X.env)=eval d X.env:=by rfl) (hline:(apos.endLine == cpos.line)=true:=by rfl) (hs:noStar e=true:=by rfl) :
  JE X pg k (.Call (.Attribute d name apos) [e] [] cpos) (eM f ty md mr):=⟨fun A =>
 let ⟨_,q0,s0⟩:=ho.h A;let ⟨_,q1,s1⟩:=ha.h A;let ⟨_,q,s⟩:=hm A;⟨_,Lq pa slot hty q q0 q1 hbase hline hs,fun ρ h H e σ Q v h' z r q P=>by
  obtain⟨x,h1,e1,q⟩:=bind_eq.mp q
  refine s0 ρ h H e σ _ _ _ z r e1 fun x' ρ1 H1 g1 z1 r1=>?_
  split at q
  · rename_i ht
    obtain⟨xs,h2,e2,q⟩:=bind_eq.mp q
    refine⟨s.1 ρ1 h1 H1 x x' z1 r1 ht,?_⟩
    exact s1 ρ1 h1 H1 e σ _ _ _ z1 (r.gr g1) e2 fun us ρ2 H2 g2 z2 r2=>s.2 ρ2 h2 H2 x x' xs us Q v h' z2 (rel.gr g2 _ _ r1) r2 q (P.gr (g1.trans g2))
  · exact nomatch q⟩⟩
theorem yS{cf:CF}{K:PySem.W.Frag}{r r':R2}{f g:PV->PV->PH->RV PV}{ta tb tc:TE}(ho:lS K r f)(ho':lS K r' g)(ha:SE cf K ta ma)(hb:SE cf K tb mb)(hc:SE cf K tc mc):SE cf K (vG r r' ta tb tc) (qP f g ma mb mc):=fun ρ h H e σ Q v h' s r q P=>by
 obtain⟨x,h1,e1,q⟩:=bind_eq.mp q
 obtain⟨y,h2,e2,q⟩:=bind_eq.mp q
 obtain⟨z,h3,e3,q⟩:=bind_eq.mp q
 obtain⟨z0,h4,e4,e5⟩:=bind_eq.mp e3
 obtain⟨rfl,rfl⟩:=nV.mp e5
 refine ha ρ h H e σ _ x h1 s r e1 fun x' ρ1 H1 g1 s1 r1=>?_
 refine hb ρ1 h1 H1 e σ _ y h2 s1 (r.gr g1) e2 fun y' ρ2 H2 g2 s2 r2=>?_
 refine ho ρ2 h2 H2 x y x' y' _ _ _ s2 (rel.gr g2 _ _ r1) r2 e4 fun z' ρ3 H3 g3 s3 r3=>?_
 rw[rel] at r3
 refine⟨z,r3,?_⟩
 cases z with
 | true =>
  obtain⟨w,h5,e5,q⟩:=bind_eq.mp q
  refine hc ρ3 _ H3 e σ _ w h5 s3 (r.gr ((g1.trans g2).trans g3)) e5 fun w' ρ4 H4 g4 s4 r4=>?_
  exact ho' ρ4 h5 H4 y w y' w' Q v h' s4 (rel.gr (g3.trans g4) _ _ r2) r4 q (P.gr (((g1.trans g2).trans g3).trans g4))
 | false=>cases q;exact P _ ρ3 H3 ((g1.trans g2).trans g3) s3 (by rw[rel])
theorem BX{op op':CmpOp}{f g:PV->PV->PH->RV PV}(ho:de X pg k-> ∃ r,cX X (compareOp op) r/\lS X.K r f)(ho':de X pg k-> ∃ r,cX X (compareOp op') r/\lS X.K r g)(ha:JE X pg k a ma)(hb:JE X pg k b mb)(hc:JE X pg k c mc)
  (hm:lastMarks [op,op'] [b,c]=false:=by with_unfolding_all rfl):JE X pg k (.Compare a [op,op'] [b,c] pos) (qP f g ma mb mc):=⟨fun A =>
 let ⟨_,q1,s1⟩:=ha.h A;let ⟨_,q2,s2⟩:=hb.h A;let ⟨_,q3,s3⟩:=hc.h A;let ⟨_,q,s⟩:=ho A;let ⟨_,q',s'⟩:=ho' A;⟨_,zX q q' q1 q2 q3 hm,yS s s' s1 s2 s3⟩⟩
end
end P3
end
section
open PySem PySem.W PyProof.Rows
namespace P3
open PySem PySem.Spec PyProof.Rows L2
noncomputable def bB:MS:=fun _ e h=> .ok (.nx e) h
noncomputable def ah(a b:MS):MS:=fun c e h=>(a c e h).bind fun f h1=>match f with
 | .nx e1=>b c e1 h1
 | f=> .ok f h1
noncomputable def fN(a:ME):MS:=fun c e h=>(a c e h).bind fun _ h1=> .ok (.nx e) h1
noncomputable def az(a:ME):MS:=fun c e h=>(a c e h).bind fun v h1=> .ok (.rt v) h1
noncomputable def bz(t:MT)(a b:MS):MS:=fun c e h=>(t c e h).bind fun x h1=>if x=true then a c e h1 else b c e h1
noncomputable def kL:MS:=fun _ e h=> .ok (.bk e) h
noncomputable def aj(a:ME)(g:MG):MS:=fun c e h=>(a c e h).bind fun v h1=>(g v e h1).bind fun e1 h2=> .ok (.nx e1) h2
noncomputable def gN(i:Nat):MG:=fun v e h=> .ok (e.set i (some v)) h
noncomputable def gT(n:Nat)(g:List PV->ax->PH->RV ax):MG:=fun v e h=>match v.seq? with
 | some xs=>if xs.length=n then g xs e h else .no
 | none=> .no
noncomputable def dS:List PV->ax->PH->RV ax:=fun vs e h=>match vs with
 | []=> .ok e h
 | _=> .no
noncomputable def aL(g:MG)(r:List PV->ax->PH->RV ax):List PV->ax->PH->RV ax:=fun vs e h=>match vs with
 | []=> .no
 | v::t=>(g v e h).bind fun e1 h1=>r t e1 h1
noncomputable def jd(f:PV->PV->PV->PH->RV Unit)(o i a:ME):MS:=fun c e h=>(a c e h).bind fun v h1=>(o c e h1).bind fun x h2=>(i c e h2).bind fun y h3=>(f x y v h3).bind fun _ h4=> .ok (.nx e) h4
noncomputable def cg(it:iV)(step:PV->ax->PH->RV Fl):List PV->ax->PH->RV Fl
 | [],e,h=>if it.gx h=true then .ok (.nx e) h else .no
 | x::xs,e,h=>if it.gx h=true then(step x e h).bind (fun f h1=>match f with
   | .nx e1=>cg it step xs e1 h1
   | .ct e1=>cg it step xs e1 h1
   | .bk e1=> .ok (.nx e1) h1
   | .rt v=> .ok (.rt v) h1) else .no
noncomputable def jf(i:MI)(g:MG)(b:MS):MS:=fun c e h=>(i c e h).bind fun it h1=>cg it (fun x e h=>(g x e h).bind fun e1 h1=>b c e1 h1) it.items e h1
noncomputable def dh(t:ax->PH->RV Bool)(b:ax->PH->RV Fl):Nat->ax->PH->RV Fl
 | 0,_,_=> .no
 | n+1,e,h=>(t e h).bind fun x h1=>if x=true then(b e h1).bind (fun f h2=>match f with
   | .nx e1=>dh t b n e1 h2
   | .ct e1=>dh t b n e1 h2
   | .bk e1=> .ok (.nx e1) h2
   | .rt v=> .ok (.rt v) h2) else .ok (.nx e) h1
noncomputable def qK(t:MT)(b:MS):MS:=fun c e h=>dh (t c) (b c) 100000 e h
noncomputable def je(it:iV)(step:PV->PH->RV (Option PV)):List PV->List PV->PH->RV (List PV)
 | [],ys,h=>if it.gx h=true then .ok ys h else .no
 | x::xs,ys,h=>if it.gx h=true/\ys.length < sizeLine then(step x h).bind (fun o h1=>match o with
   | some y=>je it step xs (ys++[y]) h1
   | none=>je it step xs ys h1) else .no
noncomputable def bD(k:Nat)(g:MG)(t:MT)(a:ME)(c:CF)(e:ax)(x:PV)(h:PH):RV (Option PV):=(g x (e++List.replicate k none) h).bind fun e2 h2=>(t c e2 h2).bind fun b h3=>if b=true then(a c e2 h3).bind (fun y h4=> .ok (some y) h4) else .ok none h3
noncomputable def pb(k:Nat)(i:MI)(g:MG)(t:MT)(a:ME):ME:=fun c e h=>(i c e h).bind fun it h1=>(je it (bD k g t a c e) it.items [] h1).bind fun ys h2=> .ok (.ref h2.length) (h2++[.lst ys])
section
variable{X:Cx}{pg:Tb}{k:Nat}{a b c d e o i:Expr}{es:List Expr}{ma mb mc md mo mi:ME}{mr:MA}{mt mt':MT}{ms ms' mu:MS}{pos p pos' apos cpos spos:Pos}{x y:Str}{st:Stmt}{body rest:List Stmt}{g:MG}{mI:MI}{tg iter:Expr}{gs:List PV->ax->PH->RV ax}
theorem L9{c:CF}{K:PySem.W.Frag}:SS c K Ax bB:=fun ρ h H e σ D f h' s r q P=>by cases q;exact P σ ρ H (.refl _ _) s r
theorem GZ{c:CF}{K:PySem.W.Frag}{t u:TS}(h1:SS c K t ms)(h2:SS c K u mu):SS c K (Jo t u) (ah ms mu):=fun ρ h H e σ D f h' s r q P=>by
 obtain⟨f1,h1',e1,q⟩:=bind_eq.mp q
 refine h1 ρ h H e σ _ f1 h1' s r e1 ?_
 cases f1 with
 | nx e'=>exact fun σ1 ρ1 H1 g1 s1 r1=>h2 ρ1 h1' H1 e' σ1 D f h' s1 r1 q (P.gr g1)
 | rt v=>cases q;exact P
 | bk e'=>cases q;exact P
 | ct e'=>cases q;exact P
theorem DI:xC X pg k [] bB:=⟨fun A=>⟨_,De,L9⟩⟩
theorem EM(h:JS X pg k st ms):xC X pg k [st] ms:=⟨fun A=>let ⟨_,q,s⟩:=h.h A;⟨_,Ew q,s⟩⟩
theorem Bz(h1:JS X pg k st ms)(h2:xC X pg k rest mu):xC X pg k (st::rest) (ah ms mu):=⟨fun A=>let ⟨_,q1,s1⟩:=h1.h A;let ⟨_,q2,s2⟩:=h2.h A;⟨_,zh q1 q2,GZ s1 s2⟩⟩
theorem CM(ha:JE X pg k e ma)(hs:swapsWith e none pos.line X.env=pure false:=by rfl):JS X pg k (.Expr e pos) (fN ma):=⟨fun A=>let ⟨_,q1,s1⟩:=ha.h A;⟨_,EA q1 hs,fun ρ h H e σ D f h' s r q P=>by
 obtain⟨x,h1,e1,q⟩:=bind_eq.mp q
 cases q
 exact s1 ρ h H e σ _ x _ s r e1 fun x' ρ1 H1 g1 z1 r1=>P σ ρ1 H1 g1 z1 (r.gr g1)⟩⟩
theorem J6(ha:JE X pg k e ma):JS X pg k (.Return (some e) pos) (az ma):=⟨fun A=>let ⟨_,q1,s1⟩:=ha.h A;⟨_,IG q1,fun ρ h H e σ D f h' s r q P=>by
 obtain⟨x,h1,e1,q⟩:=bind_eq.mp q
 cases q
 exact s1 ρ h H e σ _ x _ s r e1 P⟩⟩
theorem K5{A B:List Stmt}(hc:JT X pg k c mt)(ha:xC X pg k A ms)(hb:xC X pg k B mu):JS X pg k (.If c A B pos) (bz mt ms mu):=⟨fun Z =>
 let ⟨_,q0,s0⟩:=hc.h Z;let ⟨_,q1,s1⟩:=ha.h Z;let ⟨_,q2,s2⟩:=hb.h Z;⟨_,Ng q0 q1 q2,fun ρ h H e σ D f h' s r q P=>by
  obtain⟨x,h1,e1,q⟩:=bind_eq.mp q
  refine s0 ρ h H e σ _ _ _ s r e1 fun ρ1 H1 g1 z1=>?_
  cases x with
  | true=>exact s1 ρ1 _ H1 e σ _ _ _ z1 (r.gr g1) q (P.gr g1)
  | false=>exact s2 ρ1 _ H1 e σ _ _ _ z1 (r.gr g1) q (P.gr g1)⟩⟩
theorem Bt(h:PS X (.Break pos) zc):JS X pg k (.Break pos) kL:=⟨fun A=>⟨_,⟨h⟩,fun ρ h H e σ D f h' s r q P=>by cases q;exact P σ ρ H (.refl _ _) s r⟩⟩
theorem wa{K:PySem.W.Frag}{i:Nat}:SG K (fw i) (gN i):=fun ρ h H e σ Q v v' e' h' s r rv q P=>by cases q;exact P _ ρ H (.refl _ _) s (r.set i rv)
theorem DP{i:Nat}(hN:X.N.Nodup)(hi:X.N[i]?=some x)(hx:Loc X.env.scope x)(hf:X.fn x=true\/X.env.scope.names.lookup x=some .local:=by first | exact .inl rfl | exact .inr rfl | assumption):JG X pg k (.Name x pos) (gN i):=⟨fun A=>⟨_,wX hN hi hx hf,wa⟩⟩
structure KZ(X:Cx)(pg:Tb)(k:Nat)(e:List Expr)(m:List PV->ax->PH->RV ax):Prop where
 h:de X pg k-> ∃ t,KS X e t/\ ∀ ρ h H e σ Q vs us e' h',cW X.K ρ h H->dQ X.K ρ H e σ ->ar X.K ρ H vs us->m vs e h= .ok e' h'->fg X.K ρ H e' h' Q->t us σ H Q
theorem EC:KZ X pg k [] dS:=⟨fun A=>⟨_,B7,fun ρ h H e σ Q vs us e' h' s r rv q P=>by
 cases vs with
 | nil=>cases q;rw[aO] at rv;exact⟨rv,P σ ρ H (.refl _ _) s r⟩
 | cons=>exact nomatch q⟩⟩
theorem AE(h1:JG X pg k e g)(h2:KZ X pg k es gs)(hs:(assignEach (e::es) X.env).map (·.2)=assign e X.env::(assignEach es X.env).map (·.2):=by rfl):KZ X pg k (e::es) (aL g gs):=⟨fun A =>
 let ⟨_,q1,s1⟩:=h1.h A;let ⟨_,q2,s2⟩:=h2.h A;⟨_,yK q1 q2 hs,fun ρ h H e σ Q vs us e' h' s r rv q P=>by
 cases vs with
 | nil=>exact nomatch q
 | cons v t =>
  obtain⟨w,u,rfl,r1,r2⟩:=aC.mp rv
  obtain⟨e1,h1,e2,q⟩:=bind_eq.mp q
  refine⟨w,u,rfl,?_⟩
  exact s1 ρ h H e σ _ v w e1 h1 s r r1 e2 fun σ1 ρ1 H1 g1 z1 y1=>s2 ρ1 h1 H1 e1 σ1 Q t u e' h' z1 y1 (ar.gr g1 _ _ r2) q (P.gr g1)⟩⟩
theorem Kw{j:Nat}{n:Nat}(h:KZ X pg k es gs)(hn:(assignEach es X.env).length=n:=by rfl)(hst:(assignEach es X.env).findIdx? (·.1)=none:=by rfl):JG X pg k (.Tuple es j pos) (gT n gs):=⟨fun A =>
 let ⟨_,q1,s1⟩:=h.h A;⟨_,BW A.calm q1 hn hst,fun ρ h H e σ Q v v' e' h' s r rv q P=>by
 unfold gT at q
 split at q
 · rename_i xs ex
   obtain⟨a,vs,rfl,z,rr⟩:=rel.seq ex rv
   split at q
   · rename_i hl
     exact⟨a,vs,rfl,z,by rw[<- rr.len];exact hl,s1 ρ h H e σ Q xs vs e' h' s r rr q P⟩
   · exact nomatch q
 · exact nomatch q⟩⟩
theorem HU{j:Nat}(hN:X.N.Nodup)(hi:X.N[j]?=some x)(hx:Loc X.env.scope x)(he:JE X pg k e ma)(hs:swapsWith e (some (.Name x pos')) pos.line X.env=pure false:=by rfl)(hf:X.fn x=true\/X.env.scope.names.lookup x=some .local:=by first | exact .inl rfl | exact .inr rfl | assumption) :
  JS X pg k (.Assign [.Name x pos'] e pos) (aj ma (gN j)):=⟨fun A=>let ⟨_,q1,s1⟩:=he.h A;⟨_,Gb hN hi hx q1 hs hf,fun ρ h H e σ D f h' s r q P=>by
 obtain⟨v,h1,e1,q⟩:=bind_eq.mp q
 obtain⟨e2,h2,e3,q⟩:=bind_eq.mp q
 cases q
 cases e3
 exact s1 ρ h H e σ _ v _ s r e1 fun v' ρ1 H1 g1 z1 r1=>P _ ρ1 H1 g1 z1 ((r.gr g1).set j r1)⟩⟩
theorem Ib(he:JE X pg k e ma)(hg:JG X pg k tg g)(hs:swapsWithSole [tg] e pos.line X.env=pure false:=by rfl)(hw:swappedStores [tg] e X.env=pure none:=by rfl)(h1:(assignEach [tg] X.env).map (·.2)=[assign tg X.env]:=by rfl) :
  JS X pg k (.Assign [tg] e pos) (aj ma g):=⟨fun A=>let ⟨_,q1,s1⟩:=he.h A;let ⟨_,q2,s2⟩:=hg.h A;⟨_,yM q1 q2 hs hw h1,fun ρ h H e σ D f h' s r q P=>by
 obtain⟨v,h1,e1,q⟩:=bind_eq.mp q
 obtain⟨e2,h2,e3,q⟩:=bind_eq.mp q
 cases q
 exact s1 ρ h H e σ _ v h1 s r e1 fun v' ρ1 H1 g1 z1 r1=>s2 ρ1 h1 H1 e σ _ v v' e2 _ z1 (r.gr g1) r1 e3 (fg.gr P g1)⟩⟩
theorem Hq{f:PV->PV->PV->PH->RV Unit}(hp:de X pg k-> ∃ t,pJ X t/\ ∀ ρ h H x y v x' y' v' u h' Q,cW X.K ρ h H->rel X.K ρ H x x'->rel X.K ρ H y y'->rel X.K ρ H v v'->f x y v h= .ok u h'->l0 X.K ρ H h' Q->t x' y' v' H Q)
  (ho:JE X pg k o mo) (hi:JE X pg k i mi) (hv:JE X pg k e ma) (hs:swapsWithSole [.Subscript o i pos'] e pos.line X.env=pure false:=by rfl) (hw:swappedStores [.Subscript o i pos'] e X.env=pure none:=by rfl) (h1:(assignEach [.Subscript o i pos'] X.env).map (·.2)=[assign (.Subscript o i pos') X.env]:=by rfl)
  (ha: ∀ v,assign (.Subscript o i pos') X.env v=(do
   let ov <- holding [v] (eval o X.env)
   let iv <- holding [v,ov] (eval i X.env)
   standAt pos'
   holding [v,ov,iv] (setItem ov iv v)
   release [v,ov,iv] []):=by intro _;rfl):JS X pg k (.Assign [.Subscript o i pos'] e pos) (jd f mo mi ma):=⟨fun A =>
 let ⟨_,q0,s0⟩:=hv.h A;let ⟨_,q1,s1⟩:=ho.h A;let ⟨_,q2,s2⟩:=hi.h A;let ⟨_,q3,s3⟩:=hp A;⟨_,yM q0 ⟨Ko q1.h q2.h q3 ha⟩ hs hw h1,fun ρ h H e σ D f' h' s r q P=>by
 obtain⟨v,h1,e1,q⟩:=bind_eq.mp q
 obtain⟨x,h2,e2,q⟩:=bind_eq.mp q
 obtain⟨y,h3,e3,q⟩:=bind_eq.mp q
 obtain⟨u,h4,e4,q⟩:=bind_eq.mp q
 cases q
 refine s0 ρ h H e σ _ v h1 s r e1 fun v' ρ1 H1 g1 z1 r1=>?_
 refine s1 ρ1 h1 H1 e σ _ x h2 z1 (r.gr g1) e2 fun x' ρ2 H2 g2 z2 r2=>?_
 refine s2 ρ2 h2 H2 e σ _ y h3 z2 (r.gr (g1.trans g2)) e3 fun y' ρ3 H3 g3 z3 r3=>?_
 have g:=(g1.trans g2).trans g3
 exact s3 ρ3 h3 H3 x y v x' y' v' u _ _ z3 (rel.gr g3 _ _ r2) r3 (rel.gr (g2.trans g3) _ _ r1) e4 fun ρ4 H4 g4 z4=>P σ ρ4 H4 (g.trans g4) z4 (r.gr (g.trans g4))⟩⟩
theorem Ki(hi:JI X pg k tg iter mI)(hg:JG X pg k tg g)(hb:xC X pg k body ms)(hp:PassesOwn (model X.prog X.w) X.A X.env X.xe)(hs: ∀ x,foldedSetIterable iter X.env x=pure x:=by intro _;rfl):JS X pg k (.For tg iter body [] pos) (jf mI g ms):=⟨fun A =>
 let ⟨_,q1,s1⟩:=hi.h A;let ⟨_,q2,s2⟩:=hg.h A;let ⟨_,q3,s3⟩:=hb.h A;⟨_,JD hp A.calm q1 q2 q3 hs,fun ρ h H e σ D f h' s r q P=>by
 obtain⟨it,h1,e1,q⟩:=bind_eq.mp q
 refine s1 ρ h H e σ _ it h1 s r e1 fun ρ1 H1 J g1 z1 w1=>?_
 let step:PV->ax->PH->RV Fl:=fun x e h=>(g x e h).bind fun e1 h1=>ms (run pg k) e1 h1
 refine⟨fun i m σ' H'=> ∃ ρ' h2 e',Gr ρ1 H1 ρ' H'/\cW X.K ρ' h2 H'/\dQ X.K ρ' H' e' σ'/\i<=it.items.length/\m=it.items.length - i/\cg it step (it.items.drop i) e' h2= .ok f h',⟨_, ρ1,h1,e,.refl _ _,z1,r.gr g1,Nat.zero_le _,rfl,q⟩,?_⟩
 rintro i m σ2 H2 ⟨ρ2,h2,e2,g2,z2,r2,hi,rfl,q2⟩
 cases hx:it.items[i]? with
 | none =>
  have hl:it.items.length<=i:=List.getElem?_eq_none_iff.mp hx
  rw[List.drop_eq_nil_of_le hl,cg] at q2
  split at q2
  · rename_i hf
    cases q2
    exact .inl ⟨(w1 i ρ2 _ H2 g2 z2 hf).2 (by omega),P σ2 ρ2 H2 (g1.trans g2) z2 r2⟩
  · exact nomatch q2
 | some x =>
  have hlt:i < it.items.length:=(List.getElem?_eq_some_iff.mp hx).1
  have hd:it.items.drop i=x::it.items.drop (i+1):=by
   rw[List.drop_eq_getElem_cons hlt,(List.getElem?_eq_some_iff.mp hx).2]
  rw[hd,cg] at q2
  split at q2
  · rename_i hf
    obtain⟨go,yl⟩:=(w1 i ρ2 _ H2 g2 z2 hf).1 x hx
    obtain⟨f3,h3,e3,q3⟩:=bind_eq.mp q2
    obtain⟨e4,h4,e5,q4⟩:=bind_eq.mp e3
    refine .inr ⟨go,fun σ' H'=> ∃ ρ' h2 e',Gr ρ1 H1 ρ' H'/\cW X.K ρ' h2 H'/\dQ X.K ρ' H' e' σ'/\cg it step (it.items.drop (i+1)) e' h2= .ok f h',?_,?_⟩
    · rintro σ' H' ⟨ρ',h2,e',a1,a2,a3,a4⟩
      exact⟨it.items.length - (i+1),by omega, ρ',h2,e',a1,a2,a3,hlt,rfl,a4⟩
    · intro v H3 hy
      obtain⟨ρ3,g3,z3,r3⟩:=yl v H3 hy
      refine s2 ρ3 h2 H3 e2 σ2 _ x v e4 h4 z3 (r2.gr g3) r3 e5 fun σ4 ρ4 H4 g4 z4 r4=>?_
      have gg:=(g2.trans g3).trans g4
      refine s3 ρ4 h4 H4 e4 σ4 _ f3 h3 z4 r4 q4 ?_
      cases f3 with
      | nx e6=>exact fun σ5 ρ5 H5 g5 z5 r5=>⟨ρ5,h3,e6,gg.trans g5,z5,r5,q3⟩
      | ct e6=>exact fun σ5 ρ5 H5 g5 z5 r5=>⟨ρ5,h3,e6,gg.trans g5,z5,r5,q3⟩
      | bk e6=>cases q3;exact fg.gr P (g1.trans gg)
      | rt v=>cases q3;exact dy.gr P (g1.trans gg)
  · exact nomatch q2⟩⟩
theorem Al(hc:JT X pg k c mt)(hb:xC X pg k body ms)(hp:PassesOwn (model X.prog X.w) X.A X.env X.xe):JS X pg k (.While c body [] pos) (qK mt ms):=⟨fun A =>
 let ⟨_,q1,s1⟩:=hc.h A;let ⟨_,q2,s2⟩:=hb.h A;⟨_,Bf hp q1 q2,fun ρ h H e σ D f h' s r q P=>by
 refine⟨fun m σ' H'=> ∃ ρ' h2 e',Gr ρ H ρ' H'/\cW X.K ρ' h2 H'/\dQ X.K ρ' H' e' σ'/\dh (mt (run pg k)) (ms (run pg k)) m e' h2= .ok f h',⟨100000, ρ,h,e,.refl _ _,s,r,q⟩,?_⟩
 rintro m σ1 H1 ⟨ρ1,h1,e1,g1,z1,r1,q1⟩
 cases m with
 | zero=>exact nomatch q1
 | succ m =>
  obtain⟨x,h2,e2,q1⟩:=bind_eq.mp q1
  refine s1 ρ1 h1 H1 e1 σ1 _ x h2 z1 r1 e2 fun ρ2 H2 g2 z2=>?_
  cases x with
  | false=>cases q1;exact P σ1 ρ2 H2 (g1.trans g2) z2 (r1.gr g2)
  | true =>
   obtain⟨f3,h3,e3,q3⟩:=bind_eq.mp q1
   refine⟨fun σ' H'=> ∃ ρ' h2 e',Gr ρ H ρ' H'/\cW X.K ρ' h2 H'/\dQ X.K ρ' H' e' σ'/\dh (mt (run pg k)) (ms (run pg k)) m e' h2= .ok f h',fun σ' H' w=>⟨m,Nat.lt_succ_self _,w⟩,?_⟩
   refine s2 ρ2 h2 H2 e1 σ1 _ f3 h3 z2 (r1.gr g2) e3 ?_
   have gg:=g1.trans g2
   cases f3 with
   | nx e6=>exact fun σ5 ρ5 H5 g5 z5 r5=>⟨ρ5,h3,e6,gg.trans g5,z5,r5,q3⟩
   | ct e6=>exact fun σ5 ρ5 H5 g5 z5 r5=>⟨ρ5,h3,e6,gg.trans g5,z5,r5,q3⟩
   | bk e6=>cases q3;exact fg.gr P gg
   | rt v=>cases q3;exact dy.gr P gg⟩⟩
theorem FD{cf:CF}{K:PySem.W.Frag}{wi:TI}{tg:TG}{tt:TT}{te:TE}{n:Nat}(s1:SI cf K wi mI)(s2:SG K tg g)(s3:ST cf K tt mt)(s4:SE cf K te ma):SE cf K (NH n wi tg tt te) (pb n mI g mt ma):=fun ρ h H e σ Q v h' s r q P=>by
 obtain⟨it,h1,e1,q⟩:=bind_eq.mp q
 obtain⟨ys,h2,e2,q⟩:=bind_eq.mp q
 cases q
 refine s1 ρ h H e σ _ it h1 s r e1 fun ρ1 H1 J g1 z1 w1=>?_
 refine⟨fun i m us H'=> ∃ ρ' h3 zs,Gr ρ1 H1 ρ' H'/\cW K ρ' h3 H'/\ar K ρ' H' zs us/\i<=it.items.length/\m=it.items.length - i/\je it (bD n g mt ma cf e) (it.items.drop i) zs h3= .ok ys h2,⟨_, ρ1,h1,[],.refl _ _,z1,aO.mpr rfl,Nat.zero_le _,rfl,e2⟩,?_⟩
 rintro i m us H2 ⟨ρ2,h3,zs,g2,z2,r2,hi,rfl,q2⟩
 cases hx:it.items[i]? with
 | none =>
  have hl:it.items.length<=i:=List.getElem?_eq_none_iff.mp hx
  rw[List.drop_eq_nil_of_le hl,je] at q2
  split at q2
  · rename_i hf
    cases q2
    exact .inl ⟨(w1 i ρ2 _ H2 g2 z2 hf).2 (by omega),fun p hp=>d8 z2 r2 (P.gr (g1.trans g2)) p hp⟩
  · exact nomatch q2
 | some x =>
  have hlt:i < it.items.length:=(List.getElem?_eq_some_iff.mp hx).1
  have hd:it.items.drop i=x::it.items.drop (i+1):=by
   rw[List.drop_eq_getElem_cons hlt,(List.getElem?_eq_some_iff.mp hx).2]
  rw[hd,je] at q2
  split at q2
  · rename_i hf
    obtain⟨go,yl⟩:=(w1 i ρ2 _ H2 g2 z2 hf.1).1 x hx
    obtain⟨o,h4,e3,q3⟩:=bind_eq.mp q2
    obtain⟨e4,h5,e5,q4⟩:=bind_eq.mp e3
    obtain⟨b,h6,e6,q5⟩:=bind_eq.mp q4
    refine .inr ⟨go,by rw[<- r2.len];exact hf.2,fun v H3 hy=>?_⟩
    obtain⟨ρ3,g3,z3,r3⟩:=yl v H3 hy
    refine s2 ρ3 h3 H3 _ _ _ x v e4 h5 z3 (((r.gr (g1.trans (g2.trans g3)))).more n) r3 e5 fun σ4 ρ4 H4 g4 z4 r4=>?_
    refine s3 ρ4 h5 H4 e4 σ4 _ b h6 z4 r4 e6 fun ρ5 H5 g5 z5=>?_
    have gg:=((g2.trans g3).trans g4).trans g5
    cases b with
    | false=>cases q5;exact⟨it.items.length - (i+1),by omega, ρ5,_,zs,gg,z5,ar.gr ((g3.trans g4).trans g5) _ _ r2,hlt,rfl,q3⟩
    | true =>
     obtain⟨y,h7,e7,q6⟩:=bind_eq.mp q5
     cases q6
     refine s4 ρ5 h6 H5 e4 σ4 _ y _ z5 (r4.gr g5) e7 fun y' ρ6 H6 g6 z6 r6=>?_
     exact⟨it.items.length - (i+1),by omega, ρ6,_,zs++[y],gg.trans g6,z6,(ar.gr (((g3.trans g4).trans g5).trans g6) _ _ r2).app (ar.one r6),hlt,rfl,q3⟩
  · exact nomatch q2
end
noncomputable def Pu(c:CF)(K:PySem.W.Frag)(m:ME):TE:=fun σ H Q=> ∃ ρ h e v h',cW K ρ h H/\dQ K ρ H e σ /\m c e h= .ok v h'/\dy K ρ H v h' Q
noncomputable def Px(c:CF)(K:PySem.W.Frag)(m:MT):TT:=fun σ H Q=> ∃ ρ h e b h',cW K ρ h H/\dQ K ρ H e σ /\m c e h= .ok b h'/\l0 K ρ H h' (Q b)
theorem Fq{c:CF}{K:PySem.W.Frag}{m:ME}:SE c K (Pu c K m) m:=fun ρ h H e σ Q v h' s r q P=>⟨ρ,h,e,v,h',s,r,q,P⟩
theorem Fx{c:CF}{K:PySem.W.Frag}{m:MT}:ST c K (Px c K m) m:=fun ρ h H e σ Q v h' s r q P=>⟨ρ,h,e,v,h',s,r,q,P⟩
theorem JE.Ma{X:Cx}{pg:Tb}{k:Nat}{e:Expr}{m:ME}(j:JE X pg k e m)(A:de X pg k):QE X e (Pu (run pg k) X.K m) :=
 let ⟨_,q,s⟩:=j.h A;⟨fun pins st σ H Q I ⟨ρ,h,e,v,h',a,b,c,d⟩=>q.h pins st σ H Q I (s ρ h H e σ Q v h' a b c d)⟩
theorem JF.Ma{X:Cx}{pg:Tb}{k:Nat}{e:List Expr}{m:MT}(j:JF X pg k e m)(A:de X pg k):QF X e (Px (run pg k) X.K m) :=
 let ⟨_,q,s⟩:=j.h A;⟨fun pins st σ H Q I ⟨ρ,h,e,v,h',a,b,c,d⟩=>q.h pins st σ H Q I (s ρ h H e σ Q v h' a b c d)⟩
structure GC(K:PySem.W.Frag)(n:Nat)(t:TG)(m:MG):Prop where
 sg:SG K t m
 gk:GK n t
 mono:vd t
structure NI(K:PySem.W.Frag)(n:Nat)(t:qp)(m:List PV->ax->PH->RV ax):Prop where
 sg: ∀ ρ h H e σ Q vs us e' h',cW K ρ h H->dQ K ρ H e σ ->ar K ρ H vs us->m vs e h= .ok e' h'->fg K ρ H e' h' Q->t us σ H Q
 gk:Ll n t
 mono: ∀ xs σ H Q Q',(∀ σ2 H2,Q σ2 H2->Q' σ2 H2)->t xs σ H Q->t xs σ H Q'
theorem EH{K:PySem.W.Frag}{n i:Nat}(h:n<=i):GC K n (fw i) (gN i):=⟨wa,E3 h,vz⟩
theorem wG{K:PySem.W.Frag}{n:Nat}:NI K n xN dS:=⟨fun ρ h H e σ Q vs us e' h' s r rv q P=>by
 cases vs with
 | nil=>cases q;rw[aO] at rv;exact⟨rv,P σ ρ H (.refl _ _) s r⟩
 | cons=>exact(nomatch q),GU,fun xs σ H Q Q' f q=>⟨q.1,f _ _ q.2⟩⟩
theorem jU{K:PySem.W.Frag}{n:Nat}{t:TG}{m:MG}{ts:qp}{ms:List PV->ax->PH->RV ax}(a:GC K n t m)(b:NI K n ts ms):NI K n (lQ t ts) (aL m ms):=⟨fun ρ h H e σ Q vs us e' h' s r rv q P=>by
 cases vs with
 | nil=>exact nomatch q
 | cons v t =>
  obtain⟨w,u,rfl,r1,r2⟩:=aC.mp rv
  obtain⟨e1,h1,e2,q⟩:=bind_eq.mp q
  refine⟨w,u,rfl,?_⟩
  exact a.sg ρ h H e σ _ v w e1 h1 s r r1 e2 fun σ1 ρ1 H1 g1 z1 y1=>b.sg ρ1 h1 H1 e1 σ1 Q t u e' h' z1 y1 (ar.gr g1 _ _ r2) q (P.gr g1),C5 a.gk a.mono b.gk,
 fun xs σ H Q Q' f ⟨v,r,e,q⟩=>⟨v,r,e,a.mono _ _ _ _ _ (fun σ2 H2 z=>b.mono _ _ _ _ _ f z) q⟩⟩
theorem Au{K:PySem.W.Frag}{n j:Nat}{ts:qp}{ms:List PV->ax->PH->RV ax}(b:NI K n ts ms):GC K n (uz K j ts) (gT j ms):=⟨fun ρ h H e σ Q v v' e' h' s r rv q P=>by
 unfold gT at q
 split at q
 · rename_i xs ex
   obtain⟨a,vs,rfl,z,rr⟩:=rel.seq ex rv
   split at q
   · rename_i hl
     exact⟨a,vs,rfl,z,by rw[<- rr.len];exact hl,b.sg ρ h H e σ Q xs vs e' h' s r rr q P⟩
   · exact nomatch q
 · exact(nomatch q),Ky b.gk,fun x σ H Q Q' f ⟨a,xs,e1,e2,e3,q⟩=>⟨a,xs,e1,e2,e3,b.mono _ _ _ _ _ f q⟩⟩
section
variable{X:Cx}{pg:Tb}{k:Nat}{e tg iter:Expr}{ma:ME}{mt:MT}{g:MG}{tG:TG}{mI:MI}{scope:Scope}{ifs:List Expr}{pos spos py:Pos}{y:Str}
theorem tL(vars:List Str)(hkind:scope.kind= .function)(hlc:hU scope.names X.env.scope.names X.N vars=true)(hi:JI X pg k tg iter mI)
  (hb: ∀ cl C s₀ H₀ ex pn,(de X pg k->QG (fG X vars scope cl C s₀ H₀ ex pn) tg tG)/\JF (fG X vars scope cl C s₀ H₀ ex pn) pg k ifs mt/\JE (fG X vars scope cl C s₀ H₀ ex pn) pg k e ma) (hG:GC X.K X.N.length tG g)
  (hs: ∀ x,foldedSetIterable iter X.env x=pure x:=by intro _;rfl):JE X pg k (.ListComp e [⟨tg,iter,ifs,0⟩] scope pos) (pb vars.length mI g mt ma):=⟨fun A =>
 let ⟨_,q1,s1⟩:=hi.h A
 ⟨_,AW vars A.calm A.pL hkind hlc q1 (fun cl C s₀ H₀ ex pn=>let ⟨h1,h2,h3⟩:=hb cl C s₀ H₀ ex pn;⟨h1 A,h2.Ma (A.fG ..),h3.Ma (A.fG ..)⟩) hG.gk hs,FD s1 hG.sg Fx Fq⟩⟩
theorem tN(vars:List Str)(i:Nat)(hkind:scope.kind= .function)(hlc:hU scope.names X.env.scope.names X.N vars=true)(hN:X.N.Nodup)(hiy:X.N[i]?=some y)(hy:Loc X.env.scope y)(hi:JI X pg k tg iter mI)
  (hb: ∀ cl C s₀ H₀ ex pn,(de X pg k->QG (fG X vars scope cl C s₀ H₀ ex pn) tg tG)/\JF (fG X vars scope cl C s₀ H₀ ex pn) pg k ifs mt/\JE (fG X vars scope cl C s₀ H₀ ex pn) pg k e ma) (hG:GC X.K X.N.length tG g)
  (hsw:swapsWith (.ListComp e [⟨tg,iter,ifs,0⟩] scope pos) (some (.Name y py)) spos.line X.env=pure true:=by rfl) (hs: ∀ x,foldedSetIterable iter X.env x=pure x:=by intro _;rfl)
  (hf:X.fn y=true\/X.env.scope.names.lookup y=some .local:=by first | exact .inl rfl | exact .inr rfl | assumption) :
  JS X pg k (.Assign [.Name y py] (.ListComp e [⟨tg,iter,ifs,0⟩] scope pos) spos) (aj (pb vars.length mI g mt ma) (gN i)):=⟨fun A =>
 let ⟨_,q1,s1⟩:=hi.h A
 ⟨_,Bi vars i A.calm A.pL hkind hlc hN hiy hy q1 (fun cl C s₀ H₀ ex pn=>let ⟨h1,h2,h3⟩:=hb cl C s₀ H₀ ex pn;⟨h1 A,h2.Ma (A.fG ..),h3.Ma (A.fG ..)⟩) hG.gk hsw hs hf,fun ρ h H e σ D f h' s r q P=>by
  obtain⟨v,h1,e1,q⟩:=bind_eq.mp q
  obtain⟨e2,h2,e3,q⟩:=bind_eq.mp q
  cases q
  cases e3
  exact FD s1 hG.sg Fx Fq ρ h H e σ _ v _ s r e1 fun v' ρ1 H1 g1 z1 r1=>P _ ρ1 H1 g1 z1 ((r.gr g1).set i r1)⟩⟩
end
end P3
end
section
open PySem PySem.W PyProof.Rows
namespace P3
open PySem PySem.Spec PyProof.Rows L2
section
variable{K:PySem.W.Frag}{ρ ρ':List Addr}{H H':Hp}{h h':PH}
mutual
theorem rel.flat: ∀(x:PV)(v:V),x.flat=true->rel K ρ' H' x v->rel K ρ H' x v
 | .non,v,_,h=>by simpa only[rel] using h
 | .bl _,v,_,h=>by simpa only[rel] using h
 | .int _,v,_,h=>by simpa only[rel] using h
 | .str _,v,_,h=>by simpa only[rel] using h
 | .ty _,v,_,h=>by simpa only[rel] using h
 | .ref n,v,f,h=>by simp[PV.flat] at f
 | .tup xs,v,f,h=>by
  rw[rel] at h ⊢
  rw[PV.flat] at f
  obtain⟨a,vs,e,s,r⟩:=h
  exact⟨a,vs,e,s,ar.flat xs vs f r⟩
 | .ktup xs,v,f,h=>by
  rw[rel] at h ⊢
  rw[PV.flat] at f
  obtain⟨a,vs,e,s,r⟩:=h
  exact⟨a,vs,e,s,ar.flat xs vs f r⟩
theorem ar.flat: ∀(xs:List PV)(vs:List V),PV.bF xs=true->ar K ρ' H' xs vs->ar K ρ H' xs vs
 | [],vs,_,h=>by simpa only[ar] using h
 | x::r,vs,f,h=>by
  rw[ar] at h ⊢
  rw[PV.bF,Bool.and_eq_true] at f
  obtain⟨v,t,e,h1,h2⟩:=h
  exact⟨v,t,e,rel.flat x v f.1 h1,ar.flat r t f.2 h2⟩
end
mutual
theorem rel.jg(g: ∀(n:Nat)(a:Addr), ρ[n]?=some a-> ρ'[n]?=some a): ∀(x:PV)(v:V),x.jg ρ.length=true->rel K ρ' H' x v->rel K ρ H' x v
 | .non,v,_,h=>by simpa only[rel] using h
 | .bl _,v,_,h=>by simpa only[rel] using h
 | .int _,v,_,h=>by simpa only[rel] using h
 | .str _,v,_,h=>by simpa only[rel] using h
 | .ty _,v,_,h=>by simpa only[rel] using h
 | .ref n,v,f,h=>by
  rw[rel] at h ⊢
  rw[PV.jg,decide_eq_true_eq] at f
  obtain⟨a,e,h⟩:=h
  have:=g n _ (List.getElem?_eq_getElem f)
  rw[e] at this
  exact⟨a,by rw[List.getElem?_eq_getElem f,<- Option.some.inj this],h⟩
 | .tup xs,v,f,h=>by
  rw[rel] at h ⊢
  rw[PV.jg] at f
  obtain⟨a,vs,e,s,r⟩:=h
  exact⟨a,vs,e,s,ar.jg g xs vs f r⟩
 | .ktup xs,v,f,h=>by
  rw[rel] at h ⊢
  rw[PV.jg] at f
  obtain⟨a,vs,e,s,r⟩:=h
  exact⟨a,vs,e,s,ar.jg g xs vs f r⟩
theorem ar.jg(g: ∀(n:Nat)(a:Addr), ρ[n]?=some a-> ρ'[n]?=some a): ∀(xs:List PV)(vs:List V),PV.jI ρ.length xs=true->ar K ρ' H' xs vs->ar K ρ H' xs vs
 | [],vs,_,h=>by simpa only[ar] using h
 | x::r,vs,f,h=>by
  rw[ar] at h ⊢
  rw[PV.jI,Bool.and_eq_true] at f
  obtain⟨v,t,e,h1,h2⟩:=h
  exact⟨v,t,e,rel.jg g x v f.1 h1,ar.jg g r t f.2 h2⟩
end
mutual
theorem rel.low: ∀(x:PV)(v:V),rel K ρ H x v->x.jg ρ.length=true
 | .non,v,_=>rfl
 | .bl _,v,_=>rfl
 | .int _,v,_=>rfl
 | .str _,v,_=>rfl
 | .ty _,v,_=>rfl
 | .ref n,v,h=>by
  rw[rel] at h
  obtain⟨a,e,h⟩:=h
  rw[PV.jg,decide_eq_true_eq]
  exact(List.getElem?_eq_some_iff.mp e).1
 | .tup xs,v,h=>by
  rw[rel] at h
  obtain⟨a,vs,e,s,r⟩:=h
  rw[PV.jg];exact ar.low xs vs r
 | .ktup xs,v,h=>by
  rw[rel] at h
  obtain⟨a,vs,e,s,r⟩:=h
  rw[PV.jg];exact ar.low xs vs r
theorem ar.low: ∀(xs:List PV)(vs:List V),ar K ρ H xs vs->PV.jI ρ.length xs=true
 | [],vs,_=>rfl
 | x::r,vs,h=>by
  rw[ar] at h
  obtain⟨v,t,e,h1,h2⟩:=h
  rw[PV.jI,rel.low x v h1,ar.low r t h2];rfl
end
theorem Paired.low: ∀{kvs:List (Key × PV)}{kws:List (Key × V)},Paired (fun (p:Key × PV) (q:Key × V)=>p.1=q.1/\rel K ρ H p.2 q.2) kvs kws->PV.jI ρ.length (kvs.map (·.2))=true
 | _,_,.nil=>rfl
 | _,_,.cons r t=>by rw[List.map_cons,PV.jI,rel.low _ _ r.2,Paired.low t];rfl
theorem k8.low{a:Addr}: ∀{o:PO},k8 K ρ H a o->o.jg ρ.length=true
 | .lst xs,⟨vs,_,r⟩=>ar.low _ _ r
 | .kM xs,⟨vs,_,r⟩=>ar.low _ _ r
 | .dct kvs,⟨kws,_,r⟩=>Paired.low r
theorem Paired.jg(g: ∀(n:Nat)(a:Addr), ρ[n]?=some a-> ρ'[n]?=some a): ∀{kvs:List (Key × PV)}{kws:List (Key × V)},PV.jI ρ.length (kvs.map (·.2))=true ->
  Paired (fun (p:Key × PV) (q:Key × V)=>p.1=q.1/\rel K ρ' H' p.2 q.2) kvs kws->Paired (fun (p:Key × PV) (q:Key × V)=>p.1=q.1/\rel K ρ H' p.2 q.2) kvs kws
 | _,_,_,.nil=> .nil
 | _,_,f,.cons r t=>by
  rw[List.map_cons,PV.jI,Bool.and_eq_true] at f
  exact .cons ⟨r.1,rel.jg g _ _ f.1 r.2⟩ (Paired.jg g f.2 t)
theorem k8.jg(g: ∀(n:Nat)(a:Addr), ρ[n]?=some a-> ρ'[n]?=some a){a:Addr}: ∀{o:PO},o.jg ρ.length=true->k8 K ρ' H' a o->k8 K ρ H' a o
 | .lst xs,f,⟨vs,e,r⟩=>⟨vs,e,ar.jg g _ _ f r⟩
 | .kM xs,f,⟨vs,e,r⟩=>⟨vs,e,ar.jg g _ _ f r⟩
 | .dct kvs,f,⟨kws,e,r⟩=>⟨kws,e,Paired.jg g f r⟩
theorem cW.drop(s:cW K ρ h H)(g:Gr ρ H ρ' H')(s':cW K ρ' h' H')(ok:cb h.length h h'=true):cW K ρ (h'.take h.length) H':=by
 have old: ∀{i:Nat}{o:PO},(h'.take h.length)[i]?=some o->i < h.length/\h'[i]?=some o:=fun {i o} e=>by
  have hi:i < h.length:=by
   have:=(List.getElem?_eq_some_iff.mp e).1
   rw[List.length_take] at this;omega
  rw[List.getElem?_take,if_pos hi] at e
  exact⟨hi,e⟩
 refine⟨by rw[List.length_take,s.len,Nat.min_eq_left (ou ok)],fun i j a oi oj ei ej mi mj ri rj=>?_,fun i o a e ea=>?_⟩
 · exact s'.nd i j a oi oj (old ei).2 (old ej).2 mi mj (g.pre _ _ ri) (g.pre _ _ rj)
 · have r:=s'.ob i o a (old e).2 (g.pre _ _ ea)
   obtain⟨o0,e0,_,z⟩:=pX ok e
   refine k8.jg g.pre ?_ r
   rcases z with z | z
   · subst z;exact(s.ob i o0 a e0 ea).low
   · rw[s.len];exact z
theorem fZ{v w:PV}{h2:PH}{Q:VK}(s:cW K ρ h H)(e:settle h v h'= .ok w h2)(P:dy K ρ H w h2 Q):dy K ρ H v h' Q:=by
 unfold settle at e
 split at e
 · rename_i ok
   rw[Bool.and_eq_true] at ok
   cases e
   exact fun v' ρ' H' g s' r=>P v' ρ H' ⟨fun _ _ z=>z,g.tup,g.jy⟩ (s.drop g s' ok.2) (rel.flat _ _ ok.1 r)
 · cases e;exact P
end
theorem gX{K:PySem.W.Frag}{ρ :List Addr}{H:Hp}: ∀{args:List PV}{vs:List V},ar K ρ H args vs-> ∀(n:Nat),dQ K ρ H (args.map some++List.replicate n none) (vs.map some++List.replicate n none)
 | args,vs,r,n=>by
  have:dQ K ρ H (args.map some) (vs.map some):=⟨by simp[r.len],fun i v e=>by
   rw[List.getElem?_map] at e
   cases q:args[i]? with
   | none=>rw[q] at e;exact nomatch e
   | some w =>
    rw[q] at e
    cases e
    obtain⟨v',e1,e2⟩:=r.get q
    exact⟨v',by rw[List.getElem?_map,e1];rfl,e2⟩⟩
  exact this.more n
structure iZ(P:Program)(w:World)(K:PySem.W.Frag)(mg:Str->Option Value)(base:Heap)(pg:Tb)(f:String)(d:Df):Prop where
 ex: ∃(st:Stmt)(N:List Str),At K mg (Str.ofString f) st/\au N d.ps (ai st)/\N.length=d.ps.length+d.nl /\
  (∀(kV doc pm:Value)(an:Option Addr)(cdv ct:Value)(us:List Value),us.length=d.ps.length->bindArgs (PySem.W.fnOf (Str.ofString f) (Str.ofString f) (cO st) (bx st) (ai st) .none kV doc pm an cdv ct) ⟨us,[]⟩=pure (d.ps.zip us)) /\
  ∀(fa:Addr)(cdv:Value)(A:Around)(outer:List Env)(s:Shared)(H:Hp)(E:XK)(k:Nat),xC (jG si P w K mg base N (Str.ofString f) (ai st) fa cdv A outer s H E).pL pg k (bx st) d.body
structure Top(P:Program)(w:World)(K:PySem.W.Frag)(mg:Str->Option Value)(pg:Tb):Prop where
 blt: ∀ x∈iI,mg x=none
 con: ∀ x v,pg.con x=some v-> ∃ u v',mg x=some u/\RelV v' u/\ ∀ ρ H,rel K ρ H v v'
 yB: ∀ x kvs,pg.yB x=some kvs-> ∃ a kws,mg x=some (.ref a)/\KD P w K a kws/\ ∀ ρ H,Paired (fun (p:Key × PV) (q:Key × V)=>p.1=q.1/\rel K ρ H p.2 q.2) kvs kws
section
variable{P:Program}{w:World}{K:PySem.W.Frag}{mg:Str->Option Value}{base:Heap}{pg:Tb}
theorem Bh(T : Top P w K mg pg)(G : ∀ f d, pg.fns f = some d -> iZ P w K mg base pg f d) : ∀ k f d, pg.fns f = some d -> hX P w K mg base (Str.ofString f) k d.ps (uA K pg k f) := by
  intro k
  induction k with
  | zero =>
    intro f d hf
    obtain⟨st, N, a, S, hl, hb, body⟩ := (G f d hf).ex
    exact At.yn a hb fun vs H Q E ⟨ρ, h, args, v, h', _, _, q, _⟩ => nomatch q
  | succ k ih =>
    intro f d hf
    obtain⟨st, N, a, S, hl, hb, body⟩ := (G f d hf).ex
    have run_eq : ∀{args : List PV}{h h' : PH}{v : PV}, run pg (k + 1) f args h = .ok v h' -> args.length = d.ps.length /\
        ((∃ w h2, d.body (run pg k) (args.map some ++ List.replicate d.nl none) h = .ok (.rt w) h2 /\ settle h w h2 = .ok v h') \/
         (∃ e h2, d.body (run pg k) (args.map some ++ List.replicate d.nl none) h = .ok (.nx e) h2 /\ settle h .non h2 = .ok v h')) := fun {args h h' v} q => by
      rw[run, hf] at q
      simp only at q
      split at q
      · rename_i hn
        refine⟨hn, ?_⟩
        split at q
        · rename_i w h2 e; exact .inl ⟨w, h2, e, q⟩
        · rename_i e' h2 e; exact .inr ⟨e', h2, e, q⟩
        · exact nomatch q
        · exact nomatch q
        · exact nomatch q
      · exact nomatch q
    refine At.N2 a S hb (fun vs H Q E ⟨ρ, h, args, v, h', _, r, q, _⟩ => by rw[<- r.len]; exact(run_eq q).1) ?_
    rintro fa cdv A outer s H vs Q E hr ⟨ρ, h, args, v, h', sm, r, q, post⟩
    have amb : de (jG si P w K mg base N (Str.ofString f) (ai st) fa cdv A outer s H E).pL pg k := ⟨hr, rfl, fun _ _ z => z, ih, T.blt, T.con, T.yB⟩
    obtain⟨t, qt, st'⟩ := (body fa cdv A outer s H E k).h amb
    refine⟨t, qt, ?_⟩
    obtain⟨hn, q⟩ := run_eq q
    have he : L2.start N vs = vs.map some ++ List.replicate d.nl none := by
      unfold L2.start
      rw[hl, <- r.len, hn, Nat.add_sub_cancel_left]
    rw[he]
    rcases q with⟨w, h2, e, q⟩ | ⟨e', h2, e, q⟩
    · exact st' ρ h H _ _ _ _ h2 sm (gX r _) e (fZ sm q post)
    · exact st' ρ h H _ _ _ _ h2 sm (gX r _) e fun σ' ρ' H' g s' _ => fZ sm q post .non ρ' H' g s' (by rw[rel])
end
end P3
end
section
open PySem PySem.W PyProof.Rows
namespace P3
open PySem PySem.Spec PyProof.Rows L2
noncomputable def p2(f:Int->Int->RV PV):PV->PV->PH->RV PV:=fun x y h=>match x,y with
 | .int i,.int j=>(f i j).bind fun v _=> .ok v h
 | _,_=> .no
noncomputable def B4(v:PV):RV PV:= .ok v []
section
variable{K:PySem.W.Frag}{X:Cx}{pg:Tb}{k:Nat}
theorem Hl{C:Int->Int->Prop}{g:Int->Int->V}{f:Int->Int->RV PV}(hf: ∀ i j v h,f i j= .ok v h->C i j/\ ∀ ρ H,rel K ρ H v (g i j)):lS K (rI C g) (p2 f):=fun ρ h H x y x' y' Q v h' s rx ry q P=>by
 unfold p2 at q
 split at q
 · rename_i i j
   rw[rel] at rx ry
   obtain⟨w,h0,e,q⟩:=bind_eq.mp q
   cases q
   obtain⟨hc,hr⟩:=hf i j v h0 e
   exact⟨i,j,rx,ry,hc,P _ ρ H (.refl _ _) s (hr ρ H)⟩
 · exact nomatch q
theorem t8{g:Int->Int->V}{f:Int->Int->RV PV}(hf: ∀ i j v h,f i j= .ok v h-> ∀ ρ H,rel K ρ H v (g i j)):lS K (B2 g) (p2 f):=fun ρ h H x y x' y' Q v h' s rx ry q P=>by
 unfold p2 at q
 split at q
 · rename_i i j
   rw[rel] at rx ry
   obtain⟨w,h0,e,q⟩:=bind_eq.mp q
   cases q
   exact⟨i,j,rx,ry,P _ ρ H (.refl _ _) s (hf i j v h0 e ρ H)⟩
 · exact nomatch q
noncomputable def sL:PV->PV->PH->RV PV:=p2 fun i j=>B4 (.int (i - j))
noncomputable def eL:PV->PV->PH->RV PV:=p2 fun i j=>if 0 < j then B4 (.int (i % j)) else .no
noncomputable def nL:PV->PV->PH->RV PV:=p2 fun i j=>if 0 < j/\j < 1073741824 then B4 (.int (i / j)) else .no
noncomputable def Ep:PV->PV->PH->RV PV:=p2 fun i j=>if 0<=j/\j<=1000000/\i.natAbs < 2 ^ 64 then B4 (.int (i ^ j.toNat)) else .no
noncomputable def EF:PV->PV->PH->RV PV:=p2 fun i j=>B4 (.bl (decide (i < j)))
noncomputable def NN:PV->PV->PH->RV PV:=p2 fun i j=>B4 (.bl (decide (i<=j)))
noncomputable def ur:PV->PV->PH->RV PV:=p2 fun i j=>B4 (.bl (decide (j < i)))
noncomputable def OT:PV->PV->PH->RV PV:=p2 fun i j=>B4 (.bl (decide (j<=i)))
noncomputable def GA:PV->PH->RV PV:=fun x h=>match x with
 | .int i=> .ok (.int (-i)) h
 | _=> .no
theorem Nb:de X pg k-> ∃ r,cX X (binaryOp .Sub) r/\lS X.K r sL:=fun _=>⟨_,IU,t8 fun i j v h e ρ H=>by cases e;rw[rel]⟩
theorem L6:de X pg k-> ∃ r,cX X (binaryOp .Mod) r/\lS X.K r eL:=fun _=>⟨_,F9,Hl fun i j v h e=>by
 split at e
 · cases e;exact⟨by assumption,fun ρ H=>by rw[rel]⟩
 · exact nomatch e⟩
theorem Gj:de X pg k-> ∃ r,cX X (binaryOp .FloorDiv) r/\lS X.K r nL:=fun _=>⟨_,CZ,Hl fun i j v h e=>by
 split at e
 · cases e;exact⟨by assumption,fun ρ H=>by rw[rel]⟩
 · exact nomatch e⟩
theorem Mq:de X pg k-> ∃ r,cX X (binaryOp .Pow) r/\lS X.K r Ep:=fun _=>⟨_,Ik,Hl fun i j v h e=>by
 split at e
 · cases e;exact⟨by assumption,fun ρ H=>by rw[rel]⟩
 · exact nomatch e⟩
theorem OO:de X pg k-> ∃ r,cX X (compareOp .Lt) r/\lS X.K r EF:=fun _=>⟨_,Lk,t8 fun i j v h e ρ H=>by cases e;rw[rel]⟩
theorem OI:de X pg k-> ∃ r,cX X (compareOp .LtE) r/\lS X.K r NN:=fun _=>⟨_,MN,t8 fun i j v h e ρ H=>by cases e;rw[rel]⟩
theorem Oo:de X pg k-> ∃ r,cX X (compareOp .Gt) r/\lS X.K r ur:=fun _=>⟨_,LG,t8 fun i j v h e ρ H=>by cases e;rw[rel]⟩
theorem Oe:de X pg k-> ∃ r,cX X (compareOp .GtE) r/\lS X.K r OT:=fun _=>⟨_,Mv,t8 fun i j v h e ρ H=>by cases e;rw[rel]⟩
theorem Ni:de X pg k-> ∃ r,KW X (unaryOp .USub) r/\ ∀ ρ h H x x' Q v h',cW X.K ρ h H->rel X.K ρ H x x'->GA x h= .ok v h'->dy X.K ρ H v h' Q->r x' H Q:=fun _=>⟨_,Kg,fun ρ h H x x' Q v h' s rx q P=>by
 cases x with
 | int i =>
  rw[rel] at rx
  cases q
  exact⟨_,rx,P _ ρ H (.refl _ _) s (by rw[rel])⟩
 | _=>exact nomatch q⟩
noncomputable def CD(xs:List PV)(h:PH):RV PV:=kF xs.length (.ok (.ref h.length) (h++[.lst xs]))
noncomputable def aE:PV->PV->PH->RV PV:=fun x y h=>match x,y with
 | .int i,.int j=> .ok (.int (i+j)) h
 | .str a,.str b=>kF (a.length+b.length) (.ok (.str (a++b)) h)
 | .tup xs,.tup ys=>kF (xs.length+ys.length) (.ok (.tup (xs++ys)) h)
 | .ref n,.ref m=>(match h[n]?,h[m]? with
  | some (.lst xs),some (.lst ys)=>CD (xs++ys) h
  | _,_=> .no)
 | _,_=> .no
theorem cW.lst{ρ :List Addr}{h:PH}{H:Hp}(s:cW K ρ h H){n:Nat}{xs:List PV}(e:h[n]?=some (.lst xs)){v:V}(r:rel K ρ H (.ref n) v): ∃ a vs,v= .ref a/\ ρ[n]?=some a/\H a=some (.lst vs)/\ar K ρ H xs vs:=by
 rw[rel] at r
 obtain⟨a,ea,rfl⟩:=r
 obtain⟨vs,e1,e2⟩:=s.ob n _ a e ea
 exact⟨a,vs,rfl,ea,e1,e2⟩
theorem cW.kM{ρ :List Addr}{h:PH}{H:Hp}(s:cW K ρ h H){n:Nat}{xs:List PV}(e:h[n]?=some (.kM xs)){v:V}(r:rel K ρ H (.ref n) v): ∃ a vs,v= .ref a/\ ρ[n]?=some a/\gA K H a vs/\ar K ρ H xs vs:=by
 rw[rel] at r
 obtain⟨a,ea,rfl⟩:=r
 obtain⟨vs,e1,e2⟩:=s.ob n _ a e ea
 exact⟨a,vs,rfl,ea,e1.sq,e2⟩
noncomputable def dJ(h:PH)(n:Nat):Option (List PV):=match h[n]? with
 | some (.lst xs)=>some xs
 | some (.kM xs)=>some xs
 | _=>none
theorem cW.sq{ρ :List Addr}{h:PH}{H:Hp}(s:cW K ρ h H){n:Nat}{xs:List PV}(e:dJ h n=some xs){v:V}(r:rel K ρ H (.ref n) v): ∃ a vs,v= .ref a/\ ρ[n]?=some a/\gA K H a vs/\ar K ρ H xs vs:=by
 unfold dJ at e
 split at e
 · cases e
   obtain⟨a,vs,e1,e2,e3,e4⟩:=s.lst (by assumption) r
   exact⟨a,vs,e1,e2,.of e3,e4⟩
 · cases e;exact s.kM (by assumption) r
 · exact nomatch e
theorem mQ{ρ :List Addr}{h:PH}{H:Hp}{xs:List PV}{us:List V}{Q:VK}(s:cW K ρ h H)(r:ar K ρ H xs us)(P:dy K ρ H (.tup xs) h Q)(p:Addr)(hp:H p=none):Q (.ref p) (upd H p (.tup us)):=by
 refine P _ ρ _ (Gr.uU hp) (s.tup hp) ?_
 rw[rel]
 exact⟨p,us,rfl,a8,ar.gr (Gr.uU hp) _ _ r⟩
theorem M7:de X pg k-> ∃ r,cX X (binaryOp .Add) r/\lS X.K r aE:=fun _=>⟨_,Ha,fun ρ h H x y x' y' Q v h' s rx ry q P=>by
 unfold aE at q
 split at q
 · cases q
   rw[rel] at rx ry
   exact .inl ⟨_,_,rx,ry,P _ ρ H (.refl _ _) s (by rw[rel])⟩
 · obtain⟨hl,q⟩:=jw.mp q
   cases q
   rw[rel] at rx ry
   exact .inr (.inr (.inr (.inr ⟨_,_,rx,ry,hl,P _ ρ H (.refl _ _) s (by rw[rel])⟩)))
 · rename_i xs ys
   obtain⟨hl,q⟩:=jw.mp q
   cases q
   have ry':=ry
   rw[rel] at rx ry
   obtain⟨a,us,e1,e2,e3⟩:=rx
   obtain⟨b,ws,d1,d2,d3⟩:=ry
   cases xs with
   | nil =>
    rw[aO] at e3;subst e3
    exact .inr (.inr (.inr (.inl ⟨a,b,ws,e1,d1,.of e2,.of d2,d1 ▸ P y' ρ H (.refl _ _) s ry'⟩)))
   | cons x r =>
    refine .inr (.inr (.inl ⟨a,b,us,ws,e1,d1,.of e2,.of d2,?_,by rw[<- e3.len,<- d3.len];exact hl,?_⟩))
    · rintro rfl;have:=e3.len;simp at this
    · refine⟨fun z=>?_,fun _ p hp=>mQ s (e3.app d3) P p hp⟩
      subst z
      have:ys=[]:=List.eq_nil_of_length_eq_zero d3.len
      subst this
      rw[List.append_nil] at P
      exact P _ ρ H (.refl _ _) s (by rw[rel];exact⟨a,us,rfl,e2,e3⟩)
 · split at q
   · rename_i h1 h2
     unfold CD at q
     obtain⟨hl,q⟩:=jw.mp q
     cases q
     obtain⟨a,us,rfl,_,e1,e2⟩:=s.lst h1 rx
     obtain⟨b,ws,rfl,_,d1,d2⟩:=s.lst h2 ry
     refine .inr (.inl ⟨a,b,us,ws,rfl,rfl,e1,d1,?_,fun p hp=>d8 s (e2.app d2) P p hp⟩)
     rw[<- e2.len,<- d2.len];simpa using hl
   · exact nomatch q
 · exact nomatch q⟩
noncomputable def aW(kvs:List (Key × PV))(k:Key):Option PV:=(kvs.find? fun kv=>decide (kv.1=k)).map (·.2)
noncomputable def c8(kvs:List (Key × PV))(k:Key)(v:PV):List (Key × PV) :=
 if (kvs.any fun kv=>decide (kv.1=k))=true then kvs.map (fun kv=>if kv.1=k then(kv.1,v) else kv) else kvs++[(k,v)]
noncomputable def gZ:PV->Option Key
 | .int i=>some (.inl i)
 | .str x=>some (.inr x)
 | _=>none
theorem fC{ρ :List Addr}{H:Hp}{x:PV}{k:Key}{v:V}(e:gZ x=some k)(r:rel K ρ H x v):v=kV k:=by
 cases x<;>simp only[gZ,reduceCtorEq,Option.some.injEq] at e<;>(subst e;rw[rel] at r;exact r)
abbrev RK(K:PySem.W.Frag)(ρ :List Addr)(H:Hp)(kvs:List (Key × PV))(kws:List (Key × V)):Prop:=Paired (fun (p:Key × PV) (q:Key × V)=>p.1=q.1/\rel K ρ H p.2 q.2) kvs kws
theorem RK.val{ρ :List Addr}{H:Hp}: ∀{kvs:List (Key × PV)}{kws:List (Key × V)}(k:Key),RK K ρ H kvs kws->match aW kvs k,gq kws k with
  | some x,some v=>rel K ρ H x v
  | none,none=>True
  | _,_=>False
 | _,_,k,.nil=>trivial
 | _,_,k,.cons (a:=p) (b:=q) r t=>by
  have ih:=RK.val k t
  unfold aW gq at ih ⊢
  rw[List.find?_cons,List.find?_cons,<- r.1]
  by_cases e:p.1=k
  · simp only[e,decide_true,Option.map_some];exact r.2
  · simp only[e,decide_false];exact ih
theorem RK.some{ρ :List Addr}{H:Hp}{kvs:List (Key × PV)}{kws:List (Key × V)}{k:Key}{x:PV}(r:RK K ρ H kvs kws)(e:aW kvs k=some x): ∃ v,gq kws k=some v/\rel K ρ H x v:=by
 have:=RK.val k r
 rw[e] at this
 cases q:gq kws k with
 | none=>rw[q] at this;exact False.elim this
 | some v=>rw[q] at this;exact⟨v,rfl,this⟩
theorem RK.is{ρ :List Addr}{H:Hp}{kvs:List (Key × PV)}{kws:List (Key × V)}(k:Key)(r:RK K ρ H kvs kws):(gq kws k).isSome=(aW kvs k).isSome:=by
 have:=RK.val k r
 cases p:aW kvs k<;>cases q:gq kws k<;>rw[p,q] at this<;>first | rfl | exact False.elim this
theorem RK.len{ρ :List Addr}{H:Hp}{kvs:List (Key × PV)}{kws:List (Key × V)}(r:RK K ρ H kvs kws):kvs.length=kws.length:=Paired.length r
theorem RK.any{ρ :List Addr}{H:Hp}: ∀{kvs:List (Key × PV)}{kws:List (Key × V)}(k:Key),RK K ρ H kvs kws->(kws.any fun kv=>decide (kv.1=k))=kvs.any fun kv=>decide (kv.1=k)
 | _,_,k,.nil=>rfl
 | _,_,k,.cons (a:=p) (b:=q) r t=>by rw[List.any_cons,List.any_cons,RK.any k t,r.1]
theorem RK.zd{ρ :List Addr}{H:Hp}{k:Key}{x:PV}{v:V}(h:rel K ρ H x v): ∀{kvs:List (Key × PV)}{kws:List (Key × V)},RK K ρ H kvs kws->RK K ρ H (kvs.map fun kv=>if kv.1=k then(kv.1,x) else kv) (kws.map fun kv=>if kv.1=k then(kv.1,v) else kv)
 | _,_,.nil=> .nil
 | _,_,.cons (a:=p) (b:=q) a t=> .cons (by
   show(if p.1=k then(p.1,x) else p).1=(if q.1=k then(q.1,v) else q).1/\rel K ρ H (if p.1=k then(p.1,x) else p).2 (if q.1=k then(q.1,v) else q).2
   rw[<- a.1];split
   · exact⟨rfl,h⟩
   · exact a) (RK.zd h t)
theorem RK.snoc{ρ :List Addr}{H:Hp}{k:Key}{x:PV}{v:V}(h:rel K ρ H x v): ∀{kvs:List (Key × PV)}{kws:List (Key × V)},RK K ρ H kvs kws->RK K ρ H (kvs++[(k,x)]) (kws++[(k,v)])
 | _,_,.nil=> .cons ⟨rfl,h⟩ .nil
 | _,_,.cons a t=> .cons a (RK.snoc h t)
theorem RK.put{ρ :List Addr}{H:Hp}{kvs:List (Key × PV)}{kws:List (Key × V)}{k:Key}{x:PV}{v:V}(r:RK K ρ H kvs kws)(h:rel K ρ H x v):RK K ρ H (c8 kvs k x) (putK kws k v):=by
 unfold c8 putK
 rw[RK.any k r]
 split
 · exact RK.zd h r
 · exact RK.snoc h r
noncomputable def aq:PV->PV->PH->RV PV:=fun x y h=>match x with
 | .tup xs=>(match y with
  | .int i=>(match eF xs i with | some v=> .ok v h | none=> .no)
  | _=> .no)
 | .ktup xs=>(match y with
  | .int i=>(match eF xs i with | some v=> .ok v h | none=> .no)
  | _=> .no)
 | .str z=>(match y with
  | .int i=>kF z.length (match eF z.cps.toList i with | some c=> .ok (.str ⟨#[c]⟩) h | none=> .no)
  | _=> .no)
 | .ref n=>(match h[n]? with
  | some (.dct kvs)=>(match gZ y with
   | some k=>(match aW kvs k with | some v=> .ok v h | none=> .no)
   | none=> .no)
  | some (.lst xs)=>(match y with
   | .int i=>(match eF xs i with | some v=> .ok v h | none=> .no)
   | _=> .no)
  | some (.kM xs)=>(match y with
   | .int i=>(match eF xs i with | some v=> .ok v h | none=> .no)
   | _=> .no)
  | none=> .no)
 | _=> .no
theorem ar.at{ρ :List Addr}{H:Hp}{xs:List PV}{vs:List V}{i:Int}{x:PV}(r:ar K ρ H xs vs)(e:eF xs i=some x): ∃ v,eF vs i=some v/\rel K ρ H x v:=by
 unfold eF at e ⊢
 rw[<- r.len]
 cases q:rQ xs.length i with
 | none=>rw[q] at e;exact nomatch e
 | some j =>
  rw[q] at e
  exact r.get e
noncomputable def P0:R2:=fun x y H Q=> ∃ a v,x= .ref a/\i8 H a y (some v)/\Q v H
theorem xn(hu : X.A.units + 1 < cLine) : xv X P0 := by
  intro value slice pins s σ H x y v u Q I rx ry h hs
  obtain⟨a, w, rfl, g, q⟩ := h
  obtain rfl : v = Value.ref a := rx
  have hT : s.TypeIs (.ref a) "dict" := sQ I g
  unfold subscriptTail
  refine wpAny_bind ?_
  rw[getitemInPython_of_ne hT.not_modules]
  refine wpAny_bind (wpAny_specialOf hT PySem.F.slot_dict_getitem.lookup ?_)
  have fin : wpAny (model X.prog X.w) X.A (subscripted slice false (.ref a) u) (fun r s₃ => wpAny (model X.prog X.w) X.A (letTemporaryGo value (.ref a) r >>= fun _ => pure r) (EP X pins σ Q) X.xe s₃) X.xe s := by
    rw[hs]
    exact wpAny_operating (xp hu I g ry fun w' s' I' r' => wpAny_bind (wpAny_letTemporaryGo (wpAny_pure ⟨w, H, I', r', q⟩)))
  first
    | exact wpAny_pure (wpAny_bind fin)
    | exact wpAny_bind (wpAny_pure (wpAny_bind fin))
    | exact wpAny_bind fin
theorem de.hu{X:Cx}{pg:Tb}{k:Nat}(A:de X pg k):X.A.units+1 < cLine:=MF A.room
theorem N7:de X pg k-> ∃ r,xv X r/\lS X.K r aq:=fun A=>⟨_,Ks.or (xn A.hu),fun ρ h H x y x' y' Q v h' s rx ry q P=>by
 cases x with
 | tup xs =>
  cases y with
  | int i =>
   simp only[aq] at q
   split at q
   · rename_i w e
     cases q
     obtain⟨a,vs,rfl,z,r⟩:=rel.seq (x:= .tup xs) rfl rx
     obtain⟨u,e1,e2⟩:=r.at e
     rw[rel] at ry
     exact .inl (.inr (.inl ⟨a,vs,i,u,rfl,ry,z,e1,P _ ρ H (.refl _ _) s e2⟩))
   · exact nomatch q
  | _=>exact nomatch q
 | ktup xs =>
  cases y with
  | int i =>
   simp only[aq] at q
   split at q
   · rename_i w e
     cases q
     obtain⟨a,vs,rfl,z,r⟩:=rel.seq (x:= .ktup xs) rfl rx
     obtain⟨u,e1,e2⟩:=r.at e
     rw[rel] at ry
     exact .inl (.inr (.inl ⟨a,vs,i,u,rfl,ry,z,e1,P _ ρ H (.refl _ _) s e2⟩))
   · exact nomatch q
  | _=>exact nomatch q
 | str z =>
  cases y with
  | int i =>
   simp only[aq] at q
   obtain⟨hl,q⟩:=jw.mp q
   split at q
   · rename_i c e
     cases q
     rw[rel] at ry;rw[rel] at rx
     exact .inl (.inr (.inr ⟨z,i,c,rx,ry,hl,e,P _ ρ H (.refl _ _) s (by rw[rel])⟩))
   · exact nomatch q
  | _=>exact nomatch q
 | ref n =>
  simp only[aq] at q
  split at q
  · rename_i kvs e
    split at q
    · rename_i key ek
      split at q
      · rename_i w ew
        cases q
        rw[rel] at rx
        obtain⟨a,ea,rfl⟩:=rx
        obtain⟨kws,e1,e2⟩:=s.ob n _ a e ea
        obtain⟨u,e3,e4⟩:=RK.some e2 ew
        have:=fC ek ry
        subst this
        exact .inr ⟨a,u,rfl,e3 ▸ i8.k (k:=key) e1,P _ ρ H (.refl _ _) s e4⟩
      · exact nomatch q
    · exact nomatch q
  · rename_i xs e
    cases y with
    | int i =>
     simp only at q
     split at q
     · rename_i w ew
       cases q
       obtain⟨a,vs,rfl,_,z,r⟩:=s.lst e rx
       obtain⟨u,e1,e2⟩:=r.at ew
       rw[rel] at ry
       exact .inl (.inl ⟨a,vs,i,u,rfl,ry,.of z,e1,P _ ρ H (.refl _ _) s e2⟩)
     · exact nomatch q
    | _=>exact nomatch q
  · rename_i xs e
    cases y with
    | int i =>
     simp only at q
     split at q
     · rename_i w ew
       cases q
       obtain⟨a,vs,rfl,_,z,r⟩:=s.kM e rx
       obtain⟨u,e1,e2⟩:=r.at ew
       rw[rel] at ry
       exact .inl (.inl ⟨a,vs,i,u,rfl,ry,z,e1,P _ ρ H (.refl _ _) s e2⟩)
     · exact nomatch q
    | _=>exact nomatch q
  · exact nomatch q
 | _=>exact nomatch q⟩
theorem MY{f:PV->PV->PH->RV PV}{a b:Expr}{ma mb:ME}{pos:Pos}(hr:de X pg k-> ∃ r,xv X r/\lS X.K r f)(ha:JE X pg k a ma)(hb:JE X pg k b mb)(hs:q9 b):JE X pg k (.Subscript a b pos) (ag f ma mb):=⟨fun A =>
 let ⟨_,q1,s1⟩:=ha.h A;let ⟨_,q2,s2⟩:=hb.h A;let ⟨_,q,s⟩:=hr A;⟨_,LI q q1 q2 hs,wI s s1 s2⟩⟩
noncomputable def hE:PV->PV->PV->PH->RV Unit:=fun x y v h=>match x with
 | .ref n=>(match h[n]? with
  | some (.dct kvs)=>(match gZ y with
   | some k=>if kvs.length < sizeLine then .ok () (h.set n (.dct (c8 kvs k v))) else .no
   | none=> .no)
  | some (.lst xs)=>(match y with
   | .int i=>(match rQ xs.length i with | some j=> .ok () (h.set n (.lst (xs.set j v))) | none=> .no)
   | _=> .no)
  | _=> .no)
 | _=> .no
noncomputable def L5:zN:=fun o i v H Q=> ∃ a H',o= .ref a/\vE H a i v H'/\Q H'
theorem set_dict(hu:X.A.units+1 < cLine):pJ X L5:=by
 intro pins s σ H o i v ov iv u Q I ro ri rv h
 obtain⟨a,H',rfl,g,q⟩:=h
 obtain rfl:ov=Value.ref a:=ro
 exact xl hu I g ri rv fun s' I'=>⟨H',I',q⟩
theorem pJ.or{t t':zN}(h:pJ X t)(h':pJ X t'):pJ X (fun o i v H Q=>t o i v H Q\/t' o i v H Q):=by
 intro pins s σ H o i v ov iv u Q I ro ri rv q
 rcases q with q | q
 · exact h pins s σ H o i v ov iv u Q I ro ri rv q
 · exact h' pins s σ H o i v ov iv u Q I ro ri rv q
theorem MM:de X pg k-> ∃ t,pJ X t/\ ∀ ρ h H x y v x' y' v' u h' Q,cW X.K ρ h H->rel X.K ρ H x x'->rel X.K ρ H y y'->rel X.K ρ H v v'->hE x y v h= .ok u h'->l0 X.K ρ H h' Q->t x' y' v' H Q:=fun A =>
 ⟨_,pJ.or set_list (set_dict A.hu),fun ρ h H x y v x' y' v' u h' Q s rx ry rv q P=>by
 cases x with
 | ref n =>
  simp only[hE] at q
  rw[rel] at rx
  obtain⟨a,ea,rfl⟩:=rx
  split at q
  · rename_i kvs e
    split at q
    · rename_i key ek
      split at q
      · rename_i hl
        cases q
        obtain⟨kws,e1,e2⟩:=s.ob n _ a e ea
        have:=fC ek ry
        subst this
        refine .inr ⟨a,_,rfl,vE.k e1 (by rw[<- RK.len e2];exact hl),?_⟩
        have g:Gr ρ H ρ (upd H a (.dK (putK kws key v'))):=Gr.write (.inr ⟨_,e1⟩)
        exact P ρ _ g (s.write e ea rfl rfl ⟨_,a8,Paired.eX g (RK.put e2 rv)⟩)
      · exact nomatch q
    · exact nomatch q
  · rename_i xs e
    cases y with
    | int i =>
     simp only at q
     split at q
     · rename_i j ej
       cases q
       obtain⟨vs,e1,e2⟩:=s.ob n _ a e ea
       rw[rel] at ry
       have g:Gr ρ H ρ (upd H a (.lst (vs.set j v'))):=Gr.write (.inl ⟨_,e1⟩)
       exact .inl ⟨a,vs,i,j,rfl,ry,e1,by rw[<- e2.len];exact ej,P ρ _ g (s.write e ea rfl rfl ⟨_,a8,ar.gr g _ _ (e2.set j rv)⟩)⟩
     · exact nomatch q
    | _=>exact nomatch q
  · exact nomatch q
 | _=>exact nomatch q⟩
end
end P3
end
section
open PySem PySem.W PyProof.Rows
namespace P3
open PySem PySem.Spec PyProof.Rows L2
mutual
def bW(K:PySem.W.Frag)(H:Hp):PyData->V->Prop
 | .none,v=>v= .non
 | .bool b,v=>v= .bl b
 | .int i,v=>v= .int i
 | .str x,v=>v= .str x
 | .list xs,v=> ∃ a vs,v= .ref a/\gA K H a vs/\fc K H xs vs
 | .tuple xs,v=> ∃ a vs,v= .ref a/\eY K H a vs/\fc K H xs vs
 | .dict _,_=>False
def fc(K:PySem.W.Frag)(H:Hp):List PyData->List V->Prop
 | [],vs=>vs=[]
 | x::r,vs=> ∃ v t,vs=v::t/\bW K H x v/\fc K H r t
end
mutual
theorem bW.reads{X:Cx}{pins:List (Addr × Obj)}{σ :L2.St}{H:Hp}{s:Shared}(I:Inv X pins σ H s): ∀(d:PyData)(v:V)(u:Value),bW X.K H d v->RelV v u-> ∃ as,Reads s.heap u d as
 | .none,v,u,h,r=>by rw[bW] at h;subst h;cases(show u=Value.none from r);exact⟨_,.none⟩
 | .bool b,v,u,h,r=>by rw[bW] at h;subst h;cases(show u=Value.bool b from r);exact⟨_,.bool b⟩
 | .int i,v,u,h,r=>by rw[bW] at h;subst h;obtain⟨t,rfl⟩:=(show ∃ t,u=Value.int i t from r);exact⟨_,.int i t⟩
 | .str x,v,u,h,r=>by rw[bW] at h;subst h;obtain⟨t,rfl⟩:=(show ∃ t,u=Value.str x t from r);exact⟨_,.str x t⟩
 | .list xs,v,u,h,r=>by
  rw[bW] at h
  obtain⟨a,vs,rfl,z,q⟩:=h
  cases(show u=Value.ref a from r)
  obtain⟨ay,rv,⟨o,n,e,c,_,dd⟩,_⟩:=I.list z
  obtain⟨as,ra⟩:=fc.reads I xs vs ay q rv
  exact⟨_,.list e c dd (by simpa using ra)⟩
 | .tuple xs,v,u,h,r=>by
  rw[bW] at h
  obtain⟨a,vs,rfl,z,q⟩:=h
  cases(show u=Value.ref a from r)
  obtain⟨ay,rv,⟨o,e,c,n,dd⟩,_⟩:=I.tuple z
  obtain⟨as,ra⟩:=fc.reads I xs vs ay q rv
  exact⟨_,.tuple e c dd (by simpa using ra)⟩
 | .dict _,v,u,h,r=>by rw[bW] at h;exact h.elim
theorem fc.reads{X:Cx}{pins:List (Addr × Obj)}{σ :L2.St}{H:Hp}{s:Shared}(I:Inv X pins σ H s): ∀(xs:List PyData)(vs:List V)(us:List Value),fc X.K H xs vs->Vals vs us-> ∃ as,ReadsAll s.heap us xs as
 | [],vs,us,h,r=>by rw[fc] at h;subst h;cases r;exact⟨_,.nil⟩
 | x::t,vs,us,h,r=>by
  rw[fc] at h
  obtain⟨v,w,rfl,h1,h2⟩:=h
  cases r with
  | cons r1 r2 =>
   obtain⟨as,a⟩:=bW.reads I x v _ h1 r1
   obtain⟨bs,b⟩:=fc.reads I t w _ h2 r2
   exact⟨_,.cons a b⟩
end
mutual
def j2(sub:Nat->Option PyData):PV->Option PyData
 | .non=>some .none
 | .bl b=>some (.bool b)
 | .int i=>some (.int i)
 | .str x=>some (.str x)
 | .tup xs=>(cG sub xs).map .tuple
 | .ktup xs=>(cG sub xs).map .tuple
 | .ref n=>sub n
 | .ty _=>none
def cG(sub:Nat->Option PyData):List PV->Option (List PyData)
 | []=>some []
 | x::r=>match j2 sub x,cG sub r with
  | some d1,some ds1=>some (d1::ds1)
  | _,_=>none
end
noncomputable def dat:Nat->PH->PV->Option PyData
 | 0,_=>j2 fun _=>none
 | n+1,h=>j2 fun m=>match h[m]? with
  | some (.lst xs)=>(cG (fun j=>dat n h (.ref j)) xs).map .list
  | some (.kM xs)=>(cG (fun j=>dat n h (.ref j)) xs).map .list
  | _=>none
mutual
theorem j2.v{K:PySem.W.Frag}{ρ :List Addr}{H:Hp}{sub:Nat->Option PyData}(hs: ∀ n d v,sub n=some d->rel K ρ H (.ref n) v->bW K H d v): ∀(x:PV)(d:PyData)(v:V),j2 sub x=some d->rel K ρ H x v->bW K H d v
 | .non,d,v,e,r=>by cases e;rw[rel] at r;rw[bW];exact r
 | .bl b,d,v,e,r=>by cases e;rw[rel] at r;rw[bW];exact r
 | .int b,d,v,e,r=>by cases e;rw[rel] at r;rw[bW];exact r
 | .str b,d,v,e,r=>by cases e;rw[rel] at r;rw[bW];exact r
 | .ty b,d,v,e,r=>by exact nomatch e
 | .ref n,d,v,e,r=>hs n d v e r
 | .tup xs,d,v,e,r=>by
  rw[j2] at e
  cases q:cG sub xs with
  | none=>rw[q] at e;exact nomatch e
  | some ds =>
   rw[q] at e;cases e
   obtain⟨a,vs,e1,e2,e3⟩:=rel.seq (x:= .tup xs) rfl r
   rw[bW];exact⟨a,vs,e1,e2,cG.v hs xs ds vs q e3⟩
 | .ktup xs,d,v,e,r=>by
  rw[j2] at e
  cases q:cG sub xs with
  | none=>rw[q] at e;exact nomatch e
  | some ds =>
   rw[q] at e;cases e
   obtain⟨a,vs,e1,e2,e3⟩:=rel.seq (x:= .ktup xs) rfl r
   rw[bW];exact⟨a,vs,e1,e2,cG.v hs xs ds vs q e3⟩
theorem cG.v{K:PySem.W.Frag}{ρ :List Addr}{H:Hp}{sub:Nat->Option PyData}(hs: ∀ n d v,sub n=some d->rel K ρ H (.ref n) v->bW K H d v): ∀(xs:List PV)(ds:List PyData)(vs:List V),cG sub xs=some ds->ar K ρ H xs vs->fc K H ds vs
 | [],ds,vs,e,r=>by cases e;rw[ar] at r;rw[fc];exact r
 | x::t,ds,vs,e,r=>by
  rw[cG] at e
  split at e
  · rename_i d ds' e1 e2
    cases e
    obtain⟨v,w,rfl,r1,r2⟩:=aC.mp r
    rw[fc];exact⟨v,w,rfl,j2.v hs x d v e1 r1,cG.v hs t ds' w e2 r2⟩
  · exact nomatch e
end
theorem dat.v{K:PySem.W.Frag}{ρ :List Addr}{h:PH}{H:Hp}(s:cW K ρ h H): ∀(n:Nat)(x:PV)(d:PyData)(v:V),dat n h x=some d->rel K ρ H x v->bW K H d v
 | 0,x,d,v,e,r=>j2.v (fun _ _ _ z _=>by cases z) x d v e r
 | n+1,x,d,v,e,r=>by
  refine j2.v (fun m d' v' z rv=>?_) x d v e r
  split at z
  · rename_i xs em
    cases q:cG (fun j=>dat n h (.ref j)) xs with
    | none=>rw[q] at z;exact nomatch z
    | some ds =>
     rw[q] at z;cases z
     obtain⟨a,vs,e1,_,e2,e3⟩:=s.lst em rv
     rw[bW];exact⟨a,vs,e1,.of e2,cG.v (fun j d v z rv=>dat.v s n (.ref j) d v z rv) xs ds vs q e3⟩
  · rename_i xs em
    cases q:cG (fun j=>dat n h (.ref j)) xs with
    | none=>rw[q] at z;exact nomatch z
    | some ds =>
     rw[q] at z;cases z
     obtain⟨a,vs,e1,_,e2,e3⟩:=s.kM em rv
     rw[bW];exact⟨a,vs,e1,e2,cG.v (fun j d v z rv=>dat.v s n (.ref j) d v z rv) xs ds vs q e3⟩
  · exact nomatch z
section
variable{K:PySem.W.Frag}{X:Cx}{pg:Tb}{k:Nat}
noncomputable def LR(K:PySem.W.Frag)(f:Bool->Bool):R2:=fun x y H Q=> ∃ d d',bW K H d x/\bW K H d' y/\d.canLay0=true/\d'.canLay0=true/\min d.depth d'.depth<=64/\Q (.bl (f (PyData.eqv d d'))) H
theorem Ia(hr:X.A.units+64 < cLine):cX X (compareOp .Eq) (LR X.K id):=by
 intro pins s σ H x y v u Q I rx ry ⟨d,d',h1,h2,c1,c2,hd,q⟩
 obtain⟨as,ra⟩:=bW.reads I d x v h1 rx
 obtain⟨bs,rb⟩:=bW.reads I d' y u h2 ry
 exact SeqAt.compareEq_reads ra rb c1 c2 (by omega) ⟨.bl _,H,I,rfl,q⟩
theorem Jf(hr:X.A.units+64 < cLine):cX X (compareOp .NotEq) (LR X.K not):=by
 intro pins s σ H x y v u Q I rx ry ⟨d,d',h1,h2,c1,c2,hd,q⟩
 obtain⟨as,ra⟩:=bW.reads I d x v h1 rx
 obtain⟨bs,rb⟩:=bW.reads I d' y u h2 ry
 exact SeqAt.compareNe_reads ra rb c1 c2 (by omega) ⟨.bl _,H,I,rfl,q⟩
noncomputable def jN:PV->PV->Bool
 | .non,.non=>true | .non,.int _=>true | .int _,.non=>true | .non,.bl _=>true | .bl _,.non=>true | .non,.str _=>true | .str _,.non=>true
 | .int _,.int _=>true | .bl _,.bl _=>true | .str _,.str _=>true
 | .int _,.str _=>true | .str _,.int _=>true | .bl _,.str _=>true | .str _,.bl _=>true
 | _,_=>false
noncomputable def gp(h:PH):PV->Bool
 | .ref n=>(match h[n]? with
  | some (.dct _)=>true
  | _=>false)
 | _=>false
noncomputable def isStr:PV->Bool
 | .str _=>true
 | _=>false
noncomputable def alike(x y:PV)(h:PH):Option Bool :=
 if jN x y=true then some (decide (x=y)) else match dat 6 h x,dat 6 h y with
  | some a,some b=>if a.canLay0=true/\b.canLay0=true/\min a.depth b.depth<=64 then some (PyData.eqv a b) else none
  | _,_=>if gp h x=true/\isStr y=true then some false else none
noncomputable def cm(x y:PV)(h:PH):RV PV:=match alike x y h with
 | some b=> .ok (.bl b) h
 | none=> .no
noncomputable def gS(x y:PV)(h:PH):RV PV:=match alike x y h with
 | some b=>if gp h x=true then .no else .ok (.bl (!b)) h
 | none=> .no
theorem y7{ρ : List Addr}{H : Hp}{x y : PV}{x' y' : V}(h : jN x y = true)(rx : rel K ρ H x x')(ry : rel K ρ H y y') : AV x' y' = true /\ decide (x' = y') = decide (x = y) := by
  cases x <;> cases y <;> first
    | (exfalso; revert h; simp[jN]; done)
    | (rw[rel] at rx; rw[rel] at ry; subst rx; subst ry; simp[AV])
theorem nP{ρ :List Addr}{h:PH}{H:Hp}{x y:PV}{x' y':V}{b:Bool}(s:cW K ρ h H)(rx:rel K ρ H x x')(ry:rel K ρ H y y')(e:alike x y h=some b) :
  (AV x' y'=true/\b=decide (x'=y'))\/(∃ d d',bW K H d x'/\bW K H d' y'/\d.canLay0=true/\d'.canLay0=true/\min d.depth d'.depth<=64/\b=PyData.eqv d d') \/
  (gp h x=true/\b=false/\ ∃ p z,x'= .ref p/\y'= .str z/\ ∃ kvs,H p=some (.dK kvs)):=by
 unfold alike at e
 split at e
 · rename_i hs
   cases e
   obtain⟨z,w⟩:=y7 hs rx ry
   exact .inl ⟨z,w.symm⟩
 · split at e
   · rename_i a c e1 e2
     split at e
     · rename_i hc
       cases e
       exact .inr (.inl ⟨a,c,dat.v s 6 x a x' e1 rx,dat.v s 6 y c y' e2 ry,hc.1,hc.2.1,hc.2.2,rfl⟩)
     · exact nomatch e
   · split at e
     · rename_i hc
       cases e
       refine .inr (.inr ⟨hc.1,rfl,?_⟩)
       obtain⟨c1,c2⟩:=hc
       cases x with
       | ref n =>
        cases y with
        | str z =>
         rw[rel] at ry
         rw[rel] at rx
         obtain⟨a,ea,rfl⟩:=rx
         simp only[gp] at c1
         split at c1
         · rename_i kvs en
           obtain⟨kws,e1,_⟩:=s.ob n _ a en ea
           exact⟨a,z,rfl,ry,kws,e1⟩
         · exact nomatch c1
        | _=>exact nomatch c2
       | _=>exact nomatch c1
     · exact nomatch e
theorem OQ:de X pg k-> ∃ r,cX X (compareOp .Eq) r/\lS X.K r cm:=fun A=>⟨_,Ms.or ((Ia A.room.units).or (E5 A.room.HY)),fun ρ h H x y x' y' Q v h' s rx ry q P=>by
 unfold cm at q
 split at q
 · rename_i b e
   cases q
   have fin:Q (.bl b) H:=P _ ρ H (.refl _ _) s (by rw[rel])
   rcases nP s rx ry e with⟨z,rfl⟩ | ⟨d,d',h1,h2,h3,h4,h5,rfl⟩ | ⟨_,rfl,p,z,e1,e2,kvs,e3⟩
   · exact .inl ⟨z,fin⟩
   · exact .inr (.inl ⟨d,d',h1,h2,h3,h4,h5,fin⟩)
   · exact .inr (.inr ⟨p,z,e1,e2,.inr (.inr ⟨kvs,e3⟩),fin⟩)
 · exact nomatch q⟩
theorem Oh:de X pg k-> ∃ r,cX X (compareOp .NotEq) r/\lS X.K r gS:=fun A=>⟨_,Lv.or (Jf A.room.units),fun ρ h H x y x' y' Q v h' s rx ry q P=>by
 unfold gS at q
 split at q
 · rename_i b e
   split at q
   · exact nomatch q
   · rename_i hd
     cases q
     have fin:Q (.bl (!b)) H:=P _ ρ H (.refl _ _) s (by rw[rel])
     rcases nP s rx ry e with⟨z,rfl⟩ | ⟨d,d',h1,h2,h3,h4,h5,rfl⟩ | ⟨z,_⟩
     · exact .inl ⟨z,fin⟩
     · exact .inr ⟨d,d',h1,h2,h3,h4,h5,fin⟩
     · exact absurd z hd
 · exact nomatch q⟩
noncomputable def M5(K:PySem.W.Frag)(f:Bool->Bool):R2:=fun x y H Q=> ∃ p vs xs d,y= .ref p/\(gA K H p vs\/eY K H p vs)/\fc K H xs vs/\bW K H d x/\PyData.canLayAll0 xs=true/\d.canLay0=true/\min (PyData.depthAll xs) d.depth<=60/\Q (.bl (f (xs.any fun z=>PyData.eqv z d))) H
theorem Hr(hr:X.A.units+64 < cLine):cX X (compareOp .In) (M5 X.K id):=by
 intro pins s σ H x y v u Q I rx ry ⟨p,vs,xs,d,e,hq,h1,h2,c1,c2,hd,q⟩
 subst e
 obtain⟨bs,rb⟩:=bW.reads I d x v h2 rx
 rcases hq with hq | hq
 · obtain⟨as,ra⟩:=bW.reads I (.list xs) (.ref p) u (by rw[bW];exact⟨p,vs,rfl,hq,h1⟩) ry
   exact SeqAt.in_list_reads ra rb c1 c2 (by omega) ⟨.bl _,H,I,rfl,q⟩
 · obtain⟨as,ra⟩:=bW.reads I (.tuple xs) (.ref p) u (by rw[bW];exact⟨p,vs,rfl,hq,h1⟩) ry
   exact SeqAt.in_tuple_reads ra rb c1 c2 (by omega) ⟨.bl _,H,I,rfl,q⟩
theorem yq(hr:X.A.units+64 < cLine):cX X (compareOp .NotIn) (M5 X.K not):=by
 intro pins s σ H x y v u Q I rx ry ⟨p,vs,xs,d,e,hq,h1,h2,c1,c2,hd,q⟩
 subst e
 obtain⟨bs,rb⟩:=bW.reads I d x v h2 rx
 rcases hq with hq | hq
 · obtain⟨as,ra⟩:=bW.reads I (.list xs) (.ref p) u (by rw[bW];exact⟨p,vs,rfl,hq,h1⟩) ry
   exact SeqAt.notIn_list_reads ra rb c1 c2 (by omega) ⟨.bl _,H,I,rfl,q⟩
 · obtain⟨as,ra⟩:=bW.reads I (.tuple xs) (.ref p) u (by rw[bW];exact⟨p,vs,rfl,hq,h1⟩) ry
   exact SeqAt.notIn_tuple_reads ra rb c1 c2 (by omega) ⟨.bl _,H,I,rfl,q⟩
noncomputable def Mw(f:Bool->Bool):R2:=fun x y H Q=> ∃ a o,y= .ref a/\i8 H a x o/\Q (.bl (f o.isSome)) H
theorem Jw(hu:X.A.units+1 < cLine):cX X (compareOp .In) (Mw id):=by
 intro pins s σ H x y v u Q I rx ry ⟨a,o,e,g,q⟩
 subst e
 obtain rfl:u=Value.ref a:=ry
 exact N3 hu I g rx fun s' I'=>⟨.bl _,H,I',rfl,q⟩
theorem xE(hu:X.A.units+1 < cLine):cX X (compareOp .NotIn) (Mw not):=by
 intro pins s σ H x y v u Q I rx ry ⟨a,o,e,g,q⟩
 subst e
 obtain rfl:u=Value.ref a:=ry
 exact CJ hu I g rx fun s' I'=>⟨.bl _,H,I',rfl,q⟩
noncomputable def itemsOf(h:PH):PV->Option (List PV)
 | .tup xs=>some xs
 | .ktup xs=>some xs
 | .ref n=>dJ h n
 | _=>none
theorem cW.items{ρ :List Addr}{h:PH}{H:Hp}(s:cW K ρ h H){x:PV}{xs:List PV}{v:V}(e:itemsOf h x=some xs)(r:rel K ρ H x v): ∃ a vs,v= .ref a/\(gA K H a vs\/eY K H a vs)/\ar K ρ H xs vs:=by
 cases x with
 | tup ys=>cases e;obtain⟨a,vs,e1,e2,e3⟩:=rel.seq (x:= .tup xs) rfl r;exact⟨a,vs,e1,.inr e2,e3⟩
 | ktup ys=>cases e;obtain⟨a,vs,e1,e2,e3⟩:=rel.seq (x:= .ktup xs) rfl r;exact⟨a,vs,e1,.inr e2,e3⟩
 | ref n=>obtain⟨a,vs,e1,_,e2,e3⟩:=s.sq e r;exact⟨a,vs,e1,.inl e2,e3⟩
 | _=>exact nomatch e
noncomputable def fK:PV->Bool
 | .non=>true
 | .bl _=>true
 | .int _=>true
 | .str _=>true
 | _=>false
noncomputable def KR:PV->PV->Bool
 | .non,.non=>true
 | .bl a,.bl b=>a == b
 | .bl a,.int b=>(if a then 1 else 0) == b
 | .int a,.bl b=>a == (if b then 1 else 0)
 | .int a,.int b=>a == b
 | .str a,.str b=>a == b
 | _,_=>false
theorem sT{ρ :List Addr}{H:Hp}{x:PV}{v:V}(h:fK x=true)(r:rel K ρ H x v):g9 v=true:=by
 cases x<;>first | (exfalso;revert h;simp[fK];done) | (rw[rel] at r;subst r;rfl)
theorem CH{ρ : List Addr}{H : Hp}{x y : PV}{v w : V}(hx : fK x = true)(hy : fK y = true)(rx : rel K ρ H x v)(ry : rel K ρ H y w) : Dc v w = KR x y := by
  cases x <;> first
    | (exfalso; revert hx; simp[fK]; done)
    | (cases y <;> first
        | (exfalso; revert hy; simp[fK]; done)
        | (rw[rel] at rx; rw[rel] at ry; subst rx; subst ry; rfl))
theorem FE{ρ :List Addr}{H:Hp}{x:PV}{v:V}(hx:fK x=true)(rx:rel K ρ H x v): ∀{xs:List PV}{vs:List V},xs.all fK=true->ar K ρ H xs vs->vs.all g9=true/\LW v vs=xs.any fun z=>KR z x
 | [],vs,_,r=>by rw[aO] at r;subst r;exact⟨rfl,rfl⟩
 | y::t,vs,h,r=>by
  obtain⟨w,u,rfl,r1,r2⟩:=aC.mp r
  simp only[Bool.and_eq_true,List.all_cons] at h
  obtain⟨a,b⟩:=FE hx rx h.2 r2
  refine⟨by rw[List.all_cons,sT h.1 r1,a];rfl,?_⟩
  unfold LW at b ⊢
  rw[List.any_cons,List.any_cons,b,CH h.1 hx r1 rx]
noncomputable def isIn(x y:PV)(h:PH):Option Bool:=match itemsOf h y with
 | some xs=>if (fK x&&xs.all fK)=true then some (xs.any fun z=>KR z x) else(match dat 6 h x,cG (fun j=>dat 6 h (.ref j)) xs with
  | some d,some ds=>if PyData.canLayAll0 ds=true/\d.canLay0=true/\min (PyData.depthAll ds) d.depth<=60 then some (ds.any fun z=>PyData.eqv z d) else none
  | _,_=>none)
 | none=>(match y with
  | .ref n=>(match h[n]? with
   | some (.dct kvs)=>(gZ x).map fun k=>(aW kvs k).isSome
   | _=>none)
  | .str j=>(match x with
   | .str i=>some (!(Builtin.Str.occurrences j i 0 j.length 1).isEmpty)
   | _=>none)
  | _=>none)
noncomputable def kG(x y:PV)(h:PH):RV PV:=match isIn x y h with
 | some b=> .ok (.bl b) h
 | none=> .no
noncomputable def iH(x y:PV)(h:PH):RV PV:=match isIn x y h with
 | some b=> .ok (.bl (!b)) h
 | none=> .no
theorem qi{ρ :List Addr}{h:PH}{H:Hp}{x y:PV}{x' y':V}{b:Bool}(s:cW K ρ h H)(rx:rel K ρ H x x')(ry:rel K ρ H y y')(e:isIn x y h=some b) :
  (∃ p xs,y'= .ref p/\(gA K H p xs\/eY K H p xs)/\g9 x'=true/\xs.all g9=true/\b=LW x' xs) \/
  (∃ p vs xs d,y'= .ref p/\(gA K H p vs\/eY K H p vs)/\fc K H xs vs/\bW K H d x'/\PyData.canLayAll0 xs=true/\d.canLay0=true/\min (PyData.depthAll xs) d.depth<=60/\b=xs.any fun z=>PyData.eqv z d) \/
  (∃ a o,y'= .ref a/\i8 H a x' o/\b=o.isSome) \/
  (∃ i j,x'= .str i/\y'= .str j/\b= !(Builtin.Str.occurrences j i 0 j.length 1).isEmpty):=by
 unfold isIn at e
 split at e
 · rename_i xs ei
   obtain⟨a,vs,rfl,z,r⟩:=s.items ei ry
   split at e
   · rename_i hf
     cases e
     rw[Bool.and_eq_true] at hf
     obtain⟨f1,f2⟩:=FE hf.1 rx hf.2 r
     exact .inl ⟨a,vs,rfl,z,sT hf.1 rx,f1,f2.symm⟩
   · split at e
     · rename_i d ds e1 e2
       split at e
       · rename_i hc
         cases e
         exact .inr (.inl ⟨a,vs,ds,d,rfl,z,cG.v (fun j d v w rv=>dat.v s 6 (.ref j) d v w rv) xs ds vs e2 r,dat.v s 6 x d x' e1 rx,hc.1,hc.2.1,hc.2.2,rfl⟩)
       · exact nomatch e
     · exact nomatch e
 · split at e
   · rename_i n ei
     split at e
     · rename_i kvs en
       cases q:gZ x with
       | none=>rw[q] at e;exact nomatch e
       | some key =>
        rw[q] at e
        cases e
        rw[rel] at ry
        obtain⟨a,ea,rfl⟩:=ry
        obtain⟨kws,e1,e2⟩:=s.ob n _ a en ea
        have:=fC q rx
        subst this
        exact .inr (.inr (.inl ⟨a,_,rfl,i8.k (k:=key) e1,(RK.is key e2).symm⟩))
     · exact nomatch e
   · split at e
     · cases e
       rw[rel] at rx
       rw[rel] at ry
       exact .inr (.inr (.inr ⟨_,_,rx,ry,rfl⟩))
     · exact nomatch e
   · exact nomatch e
theorem Oy:de X pg k-> ∃ r,cX X (compareOp .In) r/\lS X.K r kG:=fun A=>⟨_,xr.or ((Hr A.room.units).or ((Jw A.hu).or xM)),fun ρ h H x y x' y' Q v h' s rx ry q P=>by
 unfold kG at q
 split at q
 · rename_i b e
   cases q
   have fin:Q (.bl b) H:=P _ ρ H (.refl _ _) s (by rw[rel])
   rcases qi s rx ry e with⟨p,xs,e1,e2,e3,e4,rfl⟩ | ⟨p,vs,xs,d,e1,e2,e3,e4,e5,e6,e7,rfl⟩ | ⟨a,o,e1,e2,rfl⟩ | ⟨i,j,e1,e2,rfl⟩
   · exact .inl ⟨p,xs,e1,e2,e3,e4,fin⟩
   · exact .inr (.inl ⟨p,vs,xs,d,e1,e2,e3,e4,e5,e6,e7,fin⟩)
   · exact .inr (.inr (.inl ⟨a,o,e1,e2,fin⟩))
   · exact .inr (.inr (.inr ⟨i,j,e1,e2,fin⟩))
 · exact nomatch q⟩
theorem DJ:de X pg k-> ∃ r,cX X (compareOp .NotIn) r/\lS X.K r iH:=fun A=>⟨_,qQ.or ((yq A.room.units).or ((xE A.hu).or rR)),fun ρ h H x y x' y' Q v h' s rx ry q P=>by
 unfold iH at q
 split at q
 · rename_i b e
   cases q
   have fin:Q (.bl (!b)) H:=P _ ρ H (.refl _ _) s (by rw[rel])
   rcases qi s rx ry e with⟨p,xs,e1,e2,e3,e4,rfl⟩ | ⟨p,vs,xs,d,e1,e2,e3,e4,e5,e6,e7,rfl⟩ | ⟨a,o,e1,e2,rfl⟩ | ⟨i,j,e1,e2,rfl⟩
   · exact .inl ⟨p,xs,e1,e2,e3,e4,fin⟩
   · exact .inr (.inl ⟨p,vs,xs,d,e1,e2,e3,e4,e5,e6,e7,fin⟩)
   · exact .inr (.inr (.inl ⟨a,o,e1,e2,fin⟩))
   · exact .inr (.inr (.inr ⟨i,j,e1,e2,fin⟩))
 · exact nomatch q⟩
noncomputable def dR(neg:Bool)(x:PV)(h:PH):RV PV:= .ok (.bl (if neg then !decide (x= .non) else decide (x= .non))) h
theorem Dl{ρ :List Addr}{H:Hp}{x:PV}{v:V}(r:rel K ρ H x v):decide (v= .non)=decide (x= .non):=by
 cases x with
 | non=>rw[rel] at r;subst r;rfl
 | bl=>rw[rel] at r;subst r;rfl
 | int=>rw[rel] at r;subst r;rfl
 | str=>rw[rel] at r;subst r;rfl
 | ty=>rw[rel] at r;subst r;rfl
 | tup=>rw[rel] at r;obtain⟨a,_,rfl,_⟩:=r;rfl
 | ktup=>rw[rel] at r;obtain⟨a,_,rfl,_⟩:=r;rfl
 | ref=>rw[rel] at r;obtain⟨a,_,rfl⟩:=r;rfl
variable{a:Expr}{ma:ME}{pos pos':Pos}
theorem uJ{c:CF}{ta:TE}(neg:Bool)(s1:SE c K ta ma):SE c K (fun σ H Q=>ta σ H fun x H1=>Q (.bl (if neg then !decide (x= .non) else decide (x= .non))) H1) (oO (dR neg) ma):=fun ρ h H e σ Q v h' s r q P=>by
 obtain⟨x,h1,e1,q⟩:=bind_eq.mp q
 cases q
 refine s1 ρ h H e σ _ x _ s r e1 fun x' ρ1 H1 g1 z1 r1=>?_
 rw[Dl r1]
 exact P _ ρ1 H1 g1 z1 (by rw[rel])
theorem IB{j:Nat}(ha:JE X pg k a ma):JE X pg k (.Compare a [.Is] [.Constant .none j pos'] pos) (oO (dR false) ma):=⟨fun A=>let ⟨_,q1,s1⟩:=ha.h A;⟨_,Jl q1,uJ false s1⟩⟩
theorem Ig{j:Nat}(ha:JE X pg k a ma):JT X pg k (.Compare a [.Is] [.Constant .none j pos'] pos) (ao (oO (dR false) ma)):=⟨fun A=>let ⟨_,q1,s1⟩:=ha.h A;⟨_,GW q1,qF (uJ false s1)⟩⟩
theorem DX{j:Nat}(ha:JE X pg k a ma):JT X pg k (.Compare a [.IsNot] [.Constant .none j pos'] pos) (ao (oO (dR true) ma)):=⟨fun A=>let ⟨_,q1,s1⟩:=ha.h A;⟨_,EB q1,qF (uJ true s1)⟩⟩
end
end P3
end
section
open PySem PySem.W PyProof.Rows
namespace P3
open PySem PySem.Spec PyProof.Rows L2
section
variable{K:PySem.W.Frag}{X:Cx}{pg:Tb}{k:Nat}
abbrev MO:=CF->ax->PH->RV (Option Int)
noncomputable def cH:MO:=fun _ _ h=> .ok none h
noncomputable def cJ(a:ME):MO:=fun c e h=>(a c e h).bind fun v h1=>match v with
 | .int i=> .ok (some i) h1
 | _=> .no
noncomputable def dY(xs:List PV)(lo hi:Option Int):List PV:=(xs.drop (HT.dc xs.length 0 lo)).take (HT.dc xs.length xs.length hi - HT.dc xs.length 0 lo)
noncomputable def Fs(x:PV)(lo hi:Option Int)(h:PH):RV PV:=match x with
 | .tup xs=> .ok (.tup (dY xs lo hi)) h
 | .ref n=>(match dJ h n with
  | some xs=> .ok (.ref h.length) (h++[.lst (dY xs lo hi)])
  | none=> .no)
 | _=> .no
noncomputable def mE(a:ME)(l u:MO):ME:=fun c e h=>(a c e h).bind fun x h1=>(l c e h1).bind fun lo h2=>(u c e h2).bind fun hi h3=>Fs x lo hi h3
structure JO(X:Cx)(pg:Tb)(k:Nat)(e:Option Expr)(m:MO):Prop where
 h:de X pg k-> ∃ t,QO X e t/\ ∀ ρ h H e σ Q o h',cW X.K ρ h H->dQ X.K ρ H e σ ->m (run pg k) e h= .ok o h'->l0 X.K ρ H h' (Q o)->t σ H Q
theorem Fb:JO X pg k none cH:=⟨fun A=>⟨_,El,fun ρ h H e σ Q o h' s r q P=>by cases q;exact P ρ H (.refl _ _) s⟩⟩
theorem DO{e:Expr}{ma:ME}(ha:JE X pg k e ma):JO X pg k (some e) (cJ ma):=⟨fun A=>let ⟨_,q1,s1⟩:=ha.h A;⟨_,Dr q1,fun ρ h H e σ Q o h' s r q P=>by
 obtain⟨v,h1,e1,q⟩:=bind_eq.mp q
 refine s1 ρ h H e σ _ v h1 s r e1 fun v' ρ1 H1 g1 z1 r1=>?_
 cases v with
 | int i=>cases q;rw[rel] at r1;exact⟨i,r1,P ρ1 H1 g1 z1⟩
 | _=>exact nomatch q⟩⟩
theorem ar.cut{ρ :List Addr}{H:Hp}{xs:List PV}{vs:List V}(r:ar K ρ H xs vs)(lo hi:Option Int):ar K ρ H (dY xs lo hi) (mB vs lo hi):=by
 unfold dY mB
 rw[<- r.len]
 exact(r.drop _).take _
theorem yQ{e:Expr}{lo hi:Option Expr}{ma:ME}{ml mu:MO}{p2 pos:Pos}(ha:JE X pg k e ma)(hl:JO X pg k lo ml)(hh:JO X pg k hi mu):JE X pg k (.Subscript e (.Slice lo hi none p2) pos) (mE ma ml mu):=⟨fun A =>
 let ⟨_,q1,s1⟩:=ha.h A;let ⟨_,q2,s2⟩:=hl.h A;let ⟨_,q3,s3⟩:=hh.h A;⟨_,BD P4 q1 q2 q3,fun ρ h H e σ Q v h' s r q P=>by
 obtain⟨x,h1,e1,q⟩:=bind_eq.mp q
 obtain⟨lo,h2,e2,q⟩:=bind_eq.mp q
 obtain⟨hi,h3,e3,q⟩:=bind_eq.mp q
 refine s1 ρ h H e σ _ x h1 s r e1 fun x' ρ1 H1 g1 z1 r1=>?_
 refine s2 ρ1 h1 H1 e σ _ lo h2 z1 (r.gr g1) e2 fun ρ2 H2 g2 z2=>?_
 refine s3 ρ2 h2 H2 e σ _ hi h3 z2 (r.gr (g1.trans g2)) e3 fun ρ3 H3 g3 z3=>?_
 have r3:=rel.gr (K:=X.K) (g2.trans g3) _ _ r1
 have P3:=P.gr ((g1.trans g2).trans g3)
 cases x with
 | tup xs =>
  cases q
  rw[rel] at r3
  obtain⟨a,vs,rfl,d1,d2⟩:=r3
  by_cases hw:HT.dc vs.length 0 lo=0/\HT.dc vs.length vs.length hi=vs.length
  · refine .inr (.inr ⟨a,vs,rfl,.of d1,hw,P3 _ ρ3 H3 (.refl _ _) z3 ?_⟩)
    have:dY xs lo hi=xs:=by
     unfold dY
     rw[d2.len,hw.1,hw.2,List.drop_zero,Nat.sub_zero,<- d2.len,List.take_length]
    rw[this,rel]
    exact⟨a,vs,rfl,d1,d2⟩
  · exact .inr (.inl ⟨a,vs,rfl,.of d1,hw,fun p hp=>mQ z3 (d2.cut lo hi) P3 p hp⟩)
 | ref n =>
  simp only[Fs] at q
  split at q
  · rename_i xs en
    cases q
    obtain⟨a,vs,rfl,_,d1,d2⟩:=z3.sq en r3
    exact .inl ⟨a,vs,rfl,d1,fun p hp=>d8 z3 (d2.cut lo hi) P3 p hp⟩
  · exact nomatch q
 | _=>exact nomatch q⟩⟩
noncomputable def bY:List PV->PH->RV PV:=fun xs h=>match xs with
 | [x]=>(match itemsOf h x with
  | some ys=> .ok (.int ys.length) h
  | none=>(match x with
   | .str z=>kF z.length (.ok (.int z.length) h)
   | .ref n=>(match h[n]? with
    | some (.dct kvs)=> .ok (.int kvs.length) h
    | _=> .no)
   | _=> .no))
 | _=> .no
theorem b9{ρ :List Addr}{H:Hp}{x:PV}{us:List V}(r:ar K ρ H [x] us): ∃ u,us=[u]/\rel K ρ H x u:=by
 obtain⟨v,t,rfl,r1,r2⟩:=aC.mp r
 rw[aO] at r2
 exact⟨v,by rw[r2],r1⟩
theorem ky{ρ :List Addr}{H:Hp}{x y:PV}{us:List V}(r:ar K ρ H [x,y] us): ∃ u w,us=[u,w]/\rel K ρ H x u/\rel K ρ H y w:=by
 obtain⟨v,t,rfl,r1,r2⟩:=aC.mp r
 obtain⟨w,rfl,r3⟩:=b9 r2
 exact⟨v,w,rfl,r1,r3⟩
theorem Nd:de X pg k-> ∃ r,bq X (.builtin "len") r/\B0 X.K r bY:=fun A=>⟨_,Fi.or x6,fun ρ h H xs us Q v h' s r q P=>by
 unfold bY at q
 split at q
 · rename_i x
   obtain⟨u,rfl,r1⟩:=b9 r;have r:=r1
   split at q
   · rename_i ys e
     cases q
     obtain⟨a,vs,rfl,z,r2⟩:=s.items e r
     exact .inl (.inl ⟨a,vs,rfl,z,by rw[<- r2.len];exact P _ ρ H (.refl _ _) s (by rw[rel])⟩)
   · split at q
     · obtain⟨hl,q⟩:=jw.mp q
       cases q
       rw[rel] at r
       subst r
       exact .inl (.inr ⟨_,rfl,hl,P _ ρ H (.refl _ _) s (by rw[rel])⟩)
     · split at q
       · rename_i e
         cases q
         rw[rel] at r
         obtain⟨a,ea,rfl⟩:=r
         obtain⟨kws,e1,e2⟩:=s.ob _ _ a e ea
         exact .inr ⟨a,kws,rfl,e1,by rw[<- RK.len e2];exact P _ ρ H (.refl _ _) s (by rw[rel])⟩
       · exact nomatch q
     · exact nomatch q
 · exact nomatch q⟩
inductive Ty where
 | non | bool | int | str | tuple | list | dict
 deriving DecidableEq
noncomputable def Ty.n:Ty->String
 | .non=> "NoneType" | .bool=> "bool" | .int=> "int" | .str=> "str" | .tuple=> "tuple" | .list=> "list" | .dict=> "dict"
noncomputable def Ty.of:String->Option Ty
 | "bool" =>some .bool | "int" =>some .int | "str" =>some .str | "tuple" =>some .tuple | "list" =>some .list | "dict" =>some .dict
 | _=>none
noncomputable def Ty.Nj(a b:Ty):Bool:=decide (a=b)||(decide (a= .bool)&&decide (b= .int))
noncomputable def tyP(h:PH):PV->Option Ty
 | .non=>some .non
 | .bl _=>some .bool
 | .int _=>some .int
 | .str _=>some .str
 | .tup _=>some .tuple
 | .ref n=>(match h[n]? with
  | some (.lst _)=>some .list
  | some (.dct _)=>some .dict
  | _=>none)
 | _=>none
theorem Ac{ρ :List Addr}{h:PH}{H:Hp}{x:PV}{t:Ty}{v:V}(s:cW K ρ h H)(e:tyP h x=some t)(r:rel K ρ H x v):jc K H v (.type t.n):=by
 cases x with
 | non=>cases e;rw[rel] at r;subst r;exact .non
 | bl b=>cases e;rw[rel] at r;subst r;exact .bl b
 | int i=>cases e;rw[rel] at r;subst r;exact .int i
 | str z=>cases e;rw[rel] at r;subst r;exact .str z
 | tup xs=>cases e;rw[rel] at r;obtain⟨a,vs,rfl,e1,_⟩:=r;exact .tup e1
 | ref n =>
  rw[rel] at r
  obtain⟨a,ea,rfl⟩:=r
  simp only[tyP] at e
  split at e
  · rename_i en;cases e;obtain⟨vs,e1,_⟩:=s.ob n _ a en ea;exact .lst e1
  · rename_i en;cases e;obtain⟨vs,e1,_⟩:=s.ob n _ a en ea;exact .dK e1
  · exact nomatch e
 | _=>exact nomatch e
theorem BS(a b:Ty)(hb:b≠ .non):PySem.W.kitOne K (.type a.n) (.type b.n)=some (a.Nj b):=by
 cases b<;>first | (exact absurd rfl hb) | (cases a<;>rfl)
theorem Ty.K2{T:String}{t:Ty}(h:Ty.of T=some t):T=t.n/\t≠ .non:=by
 unfold Ty.of at h
 split at h<;>first | (cases h;exact⟨rfl,by decide⟩) | exact nomatch h
noncomputable def wW:List PV->Option (List Ty)
 | []=>some []
 | .ty T::r=>(match Ty.of T,wW r with
  | some t,some ts=>some (t::ts)
  | _,_=>none)
 | _=>none
noncomputable def l6:List PV->PH->RV PV:=fun xs h=>match xs with
 | [x,.ty T]=>(match tyP h x,Ty.of T with
  | some a,some b=> .ok (.bl (a.Nj b)) h
  | _,_=> .no)
 | [x,.tup ts]=>(match tyP h x,wW ts with
  | some a,some bs=> .ok (.bl (bs.any a.Nj)) h
  | _,_=> .no)
 | _=> .no
theorem wR{ρ :List Addr}{H:Hp}: ∀{ts:List PV}{bs:List Ty}{vs:List V},wW ts=some bs->ar K ρ H ts vs->vs=(bs.map Ty.n).map V.ty/\ ∀ b∈bs,b≠ .non
 | [],bs,vs,e,r=>by cases e;rw[aO] at r;subst r;exact⟨rfl,fun _ m=>by cases m⟩
 | .ty T::t,bs,vs,e,r=>by
  simp only[wW] at e
  split at e
  · rename_i b bs' e1 e2
    cases e
    obtain⟨v,w,rfl,r1,r2⟩:=aC.mp r
    obtain⟨h1,h2⟩:=wR e2 r2
    rw[rel] at r1
    obtain⟨n1,n2⟩:=Ty.K2 e1
    refine⟨by rw[r1,h1,n1];rfl,fun c m=>?_⟩
    rcases List.mem_cons.mp m with rfl | m
    · exact n2
    · exact h2 c m
  · exact nomatch e
 | .non::_,_,_,e,_=>nomatch e
 | .bl _::_,_,_,e,_=>nomatch e
 | .int _::_,_,_,e,_=>nomatch e
 | .str _::_,_,_,e,_=>nomatch e
 | .tup _::_,_,_,e,_=>nomatch e
 | .ktup _::_,_,_,e,_=>nomatch e
 | .ref _::_,_,_,e,_=>nomatch e
theorem wD(a:Ty): ∀(bs:List Ty),(∀ b∈bs,b≠ .non)->PySem.W.kitAny K (.type a.n) ((bs.map Ty.n).map Value.type)=some (bs.any a.Nj)
 | [],_=>rfl
 | b::r,h=>by
  have h1:=BS (K:=K) a b (h b List.mem_cons_self)
  have h2:=wD a r fun c m=>h c (List.mem_cons_of_mem _ m)
  simp only[List.map_cons,List.any_cons,PySem.W.kitAny,h1,h2]
  cases a.Nj b<;>rfl
theorem MX:de X pg k-> ∃ r,bq X (.builtin "isinstance") r/\B0 X.K r l6:=fun A=>⟨_,AR,fun ρ h H xs us Q v h' s r q P=>by
 unfold l6 at q
 split at q
 · rename_i x T
   split at q
   · rename_i a b e1 e2
     cases q
     obtain⟨u,w,rfl,r1,r2⟩:=ky r
     rw[rel] at r2;subst r2
     obtain⟨n1,n2⟩:=Ty.K2 e2
     exact .inl ⟨u,T,_,_,rfl,Ac s e1 r1,by rw[n1];exact BS a b n2,P _ ρ H (.refl _ _) s (by rw[rel])⟩
   · exact nomatch q
 · rename_i x ts
   split at q
   · rename_i a bs e1 e2
     cases q
     obtain⟨u,w,rfl,r1,r2⟩:=ky r
     rw[rel] at r2
     obtain⟨p,vs,rfl,e3,e4⟩:=r2
     obtain⟨h1,h2⟩:=wR e2 e4
     subst h1
     exact .inr ⟨u,p,_,_,_,rfl,e3,Ac s e1 r1,wD a bs h2,P _ ρ H (.refl _ _) s (by rw[rel])⟩
   · exact nomatch q
 · exact nomatch q⟩
noncomputable def bj:List PV->PH->RV PV:=fun xs h=>match xs with
 | [.tup ys]=> .ok (.tup ys) h
 | [.ref n]=>(match dJ h n with
  | some ys=> .ok (.tup ys) h
  | none=> .no)
 | _=> .no
theorem Dm:de X pg k-> ∃ r,bq X (.type "tuple") r/\B0 X.K r bj:=fun A=>⟨_,CI,fun ρ h H xs us Q v h' s r q P=>by
 unfold bj at q
 split at q
 · rename_i ys
   cases q
   obtain⟨u,rfl,r1⟩:=b9 r;have r:=r1
   have r':=r
   rw[rel] at r
   obtain⟨a,vs,rfl,e1,e2⟩:=r
   exact⟨a,vs,rfl,.inr ⟨.of e1,P _ ρ H (.refl _ _) s r'⟩⟩
 · split at q
   · rename_i ys e
     cases q
     obtain⟨u,rfl,r1⟩:=b9 r;have r:=r1
     obtain⟨a,vs,rfl,_,e1,e2⟩:=s.sq e r
     exact⟨a,vs,rfl,.inl ⟨e1,fun p hp=>mQ s e2 P p hp⟩⟩
   · exact nomatch q
 · exact nomatch q⟩
noncomputable def uq:List PV->PH->RV PV:=fun xs h=>match xs with
 | [x]=>(match itemsOf h x with
  | some ys=> .ok (.ref h.length) (h++[.lst ys])
  | none=> .no)
 | _=> .no
theorem G7:de X pg k-> ∃ r,bq X (.type "list") r/\B0 X.K r uq:=fun A=>⟨_,qH,fun ρ h H xs us Q v h' s r q P=>by
 unfold uq at q
 split at q
 · split at q
   · rename_i ys e
     cases q
     obtain⟨u,rfl,r1⟩:=b9 r;have r:=r1
     obtain⟨a,vs,rfl,z,r2⟩:=s.items e r
     exact⟨a,vs,rfl,z,fun p hp=>d8 s r2 P p hp⟩
   · exact nomatch q
 · exact nomatch q⟩
noncomputable def ee:PV->PH->Bool:=fun x h=>match x with
 | .ref n=>(match h[n]? with
  | some (.lst _)=>true
  | _=>false)
 | _=>false
theorem sM{ρ :List Addr}{h:PH}{H:Hp}{x:PV}{v:V}(s:cW K ρ h H)(r:rel K ρ H x v)(e:ee x h=true):Nu K "list" v H:=by
 cases x with
 | ref n =>
  simp only[ee] at e
  split at e
  · rename_i en
    obtain⟨a,vs,rfl,_,e1,_⟩:=s.lst en r
    exact .inl ⟨rfl,vs,.of e1⟩
  · exact nomatch e
 | _=>exact nomatch e
noncomputable def cR:PV->List PV->PH->RV PV:=fun x vs h=>match x,vs with
 | .ref n,[v]=>(match h[n]? with
  | some (.lst xs)=>if xs.length < sizeLine then .ok .non (h.set n (.lst (xs++[v]))) else .no
  | _=> .no)
 | _,_=> .no
theorem y8:de X pg k-> ∃ r,FJ X "list.append" r/\NC X.K "list" r cR ee:=fun A=>⟨_,xZ,fun ρ h H x x' s r e=>sM s r e,fun ρ h H x x' xs us Q v h' s rx rs q P=>by
 unfold cR at q
 split at q
 · rename_i n y
   split at q
   · rename_i ys en
     split at q
     · rename_i hl
       cases q
       obtain⟨a,vs,rfl,ea,e1,e2⟩:=s.lst en rx
       obtain⟨u,rfl,r⟩:=b9 rs
       have g:Gr ρ H ρ (upd H a (.lst (vs++[u]))):=Gr.write (.inl ⟨_,e1⟩)
       exact⟨a,vs,u,rfl,rfl,e1,by rw[<- e2.len];exact hl,P _ ρ _ g (s.write en ea rfl rfl ⟨_,a8,ar.gr g _ _ (e2.app (ar.one r))⟩) (by rw[rel])⟩
     · exact nomatch q
   · exact nomatch q
 · exact nomatch q⟩
end
end P3
end
section
open PySem PySem.W PyProof.Rows
namespace P3
open PySem PySem.Spec PyProof.Rows L2
section
variable{K:PySem.W.Frag}{X:Cx}{pg:Tb}{k:Nat}{tg l:Expr}
theorem rq{pins:List (Addr × Obj)}{σ :L2.St}{H:Hp}{s:Shared}(I:Inv X pins σ H s): ∀ b∈[s.heap.objs.size],mz X pins H b:=fun b hb=>by
 have e:b=s.heap.objs.size:=by simpa using hb
 subst e
 exact I.EJ (Nat.le_refl _) (I.bu.fresh (Nat.le_refl _))
theorem y9{pins:List (Addr × Obj)}{σ :L2.St}{H:Hp}{s:Shared}{R:It->Hp->Prop}{a:Addr}{xs:List V}(I:Inv X pins σ H s)(hq:gA X.K H a xs)(q:R (OF X.K a) H):wpAny (model X.prog X.w) X.A (pyIter (.ref a)) (Lw X pins σ tg R) X.xe s:=by
 obtain⟨ay,rv,p,hz⟩:=I.list hq
 exact wpAny_pyIter_list p.isList ⟨s.heap.objs.size,[s.heap.objs.size],_,_,H,rfl,I.kept (t':=s.toks) (fun b o e=>Heap.get?_push_of_some _ e),xi a _,⟨_,Heap.get?_push_size _ rfl,rfl,rfl⟩,rq I,q⟩
theorem yD{pins:List (Addr × Obj)}{σ :L2.St}{H:Hp}{s:Shared}{R:It->Hp->Prop}{a:Addr}{xs:List V}(I:Inv X pins σ H s)(hq:eY X.K H a xs)(q:R (NP X.K a) H):wpAny (model X.prog X.w) X.A (pyIter (.ref a)) (Lw X pins σ tg R) X.xe s:=by
 obtain⟨ay,rv,p,hz⟩:=I.tuple hq
 exact wpAny_pyIter_tuple (show s.heap.IsTuple a ay.toArray from p) ⟨s.heap.objs.size,[s.heap.objs.size],_,_,H,rfl,I.kept (t':=s.toks) (fun b o e=>Heap.get?_push_of_some _ e),uZ a _,⟨_,Heap.get?_push_size _ rfl,rfl,rfl⟩,rq I,q⟩
theorem AF{pins:List (Addr × Obj)}{σ :L2.St}{H:Hp}{s:Shared}{R:It->Hp->Prop}{z:Str}{t:Tok}(I:Inv X pins σ H s)(q:R (NM z) H):wpAny (model X.prog X.w) X.A (pyIter (.str z t)) (Lw X pins σ tg R) X.xe s:=by
 cases ha:z.cps.all (· < 128)
 · exact wpAny_pyIter_wide ha ⟨s.heap.objs.size,[s.heap.objs.size],_,_,H,rfl,I.kept (t':=s.toks) (fun b o e=>Heap.get?_push_of_some _ e),tY z t _ (by decide) (fun A' hA=>Walks.strWide hA _ z t) (fun _ _ _ _ _ st h=>wpAny_pyIter_striter_wide st h),⟨_,Heap.get?_push_size _ rfl,rfl,rfl⟩,rq I,q⟩
 · exact wpAny_pyIter_ascii ha ⟨s.heap.objs.size,[s.heap.objs.size],_,_,H,rfl,I.kept (t':=s.toks) (fun b o e=>Heap.get?_push_of_some _ e),tY z t _ (by decide) (fun A' hA=>Walks.strAscii hA _ z t) (fun _ _ _ _ _ st h=>wpAny_pyIter_striter_ascii st h),⟨_,Heap.get?_push_size _ rfl,rfl,rfl⟩,rq I,q⟩
noncomputable def Nf(K:PySem.W.Frag)(tl:TE):TI:=fun σ H R=>tl σ H fun x H1=>(∃ a xs,x= .ref a/\gA K H1 a xs/\R (OF K a) H1)\/(∃ a xs,x= .ref a/\eY K H1 a xs/\R (NP K a) H1)\/ ∃ z,x= .str z/\R (NM z) H1
theorem Ie{tl:TE}(hl:PE X l tl):PI X tg l (Nf X.K tl):=by
 intro pins s σ H R I h
 refine cD (hl pins s σ H _ I h) fun v s1 ⟨x,H1,I1,r1,q1⟩=>?_
 rcases q1 with⟨a,xs,rfl,hq,q⟩ | ⟨a,xs,rfl,hq,q⟩ | ⟨z,rfl,q⟩
 · cases r1;exact y9 I1 hq q
 · cases r1;exact yD I1 hq q
 · obtain⟨t,rfl⟩:=r1;exact AF I1 q
noncomputable def yc(x:PV)(h:PH):RV iV:=match x with
 | .tup xs=> .ok ⟨none,xs⟩ h
 | .ktup xs=> .ok ⟨none,xs⟩ h
 | .str z=> .ok ⟨none,z.cps.toList.map fun c=> .str ⟨#[c]⟩⟩ h
 | .ref n=>(match dJ h n with
  | some xs=> .ok ⟨some n,xs⟩ h
  | none=> .no)
 | _=> .no
noncomputable def oV(a:ME):MI:=fun c e h=>(a c e h).bind yc
end
section
variable{X:Cx}{pg:Tb}{k:Nat}{tg l:Expr}{ma:ME}{ta:TE}
theorem Gw{c:CF}{K:PySem.W.Frag}(s1:SE c K ta ma):SI c K (Nf K ta) (oV ma):=fun ρ h H e σ R it h' s r q P=>by
 obtain⟨x,h1,e1,q⟩:=bind_eq.mp q
 refine s1 ρ h H e σ _ x h1 s r e1 fun x' ρ1 H1 g1 z1 r1=>?_
 have tupc: ∀(xs:List PV),x.seq?=some xs->it=⟨none,xs⟩->h'=h1->(∃ a xs,x'= .ref a/\eY K H1 a xs/\R (NP K a) H1):=fun xs ex ei eh=>by
  subst ei eh
  obtain⟨a,vs,rfl,zz,rr⟩:=rel.seq ex r1
  refine⟨a,vs,rfl,zz,P ρ1 H1 _ g1 z1 fun i ρ2 h2 H2 g s _=>?_⟩
  have z2:=g.B5 zz
  have r2:=ar.gr g _ _ rr
  refine⟨fun y e=>?_,fun e=>⟨vs,z2,by rw[e,<- rr.len];exact Nat.le_refl _⟩⟩
  obtain⟨v,d1,d2⟩:=r2.get e
  refine⟨⟨vs,v,z2,d1⟩,?_⟩
  rintro w H' ⟨rfl,hw⟩
  have:=hw vs z2
  rw[d1] at this
  cases this
  exact⟨ρ2,.refl _ _,s,d2⟩
 cases x with
 | tup xs=>cases q;exact .inr (.inl (tupc xs rfl rfl rfl))
 | ktup xs=>cases q;exact .inr (.inl (tupc xs rfl rfl rfl))
 | str z =>
  cases q
  rw[rel] at r1
  refine .inr (.inr ⟨z,r1,P ρ1 H1 _ g1 z1 fun i ρ2 h2 H2 g s _=>⟨fun y e=>?_,fun e=>by show i=z.cps.size;simpa using e⟩⟩)
  rw[List.getElem?_map] at e
  cases q:z.cps.toList[i]? with
  | none=>rw[q] at e;exact nomatch e
  | some c =>
   rw[q] at e
   cases e
   have hc:z.cps[i]?=some c:=by simpa using q
   refine⟨(Array.getElem?_eq_some_iff.mp hc).1,?_⟩
   rintro v H' ⟨rfl,c',e1,rfl⟩
   rw[hc] at e1
   cases e1
   exact⟨ρ2,.refl _ _,s,by rw[rel]⟩
 | ref n =>
  simp only[yc] at q
  split at q
  · rename_i xs en
    cases q
    obtain⟨a,vs,rfl,ea,zz,rr⟩:=z1.sq en r1
    refine .inl ⟨a,vs,rfl,zz,P ρ1 H1 _ g1 z1 fun i ρ2 h2 H2 g s hf=>?_⟩
    have ea2:=g.pre _ _ ea
    have hl:dJ h2 n=some xs:=by
     have:h2[n]?=some (.lst xs)\/h2[n]?=some (.kM xs):=by simpa [iV.gx] using hf
     unfold dJ
     rcases this with q | q<;>rw[q]
    obtain⟨a',vs2,e3,e4,z2,r2⟩:=s.sq hl (show rel K ρ2 H2 (.ref n) (.ref a) by rw[rel];exact⟨a,ea2,rfl⟩)
    cases e3
    refine⟨fun y e=>?_,fun e=>⟨vs2,z2,by rw[e,<- r2.len];exact Nat.le_refl _⟩⟩
    obtain⟨v,d1,d2⟩:=r2.get e
    refine⟨⟨vs2,v,z2,d1⟩,?_⟩
    rintro w H' ⟨rfl,hw⟩
    have:=hw vs2 z2
    rw[d1] at this
    cases this
    exact⟨ρ2,.refl _ _,s,d2⟩
  · exact nomatch q
 | _=>exact nomatch q
theorem HK(ha:JE X pg k l ma):JI X pg k tg l (oV ma):=⟨fun A=>let ⟨_,q1,s1⟩:=ha.h A;⟨_,⟨Ie q1.h⟩,Gw s1⟩⟩
noncomputable def bX(lo:Int)(n:Nat):List PV:=(List.range n).map fun (i:Nat)=>PV.int (lo+(i:Int))
noncomputable def eU(r:MA):MI:=fun c e h=>(r c e h).bind fun vs h1=>match vs with
 | [.int j]=>if -(2 ^ 62)<=j/\j < 2 ^ 62 then .ok ⟨none,bX 0 j.toNat⟩ h1 else .no
 | _=> .no
theorem yg{K:PySem.W.Frag}{ρ :List Addr}{H:Hp}(lo:Int)(n:Nat):Pm K ρ H (NQ lo n) ⟨none,bX lo n⟩:=fun i ρ1 h1 H1 g s _=>by
 refine⟨fun y e=>?_,fun e=>by show n<=i;rw[e];simp[bX]⟩
 unfold bX at e
 rw[List.getElem?_map] at e
 rcases Nat.lt_or_ge i n with z | z
 · rw[List.getElem?_range z] at e
   cases e
   exact⟨z,fun v H' ⟨e1,e2⟩=>by subst e1;subst e2;exact⟨ρ1,.refl _ _,s,by rw[rel]⟩⟩
 · rw[List.getElem?_eq_none (by simpa using z)] at e
   exact nomatch e
variable{a b:Expr}{p pos:Pos}{mr:MA}
theorem xA(hg:Gl X "range")(ha:JA X pg k [a] mr)(hs:starEach [a] X.env=[(false,eval a X.env)]:=by rfl):JI X pg k tg (.Call (.Name "range" p) [a] [] pos) (eU mr):=⟨fun A =>
 let ⟨_,q1,s1⟩:=ha.h A;⟨_,⟨yt hg (A.blt _ (by decide)) q1.h hs⟩,fun ρ h H e σ R it h' s r q P=>by
 obtain⟨vs,h1,e1,q⟩:=bind_eq.mp q
 refine s1 ρ h H e σ _ vs h1 s r e1 fun us ρ1 H1 g1 z1 r1=>?_
 split at q
 · rename_i j
   split at q
   · rename_i hj
     cases q
     obtain⟨u,rfl,r2⟩:=b9 r1
     rw[rel] at r2
     subst r2
     exact⟨j,rfl,hj.1,hj.2,P ρ1 H1 _ g1 z1 (yg 0 _)⟩
   · exact nomatch q
 · exact nomatch q⟩⟩
abbrev MP:=CF->ax->PH->RV (List (Key × PV))
noncomputable def uL:MP:=fun _ _ h=> .ok [] h
noncomputable def dB(a b:ME)(r:MP):MP:=fun c e h=>(a c e h).bind fun x h1=>match gZ x with
 | some key=>(b c e h1).bind fun v h2=>(r c e h2).bind fun kvs h3=> .ok ((key,v)::kvs) h3
 | none=> .no
noncomputable def bA(kvs more:List (Key × PV)):List (Key × PV):=more.foldl (fun acc kv=>c8 acc kv.1 kv.2) kvs
noncomputable def oI(r:MP):ME:=fun c e h=>(r c e (h++[.dct []])).bind fun kvs h1=>if h1[h.length]?=some (.dct [])/\kvs.length<=15 then .ok (.ref h.length) (h1.set h.length (.dct (bA [] kvs))) else .no
structure JP(X:Cx)(pg:Tb)(k:Nat)(pos:Pos)(ks:List (Option Expr))(vs:List Expr)(m:MP):Prop where
 h:de X pg k-> ∃ t,QP X pos ks vs t/\ ∀ ρ h H e σ Q kvs h',cW X.K ρ h H->dQ X.K ρ H e σ ->m (run pg k) e h= .ok kvs h'->(∀ kws ρ' H',Gr ρ H ρ' H'->cW X.K ρ' h' H'->RK X.K ρ' H' kvs kws->Q (kws.map fun kv=>(kV kv.1,kv.2)) H')->lu t σ H Q
theorem Hu:JP X pg k pos [] [] uL:=⟨fun A=>⟨_,E7,fun ρ h H e σ Q kvs h' s r q P=>by cases q;exact P [] ρ H (.refl _ _) s .nil⟩⟩
theorem C9{kk v:Expr}{ks:List (Option Expr)}{vs:List Expr}{mk mv:ME}{mp:MP}(hk:JE X pg k kk mk)(hv:JE X pg k v mv)(hr:JP X pg k pos ks vs mp):JP X pg k pos (some kk::ks) (v::vs) (dB mk mv mp):=⟨fun A =>
 let ⟨_,q1,s1⟩:=hk.h A;let ⟨_,q2,s2⟩:=hv.h A;let ⟨_,q3,s3⟩:=hr.h A;⟨_,Bx q1 q2 q3,fun ρ h H e σ Q kvs h' s r q P=>by
 obtain⟨x,h1,e1,q⟩:=bind_eq.mp q
 refine s1 ρ h H e σ _ x h1 s r e1 fun x' ρ1 H1 g1 z1 r1=>?_
 split at q
 · rename_i key ek
   obtain⟨v,h2,e2,q⟩:=bind_eq.mp q
   obtain⟨kvs',h3,e3,q⟩:=bind_eq.mp q
   cases q
   refine s2 ρ1 h1 H1 e σ _ v h2 z1 (r.gr g1) e2 fun v' ρ2 H2 g2 z2 r2=>?_
   refine s3 ρ2 h2 H2 e σ _ kvs' _ z2 (r.gr (g1.trans g2)) e3 fun kws ρ3 H3 g3 z3 r3=>?_
   have:=P ((key,v')::kws) ρ3 H3 ((g1.trans g2).trans g3) z3 (.cons ⟨rfl,rel.gr g3 _ _ r2⟩ r3)
   rw[fC ek r1]
   exact this
 · exact nomatch q⟩⟩
theorem RK.merge{K:PySem.W.Frag}{ρ :List Addr}{H:Hp}: ∀{more:List (Key × PV)}{mw:List (Key × V)}{kvs:List (Key × PV)}{kws:List (Key × V)},RK K ρ H more mw->RK K ρ H kvs kws->RK K ρ H (bA kvs more) (cE kws mw)
 | _,_,_,_,.nil,r=>r
 | _,_,_,_,.cons (a:=p) (b:=q) a t,r=>by
  show RK K ρ H (bA (c8 _ p.1 p.2) _) (cE (putK _ q.1 q.2) _)
  refine RK.merge t ?_
  rw[<- a.1]
  exact RK.put r a.2
theorem Ca{ks:List (Option Expr)}{vs:List Expr}{mp:MP}(h:JP X pg k pos ks vs mp)(hall:ks.all (·.isSome)=true)(hl:ks.length=vs.length)(h0:ks≠[])(h15:ks.length<=15):JE X pg k (.Dict ks vs pos) (oI mp):=⟨fun A =>
 let ⟨_,q1,s1⟩:=h.h A;⟨_,EK q1 hall hl h0 h15,fun ρ h H e σ Q v h' s r q P p hp=>by
 obtain⟨kvs,h1,e1,q⟩:=bind_eq.mp q
 split at q
 · rename_i hc
   cases q
   have g0:Gr ρ H (ρ ++[p]) (upd H p (.dK [])):=Gr.new hp [p]
   have s0:cW X.K (ρ ++[p]) (h++[.dct []]) (upd H p (.dK [])):=s.new hp ⟨[],a8,.nil⟩
   refine s1 (ρ ++[p]) _ _ e σ _ kvs h1 s0 (r.gr g0) e1 fun kws ρ1 H1 g1 z1 r1=>?_
   have ep:(ρ ++[p])[h.length]?=some p:=by rw[<- s.len,List.getElem?_append_right (Nat.le_refl _)];simp
   have ep1:=g1.pre _ _ ep
   obtain⟨kw0,e2,e3⟩:=z1.ob h.length _ p hc.1 ep1
   cases e3
   refine⟨e2,kws,rfl,by rw[<- RK.len r1];exact hc.2,?_⟩
   have gw:Gr ρ1 H1 ρ1 (upd H1 p (.dK (cE [] kws))):=Gr.write (.inr ⟨_,e2⟩)
   refine P _ ρ1 _ ((g0.trans g1).trans gw) (z1.write hc.1 ep1 rfl rfl ⟨_,a8,RK.merge (Paired.eX gw r1) .nil⟩) ?_
   rw[rel]
   exact⟨p,ep1,rfl⟩
 · exact nomatch q⟩⟩
noncomputable def ng:ME:=fun _ _ h=> .ok (.ref h.length) (h++[.dct []])
theorem yT:JE X pg k (.Dict [] [] pos) ng:=⟨fun A=>⟨_,Aj,fun ρ h H e σ Q v h' s r q P p hp=>by
 cases q
 refine P _ (ρ ++[p]) _ (Gr.new hp [p]) (s.new hp ⟨[],a8,.nil⟩) ?_
 rw[rel]
 exact⟨p,by rw[<- s.len,List.getElem?_append_right (Nat.le_refl _)];simp,rfl⟩⟩⟩
noncomputable def Ay(kvs:List (Key × PV))(a:ME):ME:=fun c e h=>(a c e h).bind fun x h1=>match gZ x with
 | some key=>(match aW kvs key with
  | some v=> .ok v h1
  | none=> .no)
 | none=> .no
variable{x:Str}{kvs:List (Key × PV)}{i:Expr}{mi:ME}{pos':Pos}
theorem DN(hd:pg.yB x=some kvs)(hg:Gl X x)(hi:JE X pg k i mi)(hs:Ci i)(hdb:(x == ("__debug__" :Str))=false:=by decide):JE X pg k (.Subscript (.Name x pos') i pos) (Ay kvs mi):=⟨fun A =>
 let ⟨a,kws,e1,e2,e3⟩:=A.yB x kvs hd;let ⟨_,q1,s1⟩:=hi.h A;⟨_,Eo e2 (Cv hg e1 hdb) q1 hs,fun ρ h H e σ Q v h' s r q P=>by
 obtain⟨y,h1,d1,q⟩:=bind_eq.mp q
 refine s1 ρ h H e σ _ y h1 s r d1 fun y' ρ1 H1 g1 z1 r1=>?_
 split at q
 · rename_i key ek
   split at q
   · rename_i w ew
     cases q
     obtain⟨u,f1,f2⟩:=RK.some (e3 ρ1 H1) ew
     exact⟨key,u,fC ek r1,f1,P _ ρ1 H1 g1 z1 f2⟩
   · exact nomatch q
 · exact nomatch q⟩⟩
noncomputable def sV(d a b:ME):ME:=fun c e h=>(d c e h).bind fun x h1=>if gp h1 x=true then(a c e h1).bind (fun y h2=>(b c e h2).bind fun z h3=>match x,gZ y with
 | .ref n,some key=>(match h3[n]? with
  | some (.dct kvs)=> .ok ((aW kvs key).getD z) h3
  | _=> .no)
 | _,_=> .no) else .no
theorem DC{o e f:Expr}{md me mf:ME}{apos cpos:Pos}(ho:JE X pg k o md)(he:JE X pg k e me)(hf:JE X pg k f mf)(m:M2 X o "get" apos e f cpos):JE X pg k (.Call (.Attribute o "get" apos) [e,f] [] cpos) (sV md me mf):=⟨fun A =>
 let ⟨_,q1,s1⟩:=ho.h A;let ⟨_,q2,s2⟩:=he.h A;let ⟨_,q3,s3⟩:=hf.h A;⟨_,zE A.hu q1 q2 q3 m,fun ρ h H e σ Q v h' s r q P=>by
 obtain⟨x,h1,e1,q⟩:=bind_eq.mp q
 refine s1 ρ h H e σ _ x h1 s r e1 fun x' ρ1 H1 g1 z1 r1=>?_
 split at q
 · rename_i hd
   obtain⟨y,h2,e2,q⟩:=bind_eq.mp q
   obtain⟨z,h3,e3,q⟩:=bind_eq.mp q
   cases x with
   | ref n =>
    rw[rel] at r1
    obtain⟨a,ea,rfl⟩:=r1
    refine⟨a,rfl,?_,?_⟩
    · simp only[gp] at hd
      split at hd
      · rename_i kvs0 en
        obtain⟨kws,d1,_⟩:=z1.ob n _ a en ea
        exact .inl ⟨kws,.inl d1⟩
      · exact nomatch hd
    refine s2 ρ1 h1 H1 e σ _ y h2 z1 (r.gr g1) e2 fun y' ρ2 H2 g2 z2 r2=>?_
    refine s3 ρ2 h2 H2 e σ _ z h3 z2 (r.gr (g1.trans g2)) e3 fun z' ρ3 H3 g3 z3 r3=>?_
    cases ek:gZ y with
    | none=>simp only[ek] at q;exact nomatch q
    | some key =>
     simp only[ek] at q
     split at q
     · rename_i kvs en
       cases q
       obtain⟨kws,d1,d2⟩:=z3.ob n _ a en (g3.pre _ _ (g2.pre _ _ ea))
       have:=fC ek r2
       subst this
       refine⟨_,i8.k (k:=key) d1,P _ ρ3 H3 ((g1.trans g2).trans g3) z3 ?_⟩
       have:=RK.val key d2
       cases p1:aW kvs key<;>cases p2:gq kws key<;>rw[p1,p2] at this<;>first | exact r3 | exact this | exact False.elim this
     · exact nomatch q
   | _=>exact nomatch hd
 · exact nomatch q⟩⟩
end
end P3
end
section
open PySem PySem.W PyProof.Rows
namespace P3
open PySem PySem.Spec PyProof.Rows L2
section
variable{K:PySem.W.Frag}{X:Cx}{pg:Tb}{k:Nat}
noncomputable def pairP?:PV->Option (Key × PV)
 | .tup [a,v]=>(gZ a).map fun k=>(k,v)
 | _=>none
noncomputable def iq:List PV->Option (List (Key × PV))
 | []=>some []
 | x::r=>(match pairP? x,iq r with
  | some p,some ps=>some (p::ps)
  | _,_=>none)
section
variable{prog:Program}{w:World}{A:Around}{E:Value->Shared->Prop}{s:Shared}
theorem mX{p:Addr}{kvs:List (Key × Value)}{R:Value->Shared->Prop}(hS:(p == sysModules)=false)(hp:s.heap.DictOf (aJ prog w) p kvs)(hz:kvs.length<=sizeLine)
  (q: ∀ g:Heap,g.DictOf (aJ prog w) s.heap.objs.size (merged [] kvs)->(∀ b o,s.heap.get? b=some o->g.get? b=some o)->R (.ref s.heap.objs.size) { s with heap:=g }) :
  wpAny (model prog w) A (call (.type "dict") [.ref p]) R E s:=by
 let g0:=s.heap.push { cls:= .type "dict",data:= .dict #[] }
 have up: ∀ b o,s.heap.get? b=some o->g0.get? b=some o:=fun b o e=>Heap.get?_push_of_some _ e
 have dn:g0.DictOf (aJ prog w) s.heap.objs.size []:=Heap.DictOf.new s.heap
 have dp:g0.DictOf (aJ prog w) p kvs:=hp.at fun o e=>up p o e
 have ne:s.heap.objs.size≠p:=fun e=>by
  obtain⟨o,_,_,ho,_⟩:=hp
  exact absurd (Heap.lt_size ho) (by rw[e];exact Nat.lt_irrefl _)
 refine callType_codes (Q₁ :=fun z u=>z= .ref s.heap.objs.size/\u={ s with heap:=g0 }) F.kt_called_dict (F.kt_typeCall_dict_1 _) F.entry_dict_init (kt_code_dict_new _ ⟨rfl,rfl⟩) ?_
 rintro obj s1 ⟨rfl,rfl⟩
 refine⟨dn.typeIs,F.args_dict_init_2 _ _,?_⟩
 with_unfolding_all refine wpAny_bind (m:=Builtin.Dict.selfAndRest _ _) (wpAny_bind (wpAny_notOrdered_dict dn.typeIs (wpAny_pure ?_)))
 show wpAny _ _ (Builtin.Dict.updateFrom "dict.__init__" s.heap.objs.size (.ref p) [] .none) _ _ _
 unfold Builtin.Dict.updateFrom Builtin.Dict.merge Builtin.Dict.readDirectly
 refine wpAny_bind (wpAny_typeOf dp.typeIs ?_)
 rw[if_neg (by decide)]
 refine wpAny_bind (wpAny_bind (wpAny_bind (wpAny_isInstance dp.typeIs isSubtype_dict_dict ?_)))
 simp only[if_false,Bool.not_true,Bool.false_eq_true]
 refine wpAny_bind (wpAny_specialOf dp.typeIs F.slot_dict_iter.lookup (wpAny_pure ?_))
 simp only[if_true,beq_self_eq_true]
 refine wpAny_bind (wpAny_pure (wpAny_mergeDict (hsz:=by simpa using hz) ne hS dn dp fun g dg _ sb=>?_))
 show wpAny _ _ (Builtin.Dict.addKeywords s.heap.objs.size [] >>= _) _ _ { s with heap:=g }
 exact wpAny_bind (wpAny_pure (wpAny_pure ⟨rfl,q g dg fun b o e=>(sb.2 b (Nat.ne_of_lt (Heap.lt_size e))).trans (up b o e)⟩))
end
noncomputable def JH:List V->Hp->VK->Prop:=fun xs H Q=> ∃ p kvs,xs=[.ref p]/\H p=some (.dK kvs)/\kvs.length<=sizeLine/\ ∀ d,H d=none->Q (.ref d) (upd H d (.dK (cE [] kvs)))
theorem vL:bq X (.type "dict") JH:=by
 intro pins s σ H xs us Q I r h
 obtain⟨p,kvs,rfl,hp,hz,q⟩:=h
 obtain⟨u,rfl,ru⟩:=vals1 r
 cases(show u=Value.ref p from ru)
 obtain⟨z1,n1,vs,r1,d1⟩:=og I.bu hp
 refine mX n1 d1 (by rw[<- r1.length];exact z1) fun g dd keep=>?_
 have hle:(cE [] kvs).length<=sizeLine:=by have:=cY kvs [];simp at this;omega
 obtain⟨hn,I'⟩:=I.kP (a:=s.heap.objs.size) (o:= .dK (cE [] kvs)) (t':=s.toks) keep (Heap.get?_none_of_le (Nat.le_refl _)) (mV hle (beq_eq_false_iff_ne.mpr (Ne.symm (Nat.ne_of_lt I.big))) (KV.uh r1) dd)
 exact⟨.ref _,_,I',rfl,q _ hn⟩
noncomputable def eN:List PV->PH->RV PV:=fun xs h=>match xs with
 | [.tup ys]=>(match iq ys with
  | some kvs=>if ys.length < sizeLine then .ok (.ref h.length) (h++[.dct (bA [] kvs)]) else .no
  | none=> .no)
 | [.ref n]=>(match h[n]? with
  | some (.dct kvs)=>if kvs.length<=sizeLine then .ok (.ref h.length) (h++[.dct (bA [] kvs)]) else .no
  | _=> .no)
 | _=> .no
theorem D0{ρ :List Addr}{H:Hp}{x:PV}{p:Key × PV}{v:V}(e:pairP? x=some p)(r:rel K ρ H x v): ∃ q:Key × V,pV H v q/\p.1=q.1/\rel K ρ H p.2 q.2:=by
 cases x with
 | tup xs =>
  match xs,e with
  | [a,w],e =>
   simp only[pairP?] at e
   cases q:gZ a with
   | none=>rw[q] at e;exact nomatch e
   | some key =>
    rw[q] at e
    cases e
    rw[rel] at r
    obtain⟨b,vs,rfl,e1,e2⟩:=r
    obtain⟨u,u',rfl,r1,r2⟩:=ky e2
    have:=fC q r1
    subst this
    exact⟨(key,u'),⟨b,rfl,e1⟩,rfl,r2⟩
 | _=>exact nomatch e
theorem sC{ρ :List Addr}{H:Hp}: ∀{xs:List PV}{kvs:List (Key × PV)}{vs:List V},iq xs=some kvs->ar K ρ H xs vs-> ∃ kws,Paired (pV H) vs kws/\RK K ρ H kvs kws
 | [],kvs,vs,e,r=>by cases e;rw[aO] at r;subst r;exact⟨[],.nil,.nil⟩
 | x::t,kvs,vs,e,r=>by
  simp only[iq] at e
  split at e
  · rename_i p ps e1 e2
    cases e
    obtain⟨v,w,rfl,r1,r2⟩:=aC.mp r
    obtain⟨q,a,b⟩:=D0 e1 r1
    obtain⟨qs,c,d⟩:=sC e2 r2
    exact⟨q::qs,.cons a c,.cons b d⟩
  · exact nomatch e
theorem wU{ρ :List Addr}{h:PH}{H:Hp}{kvs:List (Key × PV)}{kws:List (Key × V)}{Q:VK}(s:cW K ρ h H)(r:RK K ρ H kvs kws)(P:dy K ρ H (.ref h.length) (h++[.dct kvs]) Q)(p:Addr)(hp:H p=none):Q (.ref p) (upd H p (.dK kws)):=by
 refine P _ (ρ ++[p]) _ (Gr.new hp [p]) (s.new hp ⟨kws,a8,Paired.eX (Gr.new hp [p]) r⟩) ?_
 rw[rel]
 exact⟨p,by rw[<- s.len,List.getElem?_append_right (Nat.le_refl _)];simp,rfl⟩
theorem GL:de X pg k-> ∃ r,bq X (.type "dict") r/\B0 X.K r eN:=fun A=>⟨_,(Bg A.calm).or vL,fun ρ h H xs us Q v h' s r q P=>by
 unfold eN at q
 split at q
 · rename_i ys
   split at q
   · rename_i kvs e
     split at q
     · rename_i hl
       cases q
       obtain⟨u,rfl,r1⟩:=b9 r
       rw[rel] at r1
       obtain⟨a,vs,rfl,e1,e2⟩:=r1
       obtain⟨kws,c,d⟩:=sC e e2
       exact .inl ⟨a,vs,kws,rfl,e1,c,by rw[<- e2.len];exact hl,fun p hp=>wU s (RK.merge d .nil) P p hp⟩
     · exact nomatch q
   · exact nomatch q
 · rename_i n
   split at q
   · rename_i kvs en
     split at q
     · rename_i hl
       cases q
       obtain⟨u,rfl,r1⟩:=b9 r
       rw[rel] at r1
       obtain⟨a,ea,rfl⟩:=r1
       obtain⟨kws,e1,e2⟩:=s.ob n _ a en ea
       exact .inr ⟨a,kws,rfl,e1,by rw[<- RK.len e2];exact hl,fun p hp=>wU s (RK.merge e2 .nil) P p hp⟩
     · exact nomatch q
   · exact nomatch q
 · exact nomatch q⟩
theorem iR{α :Type}{le: α -> α ->Prop}: ∀{l1 l2:List α},(∀ a∈l1,∀ b∈l1,le a b->le b a->a=b)->l1.Perm l2->l1.Pairwise le->l2.Pairwise le->l1=l2
 | [],l2,_,p,_,_=>List.Perm.nil_eq p
 | a::r,[],_,p,_,_=>absurd p.length_eq (by simp)
 | a::r,b::r',anti,p,h1,h2=>by
  rw[List.pairwise_cons] at h1 h2
  have hb:b∈a::r:=p.mem_iff.mpr List.mem_cons_self
  have e:a=b:=by
   rcases List.mem_cons.mp (p.mem_iff.mp (List.mem_cons_self:a∈a::r)) with e | m
   · exact e
   · rcases List.mem_cons.mp hb with e | m'
     · exact e.symm
     · exact anti a List.mem_cons_self b hb (h1.1 b m') (h2.1 a m)
  subst e
  rw[iR (fun x hx y hy=>anti x (List.mem_cons_of_mem _ hx) y (List.mem_cons_of_mem _ hy)) (List.Perm.cons_inv p) h1.2 h2.2]
noncomputable def my(a b:Str):Bool:= !decide (hI b a)
noncomputable def aM(ss:List Str):List Str:=ss.mergeSort my
theorem gF(a b c:Str)(h1:my a b=true)(h2:my b c=true):my a c=true:=by
 unfold my at h1 h2 ⊢
 simp only[Bool.not_eq_true',decide_eq_false_iff_not] at h1 h2 ⊢
 intro h
 by_cases e:b=a
 · subst e;exact h2 h
 · rcases lN e with z | z
   · exact h1 z
   · exact h2 (iX h z)
theorem i7(a b:Str):(my a b||my b a)=true:=by
 unfold my
 by_cases h:hI b a
 · simp[h,iP h]
 · simp[h]
theorem tW{a b : Str}(h1 : my a b = true)(h2 : my b a = true) : a = b := by
  unfold my at h1 h2
  simp only[Bool.not_eq_true', decide_eq_false_iff_not] at h1 h2
  exact Decidable.byContradiction fun e => by rcases lN e with z | z; · exact h2 z
                                              · exact h1 z
theorem xF: ∀{r:List Str}{p:Str},risingS p r=true->(p::r).Pairwise fun a b=>my a b=true:=by
 intro r
 induction r with
 | nil=>intro p _;exact List.pairwise_singleton _ _
 | cons x r ih =>
  intro p h
  simp only[risingS,Bool.and_eq_true] at h
  have h1:my p x=true:=by
   have:=h.1
   rw[ltCps_eq] at this
   exact this
  have h2:=ih h.2
  refine List.pairwise_cons.mpr ⟨fun y hy=>?_,h2⟩
  rcases List.mem_cons.mp hy with rfl | m
  · exact h1
  · exact gF _ _ _ h1 ((List.pairwise_cons.mp h2).1 y m)
theorem yf{ss:List Str}(h:sortedS ss=true):ss.Pairwise fun a b=>my a b=true:=by
 cases ss with
 | nil=>exact .nil
 | cons p r=>exact xF h
theorem nQ{ss ss':List Str}(p:ss'.Perm ss)(h:sortedS ss'=true):ss'=aM ss :=
 iR (le:=fun a b=>my a b=true) (fun _ _ _ _ h1 h2=>tW h1 h2) (p.trans (List.mergeSort_perm ss my).symm) (yf h) (List.pairwise_mergeSort gF (fun a b=>by simpa using i7 a b) ss)
noncomputable def fV:List PV->Option (List Str)
 | []=>some []
 | .str x::r=>(fV r).map (x:: ·)
 | _=>none
theorem hW: ∀{xs:List PV}{ss:List Str},fV xs=some ss->xs=ss.map PV.str
 | [],bs,e=>by cases e;rfl
 | .str b::r,bs,e=>by
  rw[fV] at e
  cases q:fV r with
  | none=>rw[q] at e;exact nomatch e
  | some cs=>rw[q] at e;cases e;rw[hW q];rfl
 | .non::_,_,e=>nomatch e
 | .bl _::_,_,e=>nomatch e
 | .int _::_,_,e=>nomatch e
 | .tup _::_,_,e=>nomatch e
 | .ktup _::_,_,e=>nomatch e
 | .ref _::_,_,e=>nomatch e
 | .ty _::_,_,e=>nomatch e
theorem dU: ∀(ss:List Str),fV (ss.map PV.str)=some ss
 | []=>rfl
 | b::r=>by rw[List.map_cons,fV,dU r];rfl
theorem cP{ρ :List Addr}{H:Hp}: ∀{ss:List Str}{vs:List V},ar K ρ H (ss.map PV.str) vs↔vs=ss.map V.str
 | [],vs=>aO
 | b::t,vs=>by
  rw[List.map_cons,aC]
  constructor
  · rintro ⟨v,w,rfl,r1,r2⟩
    rw[rel] at r1
    rw[r1,cP.mp r2];rfl
  · rintro rfl
    exact⟨.str b,t.map V.str,rfl,by rw[rel],cP.mpr rfl⟩
noncomputable def uS:List PV->Option (List (Str × Int))
 | []=>some []
 | .tup [.str x,.int i]::r=>(uS r).map ((x,i):: ·)
 | _=>none
noncomputable def eK(q:Str × Int):PV:= .tup [.str q.1,.int q.2]
theorem sD: ∀(ps:List (Str × Int)),uS (ps.map eK)=some ps
 | []=>rfl
 | b::r=>by rw[List.map_cons,eK,uS,sD r];rfl
theorem En: ∀{xs:List PV}{ps:List (Str × Int)},uS xs=some ps->xs=ps.map eK:=by
 intro xs
 induction xs with
 | nil=>intro ps e;cases e;rfl
 | cons x r ih =>
  intro ps e
  unfold uS at e
  split at e
  · rename_i h;cases h
  · rename_i y i r' h
    cases h
    cases q:uS r with
    | none=>rw[q] at e;exact nomatch e
    | some cs=>rw[q] at e;cases e;rw[ih q];rfl
  · exact nomatch e
theorem j9{ρ :List Addr}{H:Hp}: ∀{ps:List (Str × Int)}{vs:List V},ar K ρ H (ps.map eK) vs↔Paired (jh H) vs ps
 | [],vs=>⟨fun h=>by rw[List.map_nil,aO] at h;subst h;exact .nil,fun h=>by cases h;exact aO.mpr rfl⟩
 | b::t,vs=>by
  rw[List.map_cons,aC]
  constructor
  · rintro ⟨v,w,rfl,r1,r2⟩
    rw[eK,rel] at r1
    obtain⟨a,us,rfl,e1,e2⟩:=r1
    obtain⟨u,u',rfl,d1,d2⟩:=ky e2
    rw[rel] at d1
    rw[rel] at d2
    subst d1 d2
    exact .cons ⟨a,rfl,e1⟩ (j9.mp r2)
  · intro h
    cases h with
    | cons h1 h2 =>
     obtain⟨a,rfl,e1⟩:=h1
     refine⟨.ref a,_,rfl,?_,j9.mpr h2⟩
     rw[eK,rel]
     exact⟨a,_,rfl,e1,aC.mpr ⟨_,_,rfl,by rw[rel],ar.one (by rw[rel])⟩⟩
theorem BQ: ∀{ps:List (Str × Int)},(ps.map (·.1)).Nodup-> ∀{a b:Str × Int},a∈ps->b∈ps->a.1=b.1->a=b
 | [],_,a,b,ha,_,_=>by cases ha
 | p::r,nd,a,b,ha,hb,e=>by
  rw[List.map_cons] at nd;rw[List.nodup_cons] at nd
  rcases List.mem_cons.mp ha with ha | ha<;>rcases List.mem_cons.mp hb with hb | hb
  · rw[ha,hb]
  · exact absurd (by rw[<- ha,e];exact List.mem_map.mpr ⟨b,hb,rfl⟩) nd.1
  · exact absurd (by rw[<- hb,<- e];exact List.mem_map.mpr ⟨a,ha,rfl⟩) nd.1
  · exact BQ nd.2 ha hb e
noncomputable def jY(ps:List (Str × Int)):List (Str × Int):=ps.mergeSort fun a b=>my a.1 b.1
theorem zf{ps ps':List (Str × Int)}(nd:(ps.map (·.1)).Nodup)(p:ps'.Perm ps)(h:(ps'.map (·.1)).Pairwise hI):ps'=jY ps:=by
 have h2:ps'.Pairwise fun a b=>my a.1 b.1=true:=by
  rw[List.pairwise_map] at h
  exact h.imp fun {a b} z=>by unfold my;simp[iP z]
 refine iR (le:=fun a b=>my a.1 b.1=true) (fun a ha b hb z1 z2=>?_) (p.trans (List.mergeSort_perm ps _).symm) h2 (List.pairwise_mergeSort (fun a b c=>gF a.1 b.1 c.1) (fun a b=>by simpa using i7 a.1 b.1) ps)
 have e:=tW z1 z2
 have ha':=p.mem_iff.mp ha
 have hb':=p.mem_iff.mp hb
 exact BQ nd ha' hb' e
noncomputable def eR:List PV->PH->RV PV:=fun xs h=>match xs with
 | [x]=>(match itemsOf h x with
  | some ys=>(match x with
   | .ref _=>(match fV ys with
    | some ss=>if ss.length < 64 then .ok (.ref h.length) (h++[.lst ((aM ss).map PV.str)]) else .no
    | none=>(match uS ys with
     | some ps=>if ps.length < 64/\(ps.map (·.1)).Nodup then .ok (.ref h.length) (h++[.lst ((jY ps).map eK)]) else .no
     | none=> .no))
   | _=> .no)
  | none=>(match x with
   | .ref n=>(match h[n]? with
    | some (.dct kvs)=>(match fV (kvs.map fun kv=>match kv.1 with | .inl i=> .int i | .inr z=> .str z) with
     | some ss=>if ss.length < 64 then .ok (.ref h.length) (h++[.lst ((aM ss).map PV.str)]) else .no
     | none=> .no)
    | _=> .no)
   | _=> .no))
 | _=> .no
theorem RK.keys{ρ :List Addr}{H:Hp}: ∀{kvs:List (Key × PV)}{kws:List (Key × V)},RK K ρ H kvs kws->kws.map (·.1)=kvs.map (·.1)
 | _,_,.nil=>rfl
 | _,_,.cons a t=>by rw[List.map_cons,List.map_cons,RK.keys t,a.1]
theorem keys_str: ∀{kvs:List (Key × PV)}{ss:List Str},(kvs.map fun kv=>(match kv.1 with | .inl i=>PV.int i | .inr z=>PV.str z))=ss.map PV.str->kvs.map (·.1)=ss.map Sum.inr
 | [],ss,e=>by cases ss with | nil=>rfl | cons=>exact nomatch e
 | (.inl i,v)::r,ss,e=>by cases ss with | nil=>exact nomatch e | cons=>simp at e
 | (.inr z,v)::r,ss,e=>by
  cases ss with
  | nil=>exact nomatch e
  | cons y t =>
   rw[List.map_cons,List.map_cons,List.cons.injEq] at e
   rw[List.map_cons,List.map_cons,keys_str e.2]
   cases e.1;rfl
theorem sA(A:de X pg k):B0 X.K (fun xs H Q=>zm X.K xs H Q\/(AL xs H Q\/vk X.K xs H Q)) eR:=fun ρ h H xs us Q v h' s r q P=>by
 unfold eR at q
 split at q
 · rename_i x
   obtain⟨u,rfl,r1⟩:=b9 r
   split at q
   · rename_i ys e
     split at q
     · rename_i n
       obtain⟨a,vs,rfl,_,z,r2⟩:=s.sq e r1
       split at q
       · rename_i ss es
         split at q
         · rename_i hl
           cases q
           rw[hW es,cP] at r2
           subst r2
           refine .inl ⟨a,ss,rfl,z,hl,fun l ss' hp pm so=>?_⟩
           rw[nQ pm so]
           exact d8 s (cP.mpr rfl) P l hp
         · exact nomatch q
       · split at q
         · rename_i ps eps
           split at q
           · rename_i hl
             cases q
             rw[En eps,j9] at r2
             refine .inr (.inr ⟨a,vs,ps,rfl,z,r2,hl.1,hl.2,fun l ys' ps' hp pm so pr=>?_⟩)
             have:=zf hl.2 pm so
             subst this
             exact d8 s (j9.mpr pr) P l hp
           · exact nomatch q
         · exact nomatch q
     · exact nomatch q
   · split at q
     · rename_i n _
       split at q
       · rename_i kvs en
         split at q
         · rename_i ss es
           split at q
           · rename_i hl
             cases q
             rw[rel] at r1
             obtain⟨a,ea,rfl⟩:=r1
             obtain⟨kws,e1,e2⟩:=s.ob n _ a en ea
             refine .inr (.inl ⟨a,kws,ss,rfl,e1,by rw[RK.keys e2];exact keys_str (hW es),hl,fun l ss' hp pm so=>?_⟩)
             rw[nQ pm so]
             exact d8 s (cP.mpr rfl) P l hp
           · exact nomatch q
         · exact nomatch q
       · exact nomatch q
     · exact nomatch q
 · exact nomatch q
theorem iZ.of{P:Program}{w:World}{K:PySem.W.Frag}{mg:Str->Option Value}{base:Heap}{pg:Tb}{f:String}{d:Df}(b:MS)(st:Stmt)(N:List Str)(e:d.body=b)(a:At K mg (Str.ofString f) st)(S:au N d.ps (ai st))(hl:N.length=d.ps.length+d.nl)
  (hb: ∀(kV doc pm:Value)(an:Option Addr)(cdv ct:Value)(us:List Value),us.length=d.ps.length->bindArgs (PySem.W.fnOf (Str.ofString f) (Str.ofString f) (cO st) (bx st) (ai st) .none kV doc pm an cdv ct) ⟨us,[]⟩=pure (d.ps.zip us))
  (h: ∀(fa:Addr)(cdv:Value)(A:Around)(outer:List Env)(s:Shared)(H:Hp)(E:XK)(k:Nat),xC (jG si P w K mg base N (Str.ofString f) (ai st) fa cdv A outer s H E).pL pg k (bx st) b):iZ P w K mg base pg f d :=
 ⟨st,N,a,S,hl,hb,by rw[e];exact h⟩
end
end P3
end
section
open PySem PySem.W PyProof.Rows
namespace P3
open PySem PySem.Spec PyProof.Rows L2
section
variable{X:Cx}{pins:List (Addr × Obj)}{σ :L2.St}{H:Hp}{s:Shared}{h':Heap}
theorem AH{turned:List Addr}{t':Nat}(I:Inv X pins σ H s)(kp: ∀ b o,b ∉ turned->s.heap.get? b=some o->h'.get? b=some o)(fp: ∀ b∈turned,mz X pins H b):Inv X pins σ H { s with heap:=h',toks:=t' }:=by
 have away: ∀ b u,H b=some u->b ∉ turned:=fun b u e m=>by
  have:=(fp b m).1
  rw[e] at this;exact nomatch this
 refine I.step (g':=s.gens) (d':=s.drawn) (ch:=turned) (fun b m=>?_) (fun b o _ _ n e _=>kp b o n e) (fun b o _ _ n e _=>⟨o.slots,kp b o n e⟩) (fun _ _ _ _ e=>e) (fun b o n e=>⟨o,kp b o n e⟩) (fun _ _ e=>e) (fun _ _ _ e=>e) (fun b ps e=>⟨#[],by rw[e];simp⟩) (fun m hm=>?_) (fun b u e=>?_) I.bare
 · obtain⟨_,a2,_,a4,a5,a6⟩:=fp b m
   exact⟨a4,a2,a5,a6⟩
 · obtain⟨o,es,ep,ho,r⟩:=hm
   exact⟨o,es,ep,kp _ o (fun m=>(fp _ m).2.1 rfl) ho,r⟩
 · refine(I.bu b u e).rJ (fun c v hc q=>kp c v ?_ q) (fun _ q=>q) fun _ _ q=>q
   rcases hc with z | z
   · rw[z];exact away b u e
   · exact away c _ z
theorem qe{turned:List Addr}{t':Nat}{p:Addr}{vs:List V}(I:Inv X pins σ H s)(kp: ∀ b o,b ∉ turned->s.heap.get? b=some o->h'.get? b=some o)(fp: ∀ b∈turned,mz X pins H b)(hp:s.heap.objs.size<=p)
  (new:bb X.prog X.w (upd H p (.tup vs)) h' p (.tup vs)):Inv X pins σ (upd H p (.tup vs)) { s with heap:=h',toks:=t' }:=by
 have hn:H p=none:=I.bu.fresh hp
 have away: ∀ b u,H b=some u->b ∉ turned:=fun b u e m=>by
  have:=(fp b m).1
  rw[e] at this;exact nomatch this
 have old: ∀ b o,s.heap.get? b=some o->b≠p:=fun b o e z=>absurd (Nat.lt_of_lt_of_le (Heap.lt_size e) (z ▸ hp)) (Nat.lt_irrefl _)
 refine I.step (g':=s.gens) (d':=s.drawn) (ch:=turned) (fun b m=>?_) (fun b o _ _ n e _=>kp b o n e) (fun b o _ _ n e _=>⟨o.slots,kp b o n e⟩) (fun b o _ e n=>by rw[aA (old b o e)];exact n) (fun b o n e=>⟨o,kp b o n e⟩)
  (fun b xs e=>by rw[aA (aB e hn)];exact e) (fun b o u e=>by rw[aA (aB e hn)];exact e) (fun b ps e=>⟨#[],by rw[aA (aB e hn),e];simp⟩) (fun m hm=>?_) (fun b u e=>?_) I.bare
 · obtain⟨_,a2,_,a4,a5,a6⟩:=fp b m
   exact⟨a4,a2,a5,a6⟩
 · obtain⟨o,es,ep,ho,r⟩:=hm
   exact⟨o,es,ep,kp _ o (fun m=>(fp _ m).2.1 rfl) ho,r⟩
 · by_cases hb:b=p
   · subst hb;rw[a8] at e;cases e;exact new
   · rw[aA hb] at e
     refine(I.bu b u e).rJ (fun c v hc q=>kp c v ?_ q) (fun c q=>by rw[aA (aB q hn)];exact q) fun c xs q=>by rw[aA (aB q hn)];exact q
     rcases hc with z | z
     · rw[z];exact away b u e
     · exact away c _ z
end
noncomputable def O0(K : PySem.W.Frag)(a1 a2 : Addr) : It :=
  ⟨fun i H => ∃ xs ys x y, eY K H a1 xs /\ eY K H a2 ys /\ xs[i]? = some x /\ ys[i]? = some y,
   fun i H v H' => ∃ p x y, H p = none /\ v = .ref p /\ H' = upd H p (.tup [x, y]) /\ (∀ xs, eY K H a1 xs -> xs[i]? = some x) /\ ∀ ys, eY K H a2 ys -> ys[i]? = some y,
   fun i H => ∃ xs ys, eY K H a1 xs /\ eY K H a2 ys /\ (xs.length <= i \/ ys.length <= i)⟩
theorem yd{h h':Heap}{z TI TO i1 i2 l1 l2:Addr}{k:Nat}(Z:tQ h z TI TO i1 i2 l1 l2 k)(kp: ∀ b∈[z,TI,TO,i1,i2],∀ o,h.get? b=some o->h'.get? b=some o):tQ h' z TI TO i1 i2 l1 l2 k:=by
 obtain⟨a,b,⟨u,v,c⟩,⟨o1,d1,d2⟩,⟨o2,e1,e2⟩⟩:=Z
 exact⟨kp _ (by simp) _ a,kp _ (by simp) _ b,⟨u,v,kp _ (by simp) _ c⟩,⟨o1,kp _ (by simp) _ d1,d2⟩,⟨o2,kp _ (by simp) _ e1,e2⟩⟩
theorem BK{P:Program}{w:World}{K:PySem.W.Frag}{els:List Expr}{j:Nat}{pos:Pos}{z TI TO i1 i2 a1 a2:Addr}(D:ZipApart z TI TO i1 i2 a1 a2) :
  Turn P w K (.Tuple els j pos) (O0 K a1 a2) [z,TI,TO,i1,i2] z (fun i h=>tQ h z TI TO i1 i2 a1 a2 i) where
 mem:=by simp
 obj:=fun i h Z b hb=>by
  obtain⟨e1,e2,⟨u,v,e3⟩,⟨o4,e4,_,d4⟩,⟨o5,e5,_,d5⟩⟩:=Z
  simp only[List.not_mem_nil,or_false,List.mem_cons] at hb
  rcases hb with rfl | rfl | rfl | rfl | rfl
  · exact⟨_,e1,fun v q=>nomatch q⟩
  · exact⟨_,e2,fun v q=>nomatch q⟩
  · exact⟨_,e3,fun v q=>nomatch q⟩
  · exact⟨_,e4,fun v q=>by rw[d4] at q;exact nomatch q⟩
  · exact⟨_,e5,fun v q=>by rw[d5] at q;exact nomatch q⟩
 keep:=fun i h h' Z kp=>yd Z kp
 item:=by
  intro X hP hw hK hc i pins s σ H E I hf Z hg
  subst hP hw hK
  obtain⟨xs,ys,x,y,s1,s2,ex,ey⟩:=hg
  obtain⟨us,ru,pu,_⟩:=I.tuple s1
  obtain⟨ws,rw',pw,_⟩:=I.tuple s2
  obtain⟨ux,eu,rx⟩:=ru.get ex
  obtain⟨uy,ew,ry⟩:=rw'.get ey
  refine oP D Z pu pw (by simpa using eu) (by simpa using ew) fun h1 f1 f2 f3 f4 f5 f6 f7=>⟨_,rfl,?_⟩
  refine wpAny_letOwnedTupleGo_zip (s:={ s with heap:=h1 }) f1 fun h2 g1 g2=>?_
  have ex1:=g2.extBut
  have zlt:z < s.heap.objs.size:=Heap.lt_size Z.xB
  have pz:s.heap.objs.size≠z:=Nat.ne_of_gt zlt
  have new:IsPair h2 s.heap.objs.size ux uy:=ex1 _ _ pz f6
  have hn:H s.heap.objs.size=none:=I.bu.fresh (Nat.le_refl _)
  have I2:Inv X pins σ (upd H s.heap.objs.size (.tup [x,y])) { s with heap:=h2,toks:=s.toks }:=by
   refine qe (turned:=[z,TO,i1,i2]) I (fun b o nb e=>?_) (fun b hb=>hf b ?_) (Nat.le_refl _) ?_
   · simp only[List.mem_cons,List.not_mem_nil,or_false,not_or] at nb
     exact ex1 _ _ nb.1 (f7 b o nb.1 nb.2.1 nb.2.2.1 nb.2.2.2 e)
   · simp only[List.mem_cons,List.not_mem_nil,or_false] at hb ⊢
     rcases hb with rfl | rfl | rfl | rfl<;>simp
   · exact⟨by show 2<=sizeLine;decide,[ux,uy],.cons rx (.cons ry .nil),_,new,rfl,_,rfl,rfl⟩
  refine⟨.ref s.heap.objs.size,upd H s.heap.objs.size (.tup [x,y]),I2,rfl,⟨_,x,y,hn,rfl,rfl,fun xs' q=>?_,fun ys' q=>?_⟩,?_,fun b hb=>?_⟩
  · rw[I.iQ q s1];exact ex
  · rw[I.iQ q s2];exact ey
  · obtain⟨o4,e4,c4⟩:=f4
    obtain⟨o5,e5,c5⟩:=f5
    exact⟨g1,ex1 _ _ D.TIz f2,⟨_,_,ex1 _ _ D.TOz f3⟩,⟨o4,ex1 _ _ D.i1z e4,c4⟩,⟨o5,ex1 _ _ D.i2z e5,c5⟩⟩
  · have hb0:=(hf b hb).1
    have: ∃ o,s.heap.get? b=some o:=by
     obtain⟨e1,e2,⟨u,v,e3⟩,⟨o4,e4,_⟩,⟨o5,e5,_⟩⟩:=Z
     simp only[List.not_mem_nil,or_false,List.mem_cons] at hb
     rcases hb with rfl | rfl | rfl | rfl | rfl
     · exact⟨_,e1⟩
     · exact⟨_,e2⟩
     · exact⟨_,e3⟩
     · exact⟨_,e4⟩
     · exact⟨_,e5⟩
    obtain⟨o,eo⟩:=this
    rw[aA (Nat.ne_of_lt (Heap.lt_size eo))]
    exact hb0
 done:=by
  intro X hP hw hK hc i pins s σ H E I hf Z hg
  subst hP hw hK
  obtain⟨xs,ys,s1,s2,he⟩:=hg
  obtain⟨us,ru,pu,_⟩:=I.tuple s1
  obtain⟨ws,rw',pw,_⟩:=I.tuple s2
  refine pM (I.ok.hd hc) D Z pu pw ?_ fun h1 kp=>⟨rfl,AH (turned:=[z,TO,i1,i2]) (t':=s.toks) I (fun b o nb e=>?_) fun b hb=>hf b ?_⟩
  · have l1:=ru.length
    have l2:=rw'.length
    rcases he with he | he
    · exact .inl (by simp;omega)
    · exact .inr (by simp;omega)
  · simp only[List.mem_cons,List.not_mem_nil,or_false,not_or] at nb
    exact kp b o nb.1 nb.2.1 nb.2.2.1 nb.2.2.2 e
  · simp only[List.mem_cons,List.not_mem_nil,or_false] at hb ⊢
    rcases hb with rfl | rfl | rfl | rfl<;>simp
 self:=fun A i s Q E Z h=>wpAny_pyIter_zip Z.xB h
abbrev tI(a:Addr):Obj:={ cls:= .type "tuple_iterator",data:= .fields #[.ref a,.int 0 0] }
abbrev NJ(h:Heap)(a b:Addr):Heap :=
 Heap.push (Heap.push (Heap.push (Heap.push (Heap.push h (tI a)) (tI b)) { cls:= .type "tuple",data:= .seq #[.ref h.objs.size,.ref (h.objs.size+1)] }) { cls:= .type "tuple",data:= .seq #[.none,.none] })
  { cls:= .type "zip",data:= .fields #[.none,.bool false,.bool false,.ref (h.objs.size+2),.ref (h.objs.size+3)] }
theorem qD(a b:Addr)(us ws:Array Value):Meets (Builtin.«zip.__new__» ⟨[.type "zip",.ref a,.ref b],[]⟩) (fun _ R u=>u.heap.IsTuple a us/\u.heap.IsTuple b ws/\R (.ok (.ret (.ref (u.heap.objs.size+4)))) { u with heap:=NJ u.heap a b }) :=
 .of_wp fun prog w A R u hu=>by
  obtain⟨hp,gg,dd,tk,os⟩:=u
  obtain⟨ha,hb,hr⟩:=hu
  have sub:=sub_zip
  have fa:Heap.IsTuple (Shared.heap ⟨hp,gg,dd,tk,os⟩) a us:=ha
  have fb:Heap.IsTuple (Shared.heap ⟨hp.push (tI a),gg,dd,tk,os⟩) b ws:=let ⟨o,e,c⟩:=hb;⟨o,Heap.get?_push_of_some _ e,c⟩
  wp_walk using wpAny_pyIter_tuple fa,wpAny_pyIter_tuple fb
  refine⟨_,rfl,?_⟩
  simp only[Heap.size_push]
  exact hr
section
variable{X:Cx}{pg:Tb}{k:Nat}{a b:Expr}{ma mb:ME}{p pos:Pos}{els:List Expr}{j:Nat}{tpos:Pos}
theorem Hk(h:Heap)(l1 l2:Addr):tQ (NJ h l1 l2) (h.objs.size+4) (h.objs.size+2) (h.objs.size+3) h.objs.size (h.objs.size+1) l1 l2 0/\(NJ h l1 l2).objs.size=h.objs.size+5:=by
 have n1:(Heap.push h (tI l1)).objs.size=h.objs.size+1:=Heap.size_push ..
 have n2:(Heap.push (Heap.push h (tI l1)) (tI l2)).objs.size=h.objs.size+2:=by rw[Heap.size_push,n1]
 have n3:(Heap.push (Heap.push (Heap.push h (tI l1)) (tI l2)) { cls:= .type "tuple",data:= .seq #[.ref h.objs.size,.ref (h.objs.size+1)] }).objs.size=h.objs.size+3:=by rw[Heap.size_push,n2]
 have n4:(Heap.push (Heap.push (Heap.push (Heap.push h (tI l1)) (tI l2)) { cls:= .type "tuple",data:= .seq #[.ref h.objs.size,.ref (h.objs.size+1)] }) { cls:= .type "tuple",data:= .seq #[.none,.none] }).objs.size=h.objs.size+4:=by rw[Heap.size_push,n3]
 refine⟨⟨?_,?_,⟨.none,.none,?_⟩,⟨tI l1,?_,rfl,rfl⟩,⟨tI l2,?_,rfl,rfl⟩⟩,by rw[Heap.size_push,n4]⟩
 · rw[<- n4];exact Heap.get?_push_size _ rfl
 · refine Heap.get?_push_of_some _ (Heap.get?_push_of_some _ ?_)
   rw[<- n2];exact Heap.get?_push_size _ rfl
 · refine Heap.get?_push_of_some _ ?_
   rw[<- n3];exact Heap.get?_push_size _ rfl
 · exact Heap.get?_push_of_some _ (Heap.get?_push_of_some _ (Heap.get?_push_of_some _ (Heap.get?_push_of_some _ (Heap.get?_push_size _ rfl))))
 · refine Heap.get?_push_of_some _ (Heap.get?_push_of_some _ (Heap.get?_push_of_some _ ?_))
   rw[<- n1];exact Heap.get?_push_size _ rfl
noncomputable def K8(K:PySem.W.Frag)(ta:TA):TI:=fun σ H R=>ta σ H fun vs H1=> ∃ a1 a2 xs ys,vs=[.ref a1,.ref a2]/\eY K H1 a1 xs/\eY K H1 a2 ys/\R (O0 K a1 a2) H1
theorem HD{ta:TA}(hg:Gl X "zip")(hm:X.mg "zip" =none)(ha:PA X [a,b] ta)(hs:starEach [a,b] X.env=[(false,eval a X.env),(false,eval b X.env)])(hs2:starEach [b] X.env=[(false,eval b X.env)]) :
  PI X (.Tuple els j tpos) (.Call (.Name "zip" p) [a,b] [] pos) (K8 X.K ta):=by
 intro pins s σ H R I h
 refine Call_ (lq I hg hm boot_zip (PyProof.Rows.callWith_type1 (cD (ha pos pins s σ H _ I h) fun us s1 ⟨vs,H1,I1,r1,a1,a2,xs,ys,e,q1,q2,q⟩=>?_) (by rw[hs,hs2]) (by rw[hs2];rfl)))
 subst e
 cases r1 with
 | cons ra rr =>
  cases rr with
  | cons rb rr =>
   cases rr
   cases ra
   cases rb
   obtain⟨u1,_,p1,_⟩:=I1.tuple q1
   obtain⟨u2,_,p2,_⟩:=I1.tuple q2
   refine callType_new F.called_zip (by decide) (F.typeCall_zip_2 _ _) (F.newCall_zip_2 _ _) (fun obj=>F.args_object_init_3 obj _ _) F.entry_zip_new (qD a1 a2 u1.toArray u2.toArray) ⟨p1,p2,?_⟩
   obtain⟨Z,zs⟩:=Hk s1.heap a1 a2
   have lt1:a1 < s1.heap.objs.size:=let ⟨_,e,_⟩:=p1;Heap.lt_size e
   have lt2:a2 < s1.heap.objs.size:=let ⟨_,e,_⟩:=p2;Heap.lt_size e
   refine⟨⟨_,Z.xB,rfl⟩,wpAny_pyIter_zip Z.xB ?_⟩
   have kp: ∀ c o,s1.heap.get? c=some o->(NJ s1.heap a1 a2).get? c=some o:=fun c o e=>Heap.get?_push_of_some _ (Heap.get?_push_of_some _ (Heap.get?_push_of_some _ (Heap.get?_push_of_some _ (Heap.get?_push_of_some _ e))))
   refine⟨s1.heap.objs.size+4,[s1.heap.objs.size+4,s1.heap.objs.size+2,s1.heap.objs.size+3,s1.heap.objs.size,s1.heap.objs.size+1],_,_,H1,rfl,I1.kept (t':=s1.toks) kp,BK (zipApart_new lt1 lt2),Z,fun c hc=>?_,q⟩
   have hle:s1.heap.objs.size<=c:=by
    simp only[List.mem_cons,List.not_mem_nil,or_false] at hc
    rcases hc with rfl | rfl | rfl | rfl | rfl<;>omega
   exact I1.EJ hle (I1.bu.fresh hle)
noncomputable def Kt(a b:ME):MI:=fun c e h=>(a c e h).bind fun x h1=>(b c e h1).bind fun y h2=>match x.seq?,y.seq? with
 | some xs,some ys=> .ok ⟨none,(xs.zip ys).map fun p=> .tup [p.1,p.2]⟩ h2
 | _,_=> .no
theorem HI(hg:Gl X "zip")(ha:JE X pg k a ma)(hb:JE X pg k b mb)(hs1:noStar a=true:=by rfl)(hs2:noStar b=true:=by rfl):JI X pg k (.Tuple els j tpos) (.Call (.Name "zip" p) [a,b] [] pos) (Kt ma mb):=⟨fun A =>
 let ⟨_,q1,s1⟩:=ha.h A;let ⟨_,q2,s2⟩:=hb.h A
 ⟨_,⟨HD hg (A.blt _ (by decide +kernel)) (qk q1 (qk q2 uK hs2) hs1).h (by rw[ck hs1,ck hs2];rfl) (by rw[ck hs2];rfl)⟩,fun ρ h H e σ R it h' s r q P=>by
 obtain⟨x,h1,e1,q⟩:=bind_eq.mp q
 obtain⟨y,h2,e2,q⟩:=bind_eq.mp q
 refine s1 ρ h H e σ _ x h1 s r e1 fun x' ρ1 H1 g1 z1 r1=>?_
 refine s2 ρ1 h1 H1 e σ _ y h2 z1 (r.gr g1) e2 fun y' ρ2 H2 g2 z2 r2=>?_
 split at q
 · rename_i xs ys ex ey
   cases q
   obtain⟨a1,us,rfl,t1,d1⟩:=rel.seq ex (rel.gr g2 _ _ r1)
   obtain⟨a2,ws,rfl,t2,d2⟩:=rel.seq ey r2
   refine⟨a1,a2,us,ws,rfl,t1,t2,P ρ2 H2 _ (g1.trans g2) z2 fun i ρ3 h3 H3 g s3 _=>⟨fun v ev=>?_,fun ei=>?_⟩⟩
   · rw[List.getElem?_map] at ev
     cases ez:(xs.zip ys)[i]? with
     | none=>rw[ez] at ev;exact nomatch ev
     | some pr =>
      rw[ez] at ev
      cases ev
      obtain⟨zx,zy⟩:=List.getElem?_zip_eq_some.mp ez
      obtain⟨u,f1,f2⟩:=(ar.gr g _ _ d1).get zx
      obtain⟨w,f3,f4⟩:=(ar.gr g _ _ d2).get zy
      refine⟨⟨us,ws,u,w,g.B5 t1,g.B5 t2,f1,f3⟩,?_⟩
      rintro v' H' ⟨p,u',w',hp,rfl,rfl,k1,k2⟩
      have:=k1 us (g.B5 t1)
      rw[f1] at this;cases this
      have:=k2 ws (g.B5 t2)
      rw[f3] at this;cases this
      have gn:Gr ρ3 H3 ρ3 (upd H3 p (.tup [u,w])):=Gr.uU hp
      refine⟨ρ3,gn,s3.tup hp,?_⟩
      rw[rel]
      exact⟨p,_,rfl,a8,aC.mpr ⟨_,_,rfl,rel.gr gn _ _ f2,ar.one (rel.gr gn _ _ f4)⟩⟩
   · refine⟨us,ws,g.B5 t1,g.B5 t2,?_⟩
     have:i=min xs.length ys.length:=by simpa using ei
     rw[<- d1.len,<- d2.len]
     omega
 · exact nomatch q⟩⟩
end
end P3
end
section
open PySem PySem.W PyProof.Rows
namespace P3
open PySem PySem.Spec PyProof.Rows L2
structure aH(P:Program)(w:World)(K:PySem.W.Frag)(mg:Str->Option Value)(pg:Tb)(f:String)(d:Df)(st:Stmt)(N:List Str):Prop where
 at_:At K mg (Str.ofString f) st
 sc:au N d.ps (ai st)
 len:N.length=d.ps.length+d.nl
 bd: ∀(kV doc pm:Value)(an:Option Addr)(cdv ct:Value)(us:List Value),us.length=d.ps.length->bindArgs (PySem.W.fnOf (Str.ofString f) (Str.ofString f) (cO st) (bx st) (ai st) .none kV doc pm an cdv ct) ⟨us,[]⟩=pure (d.ps.zip us)
 body: ∀(base:Heap)(fa:Addr)(cdv:Value)(A:Around)(outer:List Env)(s:Shared)(H:Hp)(E:XK)(k:Nat),xC (jG si P w K mg base N (Str.ofString f) (ai st) fa cdv A outer s H E).pL pg k (bx st) d.body
section
variable{P:Program}{w:World}{K:PySem.W.Frag}{mg:Str->Option Value}{pg:Tb}
theorem aH.of{f:String}{d:Df}(b:MS){st:Stmt}{N:List Str}(e:d.body=b)(a:At K mg (Str.ofString f) st)(S:au N d.ps (ai st))(hl:N.length=d.ps.length+d.nl)
  (hb: ∀(kV doc pm:Value)(an:Option Addr)(cdv ct:Value)(us:List Value),us.length=d.ps.length->bindArgs (PySem.W.fnOf (Str.ofString f) (Str.ofString f) (cO st) (bx st) (ai st) .none kV doc pm an cdv ct) ⟨us,[]⟩=pure (d.ps.zip us))
  (h: ∀(base:Heap)(fa:Addr)(cdv:Value)(A:Around)(outer:List Env)(s:Shared)(H:Hp)(E:XK)(k:Nat),xC (jG si P w K mg base N (Str.ofString f) (ai st) fa cdv A outer s H E).pL pg k (bx st) b):aH P w K mg pg f d st N :=
 ⟨a,S,hl,hb,by rw[e];exact h⟩
theorem aH.good{base:Heap}{f:String}{d:Df}{st:Stmt}{N:List Str}(g:aH P w K mg pg f d st N):iZ P w K mg base pg f d:=⟨st,N,g.at_,g.sc,g.len,g.bd,g.body base⟩
theorem zL{fH:List (String × Df)}(hf:pg.fns=fun f=>(fH.find? fun p=>p.1 == f).map (·.2))(h: ∀ p∈fH,∃ st N,aH P w K mg pg p.1 p.2 st N)(base:Heap): ∀ f d,pg.fns f=some d->iZ P w K mg base pg f d:=fun f d e=>by
 rw[hf] at e;dsimp only at e
 cases q:fH.find? fun p=>p.1 == f with
 | none=>rw[q] at e;exact nomatch e
 | some p =>
  rw[q] at e
  cases e
  obtain⟨st,N,g⟩:=h p (List.mem_of_find?_eq_some q)
  have:p.1=f:=by simpa using List.find?_some q
  rw[<- this]
  exact g.good
theorem Iz{k : Nat}{d : Df}{st : Stmt}{N : List Str}{fa : Addr}{x : Str}(T : Top P w K mg pg)(G : ∀ base f d, pg.fns f = some d -> iZ P w K mg base pg f d)(hf : pg.fns "law" = some d)(hx : d.ps = [x])(g : aH P w K mg pg "law" d st N)(hfa : mg "law" = some (.ref fa)) :
    ∃ fd : FuncData, (∀(s : Shared)(v : Value), BindsTo s fd ⟨[v], []⟩ [(x, v)]) /\ ∀ base : Heap, K.In base -> base.Ns mainGlobals mg -> iD P w K mg base si (k + 1) fa fd [x] (uA K pg (k + 1) "law") := by
  obtain⟨f, fd, F, hm⟩ := g.at_
  have e := hfa.symm.trans hm
  cases e
  refine⟨fd, fun s v => .of_eq ?_, fun base _ _ => ?_⟩
  · have := yz.args F g.bd [v] (by rw[hx]; rfl)
    rw[this, hx]; rfl
  · have key : ∀{args : List PV}{h h' : PH}{v : PV}, run pg (k + 1) "law" args h = .ok v h' -> args.length = d.ps.length /\
        ((∃ w h2, d.body (run pg k) (args.map some ++ List.replicate d.nl none) h = .ok (.rt w) h2 /\ settle h w h2 = .ok v h') \/
         (∃ e h2, d.body (run pg k) (args.map some ++ List.replicate d.nl none) h = .ok (.nx e) h2 /\ settle h .non h2 = .ok v h')) := fun {args h h' v} q => by
      rw[run, hf] at q
      simp only at q
      split at q
      · rename_i hn
        refine⟨hn, ?_⟩
        split at q
        · rename_i w h2 e; exact .inl ⟨w, h2, e, q⟩
        · rename_i e' h2 e; exact .inr ⟨e', h2, e, q⟩
        · exact nomatch q
        · exact nomatch q
        · exact nomatch q
      · exact nomatch q
    have S := g.sc
    rw[hx] at S
    refine yz.N2 F S (fun vs H Q E ⟨ρ, h, args, v, h', _, r, q, _⟩ => by rw[<- r.len, (key q).1, hx]) ?_
    rintro fa cdv A outer s H vs Q E hr ⟨ρ, h, args, v, h', sm, r, q, post⟩
    have amb : de (jG si P w K mg base N (Str.ofString "law") (ai st) fa cdv A outer s H E).pL pg k := ⟨hr, rfl, fun _ _ z => z, Bh T (G base) k, T.blt, T.con, T.yB⟩
    obtain⟨t, qt, st'⟩ := (g.body base fa cdv A outer s H E k).h amb
    refine⟨t, qt, ?_⟩
    obtain⟨hn, q⟩ := key q
    have he : L2.start N vs = vs.map some ++ List.replicate d.nl none := by
      unfold L2.start
      rw[g.len, <- r.len, hn, Nat.add_sub_cancel_left]
    rw[he]
    rcases q with⟨w, h2, e, q⟩ | ⟨e', h2, e, q⟩
    · exact st' ρ h H _ _ _ _ h2 sm (gX r _) e (fZ sm q post)
    · exact st' ρ h H _ _ _ _ h2 sm (gX r _) e fun σ' ρ' H' g s' _ => fZ sm q post .non ρ' H' g s' (by rw[rel])
end
theorem HH{K:PySem.W.Frag}{pg:Tb}{k:Nat}{E:XK}(hl: ∀ ns:List Int,ns.length<=63->Ok (run pg k "law" [.ref 0] [.kM (ns.map PV.int)]) fun v _=>v= .bl true)(H:Hp)(a:Addr)(ns:List Int)(hn:ns.length<=63)(o:Ad H)(q:gA K H a (ns.map V.int)) :
  uA K pg k "law" [.ref a] H (fun v _=>v= .bl true) E:=by
 obtain⟨v,h',e,rfl⟩:=hl ns hn
 refine⟨[a],_,[.ref 0],_,h',⟨rfl,fun i j b oi oj ei ej mi mj _ _=>?_,fun i ob b ei eb=>?_⟩,ar.one (by rw[rel];exact⟨a,rfl,rfl⟩),e,fun v' ρ' H' g s r=>by rw[rel] at r;exact r⟩
 · cases i with
   | zero=>simp at ei;subst ei;exact nomatch mi
   | succ i=>simp at ei
 · cases i with
   | zero =>
    simp at ei eb
    subst ei eb
    exact⟨_,Ka o q,ar.ints ns⟩
   | succ i=>simp at ei
section
variable{P:Program}{w:World}{K:PySem.W.Frag}{mg:Str->Option Value}{pg:Tb}
theorem Dj{conT:List (Str × PV)}(hc:pg.con=fun x=>(conT.find? fun p=>decide (p.1=x)).map (·.2))(h: ∀ p∈conT,∃ u v',mg p.1=some u/\RelV v' u/\ ∀ ρ H,rel K ρ H p.2 v'): ∀ x v,pg.con x=some v-> ∃ u v',mg x=some u/\RelV v' u/\ ∀ ρ H,rel K ρ H v v':=fun x v e=>by
 rw[hc] at e;dsimp only at e
 cases q:conT.find? fun p=>decide (p.1=x) with
 | none=>rw[q] at e;exact nomatch e
 | some p =>
  rw[q] at e
  cases e
  have:p.1=x:=by simpa using List.find?_some q
  rw[<- this]
  exact h p (List.mem_of_find?_eq_some q)
theorem D5{dcT:List (Str × List (Key × PV))}(hc:pg.yB=fun x=>(dcT.find? fun p=>decide (p.1=x)).map (·.2))(h: ∀ p∈dcT,∃ a kws,mg p.1=some (.ref a)/\KD P w K a kws/\ ∀ ρ H,RK K ρ H p.2 kws) :
  ∀ x kvs,pg.yB x=some kvs-> ∃ a kws,mg x=some (.ref a)/\KD P w K a kws/\ ∀ ρ H,Paired (fun (p:Key × PV) (q:Key × V)=>p.1=q.1/\rel K ρ H p.2 q.2) kvs kws:=fun x v e=>by
 rw[hc] at e;dsimp only at e
 cases q:dcT.find? fun p=>decide (p.1=x) with
 | none=>rw[q] at e;exact nomatch e
 | some p =>
  rw[q] at e
  cases e
  have:p.1=x:=by simpa using List.find?_some q
  rw[<- this]
  exact h p (List.mem_of_find?_eq_some q)
inductive CV:PV->Value->Prop where
 | int (i:Int) (t:Tok):CV (.int i) (.int i t)
 | str (x:Str) (t:Tok):CV (.str x) (.str x t)
theorem CV.v{x:PV}{u:Value}(c:CV x u): ∃ v,RelV v u/\ ∀ ρ H,rel K ρ H x v:=by
 cases c with
 | int i t=>exact⟨.int i,⟨t,rfl⟩,fun _ _=>by rw[rel]⟩
 | str z t=>exact⟨.str z,⟨t,rfl⟩,fun _ _=>by rw[rel]⟩
theorem O4.v: ∀{xs:List PV}{us:List Value},Paired CV xs us-> ∃ vs,Vals vs us/\ ∀ ρ H,ar K ρ H xs vs
 | _,_,.nil=>⟨[],.nil,fun _ _=>aO.mpr rfl⟩
 | _,_,.cons c t=>let ⟨v,a,b⟩:=CV.v c;let ⟨vs,d,e⟩:=O4.v t;⟨v::vs,.cons a d,fun ρ H=>aC.mpr ⟨v,vs,rfl,b ρ H,e ρ H⟩⟩
theorem tF{a:Addr}{d:Option Addr}{us:List Value}{n:Nat}{sl:Array (Option Value)}{xs:List PV}(hl:K.lookup a=some ⟨.type "tuple",d,.seq us.toArray n,sl⟩)(hz:us.length<=sizeLine)(h:Paired CV xs us)(ρ :List Addr)(H:Hp):rel K ρ H (.ktup xs) (.ref a):=by
 obtain⟨vs,r,q⟩:=O4.v (K:=K) h
 rw[rel]
 exact⟨a,vs,rfl,⟨_,us.toArray,n,hl,rfl,rfl,by simpa using hz,by simpa using r⟩,q ρ H⟩
theorem uV{x:Str}{v:PV}{u:Value}(hm:mg x=some u)(c:CV v u): ∃ u v',mg x=some u/\RelV v' u/\ ∀ ρ H,rel K ρ H v v':=let ⟨v',a,b⟩:=CV.v (K:=K) c;⟨u,v',hm,a,b⟩
theorem Cz{x:Str}{a:Addr}{d:Option Addr}{us:List Value}{n:Nat}{sl:Array (Option Value)}{xs:List PV}(hm:mg x=some (.ref a))(hl:K.lookup a=some ⟨.type "tuple",d,.seq us.toArray n,sl⟩)(hz:us.length<=sizeLine)(h:Paired CV xs us) :
  ∃ u v',mg x=some u/\RelV v' u/\ ∀ ρ H,rel K ρ H (.ktup xs) v':=⟨_,.ref a,hm,rfl,tF hl hz h⟩
noncomputable def DV(K:PySem.W.Frag)(x:PV)(u:Value):Prop:= ∃ v,RelV v u/\ ∀ ρ H,rel K ρ H x v
theorem eG{a:Addr}{d:Option Addr}{us:List Value}{n:Nat}{sl:Array (Option Value)}{xs:List PV}(hl:K.lookup a=some ⟨.type "tuple",d,.seq us.toArray n,sl⟩)(hz:us.length<=sizeLine)(h:Paired CV xs us):DV K (.ktup xs) (.ref a):=⟨.ref a,rfl,tF hl hz h⟩
theorem B1{ls:List (Str × Tok × Value)}{kvs:List (Key × PV)}(h:Paired (fun (p:Key × PV) (l:Str × Tok × Value)=>p.1= .inr l.1/\DV K p.2 l.2.2) kvs ls): ∃ kws,KV kws (ls.map fun p=>((Sum.inr p.1:Key),p.2.2))/\ ∀ ρ H,RK K ρ H kvs kws:=by
 induction h with
 | nil=>exact⟨[],.nil,fun _ _=> .nil⟩
 | @cons p l ps qs a t ih =>
  obtain⟨kws,r,q⟩:=ih
  obtain⟨e,v,r1,r2⟩:=a
  exact⟨(.inr l.1,v)::kws,.cons ⟨rfl,r1⟩ r,fun ρ H=> .cons ⟨e,r2 ρ H⟩ (q ρ H)⟩
theorem IP{x:Str}{a:Addr}{ls:List (Str × Tok × Value)}{kvs:List (Key × PV)}{ep:Nat}(hm:mg x=some (.ref a))(hl:K.lookup a=some { cls:= .type "dict",data:= .dict (ls.map (CS w)).toArray ep })(ha:(a == sysModules)=false)(hn:(ls.map fun p=>(Sum.inr p.1:Key)).Nodup)
  (h:Paired (fun (p:Key × PV) (l:Str × Tok × Value)=>p.1= .inr l.1/\DV K p.2 l.2.2) kvs ls): ∃ a kws,mg x=some (.ref a)/\KD P w K a kws/\ ∀ ρ H,RK K ρ H kvs kws:=by
 obtain⟨kws,r,q⟩:=B1 h
 exact⟨a,kws,hm,Le hl ha hn r,q⟩
end
end P3
end
section
open PySem PySem.W PyProof.Rows
namespace P3
open PySem PySem.Spec PyProof.Rows L2
abbrev F6(ay:List Value)(n:Nat)(dd:Option Addr)(sl:Array (Option Value)):Obj:={ cls:= .type "tuple",dict:=dd,data:= .seq ay.toArray n,slots:=sl }
theorem uW{k:Int}(h1: -(2 ^ 63)<=k)(h2:k < 2 ^ 63): ¬ (decide (k < -(2 ^ 63))||decide (k ≥ 2 ^ 63))=true:=by
 simp only[Bool.or_eq_true,decide_eq_true_eq];omega
theorem uF(l:Addr)(ay:List Value)(n:Nat)(k:Int)(u:Tok)(dd:Option Addr)(sl:Array (Option Value))(h1: -(2 ^ 63)<=k)(h2:k < 2 ^ 63)(hs:(ay.toArray.isEmpty||k == 1)=true) :
  Meets (Builtin.«tuple.__mul__» ⟨[.ref l,.int k u],[]⟩) (fun _ R s=>s.heap.get? l=some (F6 ay n dd sl)/\R (.ok (.ret (.ref l))) s) :=
 .of_wp fun prog w A R s h=>by
  obtain⟨hp,g,d,tk,os⟩:=s;obtain⟨hl,h⟩:=h;have f1:=AutoSeq1.idx_int
  wp_walk using AutoSeq1.wpAny_loadPart' hl,wpAny_load hl
  refine wpAny_ite_split (fun z=>absurd z (uW h1 h2)) (fun _=>?_)
  wp_walk using AutoSeq1.wpAny_loadPart' hl,wpAny_load hl
  refine wpAny_ite_split (fun _=>?_) (fun z=>absurd hs z)
  wp_walk using AutoSeq1.wpAny_loadPart' hl,wpAny_load hl
  exact⟨_,rfl,h⟩
theorem uP(l:Addr)(ay:List Value)(n:Nat)(k:Int)(u:Tok)(dd:Option Addr)(sl:Array (Option Value))(h1: -(2 ^ 63)<=k)(h2:k<=0)(hs: ¬ (ay.toArray.isEmpty||k == 1)=true) :
  Meets (Builtin.«tuple.__mul__» ⟨[.ref l,.int k u],[]⟩) (fun _ R s=>s.heap.get? l=some (F6 ay n dd sl)/\R (.ok (.ret (.ref s.heap.objs.size))) { s with heap:=s.heap.push { cls:= .type "tuple",data:= .seq #[] } }) :=
 .of_wp fun prog w A R s h=>by
  obtain⟨hp,g,d,tk,os⟩:=s;obtain⟨hl,h⟩:=h;have f1:=AutoSeq1.idx_int
  have hz:(decide (k<=0)||ay.toArray.isEmpty)=true:=by simp[h2]
  wp_walk using AutoSeq1.wpAny_loadPart' hl,wpAny_load hl
  refine wpAny_ite_split (fun z=>absurd z (uW h1 (by omega))) (fun _=>?_)
  wp_walk using AutoSeq1.wpAny_loadPart' hl,wpAny_load hl
  refine wpAny_ite_split (fun z=>absurd z hs) (fun _=>?_)
  refine wpAny_ite_split (fun _=>?_) (fun z=>absurd hz z)
  exact wpAny_bind (m:=Builtin.Tuple.tupleExact _) (wpAny_newObj_type (wpAny_pure ⟨_,rfl,h⟩) (by size_fits))
theorem vS(l:Addr)(ay:List Value)(n:Nat)(k:Int)(u:Tok)(dd:Option Addr)(sl:Array (Option Value))(h1:0 < k)(h2:(ay.length:Int)*k<=100000)(hk:k<=100000)(hs: ¬ (ay.toArray.isEmpty||k == 1)=true) :
  Meets (Builtin.«tuple.__mul__» ⟨[.ref l,.int k u],[]⟩) (fun _ R s=>s.heap.get? l=some (F6 ay n dd sl)/\R (.ok (.ret (.ref s.heap.objs.size))) { s with heap:=s.heap.push { cls:= .type "tuple",data:= .seq (List.replicate k.toNat ay).flatten.toArray } }) :=
 .of_wp fun prog w A R s h=>by
  obtain⟨hp,g,d,tk,os⟩:=s;obtain⟨hl,h⟩:=h;have f1:=AutoSeq1.idx_int
  have hz: ¬ (decide (k<=0)||ay.toArray.isEmpty)=true:=by
   intro z
   rw[Bool.or_eq_true,decide_eq_true_eq] at z
   rcases z with z | z
   · omega
   · exact hs (by rw[z];rfl)
  have hc1: ¬ ((ay.toArray.size:Int)*k > (2 ^ 63 - 1) / 8):=by rw[List.size_toArray];omega
  have hc2: ¬ (Builtin.Tuple.tupleTooMany ((ay.toArray.size:Int)*k)=true):=by
   unfold Builtin.Tuple.tupleTooMany
   rw[List.size_toArray,decide_eq_true_eq,show((sizeLine:Nat):Int)=16777216 from by decide]
   omega
  have e0:List.foldl (fun x1 x2=>x1++x2) #[] (List.replicate k.toNat ay.toArray)=(List.replicate k.toNat ay).flatten.toArray:=by
   have:=foldl_rep ay k.toNat []
   rw[List.nil_append] at this
   exact this
  wp_walk using AutoSeq1.wpAny_loadPart' hl,wpAny_load hl
  refine wpAny_ite_split (fun z=>absurd z (uW (by omega) (by omega))) (fun _=>?_)
  wp_walk using AutoSeq1.wpAny_loadPart' hl,wpAny_load hl
  refine wpAny_ite_split (fun z=>absurd z hs) (fun _=>?_)
  refine wpAny_ite_split (fun z=>absurd z hz) (fun _=>?_)
  refine wpAny_ite_split (fun hab=>absurd hab hc1) (fun _=>?_)
  refine wpAny_ite_split (fun hab=>absurd hab hc2) (fun _=>?_)
  refine wpAny_bind (m:=Builtin.Tuple.tupleExact _) (wpAny_newObj_type (wpAny_pure ⟨_,rfl,?_⟩) ?_)
  · rw[e0];exact h
  · rw[e0];show(List.replicate k.toNat ay).flatten.toArray.size<=sizeLine
    rw[List.size_toArray,len_rep,Nat.mul_comm]
    refine Nat.le_trans (show ay.length*k.toNat<=100000 from ?_) (by decide)
    have e1:((ay.length*k.toNat:Nat):Int)=(ay.length:Int)*k:=by rw[Int.natCast_mul,Int.toNat_of_nonneg (by omega)]
    omega
noncomputable def Gs(K:PySem.W.Frag):R2:=fun x y H Q=> ∃ a k xs,x= .ref a/\y= .int k/\eY K H a xs/\(xs.length:Int)*k<=100000/\ -100000<=k/\k<=100000/\(xs=[]\/k=1->Q (.ref a) H)/\(¬ (xs=[]\/k=1)-> ∀ p,H p=none->Q (.ref p) (upd H p (.tup (List.replicate k.toNat xs).flatten)))
theorem AZ{X:Cx}:cX X (binaryOp .Mult) (Gs X.K):=by
 intro pins s σ H x y v u Q I rx ry h
 obtain⟨a,k,xs,rfl,rfl,ha,hl,k1,k2,q1,q2⟩:=h
 cases(show v=Value.ref a from rx)
 obtain⟨t,rfl⟩:=ry
 obtain⟨ay,r1,p1,_⟩:=I.tuple ha
 obtain⟨⟨cls,dd,data,sl⟩,ho,hc,n,hd⟩:=id p1
 simp only at hc hd
 subst hc hd
 have hlen:=r1.length
 refine wpAny_binaryOp_repeat_ref (T:= "tuple") (U:= "int") (by decide) ⟨_,ho,rfl⟩ (fun s'=>typeIs_int s' k t) lF PySem.F.fills_int_mul PySem.F.slot_int_rmul q8 PySem.F.slot_int_index.lookup
  (call_meets PySem.F.slot_int_rmul (typeIs_int s k t) PySem.F.entry_int_rmul (PySem.F.args_int_rmul_2 _ _) (ni k t a ay.toArray n dd sl) ⟨ho,rfl,⟨_,ho,rfl⟩,?_⟩)
 have hx:xs=[]↔ay=[]:=(r1.mJ).symm
 by_cases hs:xs=[]\/k=1
 · have hb:(ay.toArray.isEmpty||k == 1)=true:=by
    rcases hs with z | z
    · rw[hx.mp z];rfl
    · rw[z];simp
   exact call_meets PySem.F.slot_tuple_mul ⟨_,ho,rfl⟩ PySem.F.entry_tuple_mul (PySem.F.args_tuple_mul_2 _ _) (uF a ay n k t dd sl (by omega) (by omega) hb) ⟨ho,⟨.ref a,H,I,rfl,q1 hs⟩⟩
 · have hb: ¬ (ay.toArray.isEmpty||k == 1)=true:=fun z=>hs (by
    rw[Bool.or_eq_true] at z
    rcases z with z | z
    · exact .inl (hx.mpr (by simpa using z))
    · exact .inr (by simpa using z))
   by_cases hk:0 < k
   · refine call_meets PySem.F.slot_tuple_mul ⟨_,ho,rfl⟩ PySem.F.entry_tuple_mul (PySem.F.args_tuple_mul_2 _ _) (vS a ay n k t dd sl hk (by rw[<- hlen];exact hl) k2 hb) ⟨ho,?_⟩
     refine⟨.ref s.heap.objs.size,_,I.laid (t':=s.toks) (o:= .tup (List.replicate k.toNat xs).flatten) (fun b ob q=>Heap.get?_push_of_some _ q) (Nat.le_refl _) ?_,rfl,q2 hs _ (I.bu.fresh (Nat.le_refl _))⟩
     refine⟨?_,_,r1.rep k.toNat,pE.new _ _⟩
     rw[len_rep,Nat.mul_comm]
     refine Nat.le_trans (show xs.length*k.toNat<=100000 from ?_) (by decide)
     have e1:((xs.length*k.toNat:Nat):Int)=(xs.length:Int)*k:=by rw[Int.natCast_mul,Int.toNat_of_nonneg (by omega)]
     omega
   · refine call_meets PySem.F.slot_tuple_mul ⟨_,ho,rfl⟩ PySem.F.entry_tuple_mul (PySem.F.args_tuple_mul_2 _ _) (uP a ay n k t dd sl (by omega) (by omega) hb) ⟨ho,?_⟩
     refine⟨.ref s.heap.objs.size,_,I.laid (t':=s.toks) (o:= .tup (List.replicate k.toNat xs).flatten) (fun b ob q=>Heap.get?_push_of_some _ q) (Nat.le_refl _) ?_,rfl,q2 hs _ (I.bu.fresh (Nat.le_refl _))⟩
     have:k.toNat=0:=by omega
     rw[this]
     exact⟨Nat.zero_le _,[],.nil,pE.new _ _⟩
section
variable{X:Cx}{pg:Tb}{k:Nat}
theorem ar.rep{K:PySem.W.Frag}{ρ :List Addr}{H:Hp}{xs:List PV}{vs:List V}(r:ar K ρ H xs vs): ∀(n:Nat),ar K ρ H (List.replicate n xs).flatten (List.replicate n vs).flatten
 | 0=>aO.mpr rfl
 | n+1=>by rw[List.replicate_succ,List.replicate_succ,List.flatten_cons,List.flatten_cons];exact r.app (r.rep n)
noncomputable def gE:PV->PV->PH->RV PV:=fun x y h=>match x,y with
 | .int i,.int j=>if (-(2 ^ 64) < i/\i < 2 ^ 64)\/(-(2 ^ 64) < j/\j < 2 ^ 64) then .ok (.int (i*j)) h else .no
 | .tup xs,.int k=>if (xs.length:Int)*k<=100000/\ -100000<=k/\k<=100000 then .ok (.tup (List.replicate k.toNat xs).flatten) h else .no
 | .ref n,.int k=>(match h[n]? with
  | some (.lst xs)=>if (-(2 ^ 63)<=k/\k < 2 ^ 63)/\xs.length*k.toNat<=sizeLine then .ok (.ref h.length) (h++[.lst (List.replicate k.toNat xs).flatten]) else .no
  | _=> .no)
 | _,_=> .no
theorem IV:de X pg k-> ∃ r,cX X (binaryOp .Mult) r/\lS X.K r gE:=fun _=>⟨_,KJ.or (AZ.or J4),fun ρ h H x y x' y' Q v h' s rx ry q P=>by
 unfold gE at q
 split at q
 · split at q
   · rename_i hc
     cases q
     rw[rel] at rx;rw[rel] at ry
     exact .inl ⟨_,_,rx,ry,hc,P _ ρ H (.refl _ _) s (by rw[rel])⟩
   · exact nomatch q
 · rename_i xs k
   split at q
   · rename_i hc
     cases q
     have rx':=rx
     rw[rel] at rx;rw[rel] at ry
     obtain⟨a,us,rfl,e2,e3⟩:=rx
     refine .inr (.inl ⟨a,k,us,rfl,ry,.of e2,by rw[<- e3.len];exact hc.1,hc.2.1,hc.2.2,fun z=>?_,fun z p hp=>mQ s (e3.rep _) P p hp⟩)
     have:(List.replicate k.toNat xs).flatten=xs:=by
      rcases z with z | z
      · subst z
        have:xs=[]:=List.eq_nil_of_length_eq_zero e3.len
        subst this;simp
      · rw[z];simp[List.replicate]
     rw[this] at P
     exact P _ ρ H (.refl _ _) s rx'
   · exact nomatch q
 · split at q
   · rename_i xs en
     split at q
     · rename_i hc
       cases q
       rw[rel] at ry
       obtain⟨a,us,rfl,_,e1,e2⟩:=s.lst en rx
       exact .inr (.inr ⟨a,_,us,rfl,ry,e1,hc.1.1,hc.1.2,by rw[<- e2.len];exact hc.2,fun p hp=>d8 s (e2.rep _) P p hp⟩)
     · exact nomatch q
   · exact nomatch q
 · exact nomatch q⟩
end
end P3
end
section
open PySem PySem.W PyProof.Rows
namespace P3
open PySem PySem.Spec PyProof.Rows L2
section
variable{prog:Program}{w:World}{A:Around}{E:Value->Shared->Prop}{s:Shared}
theorem sW{t:Addr}{us:List Value}{R:List Value->Shared->Prop}(ht:s.heap.IsTuple t us.toArray)(fits:us.length<=sizeLine)
  (q:R us { s with heap:=(s.heap.push (seqObj "list" #[] 0)).update s.heap.objs.size (Obj.mapSeq (· ++us.toArray)) }):wpAny (model prog w) A (collect (.ref t)) R E s:=by
 obtain⟨ob,e1,e2,m,e3⟩:=id ht
 have e1':=Heap.get?_push_of_some (seqObj "list" #[] 0) e1
 have own:(s.heap.push (seqObj "list" #[] 0)).get? s.heap.objs.size=some (seqObj "list" #[] 0):=Heap.get?_push_size _ rfl
 have sum:(#[]:Array Value)++us.toArray=us.toArray:=by simp
 unfold collect
 refine wpAny_bind (wpAny_runValue (codeAny_builtin entry_proto_collect' (show wpAny _ _ (newList [] >>= fun l=>again (.builtin "list.__iadd__" ⟨[l,.ref t],[]⟩)) _ _ s from ?_)))
 refine wpAny_bind (wpAny_newList (wpAny_pure ⟨Code.quiet_builtin _ (by decide +kernel),codeAny_builtin entry_list_iadd' (show wpAny _ _ (Builtin.List.listExtendWith _ (.ref t) _) _ _ { s with heap:=s.heap.push (seqObj "list" #[] 0) } from ?_)⟩))
 unfold PySem.Builtin.List.listExtendWith
 refine wpAny_bind (wpAny_typeOf (T:= "tuple") ⟨ob,e1',e2⟩ (NV (by simp) (wpAny_bind (listItems_at e1' e3 (wpAny_bind (listItems_at own rfl ?_))))))
 refine Oj (by simp) (wpAny_bind (listUpdate_at own rfl (wpAny_pure ?_) (Nat.zero_le _) (by rw[sum,List.size_toArray];omega)))
 refine wpAny_bind (wpAny_load (get?_update_seq own _) ?_)
 show wpAny _ _ (pure ((#[]:Array Value)++us.toArray).toList) R E _
 rw[sum]
 exact wpAny_pure q
theorem mh{t:Addr}{us:List Value}{ss:List Str}{R:Value->Shared->Prop}(ht:s.heap.IsTuple t us.toArray)(hS:StrsAre us ss)(n64:us.length < 64)
  (q: ∀(out:Array Value)(ss':List Str),StrsAre out.toList ss'->ss'.Perm ss->sortedS ss'=true->R (.ref (s.heap.objs.size+1)) { s with heap:=sortedAll s.heap us out }):wpAny (model prog w) A (call (.builtin "sorted") [.ref t]) R E s:=by
 refine Calls.call_function_entry kind_sorted plain_sorted entry_sorted (args_sorted1 (.ref t)) ?_
 unfold Builtin.«sorted»
 refine wpAny_bind (m:=checkCount "sorted" 1 1 [Value.ref t].length) (wpAny_pure (wpAny_bind (sW ht (L2.kF n64) (wpAny_bind (wpAny_newList ?_ (L2.kF n64))))))
 show wpAny _ _ _ _ _ { s with heap:=ki s.heap us }
 rw[eS]
 exact wpAny_bind (wpAny_holding (jO (ic s.heap us) hS n64 fun out ss' a1 a2 a3=>wpAny_pure ⟨_,rfl,q out ss' a1 a2 a3⟩))
end
section
variable{X:Cx}{pg:Tb}{k:Nat}
noncomputable def Dz(K:PySem.W.Frag):List V->Hp->VK->Prop:=fun xs H Q=> ∃ p ss,xs=[.ref p]/\eY K H p (ss.map V.str)/\ss.length < 64/\ ∀ l ss',H l=none->ss'.Perm ss->sortedS ss'=true->Q (.ref l) (upd H l (.lst (ss'.map V.str)))
theorem tR:bq X (.builtin "sorted") (Dz X.K):=by
 intro pins s σ H xs us Q I r ⟨p,ss,e,hS,h64,q⟩
 subst e
 obtain⟨u,rfl,ru⟩:=vals1 r
 cases(show u=Value.ref p from ru)
 obtain⟨ay,hv,hl,hz⟩:=I.tuple hS
 have sa:=jE hv
 refine mh hl sa (by rw[sa.length];exact h64) fun out ss' a1 a2 a3=>?_
 obtain⟨e,he⟩:=sortedAll_at s.heap ay out
 have hlen:(ss'.map V.str).length<=sizeLine:=by rw[List.length_map,a2.length_eq];exact Nat.le_of_lt (Nat.lt_of_lt_of_le h64 (by decide))
 obtain⟨hn,I'⟩:=I.kP (a:=s.heap.objs.size+1) (o:= .lst (ss'.map V.str)) (t':=s.toks) (fun b o e=>sortedAll_old e) (Heap.get?_none_of_le (Nat.le_succ _)) ⟨hlen,out.toList,e,iJ a1,by simpa [seqObj] using he⟩
 exact⟨.ref _,_,I',rfl,q _ ss' hn a2 a3⟩
noncomputable def bp:List PV->PH->RV PV:=fun xs h=>match xs with
 | [.tup ys]=>(match fV ys with
  | some ss=>if ss.length < 64 then .ok (.ref h.length) (h++[.lst ((aM ss).map PV.str)]) else .no
  | none=> .no)
 | _=>eR xs h
theorem xj:de X pg k-> ∃ r,bq X (.builtin "sorted") r/\B0 X.K r bp:=fun A=>⟨_,tR.or (t9 A.calm),fun ρ h H xs us Q v h' s r q P=>by
 unfold bp at q
 split at q
 · rename_i ys
   split at q
   · rename_i ss es
     split at q
     · rename_i hl
       cases q
       obtain⟨u,rfl,r1⟩:=b9 r
       rw[rel] at r1
       obtain⟨a,vs,rfl,e1,e2⟩:=r1
       rw[hW es,cP] at e2
       subst e2
       refine .inl ⟨a,ss,rfl,.of e1,hl,fun l ss' hp pm so=>?_⟩
       rw[nQ pm so]
       exact d8 s (cP.mpr rfl) P l hp
     · exact nomatch q
   · exact nomatch q
 · exact .inr (sA A ρ h H _ us Q v h' s r q P)⟩
end
end P3
end
section
open PySem PySem.W PyProof.Rows
namespace P3
open PySem L2
noncomputable def fin(h:PH)(r:RV Fl):RV PV:=match r with
 | .ok (.rt v) h'=>settle h v h'
 | .ok (.nx _) h'=>settle h .non h'
 | .ok _ _=> .no
 | .ex c us h'=> .ex c us h'
 | .no=> .no
theorem run_eq{pg:Tb}{k:Nat}{f:String}{d:Df}{vs:List PV}{h:PH}(hf:pg.fns f=some d)(hn:vs.length=d.ps.length):run pg (k+1) f vs h=fin h (d.body (run pg k) (vs.map some++List.replicate d.nl none) h):=by
 rw[run,hf]
 simp only[if_pos hn]
 rfl
theorem tq{α β :Type}{a: α}{h:PH}{f: α ->PH->RV β}:(RV.ok a h).bind f=f a h:=(rfl)
theorem yH{h h':PH}{v:PV}:fin h (.ok (.rt v) h')=settle h v h':=(rfl)
theorem Dv{h:PH}{c:Prop}[Decidable c]{a b:RV Fl}:fin h (if c then a else b)=if c then fin h a else fin h b:=by split<;>rfl
theorem lW{h:PH}{v:PV}:settle h v h= .ok v h:=by unfold settle;split<;>simp
theorem bh{h g:PH}{v:PV}(hv:v.flat=true):settle h v (h++g)= .ok v h:=by unfold settle;rw[hv,ju];simp
theorem uH{h h':PH}{v:PV}(hv:v.flat=false):settle h v h'= .ok v h':=by unfold settle;rw[hv];rfl
theorem vK{h g:PH}{v:PV}{i:Nat}{o o':PO}(hv:v.flat=true)(e:h[i]?=some o)(m:o.fT=o'.fT)(hu:o'.jg h.length=true):settle h v (h.set i o'++g)= .ok v (h.set i o'):=by
 unfold settle
 have:cb h.length h (h.set i o'++g)=true:=by
  have h1:=nR hu h (h++g) i o (ju _ h g) e m
  rwa[List.set_append_left _ _ (List.getElem?_eq_some_iff.mp e).1] at h1
 rw[hv,this]
 simp[List.take_append_of_le_length]
theorem lZ{h:PH}{v:PV}{i:Nat}{o o':PO}:settle h v (h.set i o')= .ok v (h.set i o'):=by
 unfold settle;split
 · rw[<- List.length_set (as:=h) (i:=i) (a:=o'),List.take_length]
 · rfl
theorem aI{a b:String}:Str.ofString a=Str.ofString b↔a=b:=by
 refine⟨fun e=>?_,fun e=>by rw[e]⟩
 rw[Str.ofString_eq_toList,Str.ofString_eq_toList] at e
 have e1:a.toList.map Char.toNat=b.toList.map Char.toNat:=by
  have:=congrArg (fun s:Str=>s.cps.toList) e
  simpa using this
 have inj: ∀{l m:List Char},l.map Char.toNat=m.map Char.toNat->l=m:=by
  intro l
  induction l with
  | nil=>intro m h;cases m with | nil=>rfl | cons=>exact nomatch h
  | cons x r ih =>
   intro m h
   cases m with
   | nil=>exact nomatch h
   | cons y t =>
    simp only[List.cons.injEq,List.map_cons] at h
    have:x=y:=Char.toNat_inj.mp h.1
    rw[this,ih h.2]
 exact String.toList_inj.mp (inj e1)
end P3
end
section
open PySem PySem.W PyProof.Rows
namespace P3
open PySem L2
section
variable{c:CF}{e e1:ax}{h h1:PH}{a b d:ME}{t u:MT}{r:MA}{x y v:PV}{f g:PV->PV->PH->RV PV}{s s':MS}{i n:Nat}
noncomputable def Ml(f:PV->PV->PH->RV PV)(b:ME)(c:CF)(e:ax)(x:PV)(h1:PH):RV PV:=(b c e h1).bind fun y h2=>f x y h2
theorem LZ:ag f a b c e h=(a c e h).bind (Ml f b c e):=(rfl)
theorem Hx:Ml f b c e x h1=(b c e h1).bind (f x):=(rfl)
theorem K9{f:PV->PH->RV PV}:oO f a c e h=(a c e h).bind f:=(rfl)
noncomputable def Lc(o:Option (Option PV))(h:PH):RV PV:=match o with
 | some (some v)=> .ok v h
 | _=> .no
theorem H9:ab i c e h=Lc (e[i]?) h:=(rfl)
theorem Dd:Lc (some (some v)) h= .ok v h:=(rfl)
theorem Ox:eC v c e h= .ok v h:=(rfl)
theorem HF{p:Bool}:wO (.bl p) h= .ok p h:=(rfl)
noncomputable def Il(b:ME)(c:CF)(e:ax)(x:Bool)(h1:PH):RV PV:=if x=true then b c e h1 else .ok (.bl false) h1
theorem F4:uN a b c e h=((a c e h).bind wO).bind (Il b c e):=(rfl)
theorem Cm:Il b c e true h=b c e h:=(rfl)
theorem Ea:Il b c e false h= .ok (.bl false) h:=(rfl)
noncomputable def ON(b:ME)(c:CF)(e:ax)(x:Bool)(h1:PH):RV PV:=if x=true then .ok (.bl true) h1 else b c e h1
theorem MK:LK a b c e h=((a c e h).bind wO).bind (ON b c e):=(rfl)
theorem JB:ON b c e true h= .ok (.bl true) h:=(rfl)
theorem HC:ON b c e false h=b c e h:=(rfl)
noncomputable def Mj(x:Bool)(h1:PH):RV PV:= .ok (.bl (!x)) h1
theorem JU:EV a c e h=((a c e h).bind wO).bind Mj:=(rfl)
theorem Ei{p:Bool}:Mj p h= .ok (.bl (!p)) h:=(rfl)
noncomputable def LD(a b:ME)(c:CF)(e:ax)(x:Bool)(h1:PH):RV PV:=if x=true then a c e h1 else b c e h1
theorem K7:AQ t a b c e h=(t c e h).bind (LD a b c e):=(rfl)
theorem HA:LD a b c e true h=a c e h:=(rfl)
theorem Jb:LD a b c e false h=b c e h:=(rfl)
theorem KG{p:Prop}[Decidable p]:LD a b c e (decide p) h=if p then a c e h else b c e h:=by unfold LD;by_cases q:p<;>simp[q]
theorem Ic:ao a c e h=(a c e h).bind wO:=(rfl)
noncomputable def zq(u:MT)(c:CF)(e:ax)(x:Bool)(h1:PH):RV Bool:=if x=true then u c e h1 else .ok false h1
theorem Cs:oQ t u c e h=(t c e h).bind (zq u c e):=(rfl)
theorem Bs:zq u c e true h=u c e h:=(rfl)
theorem AM:zq u c e false h= .ok false h:=(rfl)
noncomputable def GV(u:MT)(c:CF)(e:ax)(x:Bool)(h1:PH):RV Bool:=if x=true then .ok true h1 else u c e h1
theorem Kq:Fp t u c e h=(t c e h).bind (GV u c e):=(rfl)
theorem C0:GV u c e true h= .ok true h:=(rfl)
theorem EO:GV u c e false h=u c e h:=(rfl)
noncomputable def FI(x:Bool)(h1:PH):RV Bool:= .ok (!x) h1
theorem EX:vw t c e h=(t c e h).bind FI:=(rfl)
theorem BN{p:Bool}:FI p h= .ok (!p) h:=(rfl)
theorem CG:eA c e h= .ok true h:=(rfl)
theorem Dw:ae c e h= .ok [] h:=(rfl)
noncomputable def Hi(x:PV)(xs:List PV)(h2:PH):RV (List PV):= .ok (x::xs) h2
noncomputable def Nw(r:MA)(c:CF)(e:ax)(x:PV)(h1:PH):RV (List PV):=(r c e h1).bind (Hi x)
theorem zu:aa a r c e h=(a c e h).bind (Nw r c e):=(rfl)
theorem xY:Nw r c e x h=(r c e h).bind (Hi x):=(rfl)
theorem xU{xs:List PV}:Hi x xs h= .ok (x::xs) h:=(rfl)
theorem oH{α :Type}{n:Nat}{r:RV α}(hn:n<=16777216):kF n r=r:=by unfold kF;exact if_pos hn
noncomputable def LQ(xs:List PV)(h:PH):RV PV:=kF xs.length (.ok (.tup xs) h)
theorem Gy:aw r c e h=(r c e h).bind LQ:=(rfl)
theorem Em{xs:List PV}:LQ xs h=kF xs.length (.ok (.tup xs) h):=(rfl)
noncomputable def MU(xs:List PV)(h:PH):RV PV:=kF xs.length (.ok (.ref h.length) (h++[.lst xs]))
theorem HB:aT r c e h=(r c e h).bind MU:=(rfl)
theorem Es{xs:List PV}:MU xs h=kF xs.length (.ok (.ref h.length) (h++[.lst xs])):=(rfl)
theorem DY{f:String}:af f r c e h=(r c e h).bind (c f):=(rfl)
theorem Ou{f:List PV->PH->RV PV}:eB f r c e h=(r c e h).bind f:=(rfl)
noncomputable def Mo(f:PV->List PV->PH->RV PV)(ty:PV->PH->Bool)(r:MA)(c:CF)(e:ax)(x:PV)(h1:PH):RV PV:=if ty x h1=true then(r c e h1).bind (f x) else .no
theorem N0{f:PV->List PV->PH->RV PV}{ty:PV->PH->Bool}:eM f ty a r c e h=(a c e h).bind (Mo f ty r c e):=(rfl)
theorem Lr{f:PV->List PV->PH->RV PV}{ty:PV->PH->Bool}(ht:ty x h=true):Mo f ty r c e x h=(r c e h).bind (f x):=if_pos ht
noncomputable def Ck(g:PV->PV->PH->RV PV)(d:ME)(c:CF)(e:ax)(y:PV)(k:Bool)(h3:PH):RV PV:=if k=true then(d c e h3).bind (g y) else .ok (.bl false) h3
noncomputable def HS(f g:PV->PV->PH->RV PV)(d:ME)(c:CF)(e:ax)(x y:PV)(h2:PH):RV PV:=((f x y h2).bind wO).bind (Ck g d c e y)
noncomputable def Nm(f g:PV->PV->PH->RV PV)(b d:ME)(c:CF)(e:ax)(x:PV)(h1:PH):RV PV:=(b c e h1).bind (HS f g d c e x)
theorem Mg:qP f g a b d c e h=(a c e h).bind (Nm f g b d c e):=(rfl)
theorem HW:Nm f g b d c e x h=(b c e h).bind (HS f g d c e x):=(rfl)
theorem II:HS f g d c e x y h=((f x y h).bind wO).bind (Ck g d c e y):=(rfl)
theorem Ey:Ck g d c e y true h=(d c e h).bind (g y):=(rfl)
theorem E2:Ck g d c e y false h= .ok (.bl false) h:=(rfl)
noncomputable def vQ(s:MS)(c:CF)(f:Fl)(h1:PH):RV Fl:=match f with
 | .nx e1=>s c e1 h1
 | f=> .ok f h1
theorem BH:ah s s' c e h=(s c e h).bind (vQ s' c):=(rfl)
theorem wk:vQ s c (.nx e) h=s c e h:=(rfl)
theorem Eu:vQ s c (.rt v) h= .ok (.rt v) h:=(rfl)
theorem Cp:vQ s c (.bk e) h= .ok (.bk e) h:=(rfl)
theorem LM:bB c e h= .ok (.nx e) h:=(rfl)
noncomputable def O3(e:ax)(_:PV)(h1:PH):RV Fl:= .ok (.nx e) h1
theorem Ex:fN a c e h=(a c e h).bind (O3 e):=(rfl)
theorem yU:O3 e x h= .ok (.nx e) h:=(rfl)
noncomputable def Na(v:PV)(h1:PH):RV Fl:= .ok (.rt v) h1
theorem F7:az a c e h=(a c e h).bind Na:=(rfl)
theorem Cc:Na v h= .ok (.rt v) h:=(rfl)
noncomputable def yC(s s':MS)(c:CF)(e:ax)(x:Bool)(h1:PH):RV Fl:=if x=true then s c e h1 else s' c e h1
theorem Hy:bz t s s' c e h=(t c e h).bind (yC s s' c e):=(rfl)
theorem DA:yC s s' c e true h=s c e h:=(rfl)
theorem CA:yC s s' c e false h=s' c e h:=(rfl)
theorem Fc{p:Prop}[Decidable p]:yC s s' c e (!decide p) h=if p then s' c e h else s c e h:=by unfold yC;by_cases q:p<;>simp[q]
theorem BY:kL c e h= .ok (.bk e) h:=(rfl)
noncomputable def C4(e1:ax)(h2:PH):RV Fl:= .ok (.nx e1) h2
noncomputable def x9(g:MG)(e:ax)(v:PV)(h1:PH):RV Fl:=(g v e h1).bind C4
theorem J1{g:MG}:aj a g c e h=(a c e h).bind (x9 g e):=(rfl)
theorem CT:x9 (gN i) e v h= .ok (.nx (e.set i (some v))) h:=(rfl)
theorem Fd{n:Nat}{gs:List PV->ax->PH->RV ax}:x9 (gT n gs) e v h=(gT n gs v e h).bind C4:=(rfl)
theorem Gk:C4 e h= .ok (.nx e) h:=(rfl)
theorem MV:gN i v e h= .ok (e.set i (some v)) h:=(rfl)
theorem Gh{gs:List PV->ax->PH->RV ax}{x1 x2:PV}:gT 2 gs (.tup [x1,x2]) e h=gs [x1,x2] e h:=(rfl)
theorem J3{gs:List PV->ax->PH->RV ax}{x1 x2 x3 x4:PV}:gT 4 gs (.tup [x1,x2,x3,x4]) e h=gs [x1,x2,x3,x4] e h:=(rfl)
theorem Gn:dS [] e h= .ok e h:=(rfl)
theorem Jv{g:MG}{r:List PV->ax->PH->RV ax}{t:List PV}:aL g r (v::t) e h=(g v e h).bind (r t):=(rfl)
noncomputable def zF(f:PV->PV->PV->PH->RV Unit)(e:ax)(v x y:PV)(h3:PH):RV Fl:=(f x y v h3).bind fun _ h4=> .ok (.nx e) h4
noncomputable def Bb(f:PV->PV->PV->PH->RV Unit)(i:ME)(c:CF)(e:ax)(v x:PV)(h2:PH):RV Fl:=(i c e h2).bind (zF f e v x)
noncomputable def FQ(f:PV->PV->PV->PH->RV Unit)(o i:ME)(c:CF)(e:ax)(v:PV)(h1:PH):RV Fl:=(o c e h1).bind (Bb f i c e v)
theorem JY{f:PV->PV->PV->PH->RV Unit}{o i:ME}:jd f o i a c e h=(a c e h).bind (FQ f o i c e):=(rfl)
theorem EY{f:PV->PV->PV->PH->RV Unit}{o i:ME}:FQ f o i c e v h=(o c e h).bind (Bb f i c e v):=(rfl)
theorem E4{f:PV->PV->PV->PH->RV Unit}{i:ME}:Bb f i c e v x h=(i c e h).bind (zF f e v x):=(rfl)
noncomputable def Pt(e:ax)(_:Unit)(h:PH):RV Fl:= .ok (.nx e) h
theorem CQ{f:PV->PV->PV->PH->RV Unit}:zF f e v x y h=(f x y v h).bind (Pt e):=(rfl)
theorem KN{u:Unit}:Pt e u h= .ok (.nx e) h:=(rfl)
noncomputable def fL(g:MG)(s:MS)(c:CF)(x:PV)(e:ax)(h:PH):RV Fl:=(g x e h).bind (s c)
noncomputable def fork(g:MG)(s:MS)(c:CF)(e:ax)(it:iV)(h1:PH):RV Fl:=cg it (fL g s c) it.items e h1
theorem J2{i:MI}{g:MG}:jf i g s c e h=(i c e h).bind (fork g s c e):=(rfl)
theorem Cg{g:MG}{it:iV}:fork g s c e it h=cg it (fL g s c) it.items e h:=(rfl)
theorem zT{g:MG}:fL g s c x e h=(g x e h).bind (s c):=(rfl)
theorem Jy:oV a c e h=(a c e h).bind yc:=(rfl)
theorem Hz{xs:List PV}:yc (.tup xs) h= .ok ⟨none,xs⟩ h:=(rfl)
noncomputable def NY(n:Nat)(h:PH)(o:Option PO):RV iV:=match o with
 | some (.lst xs)=> .ok ⟨some n,xs⟩ h
 | some (.kM xs)=> .ok ⟨some n,xs⟩ h
 | _=> .no
theorem G8{n:Nat}:yc (.ref n) h=NY n h (h[n]?):=by
 have e:yc (.ref n) h=(match dJ h n with | some xs=> .ok ⟨some n,xs⟩ h | none=> .no):=rfl
 rw[e]
 unfold dJ NY
 generalize h[n]?=oo
 cases oo with
 | none=>rfl
 | some o=>cases o<;>rfl
theorem GN{n:Nat}{xs:List PV}:NY n h (some (.lst xs))= .ok ⟨some n,xs⟩ h:=(rfl)
noncomputable def NT(vs:List PV)(h1:PH):RV iV:=match vs with
 | [.int j]=>if -(2 ^ 62)<=j/\j < 2 ^ 62 then .ok ⟨none,bX 0 j.toNat⟩ h1 else .no
 | _=> .no
theorem IQ : eU r c e h = (r c e h).bind NT := by
  unfold eU
  generalize r c e h = z
  cases z with
  | ok a b =>
    rw[bQ, bQ]
    unfold NT
    split
    · rfl
    · rename_i hx
      first
      | rfl
      | (split
         · exact absurd rfl (hx _)
         · rfl)
  | ex a b d => rfl
  | no => rfl
theorem EW{j:Int}(hj: -4611686018427387904<=j/\j < 4611686018427387904):NT [.int j] h= .ok ⟨none,bX 0 j.toNat⟩ h:=by
 unfold NT;exact if_pos (by omega)
noncomputable def OS(x y:PV)(h2:PH):RV iV:=match x.seq?,y.seq? with
 | some xs,some ys=> .ok ⟨none,(xs.zip ys).map fun p=> .tup [p.1,p.2]⟩ h2
 | _,_=> .no
noncomputable def Pr(b:ME)(c:CF)(e:ax)(x:PV)(h1:PH):RV iV:=(b c e h1).bind (OS x)
theorem Ho:Kt a b c e h=(a c e h).bind (Pr b c e):=(rfl)
theorem EU:Pr b c e x h=(b c e h).bind (OS x):=(rfl)
theorem y6{xs ys:List PV}:OS (.ktup xs) (.tup ys) h= .ok ⟨none,(xs.zip ys).map fun p=> .tup [p.1,p.2]⟩ h:=(rfl)
noncomputable def NO(it:iV)(step:PV->ax->PH->RV Fl)(xs:List PV)(f:Fl)(h1:PH):RV Fl:=match f with
 | .nx e1=>cg it step xs e1 h1
 | .ct e1=>cg it step xs e1 h1
 | .bk e1=> .ok (.nx e1) h1
 | .rt v=> .ok (.rt v) h1
theorem lE{xs:List PV}{step:PV->ax->PH->RV Fl}:cg ⟨none,xs⟩ step [] e h= .ok (.nx e) h:=(rfl)
theorem fu{xs ys:List PV}{step:PV->ax->PH->RV Fl}:cg ⟨none,xs⟩ step (y::ys) e h=(step y e h).bind (NO ⟨none,xs⟩ step ys):=(rfl)
theorem rT{it:iV}{step:PV->ax->PH->RV Fl}(hf:it.gx h=true):cg it step [] e h= .ok (.nx e) h:=by rw[cg,if_pos hf]
theorem jR{it:iV}{ys:List PV}{step:PV->ax->PH->RV Fl}(hf:it.gx h=true):cg it step (y::ys) e h=(step y e h).bind (NO it step ys):=by rw[cg,if_pos hf];rfl
theorem cQ{it:iV}{xs:List PV}{step:PV->ax->PH->RV Fl}:NO it step xs (.nx e) h=cg it step xs e h:=(rfl)
theorem mR{it:iV}{xs:List PV}{step:PV->ax->PH->RV Fl}:NO it step xs (.rt v) h= .ok (.rt v) h:=(rfl)
noncomputable def Kl(ys:List PV)(h2:PH):RV PV:= .ok (.ref h2.length) (h2++[.lst ys])
noncomputable def Np(k:Nat)(g:MG)(t:MT)(a:ME)(c:CF)(e:ax)(it:iV)(h1:PH):RV PV:=(je it (bD k g t a c e) it.items [] h1).bind Kl
theorem L8{k:Nat}{i:MI}{g:MG}:pb k i g t a c e h=(i c e h).bind (Np k g t a c e):=(rfl)
theorem Kr{k:Nat}{g:MG}{it:iV}:Np k g t a c e it h=(je it (bD k g t a c e) it.items [] h).bind Kl:=(rfl)
theorem IY{ys:List PV}:Kl ys h= .ok (.ref h.length) (h++[.lst ys]):=(rfl)
noncomputable def AD(y:PV)(h4:PH):RV (Option PV):= .ok (some y) h4
noncomputable def tO(a:ME)(c:CF)(e2:ax)(b:Bool)(h3:PH):RV (Option PV):=if b=true then(a c e2 h3).bind AD else .ok none h3
noncomputable def K4(t:MT)(a:ME)(c:CF)(e2:ax)(h2:PH):RV (Option PV):=(t c e2 h2).bind (tO a c e2)
theorem Mb{k:Nat}{g:MG}:bD k g t a c e x h=(g x (e++List.replicate k none) h).bind (K4 t a c):=(rfl)
theorem GY:K4 t a c e h=(t c e h).bind (tO a c e):=(rfl)
theorem Ec:tO a c e true h=(a c e h).bind AD:=(rfl)
theorem CN:tO a c e false h= .ok none h:=(rfl)
theorem E9{p:Prop}[Decidable p]:tO a c e (decide p) h=if p then(a c e h).bind AD else .ok none h:=by unfold tO;by_cases q:p<;>simp[q]
theorem DF{p:Prop}[Decidable p]:tO a c e (!decide p) h=if p then .ok none h else(a c e h).bind AD:=by unfold tO;by_cases q:p<;>simp[q]
theorem Iv:AD y h= .ok (some y) h:=(rfl)
theorem fM{α :Type}{it:iV}(hf:it.gx h=true){step:PV->PH->RV (Option PV)}{f: α ->Option PV}{g: α ->PV}: ∀(l:List α)(ys:List PV),(∀ x∈l,step (g x) h= .ok (f x) h)->l.length+ys.length<=16777216->je it step (l.map g) ys h= .ok (ys++l.filterMap f) h
 | [],ys,_,_=>by rw[List.map_nil,je,if_pos hf];simp
 | x::xs,ys,hs,hl=>by
  have hl':ys.length < sizeLine:=by rw[List.length_cons] at hl;show ys.length < 16777216;omega
  rw[List.map_cons,je,if_pos ⟨hf,hl'⟩,hs x List.mem_cons_self,bQ]
  cases q:f x with
  | none=>exact(fM hf xs ys (fun y m=>hs y (List.mem_cons_of_mem _ m)) (by rw[List.length_cons] at hl;omega)).trans (by rw[List.filterMap_cons_none q])
  | some y=>exact(fM hf xs (ys++[y]) (fun z m=>hs z (List.mem_cons_of_mem _ m)) (by rw[List.length_cons] at hl;simp;omega)).trans (by rw[List.filterMap_cons_some q];simp)
end
section
variable{h:PH}{i j:Int}{a b:Str}{x y z w u v:PV}{r xs ys:List PV}{p q:Bool}{n m:Nat}
theorem Ej:sL (.int i) (.int j) h= .ok (.int (i - j)) h:=(rfl)
theorem DB:aE (.int i) (.int j) h= .ok (.int (i+j)) h:=(rfl)
theorem wK(hl:a.length+b.length<=16777216):aE (.str a) (.str b) h= .ok (.str (a++b)) h:=oH hl
theorem iY(hl:xs.length+ys.length<=16777216):aE (.tup xs) (.tup ys) h= .ok (.tup (xs++ys)) h:=oH hl
theorem mU(e1:h[n]?=some (.lst xs))(e2:h[m]?=some (.lst ys))(hl:xs.length+ys.length<=16777216):aE (.ref n) (.ref m) h= .ok (.ref h.length) (h++[.lst (xs++ys)]):=by
 unfold aE;simp only[e1,e2];exact oH (by simpa using hl)
theorem Fm(hj:0 < j):eL (.int i) (.int j) h= .ok (.int (i % j)) h:=by unfold eL p2;simp[hj,B4,bQ]
theorem yR(hj:0 < j/\j < 1073741824):nL (.int i) (.int j) h= .ok (.int (i / j)) h:=by unfold nL p2;simp[hj,B4,bQ]
theorem B8(hj:0<=j/\j<=1000000/\i.natAbs < 18446744073709551616):Ep (.int i) (.int j) h= .ok (.int (i ^ j.toNat)) h:=by
 unfold Ep p2;simp only;rw[if_pos (by exact⟨hj.1,hj.2.1,by have:=hj.2.2;omega⟩)];rfl
theorem Dk(hi: -18446744073709551616 < i/\i < 18446744073709551616):gE (.int i) (.int j) h= .ok (.int (i*j)) h:=if_pos (.inl (by omega))
theorem mH(hj: -18446744073709551616 < j/\j < 18446744073709551616):gE (.int i) (.int j) h= .ok (.int (i*j)) h:=if_pos (.inr (by omega))
theorem Ee(hl:(xs.length:Int)*i<=100000/\ -100000<=i/\i<=100000):gE (.tup xs) (.int i) h= .ok (.tup (List.replicate i.toNat xs).flatten) h:=if_pos hl
theorem HE:EF (.int i) (.int j) h= .ok (.bl (decide (i < j))) h:=(rfl)
theorem Kx:NN (.int i) (.int j) h= .ok (.bl (decide (i<=j))) h:=(rfl)
theorem Ge:ur (.int i) (.int j) h= .ok (.bl (decide (j < i))) h:=(rfl)
theorem IE:OT (.int i) (.int j) h= .ok (.bl (decide (j<=i))) h:=(rfl)
theorem CC:GA (.int i) h= .ok (.int (-i)) h:=(rfl)
theorem Dx:cm (.str a) (.str b) h= .ok (.bl (decide (a=b))) h:=by simp[cm,alike,jN]
theorem DE:cm (.int i) (.int j) h= .ok (.bl (decide (i=j))) h:=by simp[cm,alike,jN]
theorem Di:gS (.str a) (.str b) h= .ok (.bl (!decide (a=b))) h:=by simp[gS,alike,jN,gp]
theorem Cu:gS (.int i) (.int j) h= .ok (.bl (!decide (i=j))) h:=by simp[gS,alike,jN,gp]
theorem OM:aq (.tup (x::r)) (.int 0) h= .ok x h:=by
 simp only[aq,eF,rQ];rw[if_pos (by decide),if_pos (by simp only[List.length_cons];omega)];rfl
theorem Ly:aq (.tup (x::y::r)) (.int 1) h= .ok y h:=by
 simp only[aq,eF,rQ];rw[if_pos (by decide),if_pos (by simp only[List.length_cons];omega)];rfl
theorem Lz:aq (.tup (x::y::z::r)) (.int 2) h= .ok z h:=by
 simp only[aq,eF,rQ];rw[if_pos (by decide),if_pos (by simp only[List.length_cons];omega)];rfl
theorem Og:aq (.tup (x::y::z::w::u::r)) (.int 4) h= .ok u h:=by
 simp only[aq,eF,rQ];rw[if_pos (by decide),if_pos (by simp only[List.length_cons];omega)];rfl
theorem kD(e:eF xs i=some v):aq (.tup xs) (.int i) h= .ok v h:=by simp only[aq,e]
theorem eT{α :Type}{xs:List α}{i:Int}{n:Nat}(e:i=(n:Int)){v: α}(q:xs[n]?=some v):eF xs i=some v:=by
 have hl:n < xs.length:=(List.getElem?_eq_some_iff.mp q).1
 subst e
 unfold eF rQ
 rw[if_pos (by omega),if_pos (by omega)]
 simpa using q
noncomputable def Fv(y:PV)(h:PH)(o:Option PO):RV PV:=match o with
 | some (.dct kvs)=>(match gZ y with
  | some k=>(match aW kvs k with | some v=> .ok v h | none=> .no)
  | none=> .no)
 | some (.lst xs)=>(match y with
  | .int i=>(match eF xs i with | some v=> .ok v h | none=> .no)
  | _=> .no)
 | some (.kM xs)=>(match y with
  | .int i=>(match eF xs i with | some v=> .ok v h | none=> .no)
  | _=> .no)
 | none=> .no
theorem Lm:aq (.ref n) y h=Fv y h (h[n]?):=by
 unfold Fv
 simp only[aq]
 all_goals (generalize h[n]?=oo;rcases oo with _ | o<;>first | rfl | (cases o<;>rfl))
noncomputable def Mz(h:PH)(o:Option PV):RV PV:=match o with
 | some v=> .ok v h
 | none=> .no
theorem C1{kvs:List (Key × PV)}:Fv (.str a) h (some (.dct kvs))=Mz h (aW kvs (.inr a)):=(rfl)
theorem Md:Fv (.int i) h (some (.lst xs))=Mz h (eF xs i):=(rfl)
theorem OB:Fv (.int i) h (some (.kM xs))=Mz h (eF xs i):=(rfl)
theorem mF:Mz h (some v)= .ok v h:=(rfl)
theorem rn{k:Key}{kvs:List (Key × PV)}:aW ((k,v)::kvs) k=some v:=by simp[aW]
theorem sZ{k k':Key}{kvs:List (Key × PV)}(ne:k'≠k):aW ((k',v)::kvs) k=aW kvs k:=by simp[aW,ne]
noncomputable def Ak(n:Nat)(y v:PV)(h:PH)(o:Option PO):RV Unit:=match o with
 | some (.dct kvs)=>(match gZ y with
  | some k=>if kvs.length < sizeLine then .ok () (h.set n (.dct (c8 kvs k v))) else .no
  | none=> .no)
 | some (.lst xs)=>(match y with
  | .int i=>(match rQ xs.length i with | some j=> .ok () (h.set n (.lst (xs.set j v))) | none=> .no)
  | _=> .no)
 | _=> .no
theorem Nc:hE (.ref n) y v h=Ak n y v h (h[n]?):=by
 unfold Ak
 simp only[hE]
 all_goals (generalize h[n]?=oo;rcases oo with _ | o<;>first | rfl | (cases o<;>rfl))
theorem fz{kvs:List (Key × PV)}(hl:kvs.length < 16777216):Ak n (.str a) v h (some (.dct kvs))= .ok () (h.set n (.dct (c8 kvs (.inr a) v))):=if_pos hl
noncomputable def Ov(n:Nat)(v:PV)(h:PH)(o:Option PO):RV PV:=match o with
 | some (.lst xs)=>if xs.length < sizeLine then .ok .non (h.set n (.lst (xs++[v]))) else .no
 | _=> .no
theorem OE:cR (.ref n) [v] h=Ov n v h (h[n]?):=by
 unfold Ov
 simp only[cR]
 all_goals (generalize h[n]?=oo;rcases oo with _ | o<;>first | rfl | (cases o<;>rfl))
theorem vI(hl:xs.length < 16777216):Ov n v h (some (.lst xs))= .ok .non (h.set n (.lst (xs++[v]))):=if_pos hl
theorem len_T:bY [.tup xs] h= .ok (.int xs.length) h:=(rfl)
theorem GO:uq [.tup xs] h= .ok (.ref h.length) (h++[.lst xs]):=(rfl)
theorem LB:dR false .non h= .ok (.bl true) h:=(rfl)
theorem Nz:dR false (.int i) h= .ok (.bl false) h:=by simp[dR]
theorem LP:dR false (.tup xs) h= .ok (.bl false) h:=by simp[dR]
theorem Kn:dR true .non h= .ok (.bl false) h:=(rfl)
theorem JR:dR true (.int i) h= .ok (.bl true) h:=by simp[dR]
section
variable{c:CF}{e:ax}{d k1 k2:ME}{rr:MA}{kvs:List (Key × PV)}{ff:PV->List PV->PH->RV PV}
noncomputable def OV(a:Str)(z:PV)(h:PH)(o:Option PO):RV PV:=match o with
 | some (.dct kvs)=> .ok ((aW kvs (.inr a)).getD z) h
 | _=> .no
noncomputable def NF(x y z:PV)(h3:PH):RV PV:=match x,gZ y with
 | .ref n,some key=>(match h3[n]? with
  | some (.dct kvs)=> .ok ((aW kvs key).getD z) h3
  | _=> .no)
 | _,_=> .no
noncomputable def NL(b:ME)(c:CF)(e:ax)(x y:PV)(h2:PH):RV PV:=(b c e h2).bind (NF x y)
noncomputable def OX(a b:ME)(c:CF)(e:ax)(x:PV)(h1:PH):RV PV:=if gp h1 x=true then(a c e h1).bind (NL b c e x) else .no
noncomputable def OP(a b:ME)(c:CF)(e:ax)(n:Nat)(h:PH)(o:Option PO):RV PV:=match o with
 | some (.dct _)=>(a c e h).bind (NL b c e (.ref n))
 | _=> .no
theorem Iq:sV d k1 k2 c e h=(d c e h).bind (OX k1 k2 c e):=(rfl)
theorem Fg:OX k1 k2 c e (.ref n) h=OP k1 k2 c e n h (h[n]?):=by
 unfold OX OP gp
 cases q:h[n]? with
 | none=>simp[q]
 | some o=>cases o<;>simp[q]
theorem zZ:OP k1 k2 c e n h (some (.dct kvs))=(k1 c e h).bind (NL k2 c e (.ref n)):=(rfl)
theorem E8:NL k2 c e x y h=(k2 c e h).bind (NF x y):=(rfl)
theorem Dp:NF (.ref n) (.str a) z h=OV a z h (h[n]?):=by
 unfold NF OV gZ
 simp only
theorem BG:OV a z h (some (.dct kvs))= .ok ((aW kvs (.inr a)).getD z) h:=(rfl)
noncomputable def N1(f:PV->List PV->PH->RV PV)(r:MA)(c:CF)(e:ax)(n:Nat)(h:PH)(o:Option PO):RV PV:=match o with
 | some (.lst _)=>(r c e h).bind (f (.ref n))
 | _=> .no
theorem Nt:Mo ff ee rr c e (.ref n) h=N1 ff rr c e n h (h[n]?):=by
 unfold Mo N1 ee
 cases q:h[n]? with
 | none=>simp[q]
 | some o=>cases o<;>simp[q]
theorem G9:N1 ff rr c e n h (some (.lst xs))=(rr c e h).bind (ff (.ref n)):=(rfl)
noncomputable def IA(ys:List PV)(h:PH)(o:Option (List (Key × PV))):RV PV:=match o with
 | some kvs=>if ys.length < sizeLine then .ok (.ref h.length) (h++[.dct (bA [] kvs)]) else .no
 | none=> .no
theorem uC:eN [.tup ys] h=IA ys h (iq ys):=by
 unfold eN IA
 cases q:iq ys<;>simp[q]
theorem qE(hl:ys.length < 16777216):IA ys h (some kvs)= .ok (.ref h.length) (h++[.dct (bA [] kvs)]):=if_pos hl
theorem Av:ng c e h= .ok (.ref h.length) (h++[.dct []]):=(rfl)
end
noncomputable def Oz(h:PH)(o:Option PO):RV PV:=match o with
 | some (.lst xs)=> .ok (.tup xs) h
 | some (.kM xs)=> .ok (.tup xs) h
 | _=> .no
theorem C8:bj [.ref n] h=Oz h (h[n]?):=by
 unfold Oz
 cases q:h[n]? with
 | none=>simp[bj,dJ,q]
 | some o=>cases o<;>simp[bj,dJ,q]
theorem BF:Oz h (some (.lst xs))= .ok (.tup xs) h:=(rfl)
noncomputable def NK(h:PH)(o:Option PO):RV PV:=match o with
 | some (.lst xs)=> .ok (.int xs.length) h
 | some (.kM xs)=> .ok (.int xs.length) h
 | some (.dct kvs)=> .ok (.int kvs.length) h
 | _=> .no
theorem Lh:bY [.ref n] h=NK h (h[n]?):=by
 unfold NK
 cases q:h[n]? with
 | none=>simp[bY,itemsOf,dJ,q]
 | some o=>cases o<;>simp[bY,itemsOf,dJ,q]
theorem KL:NK h (some (.lst xs))= .ok (.int xs.length) h:=(rfl)
theorem Ij:NK h (some (.kM xs))= .ok (.int xs.length) h:=(rfl)
theorem jT{a:Str}: ∀{ss:List Str},((ss.map PV.str).any fun z=>KR z (.str a))=decide (a∈ss)
 | []=>by simp
 | x::t=>by
  rw[List.map_cons,List.any_cons,jT]
  by_cases e:x=a
  · subst e;simp[KR]
  · have e': ¬ a=x:=fun z=>e z.symm
    simp[KR,e,e']
theorem all_strs: ∀{ss:List Str},((ss.map PV.str).all fK)=true
 | []=>rfl
 | x::t=>by rw[List.map_cons,List.all_cons,all_strs];rfl
theorem xD{ss:List Str}:kG (.str a) (.tup (ss.map PV.str)) h= .ok (.bl (decide (a∈ss))) h:=by
 have:isIn (.str a) (.tup (ss.map PV.str)) h=some (decide (a∈ss)):=by
  unfold isIn
  simp only[itemsOf,all_strs,fK,Bool.and_self,if_true,jT]
 unfold kG;rw[this]
theorem wj{ss:List Str}:iH (.str a) (.tup (ss.map PV.str)) h= .ok (.bl (!decide (a∈ss))) h:=by
 have:isIn (.str a) (.tup (ss.map PV.str)) h=some (decide (a∈ss)):=by
  unfold isIn
  simp only[itemsOf,all_strs,fK,Bool.and_self,if_true,jT]
 unfold iH;rw[this]
theorem in_K{ss:List Str}:kG (.str a) (.ktup (ss.map PV.str)) h= .ok (.bl (decide (a∈ss))) h:=by
 have:isIn (.str a) (.ktup (ss.map PV.str)) h=some (decide (a∈ss)):=by
  unfold isIn
  simp only[itemsOf,all_strs,fK,Bool.and_self,if_true,jT]
 unfold kG;rw[this]
section
variable{c:CF}{e:ax}{d:ME}{kvs:List (Key × PV)}
noncomputable def Pp(kvs:List (Key × PV))(x:PV)(h:PH):RV PV:=match gZ x with
 | some key=>(match aW kvs key with
  | some v=> .ok v h
  | none=> .no)
 | none=> .no
theorem ML:Ay kvs d c e h=(d c e h).bind (Pp kvs):=(rfl)
theorem JC:Pp kvs (.str a) h=Mz h (aW kvs (.inr a)):=(rfl)
end
section
variable{c:CF}{e:ax}{d:ME}{l uu:MO}
noncomputable def Hv(uu:MO)(c:CF)(e:ax)(x:PV)(lo:Option Int)(h:PH):RV PV:=(uu c e h).bind (Fs x lo)
noncomputable def Nl(l uu:MO)(c:CF)(e:ax)(x:PV)(h:PH):RV PV:=(l c e h).bind (Hv uu c e x)
theorem Nr:mE d l uu c e h=(d c e h).bind (Nl l uu c e):=(rfl)
theorem Kf:Nl l uu c e x h=(l c e h).bind (Hv uu c e x):=(rfl)
theorem GD{lo:Option Int}:Hv uu c e x lo h=(uu c e h).bind (Fs x lo):=(rfl)
theorem Mr:cH c e h= .ok none h:=(rfl)
noncomputable def Po(v:PV)(h1:PH):RV (Option Int):=match v with
 | .int i=> .ok (some i) h1
 | _=> .no
theorem Nh:cJ d c e h=(d c e h).bind Po:=(rfl)
theorem Iy:Po (.int i) h= .ok (some i) h:=(rfl)
theorem OJ{lo hi:Option Int}:Fs (.tup xs) lo hi h= .ok (.tup (dY xs lo hi)) h:=(rfl)
noncomputable def N6(lo hi:Option Int)(h:PH)(o:Option PO):RV PV:=match o with
 | some (.lst xs)=> .ok (.ref h.length) (h++[.lst (dY xs lo hi)])
 | some (.kM xs)=> .ok (.ref h.length) (h++[.lst (dY xs lo hi)])
 | _=> .no
theorem OA{lo hi:Option Int}:Fs (.ref n) lo hi h=N6 lo hi h (h[n]?):=by
 unfold N6
 cases q:h[n]? with
 | none=>simp[Fs,dJ,q]
 | some o=>cases o<;>simp[Fs,dJ,q]
theorem Mx{lo hi:Option Int}:N6 lo hi h (some (.lst xs))= .ok (.ref h.length) (h++[.lst (dY xs lo hi)]):=(rfl)
theorem fA{lo:Int}(h0:0<=lo):dY xs (some lo) none=xs.drop lo.toNat:=by
 have e:lo=((lo.toNat:Nat):Int):=by omega
 unfold dY
 rw[e,HT.mK,HT.jQ]
 simp only[Int.toNat_natCast]
 rcases Nat.le_total lo.toNat xs.length with z | z
 · rw[Nat.min_eq_left z];exact List.take_of_length_le (by rw[List.length_drop];omega)
 · rw[Nat.min_eq_right z,List.drop_eq_nil_of_le (Nat.le_refl _),List.drop_eq_nil_of_le z];simp
theorem oS{hi:Int}(h0:0<=hi):dY xs none (some hi)=xs.take hi.toNat:=by
 have e:hi=((hi.toNat:Nat):Int):=by omega
 unfold dY
 rw[e,HT.mK,HT.jQ]
 simp only[Int.toNat_natCast,List.drop_zero,Nat.sub_zero]
 rcases Nat.le_total hi.toNat xs.length with z | z
 · rw[Nat.min_eq_left z]
 · rw[Nat.min_eq_right z,List.take_of_length_le (Nat.le_refl _),List.take_of_length_le z]
end
variable{o o':PO}{g:PH}{k:Nat}
theorem bE:(h++(o::g))[h.length]?=some o:=by rw[List.getElem?_append_right (Nat.le_refl _)];simp
theorem aK:(h++g)[h.length+k]?=g[k]?:=by rw[List.getElem?_append_right (by omega)];congr 1;omega
theorem aS(hn:n < h.length):(h++g)[n]?=h[n]?:=List.getElem?_append_left hn
theorem eW:(h++g).set h.length o=h++g.set 0 o:=by rw[List.set_append_right _ _ (Nat.le_refl _)];simp
theorem uw:(h++g).set (h.length+k) o=h++g.set k o:=by rw[List.set_append_right _ _ (by omega)];congr 2;omega
theorem bC(e:h[n]?=some o):n < h.length:=(List.getElem?_eq_some_iff.mp e).1
end
end P3
end
section
open PySem PySem.W PyProof.Rows
namespace P3
open PySem L2
section
variable{h:PH}{i j:Int}{a b:Str}{x y z w u v:PV}{r xs ys:List PV}{p q:Bool}{n m:Nat}
theorem JZ:l6 [.tup xs,.ty "tuple"] h= .ok (.bl true) h:=(rfl)
theorem GX:l6 [.int i,.ty "bool"] h= .ok (.bl false) h:=(rfl)
theorem HV:l6 [.int i,.ty "int"] h= .ok (.bl true) h:=(rfl)
theorem GG:l6 [.bl p,.ty "bool"] h= .ok (.bl true) h:=(rfl)
theorem IZ:l6 [.bl p,.ty "int"] h= .ok (.bl true) h:=(rfl)
theorem Jq:l6 [.non,.ty "bool"] h= .ok (.bl false) h:=(rfl)
theorem Jc:l6 [.non,.ty "int"] h= .ok (.bl false) h:=(rfl)
theorem rC:eF (x::r) 0=some x:=by simp only[eF,rQ];rw[if_pos (by decide),if_pos (by simp only[List.length_cons];omega)];rfl
theorem xt:eF (x::y::r) 1=some y:=by simp only[eF,rQ];rw[if_pos (by decide),if_pos (by simp only[List.length_cons];omega)];rfl
theorem BB:eF (x::y::z::r) 2=some z:=by simp only[eF,rQ];rw[if_pos (by decide),if_pos (by simp only[List.length_cons];omega)];rfl
theorem Ku:eF (x::y::z::w::r) 3=some w:=by simp only[eF,rQ];rw[if_pos (by decide),if_pos (by simp only[List.length_cons];omega)];rfl
theorem Io:dY (x::xs) (some 1) none=xs:=by rw[P3.fA (by decide)];rfl
end
section
variable{c:CF}{e:ax}{h h1:PH}{a b:ME}{r:MP}{x y v:PV}{kvs:List (Key × PV)}{key:Key}{s:Str}{i:Int}{n:Nat}
noncomputable def FX(n:Nat)(kvs:List (Key × PV))(h1:PH):RV PV:=if h1[n]?=some (.dct [])/\kvs.length<=15 then .ok (.ref n) (h1.set n (.dct (bA [] kvs))) else .no
noncomputable def OC(key:Key)(v:PV)(kvs:List (Key × PV))(h3:PH):RV (List (Key × PV)):= .ok ((key,v)::kvs) h3
noncomputable def Ob(key:Key)(r:MP)(c:CF)(e:ax)(v:PV)(h2:PH):RV (List (Key × PV)):=(r c e h2).bind (OC key v)
noncomputable def Pb(b:ME)(r:MP)(c:CF)(e:ax)(x:PV)(h1:PH):RV (List (Key × PV)):=match gZ x with
 | some key=>(b c e h1).bind (Ob key r c e)
 | none=> .no
theorem iO:oI r c e h=(r c e (h++[.dct []])).bind (FX h.length):=(rfl)
theorem lg:uL c e h= .ok [] h:=(rfl)
theorem kJ:dB a b r c e h=(a c e h).bind (Pb b r c e):=(rfl)
theorem i5:Pb b r c e (.str s) h=(b c e h).bind (Ob (.inr s) r c e):=(rfl)
theorem lx:Ob key r c e v h=(r c e h).bind (OC key v):=(rfl)
theorem lI:OC key v kvs h= .ok ((key,v)::kvs) h:=(rfl)
theorem y0(h1:h[n]?=some (.dct []))(h2:kvs.length<=15):FX n kvs h= .ok (.ref n) (h.set n (.dct (bA [] kvs))):=if_pos ⟨h1,h2⟩
theorem mN(h2:kvs.length<=15):FX h.length kvs (h++[.dct []])= .ok (.ref h.length) (h++[.dct (bA [] kvs)]):=by
 rw[y0 bE h2,eW];rfl
end
end P3
end
section
open PySem PySem.W PyProof.Rows
namespace P3
open PySem PySem.Spec PyProof.Rows L2
section
variable{X:Cx}{pg:Tb}{k:Nat}
noncomputable def Dh:V->List V->Hp->VK->Prop:=fun x vs H Q=> ∃ l b kvs more,x= .ref l/\vs=[.ref b]/\l≠b/\H l=some (.dK kvs)/\H b=some (.dK more)/\kvs.length+more.length<=sizeLine/\Q .non (upd H l (.dK (cE kvs more)))
theorem ya:FJ X "dict.update" Dh:=by
 intro pins s σ H x vs v us Q I rx rv h
 obtain⟨l,b,kvs,more,rfl,rfl,hlb,hH,hB,hz,q⟩:=h
 cases rx
 obtain⟨u,rfl,ru⟩:=vals1 rv
 cases(show u=Value.ref b from ru)
 obtain⟨z1,n1,vs1,r1,d1⟩:=og I.bu hH
 obtain⟨z2,n2,vs2,r2,d2⟩:=og I.bu hB
 refine call_meetsIn PySem.F.slot_dict_update d1.typeIs PySem.F.entry_dict_update (PySem.F.args_dict_update_2 _ _) (meets_dict_update (aJ X.prog X.w) l b hlb n2) ⟨vs1,vs2,d1,d2,by rw[<- r1.length,<- r2.length];exact hz,fun h' d' _ sb=>?_⟩
 have ln:=cY more kvs
 exact⟨.non,_,mL I (by rw[hH];exact trivial) sb (let ⟨q,_,_,hq,_⟩:=d';⟨q,hq⟩) (mV (by omega) n1 (KV.merge r2 r1) d'),rfl,q⟩
noncomputable def jD:PV->PH->Bool:=fun x h=>match x with
 | .ref n=>(match h[n]? with
  | some (.dct _)=>true
  | _=>false)
 | _=>false
theorem xu{ρ :List Addr}{h:PH}{H:Hp}{x:PV}{v:V}(s:cW X.K ρ h H)(r:rel X.K ρ H x v)(e:jD x h=true):Nu X.K "dict" v H:=by
 cases x with
 | ref n =>
  simp only[jD] at e
  split at e
  · rename_i kvs en
    rw[rel] at r
    obtain⟨a,ea,rfl⟩:=r
    obtain⟨kws,e1,_⟩:=s.ob n _ a en ea
    exact .inr (.inr (.inl ⟨rfl,.inl ⟨kws,e1⟩⟩))
  · exact nomatch e
 | _=>exact nomatch e
noncomputable def fW:PV->List PV->PH->RV PV:=fun x vs h=>match x,vs with
 | .ref n,[.ref m]=>(match h[n]?,h[m]? with
  | some (.dct kvs),some (.dct more)=>if n≠m/\kvs.length+more.length<=sizeLine then .ok .non (h.set n (.dct (bA kvs more))) else .no
  | _,_=> .no)
 | _,_=> .no
theorem BR:de X pg k-> ∃ r,FJ X "dict.update" r/\NC X.K "dict" r fW jD:=fun A=>⟨_,ya,fun ρ h H x x' s r e=>xu s r e,fun ρ h H x x' xs us Q v h' s rx rs q P=>by
 unfold fW at q
 split at q
 · rename_i n m
   split at q
   · rename_i kvs more en em
     split at q
     · rename_i hl
       cases q
       rw[rel] at rx
       obtain⟨a,ea,rfl⟩:=rx
       obtain⟨kws,e1,e2⟩:=s.ob n _ a en ea
       obtain⟨u,rfl,r⟩:=b9 rs
       rw[rel] at r
       obtain⟨b,eb,rfl⟩:=r
       obtain⟨mws,d1,d2⟩:=s.ob m _ b em eb
       have hab:a≠b:=fun e=>hl.1 (s.nd n m a _ _ en em rfl rfl ea (e ▸ eb))
       have g:Gr ρ H ρ (upd H a (.dK (cE kws mws))):=Gr.write (.inr ⟨_,e1⟩)
       exact⟨a,b,kws,mws,rfl,rfl,hab,e1,d1,by rw[<- RK.len e2,<- RK.len d2];exact hl.2,P _ ρ _ g (s.write en ea rfl rfl ⟨_,a8,RK.merge (Paired.eX g d2) (Paired.eX g e2)⟩) (by rw[rel])⟩
     · exact nomatch q
   · exact nomatch q
 · exact nomatch q⟩
end
section
variable{h:PH}{n m:Nat}{kvs more:List (Key × PV)}
theorem N5(e1:h[n]?=some (.dct kvs))(e2:h[m]?=some (.dct more))(hn:n≠m)(hl:kvs.length+more.length<=1000):fW (.ref n) [.ref m] h= .ok .non (h.set n (.dct (bA kvs more))):=by
 have z:kvs.length+more.length<=sizeLine:=Nat.le_trans hl (by decide)
 simp only[fW,e1,e2,if_pos (And.intro hn z)]
theorem MW(e1:h[n]?=some (.dct kvs)):jD (.ref n) h=true:=by simp only[jD,e1]
end
section
variable{prog:Program}{w:World}{A:Around}{E:Value->Shared->Prop}
theorem tH{g g':Heap}{l b:Addr}{us:Array Value}(h:g.IsList l us)(ne:l≠b)(sb:Heap.SameBut b g g'):g'.IsList l us :=
 let ⟨o,e1,e2,e3⟩:=h;⟨o,(sb.2 l ne).trans e1,e2,e3⟩
theorem zM{b l : Addr}{us : Array Value}(ne : l ≠ b) : ∀(n i : Nat)(s : Shared)(R : List Value -> Shared -> Prop), s.heap.IsListIter b l i -> s.heap.IsList l us -> i + n <= us.size ->
    (∀ g, g.IsListIter b l (i + n) -> Heap.SameBut b s.heap g -> R ((us.toList.drop i).take n) { s with heap := g }) -> wpAny (model prog w) A (draw (.ref b) n) R E s := by
  intro n
  induction n with
  | zero => intro i s R h1 _ _ q; exact wpAny_pure (q s.heap h1 (Heap.SameBut.refl _ _))
  | succ n ih =>
    intro i s R h1 h2 hn q
    have hi : i < us.size := by omega
    unfold draw
    refine wpAny_bind (wpAny_pyNext_list_item h1 h2 (x := us[i]) (by simp[hi]) fun g g1 gs => ?_)
    refine wpAny_bind (wpAny_holding (ih (i + 1) _ _ g1 (tH h2 ne gs) (by omega) fun g' g1' gs' => wpAny_pure ?_))
    have e : us.toList.drop i = us[i] :: us.toList.drop (i + 1) := by rw[List.drop_eq_getElem_cons (by simpa using hi)]; simp
    have r := q g' (by have e2 : i + (n + 1) = i + 1 + n := by omega
                       rw[e2]; exact g1') (gs.trans gs')
    rw[e, List.take_succ_cons] at r
    exact r
theorem uM{env:Env}{es:List Expr}{j:Nat}{pos:Pos}{l:Addr}{us:Array Value}{s:Shared}{R:Unit->Shared->Prop}(hh:A.handled=none)(hl:s.heap.IsList l us)(hn:(assignEach es env).length=us.size)(hst:(assignEach es env).findIdx? (·.1)=none)
  (q: ∀ g,(∀ b o,s.heap.get? b=some o->g.get? b=some o)->wpAny (model prog w) A (assignInOrder ((assignEach es env).map (·.2)) us.toList) R E { s with heap:=g }):wpAny (model prog w) A (assign (.Tuple es j pos) env (.ref l)) R E s:=by
 have ne:l≠s.heap.objs.size:=by obtain⟨o,ho,_⟩:=hl;exact Nat.ne_of_lt (Heap.lt_size ho)
 rw[assign_Tuple]
 refine wpAny_bind (wpAny_standAt ?_)
 unfold unpack
 rw[hn,hst]
 refine wpAny_bind ?_;refine wpAny_holding ?_
 unfold unpackItems notIterableAtAll
 refine wpAny_bind (wpAny_bind (wpAny_specialOf hl.typeIs slot_list_iter.lookup (wpAny_pure ?_)))
 simp only[if_false,Bool.false_eq_true]
 refine wpAny_bind ?_;refine wpAny_holding (wpAny_pyIter_list hl ?_)
 have l1:(s.heap.push { cls:= .type "list_iterator",data:= .fields #[.ref l,.int 0 0] }).IsList l us:=let ⟨o,e1,e2,e3⟩:=hl;⟨o,Heap.get?_push_of_some _ e1,e2,e3⟩
 refine wpAny_bind (wpAny_holding (zM ne us.size 0 _ _ ⟨_,Heap.get?_push_size _ rfl,rfl,rfl⟩ l1 (by omega) fun g g1 gs=>?_))
 have al:(us.toList.drop 0).take us.size=us.toList:=by rw[List.drop_zero,List.take_of_length_le (by simp)]
 rw[al,if_neg (by simp)]
 refine wpAny_bind (wpAny_holding (wpAny_pyNext_list_end hh g1 (tH l1 ne gs) (by simp) fun g' ge=>?_))
 simp only[if_false,Option.isSome_none,Bool.false_eq_true]
 refine wpAny_pure (q g' fun b o e=>?_)
 have hb:b≠s.heap.objs.size:=Nat.ne_of_lt (Heap.lt_size e)
 exact ge b o hb ((gs.2 b hb).trans (Heap.get?_push_of_some _ e))
end
section
variable{X:Cx}{pg:Tb}{k:Nat}{pos:Pos}{es:List Expr}{gs:List PV->ax->PH->RV ax}
noncomputable def K0(K:PySem.W.Frag)(n:Nat)(t:qp):TG:=fun v σ H Q=>uz K n t v σ H Q\/ ∃ a xs,v= .ref a/\gA K H a xs/\xs.length=n/\t xs σ H Q
theorem C6{j:Nat}{t:qp}{n:Nat}(hc:X.calm=true)(h:KS X es t)(hn:(assignEach es X.env).length=n:=by rfl)(hst:(assignEach es X.env).findIdx? (·.1)=none:=by rfl):QG X (.Tuple es j pos) (K0 X.K n t):=⟨by
 intro pins s σ H v u Q I r hw
 rcases hw with hw | ⟨a,xs,e1,hq,hl,hw⟩
 · exact(BW hc h hn hst).h pins s σ H v u Q I r hw
 · subst e1
   cases r
   obtain⟨ay,rv,pl,hz⟩:=I.list hq
   refine uM (I.ok.hd hc) pl.isList (by simp[hn,<- hl,rv.length]) hst fun g kp=>?_
   have I1:Inv X pins σ H { s with heap:=g }:=I.kept (t':=s.toks) kp
   exact h.h pins _ σ H xs _ Q I1 (by simpa using rv) hw⟩
noncomputable def DD(n:Nat)(g:List PV->ax->PH->RV ax):MG:=fun v e h=>match v with
 | .ref m=>(match h[m]? with
  | some (.lst xs)=>if xs.length=n then g xs e h else .no
  | _=> .no)
 | v=>gT n g v e h
theorem Ed{j:Nat}{n:Nat}(h:KZ X pg k es gs)(hn:(assignEach es X.env).length=n:=by rfl)(hst:(assignEach es X.env).findIdx? (·.1)=none:=by rfl):JG X pg k (.Tuple es j pos) (DD n gs):=⟨fun A =>
 let ⟨_,q1,s1⟩:=h.h A;⟨_,C6 A.calm q1 hn hst,fun ρ h H e σ Q v v' e' h' s r rv q P=>by
 unfold DD at q
 split at q
 · rename_i m
   split at q
   · rename_i xs em
     split at q
     · rename_i hl
       obtain⟨a,vs,rfl,ea,e1,rr⟩:=s.lst em rv
       exact .inr ⟨a,vs,rfl,.of e1,by rw[<- rr.len];exact hl,s1 ρ h H e σ Q xs vs e' h' s r rr q P⟩
     · exact nomatch q
   · exact nomatch q
 · unfold gT at q
   split at q
   · rename_i xs ex
     obtain⟨a,vs,rfl,z,rr⟩:=rel.seq ex rv
     split at q
     · rename_i hl
       exact .inl ⟨a,vs,rfl,z,by rw[<- rr.len];exact hl,s1 ρ h H e σ Q xs vs e' h' s r rr q P⟩
     · exact nomatch q
   · exact nomatch q⟩⟩
end
section
variable{n m:Nat}{e:ax}{h:PH}{v:PV}{xs:List PV}{gs:List PV->ax->PH->RV ax}
noncomputable def NW(n:Nat)(gs:List PV->ax->PH->RV ax)(e:ax)(h:PH):Option PO->RV ax
 | some (.lst xs)=>if xs.length=n then gs xs e h else .no
 | _=> .no
theorem wz:x9 (DD n gs) e v h=(DD n gs v e h).bind C4:=(rfl)
theorem AN : DD n gs (.ref m) e h = NW n gs e h (h[m]?) := by
  unfold DD NW
  first
    | rfl
    | (simp only; done)
    | (cases h[m]? with
       | none => rfl
       | some o => cases o <;> rfl)
theorem xa{x y:PV}:NW 2 gs e h (some (.lst [x,y]))=gs [x,y] e h:=(rfl)
end
end P3
end
section
open PySem PySem.W PyProof.Rows
namespace P3
open PySem PySem.Spec PyProof.Rows L2
section
variable{α :Type}{p:List α ->Prop}
theorem PN(h:p []): ∀ us:List α,us.length=0->p us:=fun us e=>by rw[List.length_eq_zero_iff.mp e];exact h
theorem Ls{n:Nat}(h: ∀ a: α,∀ us:List α,us.length=n->p (a::us)): ∀ us:List α,us.length=n+1->p us:=fun us e=>by
 cases us with
 | nil=>simp at e
 | cons a r=>exact h a r (by simpa using e)
theorem KY(h: ∀ a,p [a]): ∀ us:List α,us.length=1->p us:=Ls fun a=>PN (h a)
theorem r9(h: ∀ a b,p [a,b]): ∀ us:List α,us.length=2->p us:=Ls fun a=>KY (h a)
theorem BZ(h: ∀ a b c,p [a,b,c]): ∀ us:List α,us.length=3->p us:=Ls fun a=>r9 (h a)
theorem IL(h: ∀ a b c d,p [a,b,c,d]): ∀ us:List α,us.length=4->p us:=Ls fun a=>BZ (h a)
theorem PD(h: ∀ a b c d e,p [a,b,c,d,e]): ∀ us:List α,us.length=5->p us:=Ls fun a=>IL (h a)
end
section
variable{X:Cx}{pg:Tb}{k:Nat}{e iter:Expr}{ma:ME}{mt:MT}{mI:MI}{scope:Scope}{ifs:List Expr}{pos spos py vp wp tp:Pos}{y v w:Str}{i j m n:Nat}
theorem GC.of{K:PySem.W.Frag}(h:Nat.ble n i=true):GC K n (fw i) (gN i):=EH (Nat.le_of_ble_eq_true h)
theorem Ip(hi:JI X pg k (.Name v vp) iter mI)
  (hb: ∀ cl C s₀ H₀ ex pn,(de X pg k->QG (fG X [v] scope cl C s₀ H₀ ex pn) (.Name v vp) (fw m))/\JF (fG X [v] scope cl C s₀ H₀ ex pn) pg k ifs mt/\JE (fG X [v] scope cl C s₀ H₀ ex pn) pg k e ma)
  (hm:Nat.ble X.N.length m=true:=by rfl) (hkind:scope.kind= .function:=by rfl) (hlc:hU scope.names X.env.scope.names X.N [v]=true:=by rfl) (hs: ∀ x,foldedSetIterable iter X.env x=pure x:=by intro _;rfl) :
  JE X pg k (.ListComp e [⟨.Name v vp,iter,ifs,0⟩] scope pos) (pb 1 mI (gN m) mt ma):=tL [v] hkind hlc hi hb (GC.of hm) hs
theorem HG(hi:JI X pg k (.Tuple [.Name v vp,.Name w wp] j tp) iter mI)
  (hb: ∀ cl C s₀ H₀ ex pn,(de X pg k->QG (fG X [v,w] scope cl C s₀ H₀ ex pn) (.Tuple [.Name v vp,.Name w wp] j tp) (uz X.K 2 (lQ (fw m) (lQ (fw n) xN))))/\JF (fG X [v,w] scope cl C s₀ H₀ ex pn) pg k ifs mt/\JE (fG X [v,w] scope cl C s₀ H₀ ex pn) pg k e ma)
  (hm:Nat.ble X.N.length m=true:=by rfl) (hn:Nat.ble X.N.length n=true:=by rfl) (hkind:scope.kind= .function:=by rfl) (hlc:hU scope.names X.env.scope.names X.N [v,w]=true:=by rfl) (hs: ∀ x,foldedSetIterable iter X.env x=pure x:=by intro _;rfl) :
  JE X pg k (.ListComp e [⟨.Tuple [.Name v vp,.Name w wp] j tp,iter,ifs,0⟩] scope pos) (pb 2 mI (gT 2 (aL (gN m) (aL (gN n) dS))) mt ma):=tL [v,w] hkind hlc hi hb (Au (jU (GC.of hm) (jU (GC.of hn) wG))) hs
theorem Gx(hN:X.N.Nodup)(hi:JI X pg k (.Name v vp) iter mI)
  (hb: ∀ cl C s₀ H₀ ex pn,(de X pg k->QG (fG X [v] scope cl C s₀ H₀ ex pn) (.Name v vp) (fw m))/\JF (fG X [v] scope cl C s₀ H₀ ex pn) pg k ifs mt/\JE (fG X [v] scope cl C s₀ H₀ ex pn) pg k e ma)
  (hm:Nat.ble X.N.length m=true:=by rfl) (hiy:X.N[i]?=some y:=by rfl) (hy:Loc X.env.scope y:=by first | exact Or.inl rfl | exact Or.inr rfl) (hkind:scope.kind= .function:=by rfl) (hlc:hU scope.names X.env.scope.names X.N [v]=true:=by rfl)
  (hsw:swapsWith (.ListComp e [⟨.Name v vp,iter,ifs,0⟩] scope pos) (some (.Name y py)) spos.line X.env=pure true:=by rfl) (hs: ∀ x,foldedSetIterable iter X.env x=pure x:=by intro _;rfl)
  (hf:X.fn y=true\/X.env.scope.names.lookup y=some .local:=by first | exact .inl rfl | exact .inr rfl | assumption) :
  JS X pg k (.Assign [.Name y py] (.ListComp e [⟨.Name v vp,iter,ifs,0⟩] scope pos) spos) (aj (pb 1 mI (gN m) mt ma) (gN i)):=tN [v] i hkind hlc hN hiy hy hi hb (GC.of hm) hsw hs hf
theorem HQ(hN:X.N.Nodup)(hi:JI X pg k (.Tuple [.Name v vp,.Name w wp] j tp) iter mI)
  (hb: ∀ cl C s₀ H₀ ex pn,(de X pg k->QG (fG X [v,w] scope cl C s₀ H₀ ex pn) (.Tuple [.Name v vp,.Name w wp] j tp) (uz X.K 2 (lQ (fw m) (lQ (fw n) xN))))/\JF (fG X [v,w] scope cl C s₀ H₀ ex pn) pg k ifs mt/\JE (fG X [v,w] scope cl C s₀ H₀ ex pn) pg k e ma)
  (hm:Nat.ble X.N.length m=true:=by rfl) (hn:Nat.ble X.N.length n=true:=by rfl) (hiy:X.N[i]?=some y:=by rfl) (hy:Loc X.env.scope y:=by first | exact Or.inl rfl | exact Or.inr rfl) (hkind:scope.kind= .function:=by rfl) (hlc:hU scope.names X.env.scope.names X.N [v,w]=true:=by rfl)
  (hsw:swapsWith (.ListComp e [⟨.Tuple [.Name v vp,.Name w wp] j tp,iter,ifs,0⟩] scope pos) (some (.Name y py)) spos.line X.env=pure true:=by rfl) (hs: ∀ x,foldedSetIterable iter X.env x=pure x:=by intro _;rfl)
  (hf:X.fn y=true\/X.env.scope.names.lookup y=some .local:=by first | exact .inl rfl | exact .inr rfl | assumption) :
  JS X pg k (.Assign [.Name y py] (.ListComp e [⟨.Tuple [.Name v vp,.Name w wp] j tp,iter,ifs,0⟩] scope pos) spos) (aj (pb 2 mI (gT 2 (aL (gN m) (aL (gN n) dS))) mt ma) (gN i)):=tN [v,w] i hkind hlc hN hiy hy hi hb (Au (jU (GC.of hm) (jU (GC.of hn) wG))) hsw hs hf
end
end P3
end
section
open PySem PySem.W PyProof.Rows
namespace L2
open PySem PySem.Spec PyProof.Rows
theorem rO{a:Str}: ∀{us:List Value}{ss:List Str},StrsAre us ss-> ∀(i:Nat)(hu:i < us.length)(hs:i < ss.length),isStrOf a us[i]=(ss[i] == a)
 | _,_,.nil,i,hu,_=>absurd hu (Nat.not_lt_zero i)
 | _,_,.cons x t h,0,_,_=>rfl
 | _,_,.cons x t h,i+1,hu,hs=>rO h i (Nat.lt_of_succ_lt_succ hu) (Nat.lt_of_succ_lt_succ hs)
theorem Ht{a:Str}{ss:List Str}(h:a∈ss):ss.idxOf a < ss.length:=List.idxOf_lt_length_iff.mpr h
section
variable{X:Cx}
noncomputable def Eb:V->List V->Hp->VK->Prop:=fun x vs H Q=> ∃(l:Addr)(ss:List Str)(a:Str),x= .ref l/\vs=[.str a]/\H l=some (.lst (ss.map V.str))/\a∈ss/\Q .non (upd H l (.lst ((ss.map V.str).eraseIdx (ss.idxOf a))))
theorem xH:Pa X "list.remove" Eb:=by
 intro pins s σ H x vs v us Q I rx rv h
 obtain⟨l,ss,a,rfl,rfl,hH,ha,q⟩:=h
 cases rx
 obtain⟨u,rfl,t,rfl⟩:=rv.one
 obtain⟨z,ay,n,r,hl,e⟩:=I.Ag hH
 have sa:=jE r
 have ln:ay.length=ss.length:=by rw[<- hl,List.length_map]
 have hj:=Ht ha
 refine call_meets F.slot_list_remove ⟨_,e,rfl⟩ F.entry_list_remove (F.args_list_remove_2 _ _)
  (MeetsSeq.list_remove l ay.toArray n (.str a t) (isStrOf a) (fun y hy=>eq_isStrOf a t sa y (by simpa using hy)) (ss.idxOf a) (by rw[List.size_toArray,ln];exact hj) ?_ ?_ (by rw[List.size_toArray,<- hl];exact z)) ⟨e,?_⟩
 · show isStrOf a (ay[ss.idxOf a]'(by rw[ln];exact hj))=true
   rw[rO sa _ _ hj,List.getElem_idxOf hj,beq_self_eq_true]
 · intro m hm hlt
   have hm':m < ss.length:=by rw[List.size_toArray,ln] at hm;exact hm
   show isStrOf a (ay[m]'(by rw[ln];exact hm'))=false
   rw[rO sa _ _ hm']
   have:=List.not_of_lt_findIdx (p:=(· == a)) (xs:=ss) (i:=m) hlt
   simpa using this
 · refine⟨.non,_,I.Lo (its':=ay.eraseIdx (ss.idxOf a)) hH e ?_ (r.eraseIdx _) ?_,rfl,q⟩
   · show ay.toArray.eraseIdxIfInBounds (ss.idxOf a)=(ay.eraseIdx (ss.idxOf a)).toArray
     rw[List.eraseIdxIfInBounds_toArray]
   · have:=pW (ss.map V.str) (ss.idxOf a)
     omega
end
end L2
namespace P3
open PySem PySem.Spec PyProof.Rows L2
section
variable{X:Cx}{pg:Tb}{k:Nat}
theorem p8{α β :Type}(f: α -> β): ∀(l:List α)(i:Nat),(l.map f).eraseIdx i=(l.eraseIdx i).map f
 | [],i=>by simp
 | a::r,0=>rfl
 | a::r,i+1=>by simp[p8 f r i]
noncomputable def xk(ss:List Str)(a:Str):List Str:=ss.eraseIdx (ss.idxOf a)
noncomputable def i4:PV->List PV->PH->RV PV:=fun x vs h=>match x,vs with
 | .ref n,[.str a]=>(match h[n]? with
  | some (.lst xs)=>(match fV xs with
   | some ss=>if a∈ss then .ok .non (h.set n (.lst ((xk ss a).map PV.str))) else .no
   | none=> .no)
  | _=> .no)
 | _,_=> .no
theorem BC:de X pg k-> ∃ r,FJ X "list.remove" r/\NC X.K "list" r i4 ee:=fun A=>⟨_,xH,fun ρ h H x x' s r e=>sM s r e,fun ρ h H x x' xs us Q v h' s rx rs q P=>by
 unfold i4 at q
 split at q
 · rename_i n a
   split at q
   · rename_i ys en
     split at q
     · rename_i ss es
       split at q
       · rename_i ha
         cases q
         obtain⟨b,vs,rfl,ea,e1,e2⟩:=s.lst en rx
         obtain⟨u,rfl,r⟩:=b9 rs
         rw[rel] at r
         subst r
         rw[hW es,cP] at e2
         subst e2
         have g:Gr ρ H ρ (upd H b (.lst ((ss.map V.str).eraseIdx (ss.idxOf a)))):=Gr.write (.inl ⟨_,e1⟩)
         refine⟨b,ss,a,rfl,rfl,e1,ha,P _ ρ _ g (s.write en ea rfl rfl ⟨_,a8,?_⟩) (by rw[rel])⟩
         rw[cP,xk,p8]
       · exact nomatch q
     · exact nomatch q
   · exact nomatch q
 · exact nomatch q⟩
end
section
variable{h:PH}{n:Nat}{ss:List Str}{a:Str}{y:PV}{r:List PV}
theorem Oq(e:h[n]?=some (.lst (ss.map PV.str)))(ha:a∈ss):i4 (.ref n) [.str a] h= .ok .non (h.set n (.lst ((xk ss a).map PV.str))):=by
 simp only[i4,e,dU,if_pos ha]
end
section
variable{X:Cx}{pg:Tb}{k i:Nat}{e:Expr}{x:Str}{ma:ME}{pos pos':Pos}
noncomputable def sJ:PV->PV->PH->RV PV:=fun x y h=>match x,y with
 | .int a,.int b=> .ok (.int (a+b)) h
 | _,_=> .no
theorem HM(hN:X.N.Nodup)(he:JE X pg k e ma)(hi:X.N[i]?=some x:=by rfl)(hx:Loc X.env.scope x:=by first | exact Or.inl rfl | exact Or.inr rfl)(hf:X.fn x=true\/X.env.scope.names.lookup x=some .local:=by first | exact .inl rfl | exact .inr rfl | assumption) :
  JS X pg k (.AugAssign (.Name x pos') .Add e pos) (aj (ag sJ (ab i) ma) (gN i)):=⟨fun A=>by
 obtain⟨_,q1,s1⟩:=he.h A
 refine⟨_,⟨Jm hN hi hx q1.h Iw hf⟩,fun ρ h H e σ D f h' s r q P=>?_⟩
 obtain⟨v,h1,e1,q⟩:=bind_eq.mp q
 obtain⟨e2,h2,e3,q⟩:=bind_eq.mp q
 cases q
 cases e3
 obtain⟨a,h3,e4,e8⟩:=bind_eq.mp e1
 obtain⟨b,h4,e5,e9⟩:=bind_eq.mp e8
 unfold ab at e4
 split at e4
 · cases e4
   rename_i en
   obtain⟨v',e6,e7⟩:=r.get i a en
   unfold sJ at e9
   split at e9
   · cases e9
     skip
     rw[rel] at e7
     subst e7
     refine⟨_,e6,s1 ρ h H e σ _ _ _ s r e5 fun w ρ1 H1 g1 z1 r1=>?_⟩
     rw[rel] at r1
     subst r1
     exact⟨_,_,rfl,rfl,P _ ρ1 H1 g1 z1 ((r.gr g1).set i (by rw[rel]))⟩
   · exact nomatch e9
 · exact nomatch e4⟩
theorem ED{a b:Int}{h:PH}:sJ (.int a) (.int b) h= .ok (.int (a+b)) h:=(rfl)
end
section
variable{X:Cx}{pg:Tb}{k j n:Nat}{es:List Expr}{t:qp}{pos:Pos}{vars:List Str}{scope:Scope}{cl:List (Str × Addr)}{C:Addr}{s0:Shared}{H0:Hp}{ex:List Addr}{pn:List (Addr × Obj)}
end
end P3
end
section
open PySem PySem.W PyProof.Rows
namespace P3
open PySem PySem.Spec PyProof.Rows L2
theorem Bj{prog:Program}{w:World}{A:Around}(hh:A.handled=none){it l:Addr}(hne:l≠it)(us:Array Value) :
  Draws prog w A it [it,l] us.size (fun i v=>us[i]?=some v) (fun i h=>h.IsTupleIter it l i/\h.IsTuple l us) where
 live:=fun _ _ z=>by obtain⟨⟨o,e,_⟩,_⟩:=z;exact⟨o,e⟩
 frame:=fun _ _ _ z kp=>by
  obtain⟨⟨o,e,r⟩,⟨o2,e2,r2⟩⟩:=z
  exact⟨⟨o,kp it (by simp) o e,r⟩,⟨o2,kp l (by simp) o2 e2,r2⟩⟩
 item:=fun i s Q E hi z q=>gP z.1 z.2 (x:=us[i]) (by simp[hi]) fun h' a b=>q _ h' s.toks (by simp[hi]) ⟨a,by obtain⟨o2,e2,r2⟩:=z.2;exact⟨o2,b.extBut _ _ hne e2,r2⟩⟩ b
 done:=fun s Q E z q=>lG hh z.1 z.2 (by simp) q
noncomputable def O9(K : PySem.W.Frag)(a : Addr) : It :=
  ⟨fun i H => ∃ xs x, eY K H a xs /\ xs[i]? = some x,
   fun i H v H' => ∃ p x, H p = none /\ v = .ref p /\ H' = upd H p (.tup [.int (i : Int), x]) /\ ∀ xs, eY K H a xs -> xs[i]? = some x,
   fun i H => ∃ xs, eY K H a xs /\ xs.length = i⟩
theorem yr{P:Program}{w:World}{K:PySem.W.Frag}{els:List Expr}{j:Nat}{pos:Pos}{e it a:Addr}(hei:e≠it)(hea:e≠a)(hai:a≠it) :
  Turn P w K (.Tuple els j pos) (O9 K a) [e,it] e (fun i h=>(∃ old,IsEnum h e it i old)/\h.IsTupleIter it a i) where
 mem:=by simp
 obj:=fun i h z b hb=>by
  obtain⟨⟨old,e1⟩,⟨o4,e4,_,d4⟩⟩:=z
  simp only[List.not_mem_nil,or_false,List.mem_cons] at hb
  rcases hb with rfl | rfl
  · exact⟨_,e1,fun v q=>nomatch q⟩
  · exact⟨_,e4,fun v q=>by rw[d4] at q;exact nomatch q⟩
 keep:=fun i h h' z kp=>by
  obtain⟨⟨old,e1⟩,⟨o4,e4,d4⟩⟩:=z
  exact⟨⟨old,kp _ (by simp) _ e1⟩,⟨o4,kp _ (by simp) _ e4,d4⟩⟩
 item:=by
  intro X hP hw hK hc i pins s σ H E I hf z hg
  subst hP hw hK
  obtain⟨xs,x,s1,ex⟩:=hg
  obtain⟨us,ru,pu,_⟩:=I.tuple s1
  obtain⟨ux,eu,rx⟩:=ru.get ex
  obtain⟨⟨old,e1⟩,hit⟩:=z
  have hlt:i < us.toArray.size:=by simpa using(List.getElem?_eq_some_iff.mp eu).1
  refine wpAny_pyNext_enum_itemD (Bj (A:=X.A.in1) (show X.A.in1.handled=none from I.ok.hd hc) hai us.toArray) e1 ⟨hit,pu⟩ hlt hei (by simp[hei,hea]) fun y h1 tk f1 f2 f3 f4 f5 f6=>⟨_,rfl,?_⟩
  have hy:y=ux:=by
   have h2:us.toArray[i]?=some ux:=by simpa using eu
   rw[h2] at f1;cases f1;rfl
  subst hy
  refine wpAny_letOwnedTupleGo_enum (s:={ s with heap:=h1,toks:=tk+1 }) f2 fun h2 g1 g2=>?_
  have ex1:=g2.extBut
  have elt:e < s.heap.objs.size:=Heap.lt_size e1
  have new:h2.get? s.heap.objs.size=some { cls:= .type "tuple",data:= .seq #[.int i tk,y] }:=ex1 _ _ (Nat.ne_of_gt elt) f4
  have hn:H s.heap.objs.size=none:=I.bu.fresh (Nat.le_refl _)
  have I2:Inv X pins σ (upd H s.heap.objs.size (.tup [.int (i:Int),x])) { s with heap:=h2,toks:=tk+1 }:=by
   refine qe (turned:=[e,it]) I (fun b o nb q=>?_) (fun b hb=>hf b hb) (Nat.le_refl _) ?_
   · simp only[List.mem_cons,List.not_mem_nil,or_false,not_or] at nb
     exact ex1 _ _ nb.1 (f6 b o nb.1 nb.2 q)
   · exact⟨by show 2<=sizeLine;decide,[.int i tk,y],.cons ⟨tk,rfl⟩ (.cons rx .nil),_,new,rfl,_,rfl,rfl⟩
  refine⟨.ref s.heap.objs.size,upd H s.heap.objs.size (.tup [.int (i:Int),x]),I2,rfl,⟨_,x,hn,rfl,rfl,fun xs' q=>?_⟩,?_,fun b hb=>?_⟩
  · rw[I.iQ q s1];exact ex
  · obtain⟨⟨o4,e4,c4⟩,_⟩:=f3
    exact⟨⟨_,by simpa using g1⟩,⟨o4,ex1 _ _ hei.symm e4,c4⟩⟩
  · have hb0:=(hf b hb).1
    have: ∃ o,s.heap.get? b=some o:=by
     obtain⟨o4,e4,_⟩:=hit
     simp only[List.not_mem_nil,or_false,List.mem_cons] at hb
     rcases hb with rfl | rfl
     · exact⟨_,e1⟩
     · exact⟨_,e4⟩
    obtain⟨o,eo⟩:=this
    rw[aA (Nat.ne_of_lt (Heap.lt_size eo))]
    exact hb0
 done:=by
  intro X hP hw hK hc i pins s σ H E I hf z hg
  subst hP hw hK
  obtain⟨xs,s1,he⟩:=hg
  obtain⟨us,ru,pu,_⟩:=I.tuple s1
  obtain⟨⟨old,e1⟩,hit⟩:=z
  have ei:i=us.toArray.size:=by have:=ru.length;simp;omega
  rw[ei] at hit
  refine wpAny_pyNext_enum_endD (Bj (A:=X.A.in1) (show X.A.in1.handled=none from I.ok.hd hc) hai us.toArray) e1 ⟨hit,pu⟩ fun h1 kp=>⟨rfl,AH (turned:=[e,it]) (t':=s.toks) I (fun b o nb q=>?_) fun b hb=>hf b hb⟩
  simp only[List.mem_cons,List.not_mem_nil,or_false,not_or] at nb
  exact kp b o nb.2 q
 self:=fun A i s Q E z h=>by
  obtain⟨⟨old,e1⟩,_⟩:=z
  exact wpAny_pyIter_enum e1 h
abbrev La(h:Heap)(a:Addr):Heap:=Heap.push (Heap.push h (tI a)) { cls:= .type "enumerate",data:= .fields #[.none,.bool false,.ref h.objs.size,rawInt 0,.none,.none] }
theorem rf(a:Addr)(us:Array Value):Meets (Builtin.«enumerate.__new__» ⟨[.type "enumerate",.ref a],[]⟩) (fun _ R u=>u.heap.IsTuple a us/\R (.ok (.ret (.ref (u.heap.objs.size+1)))) { u with heap:=La u.heap a }) :=
 .of_wp fun prog w A R u hu=>by
  obtain⟨hp,gg,dd,tk,os⟩:=u
  obtain⟨ha,hr⟩:=hu
  have sub:=sub_enumerate
  have fa:Heap.IsTuple (Shared.heap ⟨hp,gg,dd,tk,os⟩) a us:=ha
  wp_walk using wpAny_pyIter_tuple fa
  refine wpAny_stack_any fun z=>?_
  refine wpAny_pure ?_
  have fin1: ∀ v u,v=Value.ref (hp.objs.size+1)->u=(⟨La hp a,gg,dd,tk,os⟩:Shared)->R (.ok (.ret v)) u:=fun v u e1 e2=>by rw[e1,e2];exact hr
  split
  · rename_i c _ _ _ _ _
    cases c == Value.type "enumerate" <;>(wp_walk using wpAny_pyIter_tuple fa;exact⟨_,rfl,fin1 _ _ (by simp[Heap.size_push]) rfl⟩)
  · wp_walk using wpAny_pyIter_tuple fa
    exact⟨_,rfl,fin1 _ _ (by simp[Heap.size_push]) rfl⟩
section
variable{X:Cx}{pg:Tb}{k:Nat}{a:Expr}{ma:ME}{p pos:Pos}{els:List Expr}{j:Nat}{tpos:Pos}
theorem GR(h:Heap)(l:Addr):(∃ old,IsEnum (La h l) (h.objs.size+1) h.objs.size ((0:Nat):Int) old)/\(La h l).IsTupleIter h.objs.size l 0:=by
 have n1:(Heap.push h (tI l)).objs.size=h.objs.size+1:=Heap.size_push ..
 refine⟨⟨.none,?_⟩,⟨tI l,?_,rfl,rfl⟩⟩
 · rw[<- n1];exact Heap.get?_push_size _ rfl
 · refine Heap.get?_push_of_some _ ?_;exact Heap.get?_push_size _ rfl
noncomputable def Ih(K:PySem.W.Frag)(ta:TA):TI:=fun σ H R=>ta σ H fun vs H1=> ∃ a1 xs,vs=[.ref a1]/\eY K H1 a1 xs/\R (O9 K a1) H1
theorem EE{ta:TA}(hg:Gl X "enumerate")(hm:X.mg "enumerate" =none)(ha:PA X [a] ta)(hs:starEach [a] X.env=[(false,eval a X.env)]) :
  PI X (.Tuple els j tpos) (.Call (.Name "enumerate" p) [a] [] pos) (Ih X.K ta):=by
 intro pins s σ H R I h
 refine Call_ (lq I hg hm boot_enumerate (PyProof.Rows.callWith_type1 (cD (ha pos pins s σ H _ I h) fun us s1 ⟨vs,H1,I1,r1,a1,xs,e,q1,q⟩=>?_) (by rw[hs];rfl) (by rfl)))
 subst e
 cases r1 with
 | cons ra rr =>
  cases rr
  cases ra
  obtain⟨u1,_,p1,_⟩:=I1.tuple q1
  refine callType_new F.called_enumerate (by decide) (F.typeCall_enumerate_1 _) (F.newCall_enumerate_1 _) (fun obj=>F.args_object_init_2 obj _) F.entry_enumerate_new (rf a1 u1.toArray) ⟨p1,?_⟩
  obtain⟨⟨old,Z⟩,W⟩:=GR s1.heap a1
  have lt1:a1 < s1.heap.objs.size:=by obtain⟨_,e,_⟩:=p1;exact Heap.lt_size e
  refine⟨⟨_,Z,rfl⟩,wpAny_pyIter_enum Z ?_⟩
  have kp: ∀ c o,s1.heap.get? c=some o->(La s1.heap a1).get? c=some o:=fun c o e=>Heap.get?_push_of_some _ (Heap.get?_push_of_some _ e)
  refine⟨s1.heap.objs.size+1,[s1.heap.objs.size+1,s1.heap.objs.size],_,_,H1,rfl,I1.kept (t':=s1.toks) kp,yr (Nat.ne_of_gt (Nat.lt_succ_self _)) (Nat.ne_of_gt (Nat.lt_succ_of_lt lt1)) (Nat.ne_of_lt lt1),⟨⟨old,Z⟩,W⟩,fun c hc=>?_,q⟩
  have hle:s1.heap.objs.size<=c:=by
   simp only[List.mem_cons,List.not_mem_nil,or_false] at hc
   rcases hc with rfl | rfl<;>omega
  exact I1.EJ hle (I1.bu.fresh hle)
noncomputable def BL(a:ME):MI:=fun c e h=>(a c e h).bind fun x h1=>match x.seq? with
 | some xs=> .ok ⟨none,xs.zipIdx.map fun q=> .tup [.int (q.2:Int),q.1]⟩ h1
 | none=> .no
theorem Ds(hg:Gl X "enumerate")(ha:JE X pg k a ma)(hs1:noStar a=true:=by rfl):JI X pg k (.Tuple els j tpos) (.Call (.Name "enumerate" p) [a] [] pos) (BL ma):=⟨fun A=>by
 obtain⟨_,q1,s1⟩:=ha.h A
 refine⟨_,⟨EE hg (A.blt _ (by decide +kernel)) (qk q1 uK hs1).h (by rw[ck hs1];rfl)⟩,fun ρ h H e σ R it h' s r q P=>?_⟩
 obtain⟨x,h1,e1,q⟩:=bind_eq.mp q
 refine s1 ρ h H e σ _ x h1 s r e1 fun x' ρ1 H1 g1 z1 r1=>?_
 split at q
 · rename_i xs ex
   cases q
   obtain⟨a1,us,rfl,t1,d1⟩:=rel.seq ex r1
   refine⟨a1,us,rfl,t1,P ρ1 H1 _ g1 z1 fun i ρ3 h3 H3 g s3 _=>⟨fun v ev=>?_,fun ei=>?_⟩⟩
   · rw[List.getElem?_map] at ev
     cases ez:xs.zipIdx[i]? with
     | none=>rw[ez] at ev;exact nomatch ev
     | some pr =>
      rw[ez] at ev
      cases ev
      have zx:xs[i]?=some pr.1/\pr.2=i:=by
       rw[List.getElem?_zipIdx] at ez
       cases ey:xs[i]? with
       | none=>rw[ey] at ez;exact nomatch ez
       | some y=>rw[ey] at ez;cases ez;exact⟨rfl,by simp⟩
      obtain⟨u,f1,f2⟩:=(ar.gr g _ _ d1).get zx.1
      refine⟨⟨us,u,g.B5 t1,f1⟩,?_⟩
      rintro v' H' ⟨p,u',hp,rfl,rfl,k1⟩
      have:=k1 us (g.B5 t1)
      rw[f1] at this;cases this
      have gn:Gr ρ3 H3 ρ3 (upd H3 p (.tup [.int (i:Int),u])):=Gr.uU hp
      refine⟨ρ3,gn,s3.tup hp,?_⟩
      rw[rel]
      exact⟨p,_,rfl,a8,aC.mpr ⟨_,_,rfl,by rw[rel,zx.2],ar.one (rel.gr gn _ _ f2)⟩⟩
   · refine⟨us,g.B5 t1,?_⟩
     have:i=xs.length:=by simpa using ei
     rw[<- d1.len];exact this.symm
 · exact nomatch q⟩
end
section
variable{c:CF}{e:ax}{h:PH}{a:ME}{xs:List PV}
noncomputable def O8(x:PV)(h1:PH):RV iV:=match x.seq? with
 | some xs=> .ok ⟨none,xs.zipIdx.map fun q=> .tup [.int (q.2:Int),q.1]⟩ h1
 | none=> .no
theorem wQ:BL a c e h=(a c e h).bind O8:=(rfl)
theorem sE:O8 (.tup xs) h= .ok ⟨none,xs.zipIdx.map fun q=> .tup [.int (q.2:Int),q.1]⟩ h:=(rfl)
end
end P3
end
section
open PySem PySem.W PyProof.Rows
set_option maxHeartbeats 5000000
namespace K13
open PySem L2 P3 PyProof.Rows
noncomputable def top(i:Nat):Stmt:=PySem.Challenge.pw_leastrecord_k13_whole_courses_go_so.main.body.getD i (.Pass ⟨0,0,0,0⟩)
noncomputable def aQ:List (Key × PV):=[(.inr "let",(.ktup [(.str "pocket"),(.str "sum")])),(.inr "leap",(.ktup [(.str "target"),(.str "sum")])),(.inr "get",(.ktup [(.str "pocket"),(.str "box")])),(.inr "put",(.ktup [(.str "box"),(.str "sum")])),(.inr "take",(.ktup [(.str "lock")])),(.inr "free",(.ktup [(.str "lock")])),(.inr "send",(.ktup [(.str "lane"),(.str "sum")])),(.inr "fetch",(.ktup [(.str "pocket"),(.str "lane")])),(.inr "say",(.ktup [(.str "door"),(.str "sum")])),(.inr "clock",(.ktup [(.str "pocket")])),(.inr "lot",(.ktup [(.str "pocket"),(.str "chances")])),(.inr "hear",(.ktup [(.str "pocket"),(.str "door")]))]
noncomputable def ft:MS :=
  (az (uN (eB l6 (aa (ab 0) (aa (eC (.ty "int")) ae))) (EV (eB l6 (aa (ab 0) (aa (eC (.ty "bool")) ae))))))
noncomputable def di:Df:=⟨["thing"],0,ft⟩
noncomputable def cq:MS :=
  (az (uN (af "is_whole" (aa (ab 0) ae)) (qP NN NN (ab 1) (ab 0) (ab 2))))
noncomputable def bI:Df:=⟨["thing", "least", "most"],0,cq⟩
noncomputable def g8:MS :=
  (az (af "is_between" (aa (ab 0) (aa (eC (.int 0)) (aa (eC (.int 999)) ae)))))
noncomputable def dW:Df:=⟨["thing"],0,g8⟩
noncomputable def gf:MS :=
  (az (uN (eB l6 (aa (ab 0) (aa (eC (.ty "tuple")) ae))) (ag cm (eB bY (aa (ab 0) ae)) (ab 1))))
noncomputable def c6:Df:=⟨["thing", "many"],0,gf⟩
noncomputable def iL:MS :=
  (ah (aj (ag aq (ab 0) (eC (.int 0))) (gN 2))
  (ah (bz (ao (ag cm (ab 2) (eC (.str "num")))) (az (ag aq (ab 0) (eC (.int 1)))) bB)
  (ah (bz (ao (ag cm (ab 2) (eC (.str "of")))) (az (sV (eB eN (aa (ab 1) ae)) (ag aq (ab 0) (eC (.int 1))) (eC (.int 0)))) bB)
  (ah (aj (af "worth" (aa (ag aq (ab 0) (eC (.int 1))) (aa (ab 1) ae))) (gN 3))
  (ah (bz (ao (ag cm (ab 2) (eC (.str "not")))) (az (AQ (ao (ag cm (ab 3) (eC (.int 0)))) (eC (.int 1)) (eC (.int 0)))) bB)
  (az (af "joined_worth" (aa (ab 2) (aa (ab 3) (aa (af "worth" (aa (ag aq (ab 0) (eC (.int 2))) (aa (ab 1) ae))) ae))))))))))
noncomputable def fR:Df:=⟨["tree", "pockets"],2,iL⟩
noncomputable def fh:MS :=
  (ah (bz (ao (ag cm (ab 0) (eC (.str "add")))) (az (ag eL (ag aE (ab 1) (ab 2)) (eC (.int 1000)))) bB)
  (ah (bz (ao (ag cm (ab 0) (eC (.str "sub")))) (az (ag eL (ag sL (ab 1) (ab 2)) (eC (.int 1000)))) bB)
  (ah (bz (ao (ag cm (ab 0) (eC (.str "mul")))) (az (ag eL (ag gE (ab 1) (ab 2)) (eC (.int 1000)))) bB)
  (ah (bz (ao (ag cm (ab 0) (eC (.str "less")))) (az (AQ (ao (ag EF (ab 1) (ab 2))) (eC (.int 1)) (eC (.int 0)))) bB)
  (az (AQ (ao (ag cm (ab 1) (ab 2))) (eC (.int 1)) (eC (.int 0))))))))
noncomputable def cM:Df:=⟨["word", "one", "other"],0,fh⟩
noncomputable def k7:MS :=
  (az (ag aq (ag aq (ag aq (ab 0) (eC (.int 4))) (ab 1)) (eC (.int 1))))
noncomputable def gu:Df:=⟨["program", "hand"],0,k7⟩
noncomputable def gI:MS :=
  (az (af "rested" (aa (ab 0) (aa (ab 1) (aa (aw (aa (eC (.int 0)) (aa (aw ae) (aa (aw ae) ae)))) ae)))))
noncomputable def dO:Df:=⟨["program", "hand"],0,gI⟩
noncomputable def nz:MS :=
  (ah (aj (af "rows_of" (aa (ab 0) (aa (ab 1) ae))) (gN 3))
  (ah (aj (ab 2) (gN 4))
  (ah (jf (eU (aa (eC (.int 200)) ae)) (gN 5) (ah (bz (ao (af "is_rested" (aa (ab 3) (aa (ab 4) ae)))) (az (ab 4)) bB)
  (aj (af "behind_own_row" (aa (ag aq (ab 3) (ag aq (ab 4) (eC (.int 0)))) (aa (ab 4) ae))) (gN 4))))
  (ah (bz (ao (af "is_rested" (aa (ab 3) (aa (ab 4) ae)))) (az (ab 4)) bB)
  (az (aw (aa (eB bY (aa (ab 3) ae)) (aa (ag aq (ab 4) (eC (.int 1))) (aa (ag aq (ab 4) (eC (.int 2))) ae)))))))))
noncomputable def ig:Df:=⟨["program", "hand", "seat"],3,nz⟩
noncomputable def fJ:MS :=
  (az (LK (ag cm (ag aq (ab 1) (eC (.int 0))) (eB bY (aa (ab 0) ae))) (EV (af "is_own_row" (aa (ag aq (ab 0) (ag aq (ab 1) (eC (.int 0)))) (aa (ag aq (ab 1) (eC (.int 2))) ae))))))
noncomputable def dt:Df:=⟨["rows", "seat"],0,fJ⟩
noncomputable def gW:MS :=
  (ah (bz (ao (ag cm (ag aq (ab 0) (eC (.int 0))) (eC (.str "take")))) (az (ag kG (ag aq (ab 0) (eC (.int 1))) (ab 1))) bB)
  (ah (bz (ao (ag cm (ag aq (ab 0) (eC (.int 0))) (eC (.str "free")))) (az (ag iH (ag aq (ab 0) (eC (.int 1))) (ab 1))) bB)
  (az (LK (ag cm (ag aq (ab 0) (eC (.int 0))) (eC (.str "let"))) (ag cm (ag aq (ab 0) (eC (.int 0))) (eC (.str "leap")))))))
noncomputable def dH:Df:=⟨["row", "held"],0,gW⟩
noncomputable def bZ:MS :=
  (ah (aj (ag aE (ag aq (ab 1) (eC (.int 0))) (eC (.int 1))) (gN 2))
  (ah (bz (ao (ag cm (ag aq (ab 0) (eC (.int 0))) (eC (.str "let")))) (az (aw (aa (ab 2) (aa (af "laid" (aa (ag aq (ab 1) (eC (.int 1))) (aa (ag aq (ab 0) (eC (.int 1))) (aa (af "worth" (aa (ag aq (ab 0) (eC (.int 2))) (aa (ag aq (ab 1) (eC (.int 1))) ae))) ae)))) (aa (ag aq (ab 1) (eC (.int 2))) ae))))) bB)
  (ah (bz (oQ (ao (ag cm (ag aq (ab 0) (eC (.int 0))) (eC (.str "leap")))) (ao (ag gS (af "worth" (aa (ag aq (ab 0) (eC (.int 2))) (aa (ag aq (ab 1) (eC (.int 1))) ae))) (eC (.int 0))))) (az (aw (aa (ag aq (ab 0) (eC (.int 1))) (aa (ag aq (ab 1) (eC (.int 1))) (aa (ag aq (ab 1) (eC (.int 2))) ae))))) bB)
  (az (aw (aa (ab 2) (aa (ag aq (ab 1) (eC (.int 1))) (aa (ag aq (ab 1) (eC (.int 2))) ae))))))))
noncomputable def br:Df:=⟨["row", "seat"],1,bZ⟩
noncomputable def qJ:MS :=
  (ah (aj (pb 1 (oV (ab 0)) (gN 4) (ao (ag gS (ag aq (ab 4) (eC (.int 0))) (ab 1))) (ab 4)) (gN 3))
  (ah (bz (ao (ag gS (ab 2) (eC (.int 0)))) (fN (eM cR ee (ab 3) (aa (aw (aa (ab 1) (aa (ab 2) ae))) ae))) bB)
  (az (eB bj (aa (eB bp (aa (ab 3) ae)) ae)))))
noncomputable def kI:Df:=⟨["pockets", "name", "value"],1,qJ⟩
noncomputable def fe:MS :=
  (ah (aj (af "rows_of" (aa (ab 0) (aa (ab 1) ae))) (gN 3))
  (ah (bz (ao (ag cm (ag aq (ab 2) (eC (.int 0))) (eB bY (aa (ab 3) ae)))) (az (eC .non)) bB)
  (ah (aj (ag aq (ab 3) (ag aq (ab 2) (eC (.int 0)))) (gN 4))
  (ah (aj (eC (.str "")) (gN 5))
  (ah (aj (eC .non) (gN 6))
  (ah (jf (Kt (Ay aQ (ag aq (ab 4) (eC (.int 0)))) (mE (ab 4) (cJ (eC (.int 1))) cH)) (gT 2 (aL (gN 7) (aL (gN 8) dS))) (bz (ao (ag cm (ab 7) (eC (.str "sum")))) (aj (af "worth" (aa (ab 8) (aa (ag aq (ab 2) (eC (.int 1))) ae))) (gN 6)) (bz (ao (ag cm (ab 7) (eC (.str "chances")))) (aj (ab 8) (gN 6)) (bz (ao (ag gS (ab 7) (eC (.str "pocket")))) (aj (ab 8) (gN 5)) bB))))
  (az (aw (aa (ag aq (ab 4) (eC (.int 0))) (aa (ab 5) (aa (ab 6) ae)))))))))))
noncomputable def dj:Df:=⟨["program", "hand", "seat"],6,fe⟩
noncomputable def bf:MS :=
  (ah (aj (ag aq (af "rows_of" (aa (ab 0) (aa (ab 1) ae))) (ag aq (ab 2) (eC (.int 0)))) (gN 4))
  (ah (aj (ag aq (ab 2) (eC (.int 1))) (gN 5))
  (ah (aj (ag aq (ab 2) (eC (.int 2))) (gN 6))
  (ah (bz (ao (ag kG (ag aq (ab 4) (eC (.int 0))) (eC (.ktup [(.str "get"),(.str "fetch"),(.str "clock"),(.str "lot"),(.str "hear")])))) (aj (af "laid" (aa (ab 5) (aa (ag aq (ab 4) (eC (.int 1))) (aa (ab 3) ae)))) (gN 5)) (bz (ao (ag cm (ag aq (ab 4) (eC (.int 0))) (eC (.str "take")))) (aj (eB bj (aa (eB bp (aa (ag aE (ab 6) (aw (aa (ag aq (ab 4) (eC (.int 1))) ae))) ae)) ae)) (gN 6)) (bz (ao (ag cm (ag aq (ab 4) (eC (.int 0))) (eC (.str "free")))) (aj (eB bj (aa (pb 1 (oV (ab 6)) (gN 7) (ao (ag gS (ab 7) (ag aq (ab 4) (eC (.int 1))))) (ab 7)) ae)) (gN 6)) bB)))
  (az (af "rested" (aa (ab 0) (aa (ab 1) (aa (aw (aa (ag aE (ag aq (ab 2) (eC (.int 0))) (eC (.int 1))) (aa (ab 5) (aa (ab 6) ae)))) ae)))))))))
noncomputable def aR:Df:=⟨["program", "hand", "seat", "value"],3,bf⟩
noncomputable def nK:MS :=
  (ah (aj (ab 2) (gN 4))
  (ah (aj (aT ae) (gN 5))
  (ah (aj (eC (.int 0)) (gN 6))
  (ah (qK (ao (ag EF (eB bY (aa (ab 5) ae)) (eC (.int 60)))) (ah (aj (af "touch_of" (aa (ab 0) (aa (ab 1) (aa (ab 4) ae)))) (gN 7))
  (ah (bz (ao (oO (dR false) (ab 7))) kL bB)
  (ah (aj (ag aq (ab 7) (eC (.int 2))) (gN 8))
  (ah (bz (ao (ag kG (ag aq (ab 7) (eC (.int 0))) (eC (.ktup [(.str "get"),(.str "fetch"),(.str "clock"),(.str "lot"),(.str "hear")])))) (ah (bz (ao (ag cm (ab 6) (eB bY (aa (ab 3) ae)))) kL bB)
  (ah (aj (ag aq (ab 3) (ab 6)) (gN 8))
  (aj (ag sJ (ab 6) (eC (.int 1))) (gN 6)))) bB)
  (ah (fN (eM cR ee (ab 5) (aa (aw (aa (ag aq (ab 7) (eC (.int 0))) (aa (ag aq (ab 7) (eC (.int 1))) (aa (ab 8) ae)))) ae)))
  (aj (af "seat_behind" (aa (ab 0) (aa (ab 1) (aa (ab 4) (aa (ab 8) ae))))) (gN 4))))))))
  (az (aw (aa (eB bj (aa (ab 5) ae)) (aa (ab 4) ae))))))))
noncomputable def hZ:Df:=⟨["program", "hand", "seat", "values"],5,nK⟩
noncomputable def iW:MS :=
  (ah (aj (ab 2) (gN 4))
  (ah (jf (BL (ab 3)) (gT 2 (aL (gN 5) (aL (gN 6) dS))) (ah (aj (af "touch_of" (aa (ab 0) (aa (ab 1) (aa (ab 4) ae)))) (gN 7))
  (ah (bz (Fp (ao (oO (dR false) (ab 7))) (vw (ao (af "gives_look" (aa (ab 7) (aa (ab 6) ae)))))) (az (ab 5)) bB)
  (aj (af "seat_behind" (aa (ab 0) (aa (ab 1) (aa (ab 4) (aa (ag aq (ab 6) (eC (.int 2))) ae))))) (gN 4)))))
  (az (eB bY (aa (ab 3) ae)))))
noncomputable def eZ:Df:=⟨["program", "hand", "seat", "things"],4,iW⟩
noncomputable def bw:MS :=
  (ah (bz (Fp (vw (ao (af "is_tuple_of" (aa (ab 1) (aa (eC (.int 4)) ae))))) (Fp (ao (ag gS (ag aq (ab 1) (eC (.int 0))) (ag aq (ab 0) (eC (.int 0))))) (ao (ag gS (ag aq (ab 1) (eC (.int 1))) (ag aq (ab 0) (eC (.int 1))))))) (az (eC (.bl false))) bB)
  (ah (bz (ao (ag kG (ag aq (ab 0) (eC (.int 0))) (eC (.ktup [(.str "get"),(.str "fetch"),(.str "clock"),(.str "lot"),(.str "hear")])))) (az (af "may_come" (aa (ab 0) (aa (ag aq (ab 1) (eC (.int 2))) ae)))) bB)
  (ah (bz (ao (oO (dR false) (ag aq (ab 0) (eC (.int 2))))) (az (oO (dR false) (ag aq (ab 1) (eC (.int 2))))) bB)
  (az (uN (af "is_whole" (aa (ag aq (ab 1) (eC (.int 2))) ae)) (ag cm (ag aq (ab 1) (eC (.int 2))) (ag aq (ab 0) (eC (.int 2)))))))))
noncomputable def aX:Df:=⟨["touch", "thing"],0,bw⟩
noncomputable def fj:MS :=
  (az (uN (af "is_value" (aa (ab 1) ae)) (LK (ag gS (ag aq (ab 0) (eC (.int 0))) (eC (.str "lot"))) (ag EF (ab 1) (ag aq (ab 0) (eC (.int 2)))))))
noncomputable def dq:Df:=⟨["touch", "value"],0,fj⟩
noncomputable def dv:MS :=
  (ah (aj (AQ (ao (ag ur (eB bY (aa (ab 0) ae)) (eC (.int 0)))) (ag aq (ab 0) (ag eL (ab 1) (eB bY (aa (ab 0) ae)))) (eC (.int 0))) (gN 3))
  (ah (aj (ab 3) (gN 4))
  (ah (bz (ao (ag OT (ab 3) (ag Ep (eC (.int 10)) (eC (.int 18))))) (ah (jf (eU (aa (ag eL (ag nL (ab 1) (eB bY (aa (ab 0) ae))) (eC (.int 60))) ae)) (gN 5) (aj (ag nL (ab 4) (eC (.int 1000003))) (gN 4)))
  (bz (ao (ag ur (ab 4) (eC (.int 0)))) (az (ag eL (ag eL (ag nL (ab 4) (eC (.int 2))) (eC (.int 500009))) (ab 2))) bB)) bB)
  (ah (aj (ag aE (ag aE (ag eL (ab 3) (eC (.int 1000003))) (ag gE (ag gE (eC (.int 31)) (ab 1)) (ab 1))) (eC (.int 1))) (gN 6))
  (az (ag eL (ag eL (ag gE (ag eL (ag gE (ab 6) (eC (.int 48271))) (eC (.int 999983))) (eC (.int 7919))) (eC (.int 524287))) (ab 2)))))))
noncomputable def cn:Df:=⟨["_law_script", "_law_k", "_law_many"],4,dv⟩
noncomputable def hV:MS :=
  (ah (jd hE (ab 0) (eC (.str "k")) (ag aE (ag aq (ab 0) (eC (.str "k"))) (eC (.int 1))))
  (az (af "_law_draw" (aa (ag aq (ab 0) (eC (.str "script"))) (aa (ag aq (ab 0) (eC (.str "k"))) (aa (ab 1) ae))))))
noncomputable def er:Df:=⟨["_law_state", "_law_many"],0,hV⟩
noncomputable def gO:MS :=
  (ah (aj (aT (aa (eC (.str "a")) (aa (eC (.str "ab")) (aa (eC (.str "abc")) (aa (eC (.str "lets")) (aa (eC (.str "leaper")) (aa (eC (.str "getit")) (aa (eC (.str "puts")) (aa (eC (.str "taken")) (aa (eC (.str "freed")) (aa (eC (.str "sender")) (aa (eC (.str "fetched")) (aa (eC (.str "says")) ae))))))))))))) (gN 1))
  (ah (aj (ag aE (ab 1) (aT (aa (eC (.str "clocks")) (aa (eC (.str "lots")) (aa (eC (.str "hearth")) (aa (eC (.str "added")) (aa (eC (.str "subway")) (aa (eC (.str "mulled")) (aa (eC (.str "lesser")) (aa (eC (.str "samey")) (aa (eC (.str "nothing")) ae))))))))))) (gN 1))
  (ah (aj (ag aE (ab 1) (aT (aa (eC (.str "boxes")) (aa (eC (.str "locker")) (aa (eC (.str "lanes")) (aa (eC (.str "doors")) (aa (eC (.str "hands")) (aa (eC (.str "b")) (aa (eC (.str "zzzzzzzz")) (aa (eC (.str "of")) (aa (eC (.str "num")) ae))))))))))) (gN 1))
  (ah (aj (af "_law_pick" (aa (ab 0) (aa (eB bY (aa (ab 1) ae)) ae))) (gN 2))
  (az (ag aE (mE (ab 1) (cJ (ab 2)) cH) (mE (ab 1) cH (cJ (ab 2)))))))))
noncomputable def dM:Df:=⟨["_law_state"],2,gO⟩
noncomputable def bJ:MS :=
  (ah (aj (af "_law_pick" (aa (ab 0) (aa (eC (.int 9)) ae))) (gN 3))
  (ah (bz (oQ (ao (ag EF (ab 2) (eC (.int 5)))) (oQ (ao (ag ur (ab 3) (eC (.int 2)))) (ao (ag ur (ag aq (ab 0) (eC (.str "left"))) (eC (.int 1)))))) (ah (jd hE (ab 0) (eC (.str "left")) (ag sL (ag aq (ab 0) (eC (.str "left"))) (eC (.int 2))))
  (ah (aj (ag aq (aT (aa (eC (.str "add")) (aa (eC (.str "sub")) (aa (eC (.str "mul")) (aa (eC (.str "less")) (aa (eC (.str "same")) ae)))))) (af "_law_pick" (aa (ab 0) (aa (eC (.int 5)) ae)))) (gN 4))
  (ah (aj (af "_law_sum_in" (aa (ab 0) (aa (ab 1) (aa (ag aE (ab 2) (eC (.int 1))) ae)))) (gN 5))
  (az (aw (aa (ab 4) (aa (ab 5) (aa (af "_law_sum_in" (aa (ab 0) (aa (ab 1) (aa (ag aE (ab 2) (eC (.int 1))) ae)))) ae)))))))) bB)
  (ah (bz (oQ (ao (ag EF (ab 2) (eC (.int 5)))) (oQ (ao (ag cm (ab 3) (eC (.int 2)))) (ao (ag ur (ag aq (ab 0) (eC (.str "left"))) (eC (.int 0)))))) (ah (jd hE (ab 0) (eC (.str "left")) (ag sL (ag aq (ab 0) (eC (.str "left"))) (eC (.int 1))))
  (az (aw (aa (eC (.str "not")) (aa (af "_law_sum_in" (aa (ab 0) (aa (ab 1) (aa (ag aE (ab 2) (eC (.int 1))) ae)))) ae))))) bB)
  (ah (bz (ao (ag cm (ag eL (ab 3) (eC (.int 2))) (eC (.int 0)))) (az (aw (aa (eC (.str "num")) (aa (ag aq (aT (aa (eC (.int 0)) (aa (eC (.int 1)) (aa (eC (.int 2)) (aa (eC (.int 999)) (aa (af "_law_pick" (aa (ab 0) (aa (eC (.int 1000)) ae))) ae)))))) (af "_law_pick" (aa (ab 0) (aa (eC (.int 5)) ae)))) ae)))) bB)
  (az (aw (aa (eC (.str "of")) (aa (ag aq (ab 1) (af "_law_pick" (aa (ab 0) (aa (eB bY (aa (ab 1) ae)) ae)))) ae))))))))
noncomputable def bc:Df:=⟨["_law_state", "_law_pockets", "_law_deep"],3,bJ⟩
noncomputable def jK:MS :=
  (ah (jd hE (ab 0) (eC (.str "left")) (ag aq (aT (aa (eC (.int 0)) (aa (eC (.int 2)) (aa (eC (.int 5)) (aa (eC (.int 11)) ae))))) (af "_law_pick" (aa (ab 0) (aa (eC (.int 4)) ae)))))
  (az (af "_law_sum_in" (aa (ab 0) (aa (ab 1) (aa (eC (.int 1)) ae))))))
noncomputable def fq:Df:=⟨["_law_state", "_law_pockets"],0,jK⟩
noncomputable def jC:MS :=
  (ah (aj (aT (aa (eC (.str "let")) (aa (eC (.str "let")) (aa (eC (.str "leap")) (aa (eC (.str "clock")) (aa (eC (.str "lot")) ae)))))) (gN 4))
  (ah (jf (oV (aT (aa (aw (aa (eC (.str "box")) (aa (aT (aa (eC (.str "get")) (aa (eC (.str "put")) ae))) ae))) (aa (aw (aa (eC (.str "lock")) (aa (aT (aa (eC (.str "take")) (aa (eC (.str "free")) ae))) ae))) (aa (aw (aa (eC (.str "lane")) (aa (aT (aa (eC (.str "send")) (aa (eC (.str "fetch")) ae))) ae))) ae))))) (gT 2 (aL (gN 5) (aL (gN 6) dS))) (bz (ao (ag gS (ag aq (ab 1) (ab 5)) (aT ae))) (aj (ag aE (ag aE (ab 4) (ab 6)) (ab 6)) (gN 4)) bB))
  (ah (bz (ao (ag gS (ag aq (ab 1) (eC (.str "door"))) (aT ae))) (aj (ag aE (ab 4) (aT (aa (eC (.str "say")) (aa (eC (.str "hear")) (aa (eC (.str "say")) ae))))) (gN 4)) bB)
  (ah (aj (ag aq (ab 4) (af "_law_pick" (aa (ab 0) (aa (eB bY (aa (ab 4) ae)) ae)))) (gN 7))
  (ah (aj (ag aq (ab 2) (af "_law_pick" (aa (ab 0) (aa (eB bY (aa (ab 2) ae)) ae)))) (gN 8))
  (ah (aj (oI (dB (eC (.str "get")) (eC (.str "box")) (dB (eC (.str "put")) (eC (.str "box")) (dB (eC (.str "take")) (eC (.str "lock")) (dB (eC (.str "free")) (eC (.str "lock")) (dB (eC (.str "send")) (eC (.str "lane")) (dB (eC (.str "fetch")) (eC (.str "lane")) uL))))))) (gN 9))
  (ah (fN (eM fW jD (ab 9) (aa (oI (dB (eC (.str "say")) (eC (.str "door")) (dB (eC (.str "hear")) (eC (.str "door")) uL))) ae)))
  (ah (bz (ao (ag cm (ab 7) (eC (.str "let")))) (az (aw (aa (eC (.str "let")) (aa (ab 8) (aa (af "_law_sum" (aa (ab 0) (aa (ab 2) ae))) ae))))) bB)
  (ah (bz (ao (ag cm (ab 7) (eC (.str "leap")))) (az (aw (aa (eC (.str "leap")) (aa (af "_law_pick" (aa (ab 0) (aa (ag aE (ab 3) (eC (.int 1))) ae))) (aa (af "_law_sum" (aa (ab 0) (aa (ab 2) ae))) ae))))) bB)
  (ah (bz (ao (ag cm (ab 7) (eC (.str "clock")))) (az (aw (aa (eC (.str "clock")) (aa (ab 8) ae)))) bB)
  (ah (bz (ao (ag cm (ab 7) (eC (.str "lot")))) (az (aw (aa (eC (.str "lot")) (aa (ab 8) (aa (ag aq (aT (aa (eC (.int 2)) (aa (eC (.int 3)) (aa (eC (.int 1000)) (aa (ag aE (eC (.int 2)) (af "_law_pick" (aa (ab 0) (aa (eC (.int 999)) ae)))) ae))))) (af "_law_pick" (aa (ab 0) (aa (eC (.int 4)) ae)))) ae))))) bB)
  (ah (aj (ag aq (ab 1) (ag aq (ab 9) (ab 7))) (gN 6))
  (ah (aj (ag aq (ab 6) (af "_law_pick" (aa (ab 0) (aa (eB bY (aa (ab 6) ae)) ae)))) (gN 10))
  (ah (bz (ao (ag kG (ab 7) (aw (aa (eC (.str "take")) (aa (eC (.str "free")) ae))))) (az (aw (aa (ab 7) (aa (ab 10) ae)))) bB)
  (ah (bz (ao (ag kG (ab 7) (aw (aa (eC (.str "get")) (aa (eC (.str "fetch")) (aa (eC (.str "hear")) ae)))))) (az (aw (aa (ab 7) (aa (ab 8) (aa (ab 10) ae))))) bB)
  (az (aw (aa (ab 7) (aa (ab 10) (aa (af "_law_sum" (aa (ab 0) (aa (ab 2) ae))) ae))))))))))))))))))))
noncomputable def fB:Df:=⟨["_law_state", "_law_named", "_law_pockets", "_law_many"],7,jC⟩
noncomputable def fF:MS :=
  (ah (aj (af "_law_names" (aa (ab 0) ae)) (gN 1))
  (ah (aj ng (gN 2))
  (ah (jf (oV (aT (aa (eC (.str "box")) (aa (eC (.str "lock")) (aa (eC (.str "lane")) (aa (eC (.str "door")) (aa (eC (.str "hand")) ae))))))) (gN 3) (ah (aj (af "_law_pick" (aa (ab 0) (aa (eC (.int 5)) ae))) (gN 4))
  (ah (bz (ao (ag cm (ab 3) (eC (.str "hand")))) (aj (ag aE (eC (.int 1)) (ag eL (ab 4) (eC (.int 4)))) (gN 4)) bB)
  (ah (jd hE (ab 2) (ab 3) (mE (ab 1) cH (cJ (ab 4))))
  (aj (mE (ab 1) (cJ (ab 4)) cH) (gN 1))))))
  (ah (aj (ag aE (ag aE (ag aE (mE (ab 1) cH (cJ (eC (.int 2)))) (mE (ag aq (ab 2) (eC (.str "box"))) cH (cJ (eC (.int 1))))) (mE (ag aq (ab 2) (eC (.str "hand"))) cH (cJ (eC (.int 1))))) (aT (aa (ag aq (aT (aa (eC (.str "a")) (aa (eC (.str "ab")) (aa (eC (.str "boxes")) ae)))) (af "_law_pick" (aa (ab 0) (aa (eC (.int 3)) ae)))) ae))) (gN 5))
  (ah (aj (aT ae) (gN 6))
  (ah (jf (oV (ag aq (ab 2) (eC (.str "hand")))) (gN 7) (ah (aj (ag aq (aT (aa (af "_law_pick" (aa (ab 0) (aa (eC (.int 4)) ae))) (aa (ag aE (eC (.int 3)) (af "_law_pick" (aa (ab 0) (aa (eC (.int 6)) ae)))) (aa (ag aE (eC (.int 3)) (af "_law_pick" (aa (ab 0) (aa (eC (.int 6)) ae)))) (aa (eC (.int 30)) ae))))) (af "_law_pick" (aa (ab 0) (aa (eC (.int 4)) ae)))) (gN 4))
  (fN (eM cR ee (ab 6) (aa (aw (aa (ab 7) (aa (eB bj (aa (pb 1 (eU (aa (ab 4) ae)) (gN 9) eA (af "_law_row" (aa (ab 0) (aa (ab 2) (aa (ab 5) (aa (ab 4) ae)))))) ae)) ae))) ae)))))
  (ah (aj (eB bj (aa (pb 1 (oV (ag aq (ab 2) (eC (.str "box")))) (gN 9) eA (aw (aa (ab 9) (aa (ag aq (aT (aa (eC (.int 0)) (aa (eC (.int 1)) (aa (eC (.int 999)) (aa (af "_law_pick" (aa (ab 0) (aa (eC (.int 1000)) ae))) ae))))) (af "_law_pick" (aa (ab 0) (aa (eC (.int 4)) ae)))) ae)))) ae)) (gN 8))
  (az (aw (aa (ab 8) (aa (eB bj (aa (ag aq (ab 2) (eC (.str "lock"))) ae)) (aa (eB bj (aa (ag aq (ab 2) (eC (.str "lane"))) ae)) (aa (eB bj (aa (ag aq (ab 2) (eC (.str "door"))) ae)) (aa (eB bj (aa (ab 6) ae)) ae))))))))))))))
noncomputable def cK:Df:=⟨["_law_state"],8,fF⟩
noncomputable def cu:MS :=
  (ah (bz (ao (ag cm (ag aq (ab 0) (eC (.int 0))) (eC (.str "num")))) (az (ag aq (ab 0) (eC (.int 1)))) bB)
  (ah (bz (ao (ag cm (ag aq (ab 0) (eC (.int 0))) (eC (.str "of")))) (az (sV (ab 1) (ag aq (ab 0) (eC (.int 1))) (eC (.int 0)))) bB)
  (ah (aj (pb 1 (oV (mE (ab 0) (cJ (eC (.int 1))) cH)) (gN 6) eA (af "_law_worth" (aa (ab 6) (aa (ab 1) ae)))) (gN 2))
  (ah (bz (ao (ag cm (ag aq (ab 0) (eC (.int 0))) (eC (.str "not")))) (az (AQ (ao (ag cm (ag aq (ab 2) (eC (.int 0))) (eC (.int 0)))) (eC (.int 1)) (eC (.int 0)))) bB)
  (ah (aj (ab 2) (DD 2 (aL (gN 3) (aL (gN 4) dS))))
  (ah (aj (oI (dB (eC (.str "add")) (ag eL (ag aE (ab 3) (ab 4)) (eC (.int 1000))) (dB (eC (.str "sub")) (ag eL (ag sL (ab 3) (ab 4)) (eC (.int 1000))) (dB (eC (.str "mul")) (ag eL (ag gE (ab 3) (ab 4)) (eC (.int 1000))) uL)))) (gN 5))
  (ah (jd hE (ab 5) (eC (.str "less")) (AQ (ao (ag EF (ab 3) (ab 4))) (eC (.int 1)) (eC (.int 0))))
  (ah (jd hE (ab 5) (eC (.str "same")) (AQ (ao (ag cm (ab 3) (ab 4))) (eC (.int 1)) (eC (.int 0))))
  (az (ag aq (ab 5) (ag aq (ab 0) (eC (.int 0)))))))))))))
noncomputable def bG:Df:=⟨["_law_thing", "_law_pockets"],4,cu⟩
noncomputable def bM:MS :=
  (ah (bz (ao (ag cm (ab 1) (eB bY (aa (ab 0) ae)))) (az (eC .non)) bB)
  (ah (aj (ag aq (ab 0) (ab 1)) (gN 4))
  (ah (bz (ao (ag cm (ag aq (ab 4) (eC (.int 0))) (eC (.str "let")))) (ah (jd hE (ab 2) (ag aq (ab 4) (eC (.int 1))) (af "_law_worth" (aa (ag aq (ab 4) (eC (.int 2))) (aa (ab 2) ae))))
  (az (ag aE (ab 1) (eC (.int 1))))) bB)
  (ah (bz (ao (ag cm (ag aq (ab 4) (eC (.int 0))) (eC (.str "leap")))) (az (AQ (ao (ag ur (af "_law_worth" (aa (ag aq (ab 4) (eC (.int 2))) (aa (ab 2) ae))) (eC (.int 0)))) (ag aq (ab 4) (eC (.int 1))) (ag aE (ab 1) (eC (.int 1))))) bB)
  (ah (bz (oQ (ao (ag cm (ag aq (ab 4) (eC (.int 0))) (eC (.str "take")))) (ao (ag kG (ag aq (ab 4) (eC (.int 1))) (ab 3)))) (az (ag aE (ab 1) (eC (.int 1)))) bB)
  (ah (bz (oQ (ao (ag cm (ag aq (ab 4) (eC (.int 0))) (eC (.str "free")))) (ao (ag iH (ag aq (ab 4) (eC (.int 1))) (ab 3)))) (az (ag aE (ab 1) (eC (.int 1)))) bB)
  (az (eC .non))))))))
noncomputable def bt:Df:=⟨["_law_rows", "_law_at", "_law_pockets", "_law_held"],1,bM⟩
noncomputable def jl:MS :=
  (ah (aj (eB eN (aa (ag aq (ab 1) (eC (.int 1))) ae)) (gN 2))
  (ah (aj (ag aq (ab 1) (eC (.int 0))) (gN 3))
  (ah (aj (eC (.int 0)) (gN 4))
  (ah (aj (af "_law_own" (aa (ab 0) (aa (ab 3) (aa (ab 2) (aa (ag aq (ab 1) (eC (.int 2))) ae))))) (gN 5))
  (ah (qK (ao (oO (dR true) (ab 5))) (ah (aj (ab 5) (gN 3))
  (ah (aj (ag aE (ab 4) (eC (.int 1))) (gN 4))
  (ah (aj (eB eN (aa (ab 2) ae)) (gN 6))
  (ah (aj (af "_law_own" (aa (ab 0) (aa (ab 3) (aa (ab 2) (aa (ag aq (ab 1) (eC (.int 2))) ae))))) (gN 5))
  (bz (oQ (ao (ag cm (ab 4) (eC (.int 200)))) (ao (oO (dR true) (ab 5)))) (ah (aj (ab 6) (gN 2))
  (ah (aj (eB bY (aa (ab 0) ae)) (gN 3))
  (aj (eC .non) (gN 5)))) bB))))))
  (az (aw (aa (ab 3) (aa (eB bj (aa (pb 1 (oV (eB bp (aa (ab 2) ae))) (gN 7) (ao (ag ur (ag aq (ab 2) (ab 7)) (eC (.int 0)))) (aw (aa (ab 7) (aa (ag aq (ab 2) (ab 7)) ae)))) ae)) (aa (ag aq (ab 1) (eC (.int 2))) ae))))))))))
noncomputable def d7:Df:=⟨["_law_rows", "_law_seat_here"],5,jl⟩
noncomputable def cy:MS :=
  (ah (bz (ao (ag cm (ag aq (ab 1) (eC (.int 0))) (eB bY (aa (ab 0) ae)))) (az (eC .non)) bB)
  (ah (aj (ag aq (ab 0) (ag aq (ab 1) (eC (.int 0)))) (gN 2))
  (ah (bz (ao (ag kG (ag aq (ab 2) (eC (.int 0))) (aw (aa (eC (.str "put")) (aa (eC (.str "send")) (aa (eC (.str "say")) ae)))))) (az (aw (aa (ag aq (ab 2) (eC (.int 0))) (aa (ag aq (ab 2) (eC (.int 1))) (aa (af "_law_worth" (aa (ag aq (ab 2) (eC (.int 2))) (aa (eB eN (aa (ag aq (ab 1) (eC (.int 1))) ae)) ae))) ae))))) bB)
  (ah (bz (ao (ag cm (ag aq (ab 2) (eC (.int 0))) (eC (.str "lot")))) (az (aw (aa (eC (.str "lot")) (aa (eC (.str "")) (aa (ag aq (ab 2) (eC (.int 2))) ae))))) bB)
  (ah (bz (ao (ag cm (ag aq (ab 2) (eC (.int 0))) (eC (.str "clock")))) (az (aw (aa (eC (.str "clock")) (aa (eC (.str "")) (aa (eC .non) ae))))) bB)
  (az (aw (aa (ag aq (ab 2) (eC (.int 0))) (aa (ag aq (ab 2) (ag sL (eB bY (aa (ab 2) ae)) (eC (.int 1)))) (aa (eC .non) ae))))))))))
noncomputable def bH:Df:=⟨["_law_rows", "_law_seat_here"],1,cy⟩
noncomputable def jt:MS :=
  (ah (aj (ag aq (ab 0) (ag aq (ab 1) (eC (.int 0)))) (gN 3))
  (ah (aj (eB eN (aa (ag aq (ab 1) (eC (.int 1))) ae)) (gN 4))
  (ah (aj (eB uq (aa (ag aq (ab 1) (eC (.int 2))) ae)) (gN 5))
  (ah (bz (ao (ag kG (ag aq (ab 3) (eC (.int 0))) (aw (aa (eC (.str "get")) (aa (eC (.str "fetch")) (aa (eC (.str "clock")) (aa (eC (.str "lot")) (aa (eC (.str "hear")) ae)))))))) (jd hE (ab 4) (ag aq (ab 3) (eC (.int 1))) (ab 2)) bB)
  (ah (bz (ao (ag cm (ag aq (ab 3) (eC (.int 0))) (eC (.str "take")))) (fN (eM cR ee (ab 5) (aa (ag aq (ab 3) (eC (.int 1))) ae))) bB)
  (ah (bz (ao (ag cm (ag aq (ab 3) (eC (.int 0))) (eC (.str "free")))) (fN (eM i4 ee (ab 5) (aa (ag aq (ab 3) (eC (.int 1))) ae))) bB)
  (ah (aj (eB bj (aa (pb 1 (oV (eB bp (aa (ab 4) ae))) (gN 7) (ao (ag ur (ag aq (ab 4) (ab 7)) (eC (.int 0)))) (aw (aa (ab 7) (aa (ag aq (ab 4) (ab 7)) ae)))) ae)) (gN 6))
  (az (af "_law_rested" (aa (ab 0) (aa (aw (aa (ag aE (ag aq (ab 1) (eC (.int 0))) (eC (.int 1))) (aa (ab 6) (aa (eB bj (aa (eB bp (aa (ab 5) ae)) ae)) ae)))) ae)))))))))))
noncomputable def cC:Df:=⟨["_law_rows", "_law_seat_here", "_law_value_here"],4,jt⟩
noncomputable def dN:MS :=
  (ah (bz (ao (ag cm (ag aq (ab 1) (eC (.int 0))) (eC (.str "lot")))) (az (ag aq (aT (aa (eC (.int 0)) (aa (ag sL (ag aq (ab 1) (eC (.int 2))) (eC (.int 1))) (aa (af "_law_pick" (aa (ab 0) (aa (ag aq (ab 1) (eC (.int 2))) ae))) ae)))) (af "_law_pick" (aa (ab 0) (aa (eC (.int 3)) ae))))) bB)
  (ah (bz (ao (ag kG (ag aq (ab 1) (eC (.int 0))) (aw (aa (eC (.str "get")) (aa (eC (.str "fetch")) (aa (eC (.str "clock")) (aa (eC (.str "hear")) ae))))))) (az (ag aq (aT (aa (eC (.int 0)) (aa (eC (.int 1)) (aa (eC (.int 999)) (aa (af "_law_pick" (aa (ab 0) (aa (eC (.int 1000)) ae))) ae))))) (af "_law_pick" (aa (ab 0) (aa (eC (.int 4)) ae))))) bB)
  (az (eC .non))))
noncomputable def cw:Df:=⟨["_law_state", "_law_touch_here"],0,dN⟩
noncomputable def ik:MS :=
  (ah (aj (ag aq (ag aq (ag aq (ab 1) (eC (.int 4))) (ab 2)) (eC (.int 1))) (gN 3))
  (ah (aj (eB bp (aa (aT (aa (eC (.str "a")) (aa (eC (.str "ab")) (aa (eC (.str "boxes")) (aa (eC (.str "b")) (aa (eC (.str "lets")) ae)))))) ae)) (gN 4))
  (ah (aj (eB bj (aa (pb 1 (oV (ab 4)) (gN 7) (ao (ag cm (af "_law_pick" (aa (ab 0) (aa (eC (.int 3)) ae))) (eC (.int 0)))) (aw (aa (ab 7) (aa (ag aE (eC (.int 1)) (af "_law_pick" (aa (ab 0) (aa (eC (.int 999)) ae)))) ae)))) ae)) (gN 5))
  (ah (aj (eB bj (aa (eB bp (aa (pb 1 (oV (ag aq (ab 1) (eC (.int 1)))) (gN 7) (ao (ag cm (af "_law_pick" (aa (ab 0) (aa (eC (.int 2)) ae))) (eC (.int 0)))) (ab 7)) ae)) ae)) (gN 6))
  (az (aw (aa (af "_law_pick" (aa (ab 0) (aa (ag aE (eB bY (aa (ab 3) ae)) (eC (.int 1))) ae))) (aa (ab 5) (aa (ab 6) ae)))))))))
noncomputable def eg:Df:=⟨["_law_state", "_law_program_here", "_law_hand"],4,ik⟩
noncomputable def f9:MS :=
  (ah (aj (aT ae) (gN 4))
  (ah (jf (eU (aa (eC (.int 60)) ae)) (gN 5) (ah (aj (af "_law_touch" (aa (ab 1) (aa (ab 2) ae))) (gN 6))
  (ah (bz (Fp (ao (oO (dR false) (ab 6))) (ao (ag cm (eB bY (aa (ab 4) ae)) (ab 3)))) (az (eB bj (aa (ab 4) ae))) bB)
  (ah (aj (af "_law_value" (aa (ab 0) (aa (ab 6) ae))) (gN 7))
  (ah (bz (ao (oO (dR true) (ab 7))) (fN (eM cR ee (ab 4) (aa (ab 7) ae))) bB)
  (aj (af "_law_behind" (aa (ab 1) (aa (ab 2) (aa (ab 7) ae)))) (gN 2)))))))
  (az (eB bj (aa (ab 4) ae)))))
noncomputable def cZ:Df:=⟨["_law_state", "_law_rows", "_law_seat_here", "_law_most"],4,f9⟩
noncomputable def gY:MS :=
  (az (eB bj (aa (pb 1 (oV (ab 1)) (gN 2) eA (ag aE (ab 2) (aw (aa (ag aq (aT (aa (eC .non) (aa (eC (.int 5)) (aa (aw (aa (eC (.int 1)) (aa (eC (.int 0)) ae))) (aa (eC (.str "x")) ae))))) (af "_law_pick" (aa (ab 0) (aa (eC (.int 4)) ae)))) ae)))) ae)))
noncomputable def dG:Df:=⟨["_law_state", "_law_touches"],0,gY⟩
noncomputable def cV:MS :=
  (ah (aj (ab 1) (DD 4 (aL (gN 2) (aL (gN 3) (aL (gN 4) (aL (gN 5) dS))))))
  (ah (aj (af "_law_pick" (aa (ab 0) (aa (eC (.int 3)) ae))) (gN 6))
  (ah (bz (ao (ag cm (ab 6) (eC (.int 0)))) (az (aw (aa (ag aE (ab 2) (eC (.str "s"))) (aa (ab 3) (aa (ab 4) (aa (ab 5) ae)))))) bB)
  (ah (bz (ao (ag cm (ab 6) (eC (.int 1)))) (az (aw (aa (ab 2) (aa (ag aE (ab 3) (eC (.str "x"))) (aa (ab 4) (aa (ab 5) ae)))))) bB)
  (ah (aj (oI (dB (eC (.str "put")) (AQ (ao (oO (dR false) (ab 4))) (eC (.int 5)) (ag eL (ag aE (ab 4) (eC (.int 1))) (eC (.int 1000)))) (dB (eC (.str "lot")) (eC (.int 1000)) (dB (eC (.str "take")) (eC (.int 0)) (dB (eC (.str "free")) (eC (.int 0)) uL))))) (gN 7))
  (ah (jd hE (ab 7) (eC (.str "send")) (ag aq (ab 7) (eC (.str "put"))))
  (ah (jd hE (ab 7) (eC (.str "say")) (ag aq (ab 7) (eC (.str "put"))))
  (az (aw (aa (ab 2) (aa (ab 3) (aa (sV (ab 7) (ab 2) (ag aq (aT (aa (eC (.int 1000)) (aa (oO GA (eC (.int 1))) (aa (eC .non) (aa (eC (.bl true)) ae))))) (af "_law_pick" (aa (ab 0) (aa (eC (.int 4)) ae))))) (aa (ab 5) ae)))))))))))))
noncomputable def bT:Df:=⟨["_law_state", "_law_look"],6,cV⟩
noncomputable def bR:MS :=
  (ah (aj (ag aq (ag aq (ag aq (ab 1) (eC (.int 4))) (ab 2)) (eC (.int 1))) (gN 5))
  (ah (aj (af "_law_touch" (aa (ab 5) (aa (ag aq (ab 3) (eC (.int 1))) ae))) (gN 6))
  (ah (bz (ao (oO (dR false) (ab 6))) (az (ag cm (af "goes_so" (aa (ab 1) (aa (ab 2) (aa (ag aq (ab 3) (eC (.int 1))) (aa (aw (aa (aw (aa (eC (.str "clock")) (aa (eC (.str "")) (aa (eC (.int 0)) (aa (eC .non) ae))))) ae)) ae))))) (eC (.int 0)))) bB)
  (ah (aj (aw (aa (ag aq (ab 6) (eC (.int 0))) (aa (ag aq (ab 6) (eC (.int 1))) (aa (ag aq (ab 6) (eC (.int 2))) (aa (eC .non) ae))))) (gN 7))
  (ah (bz (ao (ag iH (ag aq (ab 6) (eC (.int 0))) (aw (aa (eC (.str "put")) (aa (eC (.str "send")) (aa (eC (.str "say")) (aa (eC (.str "take")) (aa (eC (.str "free")) ae)))))))) (aj (aw (aa (ag aq (ab 6) (eC (.int 0))) (aa (ag aq (ab 6) (eC (.int 1))) (aa (af "_law_value" (aa (ab 0) (aa (ab 6) ae))) (aa (eC .non) ae))))) (gN 7)) bB)
  (ah (bz (ao (ag gS (af "goes_so" (aa (ab 1) (aa (ab 2) (aa (ag aq (ab 3) (eC (.int 1))) (aa (aw (aa (ab 7) ae)) ae))))) (eC (.int 1)))) (az (eC (.bl false))) bB)
  (az (ag cm (af "goes_so" (aa (ab 1) (aa (ab 2) (aa (ag aq (ab 3) (eC (.int 1))) (aa (aw (aa (af "_law_wrong" (aa (ab 0) (aa (ab 7) ae))) (aa (ab 7) ae))) ae))))) (eC (.int 0))))))))))
noncomputable def bo:Df:=⟨["_law_state", "_law_program_here", "_law_hand", "_law_told", "_law_looks_here"],3,bR⟩
noncomputable def dC:MS :=
  (ah (aj (aw (aa (aw ae) (aa (aw ae) (aa (aw ae) (aa (aw (aa (ab 1) ae)) (aa (aw (aa (aw (aa (eC (.str "handy")) (aa (aw (aa (aw (aa (eC (.str "say")) (aa (ab 1) (aa (aw (aa (eC (.str "num")) (aa (eC (.int 1)) ae))) ae)))) (aa (aw (aa (eC (.str "leap")) (aa (eC (.int 0)) (aa (aw (aa (eC (.str "num")) (aa (eC (.int 1)) ae))) ae)))) ae))) ae))) ae)) ae)))))) (gN 2))
  (ah (aj (ag aE (eC (.int 59)) (af "_law_pick" (aa (ab 0) (aa (eC (.int 42)) ae)))) (gN 3))
  (ah (aj (ag gE (aw (aa (aw (aa (eC (.str "say")) (aa (ab 1) (aa (eC (.int 1)) (aa (eC .non) ae))))) ae)) (ab 3)) (gN 4))
  (ah (bz (ao (ag gS (af "goes_so" (aa (ab 2) (aa (eC (.int 0)) (aa (aw (aa (eC (.int 0)) (aa (aw ae) (aa (aw ae) ae)))) (aa (ab 4) ae))))) (ab 3))) (az (eC (.bl false))) bB)
  (ah (aj (af "_law_pick" (aa (ab 0) (aa (ab 3) ae))) (gN 5))
  (ah (aj (ag aE (ag aE (mE (ab 4) cH (cJ (ab 5))) (aw (aa (aw (aa (eC (.str "say")) (aa (ab 1) (aa (eC (.int 2)) (aa (eC .non) ae))))) ae))) (mE (ab 4) (cJ (ag aE (ab 5) (eC (.int 1)))) cH)) (gN 6))
  (az (ag cm (af "goes_so" (aa (ab 2) (aa (eC (.int 0)) (aa (aw (aa (eC (.int 0)) (aa (aw ae) (aa (aw ae) ae)))) (aa (ab 6) ae))))) (ab 5)))))))))
noncomputable def bV:Df:=⟨["_law_state", "_law_name"],5,dC⟩
noncomputable def Az:MS :=
  (ah (aj (oI (dB (eC (.str "script")) (ab 0) (dB (eC (.str "k")) (eC (.int 0)) uL))) (gN 1))
  (ah (aj (aT (aa (af "_law_program" (aa (ab 1) ae)) (aa (af "_law_program" (aa (ab 1) ae)) ae))) (gN 2))
  (ah (jf (eU (aa (eC (.int 6)) ae)) (gN 3) (ah (aj (ag aq (ab 2) (ag eL (ab 3) (eC (.int 2)))) (gN 4))
  (ah (aj (af "_law_pick" (aa (ab 1) (aa (eB bY (aa (ag aq (ab 4) (eC (.int 4))) ae)) ae))) (gN 5))
  (ah (aj (ag aq (ag aq (ag aq (ab 4) (eC (.int 4))) (ab 5)) (eC (.int 1))) (gN 6))
  (ah (aj (af "first_seat" (aa (ab 4) (aa (ab 5) ae))) (gN 7))
  (ah (bz (ao (ag ur (ab 3) (eC (.int 1)))) (aj (af "_law_rested" (aa (ab 6) (aa (af "_law_seat" (aa (ab 1) (aa (ab 4) (aa (ab 5) ae)))) ae))) (gN 7)) bB)
  (ah (aj (af "_law_values" (aa (ab 1) (aa (ab 6) (aa (ab 7) (aa (ag aq (aT (aa (eC (.int 1)) (aa (eC (.int 3)) (aa (eC (.int 60)) ae)))) (af "_law_pick" (aa (ab 1) (aa (eC (.int 3)) ae)))) ae))))) (gN 8))
  (ah (aj (af "course" (aa (ab 4) (aa (ab 5) (aa (ab 7) (aa (ab 8) ae))))) (gN 9))
  (ah (aj (af "_law_looks" (aa (ab 1) (aa (ag aq (ab 9) (eC (.int 0))) ae))) (gN 10))
  (ah (bz (ao (ag gS (af "goes_so" (aa (ab 4) (aa (ab 5) (aa (ab 7) (aa (ab 10) ae))))) (eB bY (aa (ab 10) ae)))) (az (eC (.bl false))) bB)
  (ah (bz (vw (ao (af "_law_more_right" (aa (ab 1) (aa (ab 4) (aa (ab 5) (aa (ab 9) (aa (ab 10) ae)))))))) (az (eC (.bl false))) bB)
  (bz (ao (ag gS (ab 10) (aw ae))) (ah (aj (af "_law_pick" (aa (ab 1) (aa (eB bY (aa (ab 10) ae)) ae))) (gN 11))
  (ah (aj (ag aE (ag aE (mE (ab 10) cH (cJ (ab 11))) (aw (aa (af "_law_wrong" (aa (ab 1) (aa (ag aq (ab 10) (ab 11)) ae))) ae))) (mE (ab 10) (cJ (ag aE (ab 11) (eC (.int 1)))) cH)) (gN 12))
  (bz (ao (ag gS (af "goes_so" (aa (ab 4) (aa (ab 5) (aa (ab 7) (aa (ab 12) ae))))) (ab 11))) (az (eC (.bl false))) bB))) bB))))))))))))
  (az (af "_law_long_right" (aa (ab 1) (aa (ag aq (af "_law_names" (aa (ab 1) ae)) (eC (.int 0))) ae)))))))
noncomputable def tU:Df:=⟨["_law_script"],12,Az⟩
structure cI(pg:Tb):Prop where
 jL:pg.fns "is_whole" =some di
 j1:pg.fns "is_between" =some bI
 nY:pg.fns "is_value" =some dW
 pA:pg.fns "is_tuple_of" =some c6
 mP:pg.fns "worth" =some fR
 nT:pg.fns "joined_worth" =some cM
 yo:pg.fns "rows_of" =some gu
 rh:pg.fns "first_seat" =some dO
 zb:pg.fns "rested" =some ig
 tK:pg.fns "is_rested" =some dt
 rW:pg.fns "is_own_row" =some dH
 kW:pg.fns "behind_own_row" =some br
 ID:pg.fns "laid" =some kI
 ve:pg.fns "touch_of" =some dj
 o8:pg.fns "seat_behind" =some aR
 yE:pg.fns "course" =some hZ
 pU:pg.fns "goes_so" =some eZ
 cU:pg.fns "gives_look" =some aX
 n6:pg.fns "may_come" =some dq
 tV:pg.fns "_law_draw" =some cn
 sY:pg.fns "_law_pick" =some er
 rX:pg.fns "_law_names" =some dM
 d6:pg.fns "_law_sum_in" =some bc
 vh:pg.fns "_law_sum" =some fq
 uI:pg.fns "_law_row" =some fB
 oN:pg.fns "_law_program" =some cK
 eQ:pg.fns "_law_worth" =some bG
 nO:pg.fns "_law_own" =some bt
 pH:pg.fns "_law_rested" =some d7
 rD:pg.fns "_law_touch" =some bH
 o6:pg.fns "_law_behind" =some cC
 gK:pg.fns "_law_value" =some cw
 ua:pg.fns "_law_seat" =some eg
 pN:pg.fns "_law_values" =some cZ
 rA:pg.fns "_law_looks" =some dG
 gH:pg.fns "_law_wrong" =some bT
 dA:pg.fns "_law_more_right" =some bo
 j4:pg.fns "_law_long_right" =some bV
 FZ:pg.fns "law" =some tU
 LV:pg.con "WORTHS" =some (.int 1000)
 yy:pg.con "MOST_OWN_ROWS" =some (.int 200)
 zA:pg.con "MOST_TOUCHES" =some (.int 60)
 Fy:pg.con "POCKETING" =some (.ktup [(.str "get"),(.str "fetch"),(.str "clock"),(.str "lot"),(.str "hear")])
 aQ:pg.yB "ROW_PARTS" =some aQ
noncomputable def fH:List (String × Df):=[("is_whole",di),("is_between",bI),("is_value",dW),("is_tuple_of",c6),("worth",fR),("joined_worth",cM),("rows_of",gu),("first_seat",dO),("rested",ig),("is_rested",dt),("is_own_row",dH),("behind_own_row",br),("laid",kI),("touch_of",dj),("seat_behind",aR),("course",hZ),("goes_so",eZ),("gives_look",aX),("may_come",dq),("_law_draw",cn),("_law_pick",er),("_law_names",dM),("_law_sum_in",bc),("_law_sum",fq),("_law_row",fB),("_law_program",cK),("_law_worth",bG),("_law_own",bt),("_law_rested",d7),("_law_touch",bH),("_law_behind",cC),("_law_value",cw),("_law_seat",eg),("_law_values",cZ),("_law_looks",dG),("_law_wrong",bT),("_law_more_right",bo),("_law_long_right",bV),("law",tU)]
noncomputable def conT:List (Str × PV):=[("WORTHS",(.int 1000)),("MOST_OWN_ROWS",(.int 200)),("MOST_TOUCHES",(.int 60)),("POCKETING",(.ktup [(.str "get"),(.str "fetch"),(.str "clock"),(.str "lot"),(.str "hear")]))]
noncomputable def dcT:List (Str × List (Key × PV)):=[("ROW_PARTS",aQ)]
noncomputable def tb:Tb:=⟨fun f=>(fH.find? fun p=>p.1 == f).map (·.2),fun x=>(conT.find? fun p=>decide (p.1=x)).map (·.2),fun x=>(dcT.find? fun p=>decide (p.1=x)).map (·.2)⟩
theorem has:cI tb:=⟨by simp[tb,fH],by simp[tb,fH],by simp[tb,fH],by simp[tb,fH],by simp[tb,fH],by simp[tb,fH],by simp[tb,fH],by simp[tb,fH],by simp[tb,fH],by simp[tb,fH],by simp[tb,fH],by simp[tb,fH],by simp[tb,fH],by simp[tb,fH],by simp[tb,fH],by simp[tb,fH],by simp[tb,fH],by simp[tb,fH],by simp[tb,fH],by simp[tb,fH],by simp[tb,fH],by simp[tb,fH],by simp[tb,fH],by simp[tb,fH],by simp[tb,fH],by simp[tb,fH],by simp[tb,fH],by simp[tb,fH],by simp[tb,fH],by simp[tb,fH],by simp[tb,fH],by simp[tb,fH],by simp[tb,fH],by simp[tb,fH],by simp[tb,fH],by simp[tb,fH],by simp[tb,fH],by simp[tb,fH],by simp[tb,fH],rfl,rfl,rfl,rfl,rfl⟩
local macro_rules
 | `(tactic| array_get_dec)=> do
  let tm (x:String):Lean.MacroM Lean.Term:=match x with
   | "?"=>`(?_)
   | "_"=>`(_)
   | "A"=>`(by assumption)
   | "R"=>`(rfl)
   | "F"=>`(fun _ _=>rfl)
   | "K"=>`(by decide +kernel)
   | "D"=>`(by decide)
   | "Q"=>`(⟨rfl,rfl,rfl,rfl⟩)
   | "L"=>`(fun _ _ _ _ _ _=>⟨fun _=>?_,?_,?_⟩)
   | "O"=>`(by first | exact Or.inl rfl | exact Or.inr rfl)
   | "Z"=>`(by intro z;cases z)
   | "w"=>`(As _)
   | x=>pure (Lean.mkIdent x.toName)
  let al (a:String):Lean.MacroM (Lean.TSyntax `tactic):=do
   match a.splitOn " " with
   | ["p",q,n]=>`(tactic| refine $(Lean.mkIdent q.toName) ($(Lean.mkIdent n.toName) ?_ ?_))
   | [n]=>`(tactic| refine $(Lean.mkIdent n.toName))
   | n::r=>do
     let ts ← r.toArray.mapM tm
     `(tactic| refine $(Lean.mkIdent n.toName) $ts*)
   | []=>Lean.Macro.throwUnsupported
  let fs (x:List (Lean.TSyntax `tactic)):Lean.MacroM (Lean.TSyntax `tactic):=do
   let e ← `(tactic| fail)
   x.foldrM (fun a b=>`(tactic| first | $a:tactic | $b:tactic)) e
  let gr (g:String):Lean.MacroM (Lean.TSyntax `tactic):=do
   match g.splitOn ":" with
   | [h,b]=>do
     let y ← fs (← (b.splitOn "|").mapM al)
     match h.splitOn " " with
     | [n,k]=>do
       let hs ← (Array.range k.toNat!).mapM fun _=>`(_)
       `(tactic| (show $(Lean.mkIdent n.toName) $hs*;$y:tactic))
     | _=>Lean.Macro.throwUnsupported
   | _=>Lean.Macro.throwUnsupported
  let a ← ("JE 5:Km _|HX|Gz|Kv|LS|MY N7 ? ? F|Co A R ?|Nv ? ? ?|Ju ?|GI ?|yX ? ? ? w|yX ? ? ? R|IB ?|BX ? ? ? ? ?|Hb ?|LX Ni ?|Jx ? ?|M3 ? ?|GP ?|BJ ? ? ?|DN A R ? F|yQ ? ? ?|yT|Ca ? R R Z D|DC ? ? ? Q|Ip ? L|HG ? L|Hf A R|Ga Nd R K PySem.boot_len ?|Ga MX R K boot_isinstance ?|Ga xj R K boot_sorted ?|Kz Dm R K boot_tuple ?|Kz G7 R K boot_list ?|Kz GL R K boot_dict ?|sS R K boot_int|sS R K boot_bool|sS R K boot_list|sS R K boot_tuple|sS R K boot_dict|Gm PySem.F.plainAttrs_list PySem.F.slot_list_append PySem.F.type_list_append y8 ? ?|Gm PySem.F.plainAttrs_dict PySem.F.slot_dict_update PySem.F.type_dict_update BR ? ?|Gm PySem.F.plainAttrs_list PySem.F.slot_list_remove PySem.F.type_list_remove BC ? ?#JA 5:Kd|Fh ? ?#xC 5:DI|EM ?|Bz ? ?#JS 5:Gx A ? L|HQ A ? L|HU A R O ?|HM A ?|K5 ? ? ?|J6 ?|CM ?|Hq MM ? ? ?|Ib ? ?|Ki ? ? ? PassesOwn.never|Al ? ? PassesOwn.never|Bt BP#JT 5:Ai ? ? ? w|Ai ? ? ? R|Ig ?|DX ?|p JW.pt yF|p JW.pt Fo|Gq ?|KA ?#JW 5:yF ? ?|Fo ? ?|Dy ?|Jr ?#JO 5:Fb|DO ?#JP 7:Hu|C9 ? ? ?#JG 5:DP A R O|Kw ?|Ed ?#KZ 5:EC|AE ? ?#JI 6:xA R ?|HI R ? ?|Ds R ?|HK ?#JF 5:Jp|Jj ?#QG 3:wX A R O".splitOn "#").mapM gr
  let b ← ("M7|Gj|L6|IV|Mq|Nb|OQ|Oe|Oo|Oy|OI|OO|Oh|DJ".splitOn "|").mapM al
  let t ← fs (a++b)
  `(tactic| repeat' first | $t:tactic | fail)
section
variable{P:Program}{w:World}{K:PySem.W.Frag}{mg:Str->Option Value}{pg:Tb}
abbrev oA:List Str:=["thing"]
theorem vg(T:cI pg)(a:At K mg "is_whole" (top 1)):aH P w K mg pg "is_whole" di (top 1) oA:=by
 have S:au oA di.ps (ai (top 1)):=⟨rfl,rfl,rfl,by decide +kernel,rfl,by decide +kernel,by decide +kernel⟩
 have z:=S.nd
 obtain⟨⟩:=T
 refine aH.of ft rfl a S rfl (fun _ _ _ _ _ _=>KY fun _=>rfl) fun _ _ _ _ _ _ _ _ _=>?_
 array_get_dec
abbrev kj:List Str:=["thing", "least", "most"]
theorem rG(T:cI pg)(a:At K mg "is_between" (top 2)):aH P w K mg pg "is_between" bI (top 2) kj:=by
 have S:au kj bI.ps (ai (top 2)):=⟨rfl,rfl,rfl,by decide +kernel,rfl,by decide +kernel,by decide +kernel⟩
 have z:=S.nd
 obtain⟨⟩:=T
 refine aH.of cq rfl a S rfl (fun _ _ _ _ _ _=>BZ fun _ _ _=>rfl) fun _ _ _ _ _ _ _ _ _=>?_
 array_get_dec
abbrev nW:List Str:=["thing"]
theorem vi(T:cI pg)(a:At K mg "is_value" (top 3)):aH P w K mg pg "is_value" dW (top 3) nW:=by
 have S:au nW dW.ps (ai (top 3)):=⟨rfl,rfl,rfl,by decide +kernel,rfl,by decide +kernel,by decide +kernel⟩
 have z:=S.nd
 obtain⟨⟩:=T
 refine aH.of g8 rfl a S rfl (fun _ _ _ _ _ _=>KY fun _=>rfl) fun _ _ _ _ _ _ _ _ _=>?_
 array_get_dec
abbrev jk:List Str:=["thing", "many"]
theorem o7(T:cI pg)(a:At K mg "is_tuple_of" (top 4)):aH P w K mg pg "is_tuple_of" c6 (top 4) jk:=by
 have S:au jk c6.ps (ai (top 4)):=⟨rfl,rfl,rfl,by decide +kernel,rfl,by decide +kernel,by decide +kernel⟩
 have z:=S.nd
 obtain⟨⟩:=T
 refine aH.of gf rfl a S rfl (fun _ _ _ _ _ _=>r9 fun _ _=>rfl) fun _ _ _ _ _ _ _ _ _=>?_
 array_get_dec
abbrev wb:List Str:=["tree", "pockets", "word", "one"]
theorem EZ(T:cI pg)(a:At K mg "worth" (top 8)):aH P w K mg pg "worth" fR (top 8) wb:=by
 have S:au wb fR.ps (ai (top 8)):=⟨rfl,rfl,rfl,by decide +kernel,rfl,by decide +kernel,by decide +kernel⟩
 have z:=S.nd
 obtain⟨⟩:=T
 refine aH.of iL rfl a S rfl (fun _ _ _ _ _ _=>r9 fun _ _=>rfl) fun _ _ _ _ _ _ _ _ _=>?_
 array_get_dec
abbrev ip:List Str:=["word", "one", "other"]
theorem nH(T:cI pg)(a:At K mg "joined_worth" (top 9)):aH P w K mg pg "joined_worth" cM (top 9) ip:=by
 have S:au ip cM.ps (ai (top 9)):=⟨rfl,rfl,rfl,by decide +kernel,rfl,by decide +kernel,by decide +kernel⟩
 have z:=S.nd
 obtain⟨⟩:=T
 refine aH.of fh rfl a S rfl (fun _ _ _ _ _ _=>BZ fun _ _ _=>rfl) fun _ _ _ _ _ _ _ _ _=>?_
 array_get_dec
abbrev ql:List Str:=["program", "hand"]
theorem yx(T:cI pg)(a:At K mg "rows_of" (top 11)):aH P w K mg pg "rows_of" gu (top 11) ql:=by
 have S:au ql gu.ps (ai (top 11)):=⟨rfl,rfl,rfl,by decide +kernel,rfl,by decide +kernel,by decide +kernel⟩
 have z:=S.nd
 obtain⟨⟩:=T
 refine aH.of k7 rfl a S rfl (fun _ _ _ _ _ _=>r9 fun _ _=>rfl) fun _ _ _ _ _ _ _ _ _=>?_
 array_get_dec
abbrev kg:List Str:=["program", "hand"]
theorem rY(T:cI pg)(a:At K mg "first_seat" (top 16)):aH P w K mg pg "first_seat" dO (top 16) kg:=by
 have S:au kg dO.ps (ai (top 16)):=⟨rfl,rfl,rfl,by decide +kernel,rfl,by decide +kernel,by decide +kernel⟩
 have z:=S.nd
 obtain⟨⟩:=T
 refine aH.of gI rfl a S rfl (fun _ _ _ _ _ _=>r9 fun _ _=>rfl) fun _ _ _ _ _ _ _ _ _=>?_
 array_get_dec
abbrev sx:List Str:=["program", "hand", "seat", "rows", "here", "turn"]
theorem zg(T:cI pg)(a:At K mg "rested" (top 17)):aH P w K mg pg "rested" ig (top 17) sx:=by
 have S:au sx ig.ps (ai (top 17)):=⟨rfl,rfl,rfl,by decide +kernel,rfl,by decide +kernel,by decide +kernel⟩
 have z:=S.nd
 obtain⟨⟩:=T
 refine aH.of nz rfl a S rfl (fun _ _ _ _ _ _=>BZ fun _ _ _=>rfl) fun _ _ _ _ _ _ _ _ _=>?_
 array_get_dec
abbrev lX:List Str:=["rows", "seat"]
theorem tJ(T:cI pg)(a:At K mg "is_rested" (top 18)):aH P w K mg pg "is_rested" dt (top 18) lX:=by
 have S:au lX dt.ps (ai (top 18)):=⟨rfl,rfl,rfl,by decide +kernel,rfl,by decide +kernel,by decide +kernel⟩
 have z:=S.nd
 obtain⟨⟩:=T
 refine aH.of fJ rfl a S rfl (fun _ _ _ _ _ _=>r9 fun _ _=>rfl) fun _ _ _ _ _ _ _ _ _=>?_
 array_get_dec
abbrev ku:List Str:=["row", "held"]
theorem qV(T:cI pg)(a:At K mg "is_own_row" (top 19)):aH P w K mg pg "is_own_row" dH (top 19) ku:=by
 have S:au ku dH.ps (ai (top 19)):=⟨rfl,rfl,rfl,by decide +kernel,rfl,by decide +kernel,by decide +kernel⟩
 have z:=S.nd
 obtain⟨⟩:=T
 refine aH.of gW rfl a S rfl (fun _ _ _ _ _ _=>r9 fun _ _=>rfl) fun _ _ _ _ _ _ _ _ _=>?_
 array_get_dec
abbrev gC:List Str:=["row", "seat", "onward"]
theorem kQ(T:cI pg)(a:At K mg "behind_own_row" (top 20)):aH P w K mg pg "behind_own_row" br (top 20) gC:=by
 have S:au gC br.ps (ai (top 20)):=⟨rfl,rfl,rfl,by decide +kernel,rfl,by decide +kernel,by decide +kernel⟩
 have z:=S.nd
 obtain⟨⟩:=T
 refine aH.of bZ rfl a S rfl (fun _ _ _ _ _ _=>r9 fun _ _=>rfl) fun _ _ _ _ _ _ _ _ _=>?_
 array_get_dec
abbrev vC:List Str:=["pockets", "name", "value", "others"]
theorem KO(T:cI pg)(a:At K mg "laid" (top 21)):aH P w K mg pg "laid" kI (top 21) vC:=by
 have S:au vC kI.ps (ai (top 21)):=⟨rfl,rfl,rfl,by decide +kernel,rfl,by decide +kernel,by decide +kernel⟩
 have z:=S.nd
 have z0:(uv vC ["pocket"]).Nodup:=by decide +kernel
 obtain⟨⟩:=T
 refine aH.of qJ rfl a S rfl (fun _ _ _ _ _ _=>BZ fun _ _ _=>rfl) fun _ _ _ _ _ _ _ _ _=>?_
 array_get_dec
abbrev oU:List Str:=["program", "hand", "seat", "rows", "row", "thing", "value", "part", "entry"]
theorem uB(T:cI pg)(a:At K mg "touch_of" (top 22)):aH P w K mg pg "touch_of" dj (top 22) oU:=by
 have S:au oU dj.ps (ai (top 22)):=⟨rfl,rfl,rfl,by decide +kernel,rfl,by decide +kernel,by decide +kernel⟩
 have z:=S.nd
 obtain⟨⟩:=T
 refine aH.of fe rfl a S rfl (fun _ _ _ _ _ _=>BZ fun _ _ _=>rfl) fun _ _ _ _ _ _ _ _ _=>?_
 array_get_dec
abbrev gc:List Str:=["program", "hand", "seat", "value", "row", "pockets", "held"]
theorem pC(T:cI pg)(a:At K mg "seat_behind" (top 23)):aH P w K mg pg "seat_behind" aR (top 23) gc:=by
 have S:au gc aR.ps (ai (top 23)):=⟨rfl,rfl,rfl,by decide +kernel,rfl,by decide +kernel,by decide +kernel⟩
 have z:=S.nd
 have z0:(uv gc ["lock"]).Nodup:=by decide +kernel
 obtain⟨⟩:=T
 refine aH.of bf rfl a S rfl (fun _ _ _ _ _ _=>IL fun _ _ _ _=>rfl) fun _ _ _ _ _ _ _ _ _=>?_
 array_get_dec
abbrev sy:List Str:=["program", "hand", "seat", "values", "here", "touches", "used", "touch", "value"]
theorem zR(T:cI pg)(a:At K mg "course" (top 24)):aH P w K mg pg "course" hZ (top 24) sy:=by
 have S:au sy hZ.ps (ai (top 24)):=⟨rfl,rfl,rfl,by decide +kernel,rfl,by decide +kernel,by decide +kernel⟩
 have z:=S.nd
 obtain⟨⟩:=T
 refine aH.of nK rfl a S rfl (fun _ _ _ _ _ _=>IL fun _ _ _ _=>rfl) fun _ _ _ _ _ _ _ _ _=>?_
 array_get_dec
abbrev pP:List Str:=["program", "hand", "seat", "things", "here", "many", "thing", "touch"]
theorem xP(T:cI pg)(a:At K mg "goes_so" (top 25)):aH P w K mg pg "goes_so" eZ (top 25) pP:=by
 have S:au pP eZ.ps (ai (top 25)):=⟨rfl,rfl,rfl,by decide +kernel,rfl,by decide +kernel,by decide +kernel⟩
 have z:=S.nd
 obtain⟨⟩:=T
 refine aH.of iW rfl a S rfl (fun _ _ _ _ _ _=>IL fun _ _ _ _=>rfl) fun _ _ _ _ _ _ _ _ _=>?_
 array_get_dec
abbrev kC:List Str:=["touch", "thing"]
theorem rF(T:cI pg)(a:At K mg "gives_look" (top 26)):aH P w K mg pg "gives_look" aX (top 26) kC:=by
 have S:au kC aX.ps (ai (top 26)):=⟨rfl,rfl,rfl,by decide +kernel,rfl,by decide +kernel,by decide +kernel⟩
 have z:=S.nd
 obtain⟨⟩:=T
 refine aH.of bw rfl a S rfl (fun _ _ _ _ _ _=>r9 fun _ _=>rfl) fun _ _ _ _ _ _ _ _ _=>?_
 array_get_dec
abbrev oz:List Str:=["touch", "value"]
theorem uD(T:cI pg)(a:At K mg "may_come" (top 27)):aH P w K mg pg "may_come" dq (top 27) oz:=by
 have S:au oz dq.ps (ai (top 27)):=⟨rfl,rfl,rfl,by decide +kernel,rfl,by decide +kernel,by decide +kernel⟩
 have z:=S.nd
 obtain⟨⟩:=T
 refine aH.of fj rfl a S rfl (fun _ _ _ _ _ _=>r9 fun _ _=>rfl) fun _ _ _ _ _ _ _ _ _=>?_
 array_get_dec
abbrev lO:List Str:=["_law_script", "_law_k", "_law_many", "_law_cell", "_law_left", "_law_j", "_law_seed"]
theorem tj(T:cI pg)(a:At K mg "_law_draw" (top 29)):aH P w K mg pg "_law_draw" cn (top 29) lO:=by
 have S:au lO cn.ps (ai (top 29)):=⟨rfl,rfl,rfl,by decide +kernel,rfl,by decide +kernel,by decide +kernel⟩
 have z:=S.nd
 obtain⟨⟩:=T
 refine aH.of dv rfl a S rfl (fun _ _ _ _ _ _=>BZ fun _ _ _=>rfl) fun _ _ _ _ _ _ _ _ _=>?_
 array_get_dec
abbrev lR:List Str:=["_law_state", "_law_many"]
theorem um(T:cI pg)(a:At K mg "_law_pick" (top 30)):aH P w K mg pg "_law_pick" er (top 30) lR:=by
 have S:au lR er.ps (ai (top 30)):=⟨rfl,rfl,rfl,by decide +kernel,rfl,by decide +kernel,by decide +kernel⟩
 have z:=S.nd
 obtain⟨⟩:=T
 refine aH.of hV rfl a S rfl (fun _ _ _ _ _ _=>r9 fun _ _=>rfl) fun _ _ _ _ _ _ _ _ _=>?_
 array_get_dec
abbrev kh:List Str:=["_law_state", "_law_some", "_law_turn"]
theorem qC(T:cI pg)(a:At K mg "_law_names" (top 31)):aH P w K mg pg "_law_names" dM (top 31) kh:=by
 have S:au kh dM.ps (ai (top 31)):=⟨rfl,rfl,rfl,by decide +kernel,rfl,by decide +kernel,by decide +kernel⟩
 have z:=S.nd
 obtain⟨⟩:=T
 refine aH.of gO rfl a S rfl (fun _ _ _ _ _ _=>KY fun _=>rfl) fun _ _ _ _ _ _ _ _ _=>?_
 array_get_dec
abbrev jo:List Str:=["_law_state", "_law_pockets", "_law_deep", "_law_way", "_law_word", "_law_one"]
theorem px(T:cI pg)(a:At K mg "_law_sum_in" (top 32)):aH P w K mg pg "_law_sum_in" bc (top 32) jo:=by
 have S:au jo bc.ps (ai (top 32)):=⟨rfl,rfl,rfl,by decide +kernel,rfl,by decide +kernel,by decide +kernel⟩
 have z:=S.nd
 obtain⟨⟩:=T
 refine aH.of bJ rfl a S rfl (fun _ _ _ _ _ _=>BZ fun _ _ _=>rfl) fun _ _ _ _ _ _ _ _ _=>?_
 array_get_dec
abbrev nN:List Str:=["_law_state", "_law_pockets"]
theorem vP(T:cI pg)(a:At K mg "_law_sum" (top 33)):aH P w K mg pg "_law_sum" fq (top 33) nN:=by
 have S:au nN fq.ps (ai (top 33)):=⟨rfl,rfl,rfl,by decide +kernel,rfl,by decide +kernel,by decide +kernel⟩
 have z:=S.nd
 obtain⟨⟩:=T
 refine aH.of jK rfl a S rfl (fun _ _ _ _ _ _=>r9 fun _ _=>rfl) fun _ _ _ _ _ _ _ _ _=>?_
 array_get_dec
abbrev oE:List Str:=["_law_state", "_law_named", "_law_pockets", "_law_many", "_law_kinds", "_law_sort", "_law_some", "_law_kind", "_law_pocket", "_law_sorts", "_law_thing"]
theorem vH(T:cI pg)(a:At K mg "_law_row" (top 34)):aH P w K mg pg "_law_row" fB (top 34) oE:=by
 have S:au oE fB.ps (ai (top 34)):=⟨rfl,rfl,rfl,by decide +kernel,rfl,by decide +kernel,by decide +kernel⟩
 have z:=S.nd
 obtain⟨⟩:=T
 refine aH.of jC rfl a S rfl (fun _ _ _ _ _ _=>IL fun _ _ _ _=>rfl) fun _ _ _ _ _ _ _ _ _=>?_
 array_get_dec
abbrev dI:List Str:=["_law_state", "_law_names_here", "_law_named", "_law_sort", "_law_many", "_law_pockets", "_law_hands", "_law_name", "_law_boxes"]
theorem nF(T:cI pg)(a:At K mg "_law_program" (top 35)):aH P w K mg pg "_law_program" cK (top 35) dI:=by
 have S:au dI cK.ps (ai (top 35)):=⟨rfl,rfl,rfl,by decide +kernel,rfl,by decide +kernel,by decide +kernel⟩
 have z:=S.nd
 have z0:(uv dI ["_law_k"]).Nodup:=by decide +kernel
 have z1:(uv dI ["_law_name"]).Nodup:=by decide +kernel
 obtain⟨⟩:=T
 refine aH.of fF rfl a S rfl (fun _ _ _ _ _ _=>KY fun _=>rfl) fun _ _ _ _ _ _ _ _ _=>?_
 array_get_dec
abbrev gQ:List Str:=["_law_thing", "_law_pockets", "_law_some", "_law_one", "_law_other", "_law_table"]
theorem rZ(T:cI pg)(a:At K mg "_law_worth" (top 36)):aH P w K mg pg "_law_worth" bG (top 36) gQ:=by
 have S:au gQ bG.ps (ai (top 36)):=⟨rfl,rfl,rfl,by decide +kernel,rfl,by decide +kernel,by decide +kernel⟩
 have z:=S.nd
 have z0:(uv gQ ["_law_part"]).Nodup:=by decide +kernel
 obtain⟨⟩:=T
 refine aH.of cu rfl a S rfl (fun _ _ _ _ _ _=>r9 fun _ _=>rfl) fun _ _ _ _ _ _ _ _ _=>?_
 array_get_dec
abbrev nJ:List Str:=["_law_rows", "_law_at", "_law_pockets", "_law_held", "_law_row_here"]
theorem vM(T:cI pg)(a:At K mg "_law_own" (top 37)):aH P w K mg pg "_law_own" bt (top 37) nJ:=by
 have S:au nJ bt.ps (ai (top 37)):=⟨rfl,rfl,rfl,by decide +kernel,rfl,by decide +kernel,by decide +kernel⟩
 have z:=S.nd
 obtain⟨⟩:=T
 refine aH.of bM rfl a S rfl (fun _ _ _ _ _ _=>IL fun _ _ _ _=>rfl) fun _ _ _ _ _ _ _ _ _=>?_
 array_get_dec
abbrev gi:List Str:=["_law_rows", "_law_seat_here", "_law_pockets", "_law_at", "_law_passed", "_law_behind_here", "_law_former"]
theorem pG(T:cI pg)(a:At K mg "_law_rested" (top 38)):aH P w K mg pg "_law_rested" d7 (top 38) gi:=by
 have S:au gi d7.ps (ai (top 38)):=⟨rfl,rfl,rfl,by decide +kernel,rfl,by decide +kernel,by decide +kernel⟩
 have z:=S.nd
 have z0:(uv gi ["_law_name"]).Nodup:=by decide +kernel
 obtain⟨⟩:=T
 refine aH.of jl rfl a S rfl (fun _ _ _ _ _ _=>r9 fun _ _=>rfl) fun _ _ _ _ _ _ _ _ _=>?_
 array_get_dec
abbrev jS:List Str:=["_law_rows", "_law_seat_here", "_law_row_here"]
theorem qZ(T:cI pg)(a:At K mg "_law_touch" (top 39)):aH P w K mg pg "_law_touch" bH (top 39) jS:=by
 have S:au jS bH.ps (ai (top 39)):=⟨rfl,rfl,rfl,by decide +kernel,rfl,by decide +kernel,by decide +kernel⟩
 have z:=S.nd
 obtain⟨⟩:=T
 refine aH.of cy rfl a S rfl (fun _ _ _ _ _ _=>r9 fun _ _=>rfl) fun _ _ _ _ _ _ _ _ _=>?_
 array_get_dec
abbrev gb:List Str:=["_law_rows", "_law_seat_here", "_law_value_here", "_law_row_here", "_law_pockets", "_law_held", "_law_some"]
theorem o9(T:cI pg)(a:At K mg "_law_behind" (top 40)):aH P w K mg pg "_law_behind" cC (top 40) gb:=by
 have S:au gb cC.ps (ai (top 40)):=⟨rfl,rfl,rfl,by decide +kernel,rfl,by decide +kernel,by decide +kernel⟩
 have z:=S.nd
 have z0:(uv gb ["_law_name"]).Nodup:=by decide +kernel
 obtain⟨⟩:=T
 refine aH.of jt rfl a S rfl (fun _ _ _ _ _ _=>BZ fun _ _ _=>rfl) fun _ _ _ _ _ _ _ _ _=>?_
 array_get_dec
abbrev kq:List Str:=["_law_state", "_law_touch_here"]
theorem rS(T:cI pg)(a:At K mg "_law_value" (top 41)):aH P w K mg pg "_law_value" cw (top 41) kq:=by
 have S:au kq cw.ps (ai (top 41)):=⟨rfl,rfl,rfl,by decide +kernel,rfl,by decide +kernel,by decide +kernel⟩
 have z:=S.nd
 obtain⟨⟩:=T
 refine aH.of dN rfl a S rfl (fun _ _ _ _ _ _=>r9 fun _ _=>rfl) fun _ _ _ _ _ _ _ _ _=>?_
 array_get_dec
abbrev fQ:List Str:=["_law_state", "_law_program_here", "_law_hand", "_law_rows", "_law_names_here", "_law_pockets", "_law_held"]
theorem sr(T:cI pg)(a:At K mg "_law_seat" (top 42)):aH P w K mg pg "_law_seat" eg (top 42) fQ:=by
 have S:au fQ eg.ps (ai (top 42)):=⟨rfl,rfl,rfl,by decide +kernel,rfl,by decide +kernel,by decide +kernel⟩
 have z:=S.nd
 have z0:(uv fQ ["_law_name"]).Nodup:=by decide +kernel
 have z1:(uv fQ ["_law_lock"]).Nodup:=by decide +kernel
 obtain⟨⟩:=T
 refine aH.of ik rfl a S rfl (fun _ _ _ _ _ _=>BZ fun _ _ _=>rfl) fun _ _ _ _ _ _ _ _ _=>?_
 array_get_dec
abbrev jn:List Str:=["_law_state", "_law_rows", "_law_seat_here", "_law_most", "_law_values_here", "_law_turn", "_law_touch_here", "_law_value_here"]
theorem pD(T:cI pg)(a:At K mg "_law_values" (top 43)):aH P w K mg pg "_law_values" cZ (top 43) jn:=by
 have S:au jn cZ.ps (ai (top 43)):=⟨rfl,rfl,rfl,by decide +kernel,rfl,by decide +kernel,by decide +kernel⟩
 have z:=S.nd
 obtain⟨⟩:=T
 refine aH.of f9 rfl a S rfl (fun _ _ _ _ _ _=>IL fun _ _ _ _=>rfl) fun _ _ _ _ _ _ _ _ _=>?_
 array_get_dec
abbrev gM:List Str:=["_law_state", "_law_touches"]
theorem rE(T:cI pg)(a:At K mg "_law_looks" (top 45)):aH P w K mg pg "_law_looks" dG (top 45) gM:=by
 have S:au gM dG.ps (ai (top 45)):=⟨rfl,rfl,rfl,by decide +kernel,rfl,by decide +kernel,by decide +kernel⟩
 have z:=S.nd
 have z0:(uv gM ["_law_touch_here"]).Nodup:=by decide +kernel
 obtain⟨⟩:=T
 refine aH.of gY rfl a S rfl (fun _ _ _ _ _ _=>r9 fun _ _=>rfl) fun _ _ _ _ _ _ _ _ _=>?_
 array_get_dec
abbrev j8:List Str:=["_law_state", "_law_look", "_law_kind", "_law_thing", "_law_value_here", "_law_mark", "_law_way", "_law_wrong_here"]
theorem qO(T:cI pg)(a:At K mg "_law_wrong" (top 46)):aH P w K mg pg "_law_wrong" bT (top 46) j8:=by
 have S:au j8 bT.ps (ai (top 46)):=⟨rfl,rfl,rfl,by decide +kernel,rfl,by decide +kernel,by decide +kernel⟩
 have z:=S.nd
 obtain⟨⟩:=T
 refine aH.of cV rfl a S rfl (fun _ _ _ _ _ _=>r9 fun _ _=>rfl) fun _ _ _ _ _ _ _ _ _=>?_
 array_get_dec
abbrev fO:List Str:=["_law_state", "_law_program_here", "_law_hand", "_law_told", "_law_looks_here", "_law_rows", "_law_touch_here", "_law_look"]
theorem jM(T:cI pg)(a:At K mg "_law_more_right" (top 47)):aH P w K mg pg "_law_more_right" bo (top 47) fO:=by
 have S:au fO bo.ps (ai (top 47)):=⟨rfl,rfl,rfl,by decide +kernel,rfl,by decide +kernel,by decide +kernel⟩
 have z:=S.nd
 obtain⟨⟩:=T
 refine aH.of bR rfl a S rfl (fun _ _ _ _ _ _=>PD fun _ _ _ _ _=>rfl) fun _ _ _ _ _ _ _ _ _=>?_
 array_get_dec
abbrev fY:List Str:=["_law_state", "_law_name", "_law_program_here", "_law_many", "_law_looks_here", "_law_at", "_law_bent"]
theorem kn(T:cI pg)(a:At K mg "_law_long_right" (top 48)):aH P w K mg pg "_law_long_right" bV (top 48) fY:=by
 have S:au fY bV.ps (ai (top 48)):=⟨rfl,rfl,rfl,by decide +kernel,rfl,by decide +kernel,by decide +kernel⟩
 have z:=S.nd
 obtain⟨⟩:=T
 refine aH.of dC rfl a S rfl (fun _ _ _ _ _ _=>r9 fun _ _=>rfl) fun _ _ _ _ _ _ _ _ _=>?_
 array_get_dec
abbrev Fz:List Str:=["_law_script", "_law_state", "_law_programs", "_law_turn", "_law_program_here", "_law_hand", "_law_rows", "_law_seat_here", "_law_values_here", "_law_told", "_law_looks_here", "_law_at", "_law_bent"]
theorem FO(T:cI pg)(a:At K mg "law" (top 49)):aH P w K mg pg "law" tU (top 49) Fz:=by
 have S:au Fz tU.ps (ai (top 49)):=⟨rfl,rfl,rfl,by decide +kernel,rfl,by decide +kernel,by decide +kernel⟩
 have z:=S.nd
 obtain⟨⟩:=T
 refine aH.of Az rfl a S rfl (fun _ _ _ _ _ _=>KY fun _=>rfl) fun _ _ _ _ _ _ _ _ _=>?_
 array_get_dec
end
end K13
end
section
open PySem L2 P3
local macro_rules
 | `(tactic| simp? [$ls,*])=> `(tactic| simp? (disch:=omega) only[$ls,*])
 | `(tactic| simp? (disch:= $t) only[$ls,*])=> do
  let xs ← ("↓LZ Hx ↓K9 ↓H9 Dd ↓Ox HF ↓F4 Cm Ea ↓MK JB HC ↓JU Ei ↓K7 HA Jb KG ↓Ic ↓Cs Bs AM ↓Kq C0 EO ↓EX BN ↓CG ↓Dw ↓zu xY xU ↓Gy Em ↓HB Es oH ↓DY ↓Ou ↓N0 ↓Mg HW II Ey E2 ↓BH wk Eu Cp ↓LM ↓Ex yU ↓F7 Cc ↓Hy DA CA Fc ↓BY ↓J1 CT Fd Gk MV Gh J3 Gn Jv ↓JY EY E4 CQ KN ↓J2 Cg zT ↓Jy Hz G8 GN ↓IQ EW ↓Ho EU y6 ↓L8 Kr IY Mb GY Ec CN E9 DF Iv tq Bq yH Dv lW List.getElem?_cons_zero List.getElem?_cons_succ List.set_cons_zero List.set_cons_succ List.map_cons List.map_nil List.cons_append List.nil_append List.replicate_succ List.replicate_zero List.length_cons List.length_nil Ej DB iY Fm yR B8 Dk HE Kx Ge IE CC Dx DE Di Cu OM Ly Lz Og Lm C1 Md OB mF rn Nc OE len_T GO ↓Iq Fg zZ E8 Dp BG Nt G9 vI uC qE ↓Av bE aK eW uw C8 BF Lh KL Ij ↓Nr Kf GD ↓Mr ↓Nh Iy OJ OA Mx List.append_assoc List.length_append xD wj in_K ↓ML JC LB Nz LP Kn JR aI decide_true decide_false Bool.not_true Bool.not_false if_true if_false reduceIte ite_self Bool.false_eq_true String.reduceEq String.reduceNe reduceCtorEq Int.reduceEq Int.reduceNe Int.reduceLT Int.reduceLE Int.reduceSub Int.reduceAdd Int.reduceMul Int.reduceToNat Int.reduceNeg".splitOn " ").toArray.mapM fun w=>if w.startsWith "↓" then `(Lean.Parser.Tactic.simpLemma| ↓$(Lean.mkIdent (w.drop 1).toName):term) else `(Lean.Parser.Tactic.simpLemma| $(Lean.mkIdent w.toName):term)
  let ys : Lean.TSyntaxArray [`Lean.Parser.Tactic.simpStar,`Lean.Parser.Tactic.simpErase,`Lean.Parser.Tactic.simpLemma] := ls.getElems ++ xs.map (fun x=>⟨x.raw⟩)
  `(tactic| simp(disch:= $t) only[$ys,*])
section
open PySem L2 P3
set_option maxHeartbeats 1000000
namespace K13
inductive Bo where | add | sub | mul | less | same
 deriving DecidableEq
noncomputable def Bo.w:Bo->Str
 | .add=> "add" | .sub=> "sub" | .mul=> "mul" | .less=> "less" | .same=> "same"
noncomputable def Bo.f:Bo->Int->Int->Int
 | .add,a,b=>(a+b) % 1000
 | .sub,a,b=>(a - b) % 1000
 | .mul,a,b=>a*b % 1000
 | .less,a,b=>if a < b then 1 else 0
 | .same,a,b=>if a=b then 1 else 0
inductive Sm where
 | num (n:Int) | of (x:Str) | un (a:Sm) | bin (o:Bo) (a b:Sm)
noncomputable def eE:Sm->PV
 | .num n=> .tup [.str "num",.int n]
 | .of x=> .tup [.str "of",.str x]
 | .un a=> .tup [.str "not",eE a]
 | .bin o a b=> .tup [.str o.w,eE a,eE b]
noncomputable def Sm.dp:Sm->Nat
 | .num _=>1 | .of _=>1 | .un a=>a.dp+1 | .bin _ a b=>max a.dp b.dp+1
noncomputable def Sm.ok:Sm->Prop
 | .num n=>0<=n/\n<=999 | .of _=>True | .un a=>a.ok | .bin _ a b=>a.ok/\b.ok
noncomputable def Sm.val(f:Str->Int):Sm->Int
 | .num n=>n
 | .of x=>f x
 | .un a=>if a.val f=0 then 1 else 0
 | .bin o a b=>o.f (a.val f) (b.val f)
theorem Sm.lr{f : Str -> Int}(hf : ∀ x, 0 <= f x /\ f x <= 999) : ∀ e : Sm, e.ok -> 0 <= e.val f /\ e.val f <= 999
  | .num n, h => h
  | .of x, _ => hf x
  | .un a, _ => by unfold Sm.val; split <;> omega
  | .bin o a b, _ => by
    unfold Sm.val Bo.f
    cases o <;> simp only <;> first
      | (split <;> omega)
      | exact⟨Int.emod_nonneg _ (by decide), by have := Int.emod_lt_of_pos (Sm.val f a + Sm.val f b) (show(0 : Int) < 1000 by decide); omega⟩
      | exact⟨Int.emod_nonneg _ (by decide), by have := Int.emod_lt_of_pos (Sm.val f a - Sm.val f b) (show(0 : Int) < 1000 by decide); omega⟩
      | exact⟨Int.emod_nonneg _ (by decide), by have := Int.emod_lt_of_pos (Sm.val f a * Sm.val f b) (show(0 : Int) < 1000 by decide); omega⟩
theorem c7: ∀ e:Sm,(eE e).flat=true
 | .num n=>rfl
 | .of x=>rfl
 | .un a=>by simp[eE,PV.flat,PV.bF,c7 a]
 | .bin o a b=>by simp[eE,PV.flat,PV.bF,c7 a,c7 b]
abbrev Pk:=List (Str × Int)
noncomputable def kN(ps:Pk):PV:= .tup (ps.map eK)
noncomputable def fP:Pk->Str->Int
 | [],_=>0
 | q::r,x=>if q.1=x then q.2 else fP r x
structure Py(ps:Pk):Prop where
 yY:(ps.map (·.1)).Pairwise hI
 mem: ∀ q∈ps,1<=q.2/\q.2<=999
 len:ps.length<=20
theorem zY: ∀{ps:Pk},(∀ q∈ps,1<=q.2/\q.2<=999)-> ∀ x,0<=fP ps x/\fP ps x<=999
 | [],_,x=>by simp[fP]
 | q::r,h,x=>by
  unfold fP;split
  · have:=h q List.mem_cons_self;omega
  · exact zY (fun z hz=>h z (List.mem_cons_of_mem _ hz)) x
theorem kc: ∀(ps:Pk),PV.bF (ps.map eK)=true
 | []=>rfl
 | q::r=>by simp[PV.bF,eK,PV.flat,kc r]
noncomputable def bL(ps:Pk):List (Key × PV):=ps.map fun q=>(.inr q.1,.int q.2)
theorem jP: ∀(ps:Pk),iq (ps.map eK)=some (bL ps)
 | []=>rfl
 | q::r=>by simp[iq,eK,pairP?,gZ,jP r,bL]
theorem vt: ∀(ps:Pk)(x:Str),(aW (bL ps) (.inr x)).getD (.int 0)= .int (fP ps x)
 | [],x=>rfl
 | q::r,x=>by
  unfold fP bL
  rw[List.map_cons]
  by_cases e:q.1=x
  · rw[if_pos e,e,rn];rfl
  · rw[if_neg e,sZ (by simpa using e)];exact vt r x
theorem Cw: ∀{kvs:List (Key × PV)}{k:Key}{v:PV},k ∉ kvs.map (fun kv:Key × PV=>kv.1)->c8 kvs k v=kvs++[(k,v)]:=by
 intro kvs k v h
 unfold c8
 rw[if_neg]
 simp only[List.any_eq_true,decide_eq_true_eq,not_exists,not_and]
 exact fun x hx e=>h (List.mem_map.mpr ⟨x,hx,e⟩)
theorem ue: ∀(more acc:List (Key × PV)),((acc++more).map (fun kv:Key × PV=>kv.1)).Nodup->bA acc more=acc++more
 | [],acc,_=>by simp[bA]
 | p::r,acc,h=>by
  have h2:p.1 ∉ acc.map (fun kv:Key × PV=>kv.1):=by
   rw[List.map_append,List.nodup_append] at h
   intro m
   exact h.2.2 p.1 m p.1 (by simp) rfl
  show bA (c8 acc p.1 p.2) r=_
  rw[Cw h2,ue r _ (by simpa using h)]
  simp
theorem j5{ps : Pk}(nd : (ps.map (·.1)).Nodup) : bA [] (bL ps) = bL ps := by
  rw[ue _ _ ?_]; · rfl
  have e : ([] ++ bL ps).map (fun kv : Key × PV => kv.1) = (ps.map (·.1)).map (Sum.inr (α := Int)) := by unfold bL; rw[List.nil_append, List.map_map, List.map_map]; rfl
  rw[e]
  exact List.Pairwise.map _ (fun a b z e => z (Sum.inr.inj e)) nd
section
variable{pg:Tb}(T:cI pg)
include T
theorem K6(k:Nat)(o:Bo)(a b:Int)(h:PH)(ha:0<=a/\a<=999):run pg (k+1) "joined_worth" [.str o.w,.int a,.int b] h= .ok (.int (o.f a b)) h:=by
 rw[run_eq T.nT rfl]
 cases o<;>simp? [cM,fh,Bo.w,Bo.f]
 all_goals split<;>rfl
theorem iA(h:PH){ps:Pk}(nd:(ps.map (·.1)).Nodup)(hm: ∀ q∈ps,1<=q.2/\q.2<=999)(hl:ps.length<=1000): ∀(e:Sm)(k:Nat),e.ok->e.dp<=k->run pg (k+1) "worth" [eE e,kN ps] h= .ok (.int (e.val (fP ps))) h
 | .num n,k,ho,hk=>by
  rw[run_eq T.mP rfl]
  simp? [fR,iL,eE,Sm.val]
 | .of x,k,ho,hk=>by
  rw[run_eq T.mP rfl]
  have hz:(ps.map eK).length < 16777216:=by rw[List.length_map];omega
  simp? [fR,iL,eE,kN,Sm.val,jP,j5 nd,vt,qE hz]
  exact bh rfl
 | .un a,k,ho,hk=>by
  obtain⟨k,rfl⟩: ∃ j,k=j+1:=⟨k - 1,by unfold Sm.dp at hk;omega⟩
  have ih:=iA h nd hm hl a k ho (by unfold Sm.dp at hk;omega)
  rw[run_eq T.mP rfl]
  simp? [fR,iL,eE,Sm.val,ih]
  split<;>rfl
 | .bin o a b,k,ho,hk=>by
  obtain⟨k,rfl⟩: ∃ j,k=j+1:=⟨k - 1,by unfold Sm.dp at hk;omega⟩
  have ih1:=iA h nd hm hl a k ho.1 (by unfold Sm.dp at hk;omega)
  have ih2:=iA h nd hm hl b k ho.2 (by unfold Sm.dp at hk;omega)
  have ij:=K6 T k o (a.val (fP ps)) (b.val (fP ps)) h (Sm.lr (zY hm) a ho.1)
  rw[run_eq T.mP rfl]
  cases o<;>(simp only[Bo.w] at ij;simp? [fR,iL,eE,Sm.val,ih1,ih2,ij,Bo.w])
end
end K13
end
section
open PySem L2 P3
set_option maxHeartbeats 1000000
namespace K13
theorem oB{h:PH}{n:Nat}{os:Pk}(e:h[n]?=some (.lst (os.map eK)))(hl:os.length < 64)(nd:(os.map (·.1)).Nodup):bp [.ref n] h= .ok (.ref h.length) (h++[.lst ((jY os).map eK)]):=by
 have hi:itemsOf h (.ref n)=some (os.map eK):=by simp[itemsOf,dJ,e]
 show eR [.ref n] h=_
 unfold eR
 simp only[hi]
 cases os with
 | nil=>simp[fV,aM,jY]
 | cons q r =>
  have e1:fV ((q::r).map eK)=none:=rfl
  rw[e1]
  simp only[sD]
  rw[if_pos ⟨hl,nd⟩]
noncomputable def lay(ps:Pk)(x:Str)(v:Int):Pk:=jY (ps.filter (fun q=> !decide (q.1=x))++if v=0 then[] else[(x,v)])
theorem gJ(ps:Pk):(jY ps).Perm ps:=List.mergeSort_perm ps _
theorem yb{ps:Pk}(nd:(ps.map (·.1)).Nodup):((jY ps).map (·.1)).Pairwise hI:=by
 have h1:(jY ps).Pairwise fun a b=>my a.1 b.1=true:=List.pairwise_mergeSort (fun a b c=>gF a.1 b.1 c.1) (fun a b=>by simpa using i7 a.1 b.1) ps
 have h2:((jY ps).map (·.1)).Nodup:=((gJ ps).map _).nodup_iff.mpr nd
 rw[List.pairwise_map]
 rw[List.nodup_iff_pairwise_ne,List.pairwise_map] at h2
 refine h1.imp₂ (fun a b z1 z2=>?_) h2
 rcases lN z2 with z | z
 · exact z
 · unfold my at z1;simp[z] at z1
theorem lj{ps:Pk}(nd:(ps.map (·.1)).Nodup): ∀ q∈ps,fP ps q.1=q.2:=by
 induction ps with
 | nil=>intro q m;cases m
 | cons p r ih =>
  intro q m
  rw[List.map_cons] at nd;rw[List.nodup_cons] at nd
  unfold fP
  rcases List.mem_cons.mp m with e | m
  · rw[if_pos (by rw[e]),e]
  · rw[if_neg (fun z=>nd.1 (by rw[z];exact List.mem_map.mpr ⟨q,m,rfl⟩))]
    exact ih nd.2 q m
theorem jA{ps:Pk}{x:Str}(h:x ∉ ps.map (·.1)):fP ps x=0:=by
 induction ps with
 | nil=>rfl
 | cons p r ih =>
  rw[List.map_cons,List.mem_cons,not_or] at h
  unfold fP
  rw[if_neg (fun z=>h.1 z.symm)]
  exact ih h.2
theorem CU{ps qs:Pk}(p:ps.Perm qs)(nd:(qs.map (·.1)).Nodup)(x:Str):fP ps x=fP qs x:=by
 by_cases hx:x∈qs.map (·.1)
 · obtain⟨q,m,rfl⟩:=List.mem_map.mp hx
   rw[lj nd q m,lj ((p.map (·.1)).nodup_iff.mpr nd) q (p.mem_iff.mpr m)]
 · rw[jA hx,jA fun z=>hx ((p.map (·.1)).mem_iff.mp z)]
theorem vO{ps:Pk}(nd:(ps.map (·.1)).Nodup)(x:Str)(v:Int):((ps.filter (fun q=> !decide (q.1=x))++if v=0 then[] else[(x,v)]).map (·.1)).Nodup:=by
 rw[List.map_append]
 refine List.nodup_append.mpr ⟨(List.Sublist.map _ List.filter_sublist).nodup nd,?_,fun a ha b hb e=>?_⟩
 · split<;>simp
 · split at hb
   · cases hb
   · obtain⟨q,m,rfl⟩:=List.mem_map.mp ha
     have hb':b=x:=by simpa using hb
     have:=(List.mem_filter.mp m).2
     simp only[Bool.not_eq_true',decide_eq_false_iff_not] at this
     exact this (e.trans hb')
theorem zD{ps:Pk}(nd:(ps.map (·.1)).Nodup)(x:Str)(v:Int)(y:Str):fP (lay ps x v) y=if y=x then v else fP ps y:=by
 rw[lay,CU (gJ _) (vO nd x v)]
 have app: ∀(l m:Pk)(y:Str),fP (l++m) y=if y∈l.map (·.1) then fP l y else fP m y:=by
  intro l m y
  induction l with
  | nil=>rfl
  | cons q r ih =>
   rw[List.cons_append,fP,fP,ih]
   by_cases e:q.1=y
   · rw[if_pos e,if_pos e,if_pos (by rw[List.map_cons,e];exact List.mem_cons_self)]
   · have e': ¬ y=q.1:=fun z=>e z.symm
     rw[if_neg e,if_neg e]
     simp only[List.map_cons,List.mem_cons,e',false_or]
 have fil: ∀ l:Pk,¬ y=x->fP (l.filter fun q=> !decide (q.1=x)) y=fP l y:=by
  intro l ne
  induction l with
  | nil=>rfl
  | cons q r ih =>
   by_cases e:q.1=x
   · rw[List.filter_cons_of_neg (by simp[e]),fP,if_neg (fun z=>ne (z.symm.trans e)),ih]
   · rw[List.filter_cons_of_pos (by simp[e]),fP,fP,ih]
 rw[app]
 by_cases e:y=x
 · rw[if_pos e,if_neg]
   · split
     · rename_i z;rw[z];rfl
     · rw[fP,if_pos e.symm]
   · intro z
     obtain⟨q,m,rfl⟩:=List.mem_map.mp z
     have:=(List.mem_filter.mp m).2
     simp[e] at this
 · rw[if_neg e,fil ps e]
   split
   · rfl
   · rename_i z
     have h0:fP ps y=0:=by
      rw[<- fil ps e];exact jA z
     rw[h0]
     split
     · rfl
     · rw[fP,if_neg (fun z=>e z.symm)];rfl
structure fm(L:List Str)(ps:Pk):Prop where
 yY:(ps.map (·.1)).Pairwise hI
 mem: ∀ q∈ps,q.1∈L/\1<=q.2/\q.2<=999
theorem fm.nd{L:List Str}{ps:Pk}(h:fm L ps):(ps.map (·.1)).Nodup:=h.yY.imp fun {a b} z e=>by subst e;exact gU _ z
theorem fm.len{L:List Str}{ps:Pk}(h:fm L ps):ps.length<=L.length:=by
 have:=List.Nodup.length_le_of_subset h.nd (l₂ :=L) (fun x hx=>by obtain⟨q,hq,rfl⟩:=List.mem_map.mp hx;exact(h.mem q hq).1)
 simpa using this
theorem fm.nil{L:List Str}:fm L []:=⟨.nil,fun q m=>by cases m⟩
theorem rH{L:List Str}{ps:Pk}{x:Str}{v:Int}(h:fm L ps)(hx:x∈L)(h0:0<=v)(h9:v<=999):fm L (lay ps x v):=by
 refine⟨yb (vO h.nd x v),fun q m=>?_⟩
 rcases List.mem_append.mp ((gJ _).mem_iff.mp m) with m | m
 · exact h.mem q (List.mem_filter.mp m).1
 · split at m
   · cases m
   · rw[List.mem_singleton.mp m];exact⟨hx,show 1<=v by omega,h9⟩
theorem Ii{L:List Str}{ps qs:Pk}(h1:fm L ps)(h2:fm L qs)(e: ∀ x,fP ps x=fP qs x):ps=qs:=by
 have key: ∀{ps qs:Pk},fm L ps->fm L qs->(∀ x,fP ps x=fP qs x)-> ∀ q∈ps,q∈qs:=fun {ps qs} h1 h2 e q m=>by
  have h:=lj h1.nd q m
  have hx:q.1∈qs.map (·.1):=Decidable.byContradiction fun z=>by
   have:=(h1.mem q m).2.1
   rw[e,jA z] at h;omega
  obtain⟨q',m',e'⟩:=List.mem_map.mp hx
  have h':=lj h2.nd q' m'
  rw[e',<- e,h] at h'
  have:q'=q:=Prod.ext e' h'.symm
  rw[<- this];exact m'
 refine iR (le:=fun a b=>hI a.1 b.1) (fun a _ b _ z1 z2=>absurd z2 (iP z1)) ?_ (by simpa [List.pairwise_map] using h1.yY) (by simpa [List.pairwise_map] using h2.yY)
 have n1:ps.Nodup:=List.Pairwise.of_map (R:=(· ≠ ·)) (·.1) (fun a b z e=>z (by rw[e])) h1.nd
 have n2:qs.Nodup:=List.Pairwise.of_map (R:=(· ≠ ·)) (·.1) (fun a b z e=>z (by rw[e])) h2.nd
 exact(List.perm_ext_iff_of_nodup n1 n2).mpr fun q=>⟨key h1 h2 e q,key h2 h1 (fun x=>(e x).symm) q⟩
theorem lL(x:Str): ∀ ps:Pk,(ps.filterMap fun q=>if q.1=x then none else some (eK q))=(ps.filter (fun q=> !decide (q.1=x))).map eK
 | []=>rfl
 | q::r=>by
  by_cases z:q.1=x
  · rw[List.filterMap_cons_none (by simp[z]),List.filter_cons_of_neg (by simp[z]),lL x r]
  · rw[List.filterMap_cons_some (by rw[if_neg z]),List.filter_cons_of_pos (by simp[z]),List.map_cons,lL x r]
section
variable{pg:Tb}(T:cI pg)
include T
theorem wB(k:Nat)(h:PH){ps:Pk}(nd:(ps.map (·.1)).Nodup)(x:Str)(v:Int)(hl:(lay ps x v).length<=20)(hp:ps.length<=1000):run pg (k+1) "laid" [kN ps,.str x,.int v] h= .ok (kN (lay ps x v)) h:=by
 rw[run_eq T.ID rfl]
 have e1:je ⟨none,ps.map eK⟩ (bD 1 (gN 4) (ao (ag gS (ag aq (ab 4) (eC (.int 0))) (ab 1))) (ab 4) (run pg k) [some (.tup (ps.map eK)),some (.str x),some (.int v),none]) (ps.map eK) [] h= .ok ([]++ps.filterMap fun q=>if q.1=x then none else some (eK q)) h:=by
  refine fM rfl ps [] (fun q m=>?_) (by simp;omega)
  simp? [eK]
  by_cases z:q.1=x<;>simp[z]
 rw[lL,List.nil_append] at e1
 have hl':(ps.filter (fun q=> !decide (q.1=x))++if v=0 then[] else[(x,v)]).length<=20:=by rw[<- (gJ _).length_eq];exact hl
 have nd':=vO nd x v
 have hz:((ps.filter (fun q=> !decide (q.1=x))).map eK).length < 16777216:=by
  rw[List.length_map]
  have:=List.length_filter_le (fun q:Str × Int=> !decide (q.1=x)) ps
  omega
 by_cases hv:v=0
 · subst hv
   rw[if_pos rfl,List.append_nil] at hl' nd'
   have s1:=oB (h:=h++[.lst ((ps.filter (fun q=> !decide (q.1=x))).map eK)]) (n:=h.length) bE (Nat.lt_of_le_of_lt hl' (by decide)) nd'
   simp? [kI,qJ,kN,e1,s1]
   rw[bh (v:= .tup _) (kc _),lay,if_pos rfl,List.append_nil]
 · rw[if_neg hv] at hl' nd'
   have s1:=oB (h:=h++[.lst ((ps.filter (fun q=> !decide (q.1=x))++[(x,v)]).map eK)]) (n:=h.length) bE (Nat.lt_of_le_of_lt hl' (by decide)) nd'
   rw[List.map_append] at s1
   simp? [kI,qJ,kN,e1,hv,vI hz]
   rw[show List.map eK [(x,v)]=[PV.tup [PV.str x,PV.int v]] from rfl] at s1
   simp? [s1,List.map_cons,List.map_nil]
   rw[bh (v:= .tup _) (kc _),lay,if_neg hv]
end
end K13
end
section
open PySem L2 P3
set_option maxHeartbeats 1000000
namespace K13
inductive Rw where
 | let_ (x:Str) (e:Sm) | leap (k:Int) (e:Sm) | take (l:Str) | free (l:Str) | get (x b:Str) | put (b:Str) (e:Sm)
 | send (l:Str) (e:Sm) | fetch (x l:Str) | say (d:Str) (e:Sm) | clock (x:Str) | lot (x:Str) (n:Int) | hear (x d:Str)
noncomputable def Rw.w:Rw->Str
 | .let_ _ _=> "let" | .leap _ _=> "leap" | .take _=> "take" | .free _=> "free" | .get _ _=> "get" | .put _ _=> "put"
 | .send _ _=> "send" | .fetch _ _=> "fetch" | .say _ _=> "say" | .clock _=> "clock" | .lot _ _=> "lot" | .hear _ _=> "hear"
noncomputable def Rw.ps:Rw->List PV
 | .let_ x e=>[.str x,eE e] | .leap k e=>[.int k,eE e] | .take l=>[.str l] | .free l=>[.str l] | .get x b=>[.str x,.str b] | .put b e=>[.str b,eE e]
 | .send l e=>[.str l,eE e] | .fetch x l=>[.str x,.str l] | .say d e=>[.str d,eE e] | .clock x=>[.str x] | .lot x n=>[.str x,.int n] | .hear x d=>[.str x,.str d]
noncomputable def cL(r:Rw):PV:= .tup (.str r.w::r.ps)
noncomputable def aD(rs:List Rw):PV:= .tup (rs.map cL)
structure aG where
 row:Nat
 ps:Pk
 held:List Str
noncomputable def cA(hs:List Str):PV:= .tup (hs.map PV.str)
noncomputable def ak(s:aG):PV:= .tup [.int s.row,kN s.ps,cA s.held]
noncomputable def own(held:List Str):Rw->Bool
 | .take l=>decide (l∈held)
 | .free l=> !decide (l∈held)
 | .let_ _ _=>true
 | .leap _ _=>true
 | _=>false
noncomputable def l8(e:Sm):Prop:=e.ok/\e.dp<=7
noncomputable def cz(L:List Str)(n:Nat):Rw->Prop
 | .let_ x e=>x∈L/\l8 e
 | .leap k e=>0<=k/\k<=n/\l8 e
 | .put _ e=>l8 e
 | .send _ e=>l8 e
 | .say _ e=>l8 e
 | .get x _=>x∈L
 | .fetch x _=>x∈L
 | .clock x=>x∈L
 | .lot x m=>x∈L/\2<=m/\m<=1000
 | .hear x _=>x∈L
 | _=>True
noncomputable def gD(x:Str):Prop:=PyData.strOk x=true/\x.length<=20
noncomputable def mC:Rw->Prop
 | .put x _=>gD x
 | .send x _=>gD x
 | .say x _=>gD x
 | .get _ x=>gD x
 | .fetch _ x=>gD x
 | .hear _ x=>gD x
 | .take x=>gD x
 | .free x=>gD x
 | _=>True
noncomputable def behind(s:aG):Rw->aG
 | .let_ x e=>⟨s.row+1,lay s.ps x (e.val (fP s.ps)),s.held⟩
 | .leap k e=>if e.val (fP s.ps)=0 then⟨s.row+1,s.ps,s.held⟩ else⟨k.toNat,s.ps,s.held⟩
 | _=>⟨s.row+1,s.ps,s.held⟩
structure cj(L:List Str)(rs:List Rw)(s:aG):Prop where
 pk:fm L s.ps
 le:s.row<=rs.length
theorem lJ: ∀ hs:List Str,PV.bF (hs.map PV.str)=true
 | []=>rfl
 | x::r=>by rw[List.map_cons,PV.bF,lJ r];rfl
theorem dZ(s:aG):(ak s).flat=true:=by
 simp[ak,PV.flat,PV.bF,kN,kc,cA,lJ]
theorem mZ(r:Rw):(cL r).flat=true:=by
 cases r<;>simp[cL,Rw.ps,PV.flat,PV.bF,c7]
theorem qm: ∀ rs:List Rw,PV.bF (rs.map cL)=true
 | []=>rfl
 | x::r=>by rw[List.map_cons,PV.bF,qm r,mZ];rfl
noncomputable def ba(rs:List Rw)(s:aG):Bool:=match rs[s.row]? with
 | none=>true
 | some r=> !own s.held r
noncomputable def aF(rs:List Rw):Nat->aG->aG
 | 0,s=>if ba rs s then s else⟨rs.length,s.ps,s.held⟩
 | n+1,s=>if ba rs s then s else match rs[s.row]? with
  | none=>s
  | some r=>aF rs n (behind s r)
theorem eV{L:List Str}{rs:List Rw}{s:aG}{r:Rw}(h:cj L rs s)(hr:cz L rs.length r)(e:rs[s.row]?=some r):cj L rs (behind s r):=by
 have hlt:s.row < rs.length:=(List.getElem?_eq_some_iff.mp e).1
 cases r with
 | let_ x e0 =>
  have hv:=Sm.lr (zY fun q m=>(h.pk.mem q m).2) e0 hr.2.1
  exact⟨rH h.pk hr.1 hv.1 hv.2,hlt⟩
 | leap j e0 =>
  show cj L rs (if e0.val (fP s.ps)=0 then⟨s.row+1,s.ps,s.held⟩ else⟨j.toNat,s.ps,s.held⟩)
  split
  · exact⟨h.pk,hlt⟩
  · exact⟨h.pk,by have:=hr.2.1;have:=hr.1;show Int.toNat _<=rs.length;omega⟩
 | _=>exact⟨h.pk,hlt⟩
theorem iu{L : List Str}{rs : List Rw}(hr : ∀ r ∈ rs, cz L rs.length r) : ∀(n : Nat)(s : aG), cj L rs s -> cj L rs (aF rs n s)
  | 0, s, h => by unfold aF; split; · exact h
                  · exact⟨h.pk, Nat.le_refl _⟩
  | n + 1, s, h => by
    unfold aF; split
    · exact h
    · split
      · exact h
      · rename_i r e; exact iu hr n _ (eV h (hr r (List.mem_of_getElem? e)) e)
theorem ef{rs:List Rw}{s:aG}{r:Rw}(e:rs[s.row]?=some r):eF (rs.map cL) (s.row:Int)=some (cL r):=P3.eT rfl (by rw[List.getElem?_map,e];rfl)
section
variable{pg:Tb}(T:cI pg)
include T
theorem GF(k:Nat)(h:PH)(r:Rw)(held:List Str):run pg (k+1) "is_own_row" [cL r,cA held] h= .ok (.bl (own held r)) h:=by
 rw[run_eq T.rW rfl]
 cases r<;>simp? [dH,gW,cL,Rw.w,Rw.ps,cA,own]
theorem xX(k:Nat)(h:PH){L:List Str}(hL:L.length<=20){rs:List Rw}{s:aG}{r:Rw}(hs:cj L rs s)(hr:cz L rs.length r)(hrow:rs[s.row]?=some r):run pg (k+9) "behind_own_row" [cL r,ak s] h= .ok (ak (behind s r)) h:=by
 have nd:=hs.pk.nd
 have hm: ∀ q∈s.ps,1<=q.2/\q.2<=999:=fun q m=>(hs.pk.mem q m).2
 have hl:=hs.pk.len
 have w: ∀ e:Sm,l8 e->run pg (k+8) "worth" [eE e,kN s.ps] h= .ok (.int (e.val (fP s.ps))) h:=fun e he=>iA T h nd hm (by omega) e (k+7) he.1 (by have:=he.2;omega)
 rw[run_eq T.kW rfl]
 cases r with
 | let_ x e =>
  have hb:=(eV hs hr hrow).pk.len
  have l1:=wB T (k+7) h nd x (e.val (fP s.ps)) (Nat.le_trans hb hL) (by omega)
  simp? [br,bZ,cL,Rw.w,Rw.ps,ak,behind,w e hr.2,l1]
  rfl
 | leap j e =>
  simp? [br,bZ,cL,Rw.w,Rw.ps,ak,behind,w e hr.2.2]
  by_cases z:e.val (fP s.ps)=0
  · simp only[z,if_true];rfl
  · have:((j.toNat:Nat):Int)=j:=by have:=hr.1;omega
    simp only[z,if_false,this]
 | _ =>
  simp? [br,bZ,cL,Rw.w,Rw.ps,ak,behind]
  rfl
theorem jV(k:Nat)(h:PH){rs:List Rw}{s:aG}(hs:s.row<=rs.length):run pg (k+2) "is_rested" [aD rs,ak s] h= .ok (.bl (ba rs s)) h:=by
 rw[run_eq T.tK rfl]
 cases e:rs[s.row]? with
 | none =>
  have:s.row=rs.length:=by have:=List.getElem?_eq_none_iff.mp e;omega
  have r1:ba rs s=true:=by unfold ba;rw[e]
  simp? [dt,fJ,aD,ak,r1,this,List.length_map]
 | some r =>
  have hlt:s.row < rs.length:=(List.getElem?_eq_some_iff.mp e).1
  have ne: ¬ (s.row:Int)=(rs.length:Int):=by omega
  have ix:=kD (h:=h) (ef e)
  have o1:=GF T k h r s.held
  simp? [dt,fJ,aD,ak,ba,e,ne,ix,o1,List.length_map]
noncomputable def dF(p:PV)(j:Int)(rs:List Rw):Prop:= ∃ a b c d hs nm,p= .tup [a,b,c,d,.tup hs]/\eF hs j=some (.tup [nm,aD rs])
theorem jF(k:Nat)(h:PH){p:PV}{j:Int}{rs:List Rw}(hp:dF p j rs):run pg (k+1) "rows_of" [p,.int j] h= .ok (aD rs) h:=by
 obtain⟨a,b,c,d,hs,nm,rfl,e⟩:=hp
 rw[run_eq T.yo rfl]
 simp? [gu,k7,kD e]
theorem gG(k:Nat)(h:PH){L:List Str}(hL:L.length<=20){p:PV}{j:Int}{rs:List Rw}(hp:dF p j rs)(hr: ∀ r∈rs,cz L rs.length r){s:aG}(hs:cj L rs s):run pg (k+10) "rested" [p,.int j,ak s] h= .ok (ak (aF rs 200 s)) h:=by
 have rest: ∀(xs xs0:List PV)(s0 s:aG)(tv:Option PV),cj L rs s ->
   ((cg ⟨none,xs0⟩ (fL (gN 5) (ah (bz (ao (af "is_rested" (aa (ab 3) (aa (ab 4) ae)))) (az (ab 4)) bB) (aj (af "behind_own_row" (aa (ag aq (ab 3) (ag aq (ab 4) (eC (.int 0)))) (aa (ab 4) ae))) (gN 4))) (run pg (k+9))) xs
    [some p,some (.int j),some (ak s0),some (aD rs),some (ak s),tv] h).bind
    (vQ (ah (bz (ao (af "is_rested" (aa (ab 3) (aa (ab 4) ae)))) (az (ab 4)) bB) (az (aw (aa (eB bY (aa (ab 3) ae)) (aa (ag aq (ab 4) (eC (.int 1))) (aa (ag aq (ab 4) (eC (.int 2))) ae)))))) (run pg (k+9))))= .ok (.rt (ak (aF rs xs.length s))) h:=by
  intro xs xs0 s0
  induction xs with
  | nil =>
   intro s tv hs
   have q:=jV T (k+7) h hs.le
   simp? [lE,aF,List.length_nil,q]
   cases ba rs s<;>simp? [ak,aD,List.length_map,aF]
  | cons x xs ih =>
   intro s tv hs
   have q:=jV T (k+7) h hs.le
   rw[fu]
   simp? [aF,List.length_cons,q]
   cases e:rs[s.row]? with
   | none =>
    have r1:ba rs s=true:=by unfold ba;rw[e]
    simp? [r1,mR]
   | some r =>
    cases r1:ba rs s with
    | true=>simp? [r1,mR]
    | false =>
     have hm:=hr r (List.mem_of_getElem? e)
     have ix:=kD (h:=h) (ef e)
     have be:=xX T k h hL hs hm e
     have i0:aq (ak s) (.int 0) h= .ok (.int s.row) h:=rfl
     have ix':aq (aD rs) (.int s.row) h= .ok (cL r) h:=ix
     simp? [r1,i0,ix',be,cQ,ih _ _ (eV hs hm e)]
 rw[run_eq T.zb rfl]
 have ro:=jF T (k+8) h hp
 simp? [ig,nz,ro]
 have hh:=rest (bX 0 200) (bX 0 200) s s none hs
 have len:(bX 0 200).length=200:=rfl
 rw[len] at hh
 exact(congrArg (fin h) hh).trans (by rw[yH,lW])
end
end K13
end
section
open PySem L2 P3
set_option maxHeartbeats 1000000
namespace K13
section
variable{pg:Tb}(T:cI pg)
include T
theorem pj(k:Nat)(h:PH){L:List Str}(hL:L.length<=20){p:PV}{j:Int}{rs:List Rw}(hp:dF p j rs)(hr: ∀ r∈rs,cz L rs.length r):run pg (k+11) "first_seat" [p,.int j] h= .ok (ak (aF rs 200 ⟨0,[],[]⟩)) h:=by
 have:=gG T k h hL hp hr (s:=⟨0,[],[]⟩) ⟨.nil,Nat.zero_le _⟩
 rw[run_eq T.rh rfl]
 have e:PV.tup [.int 0,.tup [],.tup []]=ak ⟨0,[],[]⟩:=rfl
 simp? [dO,gI,e,this]
end
noncomputable def Rw.aN:Rw->Option Str
 | .get x _=>some x | .fetch x _=>some x | .clock x=>some x | .lot x _=>some x | .hear x _=>some x
 | _=>none
noncomputable def Rw.sum:Rw->Option Sm
 | .let_ _ e=>some e | .leap _ e=>some e | .put _ e=>some e | .send _ e=>some e | .say _ e=>some e
 | _=>none
theorem cz.sum{L:List Str}{n:Nat}{r:Rw}(h:cz L n r){e:Sm}(q:r.sum=some e):l8 e:=by
 cases r<;>cases q
 · exact h.2
 · exact h.2.2
 · exact h
 · exact h
 · exact h
noncomputable def PV.num:PV->Int
 | .int i=>i
 | _=>0
noncomputable def after(s:aG)(v:PV):Rw->aG
 | .get x _=>⟨s.row+1,lay s.ps x (PV.num v),s.held⟩
 | .fetch x _=>⟨s.row+1,lay s.ps x (PV.num v),s.held⟩
 | .clock x=>⟨s.row+1,lay s.ps x (PV.num v),s.held⟩
 | .lot x _=>⟨s.row+1,lay s.ps x (PV.num v),s.held⟩
 | .hear x _=>⟨s.row+1,lay s.ps x (PV.num v),s.held⟩
 | .take l=>⟨s.row+1,s.ps,aM (s.held++[l])⟩
 | .free l=>⟨s.row+1,s.ps,s.held.filter fun z=> !decide (z=l)⟩
 | _=>⟨s.row+1,s.ps,s.held⟩
noncomputable def bP(s:aG):Rw->PV
 | .let_ _ e=> .tup [.str "let",.str "",.int (e.val (fP s.ps))]
 | .leap k e=> .tup [.str "leap",.int k,.int (e.val (fP s.ps))]
 | .take l=> .tup [.str "take",.str l,.non]
 | .free l=> .tup [.str "free",.str l,.non]
 | .get _ b=> .tup [.str "get",.str b,.non]
 | .put b e=> .tup [.str "put",.str b,.int (e.val (fP s.ps))]
 | .send l e=> .tup [.str "send",.str l,.int (e.val (fP s.ps))]
 | .fetch _ l=> .tup [.str "fetch",.str l,.non]
 | .say d e=> .tup [.str "say",.str d,.int (e.val (fP s.ps))]
 | .clock _=> .tup [.str "clock",.str "",.non]
 | .lot _ n=> .tup [.str "lot",.str "",.int n]
 | .hear _ d=> .tup [.str "hear",.str d,.non]
noncomputable def bO(rs:List Rw)(s:aG):PV:=match rs[s.row]? with
 | none=> .non
 | some r=>bP s r
theorem dU: ∀ ss:List Str,fV (ss.map PV.str)=some ss
 | []=>rfl
 | x::r=>by rw[List.map_cons,fV,dU r];rfl
theorem vD{h:PH}{ss:List Str}(hl:ss.length < 64):bp [.tup (ss.map PV.str)] h= .ok (.ref h.length) (h++[.lst ((aM ss).map PV.str)]):=by
 simp only[bp,dU,if_pos hl]
theorem uk{xs:List PV}{x:PV}:dY (x::xs) (some 1) none=xs:=by rw[P3.fA (by decide)];rfl
theorem qa:aW aQ (.inr "let")=some (.ktup [.str "pocket",.str "sum"]):=by decide +kernel
theorem oM:aW aQ (.inr "leap")=some (.ktup [.str "target",.str "sum"]):=by decide +kernel
theorem qq:aW aQ (.inr "get")=some (.ktup [.str "pocket",.str "box"]):=by decide +kernel
theorem pY:aW aQ (.inr "put")=some (.ktup [.str "box",.str "sum"]):=by decide +kernel
theorem m8:aW aQ (.inr "take")=some (.ktup [.str "lock"]):=by decide +kernel
theorem parts_free:aW aQ (.inr "free")=some (.ktup [.str "lock"]):=by decide +kernel
theorem oa:aW aQ (.inr "send")=some (.ktup [.str "lane",.str "sum"]):=by decide +kernel
theorem lU:aW aQ (.inr "fetch")=some (.ktup [.str "pocket",.str "lane"]):=by decide +kernel
theorem qw:aW aQ (.inr "say")=some (.ktup [.str "door",.str "sum"]):=by decide +kernel
theorem lV:aW aQ (.inr "clock")=some (.ktup [.str "pocket"]):=by decide +kernel
theorem qz:aW aQ (.inr "lot")=some (.ktup [.str "pocket",.str "chances"]):=by decide +kernel
theorem oh:aW aQ (.inr "hear")=some (.ktup [.str "pocket",.str "door"]):=by decide +kernel
theorem ir(l:Str): ∀ ss:List Str,(ss.filterMap fun z=>if z=l then none else some (PV.str z))=(ss.filter (fun z=> !decide (z=l))).map PV.str
 | []=>rfl
 | q::r=>by
  by_cases z:q=l
  · rw[List.filterMap_cons_none (by simp[z]),List.filter_cons_of_neg (by simp[z]),ir l r]
  · rw[List.filterMap_cons_some (by rw[if_neg z]),List.filter_cons_of_pos (by simp[z]),List.map_cons,ir l r]
section
variable{pg:Tb}(T:cI pg)
include T
theorem iy(k:Nat)(h:PH){L:List Str}(hL:L.length<=20){p:PV}{j:Int}{rs:List Rw}(hp:dF p j rs)(hr: ∀ r∈rs,cz L rs.length r){s:aG}(hs:cj L rs s):run pg (k+10) "touch_of" [p,.int j,ak s] h= .ok (bO rs s) h:=by
 have nd:=hs.pk.nd
 have hm: ∀ q∈s.ps,1<=q.2/\q.2<=999:=fun q m=>(hs.pk.mem q m).2
 have hl:=hs.pk.len
 have w: ∀ e:Sm,l8 e->run pg (k+9) "worth" [eE e,kN s.ps] h= .ok (.int (e.val (fP s.ps))) h:=fun e he=>iA T h nd hm (by omega) e (k+8) he.1 (by have:=he.2;omega)
 have ro:=jF T (k+8) h hp
 have ro':run pg (k+9) "rows_of" [p,.int j] h= .ok (.tup (rs.map cL)) h:=ro
 rw[run_eq T.ve rfl]
 cases e:rs[s.row]? with
 | none =>
  have:s.row=rs.length:=by have:=List.getElem?_eq_none_iff.mp e;have:=hs.le;omega
  have t1:bO rs s= .non:=by unfold bO;rw[e]
  simp? [dj,fe,ak,t1,this,ro',List.length_map]
 | some r =>
  have hlt:s.row < rs.length:=(List.getElem?_eq_some_iff.mp e).1
  have ne: ¬ (s.row:Int)=(rs.length:Int):=by omega
  have ix:=kD (h:=h) (ef e)
  have hrr:=hr r (List.mem_of_getElem? e)
  have t1:bO rs s=bP s r:=by unfold bO;rw[e]
  rw[t1]
  have w': ∀ e:Sm,r.sum=some e->run pg (k+9) "worth" [eE e,kN s.ps] h= .ok (.int (e.val (fP s.ps))) h:=fun e q=>w e (hrr.sum q)
  cases r<;>first | (have w1:=w' _ rfl;simp? [dj,fe,ak,ro',bP,ne,ix,List.length_map,cL,Rw.w,Rw.ps,uk,qa,oM,qq,pY,m8,parts_free,oa,lU,qw,lV,qz,oh,List.zip_cons_cons,List.zip_nil_left,List.zip_nil_right,lE,fu,cQ,w1];done) | simp? [dj,fe,ak,ro',bP,ne,ix,List.length_map,cL,Rw.w,Rw.ps,uk,qa,oM,qq,pY,m8,parts_free,oa,lU,qw,lV,qz,oh,List.zip_cons_cons,List.zip_nil_left,List.zip_nil_right,lE,fu,cQ]
theorem fE(k:Nat)(h:PH){L:List Str}(hL:L.length<=20){p:PV}{j:Int}{rs:List Rw}(hp:dF p j rs)(hr: ∀ r∈rs,cz L rs.length r){s:aG}(hs:cj L rs s)(hh:s.held.length<=60){r:Rw}(e:rs[s.row]?=some r){v:PV}(hv: ∀ x,r.aN=some x-> ∃ i:Int,v= .int i/\0<=i/\i<=999):run pg (k+11) "seat_behind" [p,.int j,ak s,v] h= .ok (ak (aF rs 200 (after s v r))) h:=by
 have ro:=jF T (k+9) h hp
 have ro':run pg (k+10) "rows_of" [p,.int j] h= .ok (.tup (rs.map cL)) h:=ro
 have hlt:s.row < rs.length:=(List.getElem?_eq_some_iff.mp e).1
 have ix:=kD (h:=h) (ef e)
 have hrr:=hr r (List.mem_of_getElem? e)
 have ink: ∀ a:Str,kG (.str a) (.ktup [(.str "get"),(.str "fetch"),(.str "clock"),(.str "lot"),(.str "hear")]) h= .ok (.bl (decide (a∈(["get", "fetch", "clock", "lot", "hear"]:List Str)))) h:=fun a=>in_K (ss:=["get", "fetch", "clock", "lot", "hear"])
 rw[run_eq T.o8 rfl]
 have pk: ∀ x,r.aN=some x->x∈L-> ∀ s':aG,s'=⟨s.row+1,lay s.ps x (PV.num v),s.held⟩-> ∃ i:Int,v= .int i/\run pg (k+10) "laid" [kN s.ps,.str x,.int i] h= .ok (kN (lay s.ps x i)) h/\run pg (k+10) "rested" [p,.int j,.tup [.int ((s.row:Int)+1),kN (lay s.ps x i),cA s.held]] h= .ok (ak (aF rs 200 ⟨s.row+1,lay s.ps x i,s.held⟩)) h:=by
  intro x hx hxL s' _
  obtain⟨i,rfl,h0,h9⟩:=hv x hx
  have li:=rH hs.pk hxL h0 h9
  have l1:=wB T (k+9) h hs.pk.nd x i (Nat.le_trans li.len hL) (by have:=hs.pk.len;omega)
  have r1:=gG T k h hL hp hr (s:=⟨s.row+1,lay s.ps x i,s.held⟩) ⟨li,hlt⟩
  exact⟨i,rfl,l1,r1⟩
 have r0:run pg (k+10) "rested" [p,.int j,.tup [.int ((s.row:Int)+1),kN s.ps,cA s.held]] h= .ok (ak (aF rs 200 ⟨s.row+1,s.ps,s.held⟩)) h:=gG T k h hL hp hr (s:=⟨s.row+1,s.ps,s.held⟩) ⟨hs.pk,hlt⟩
 cases r with
 | get x b=>obtain⟨i,rfl,l1,r1⟩:=pk x rfl hrr _ rfl;simp? [aR,bf,ak,ro',ix,cL,Rw.w,Rw.ps,ink,List.mem_cons,List.not_mem_nil,or_false,or_true,true_or,false_or,l1,r1,after,PV.num]
 | fetch x b=>obtain⟨i,rfl,l1,r1⟩:=pk x rfl hrr _ rfl;simp? [aR,bf,ak,ro',ix,cL,Rw.w,Rw.ps,ink,List.mem_cons,List.not_mem_nil,or_false,or_true,true_or,false_or,l1,r1,after,PV.num]
 | clock x=>obtain⟨i,rfl,l1,r1⟩:=pk x rfl hrr _ rfl;simp? [aR,bf,ak,ro',ix,cL,Rw.w,Rw.ps,ink,List.mem_cons,List.not_mem_nil,or_false,or_true,true_or,false_or,l1,r1,after,PV.num]
 | lot x n=>obtain⟨i,rfl,l1,r1⟩:=pk x rfl hrr.1 _ rfl;simp? [aR,bf,ak,ro',ix,cL,Rw.w,Rw.ps,ink,List.mem_cons,List.not_mem_nil,or_false,or_true,true_or,false_or,l1,r1,after,PV.num]
 | hear x d=>obtain⟨i,rfl,l1,r1⟩:=pk x rfl hrr _ rfl;simp? [aR,bf,ak,ro',ix,cL,Rw.w,Rw.ps,ink,List.mem_cons,List.not_mem_nil,or_false,or_true,true_or,false_or,l1,r1,after,PV.num]
 | take l =>
  have r1:=gG T k (h++[.lst ((aM (s.held++[l])).map PV.str)]) hL hp hr (s:=⟨s.row+1,s.ps,aM (s.held++[l])⟩) ⟨hs.pk,hlt⟩
  have r1':run pg (k+10) "rested" [p,.int j,.tup [.int ((s.row:Int)+1),kN s.ps,.tup ((aM (s.held++[l])).map PV.str)]] (h++[.lst ((aM (s.held++[l])).map PV.str)])=_:=r1
  have s1:=vD (h:=h) (ss:=s.held++[l]) (by simp;omega)
  rw[List.map_append] at s1
  have hl2:(s.held.map PV.str).length+1<=16777216:=by simp;omega
  have s1':bp [.tup (s.held.map PV.str++[.str l])] h= .ok (.ref h.length) (h++[.lst ((aM (s.held++[l])).map PV.str)]):=s1
  simp? [aR,bf,ak,cA,ro',ix,cL,Rw.w,Rw.ps,ink,List.mem_cons,List.not_mem_nil,or_false,or_true,true_or,false_or,after,List.length_map,s1',r1']
  exact bh (dZ _)
 | free l =>
  have e1: ∀ e:ax,e=[some p,some (.int j),some (ak s),some v,some (cL (.free l)),some (kN s.ps),some (cA s.held)]->je ⟨none,s.held.map PV.str⟩ (bD 1 (gN 7) (ao (ag gS (ab 7) (ag aq (ab 4) (eC (.int 1))))) (ab 7) (run pg (k+10)) e) (s.held.map PV.str) [] h= .ok ((s.held.filter (fun z=> !decide (z=l))).map PV.str) h:=by
   rintro _ rfl
   rw[<- ir]
   refine(fM rfl s.held [] (fun q m=>?_) (by simp;omega)).trans (by rw[List.nil_append])
   simp? [cL,Rw.w,Rw.ps]
   by_cases z:q=l<;>simp[z]
  have e1':=e1 _ rfl
  have r1:=gG T k (h++[.lst ((s.held.filter (fun z=> !decide (z=l))).map PV.str)]) hL hp hr (s:=⟨s.row+1,s.ps,s.held.filter (fun z=> !decide (z=l))⟩) ⟨hs.pk,hlt⟩
  have r1':run pg (k+10) "rested" [p,.int j,.tup [.int ((s.row:Int)+1),kN s.ps,.tup ((s.held.filter (fun z=> !decide (z=l))).map PV.str)]] (h++[.lst ((s.held.filter (fun z=> !decide (z=l))).map PV.str)])=_:=r1
  simp only[cL,ak,cA,Rw.w,Rw.ps] at e1'
  simp? [aR,bf,ak,cA,ro',ix,cL,Rw.w,Rw.ps,ink,List.mem_cons,List.not_mem_nil,or_false,or_true,true_or,false_or,after,List.length_map,e1',r1']
  exact bh (dZ _)
 | _=>simp? [aR,bf,ak,ro',ix,cL,Rw.w,Rw.ps,ink,List.mem_cons,List.not_mem_nil,or_false,or_true,true_or,false_or,r0,after]
end
end K13
end
section
open PySem L2 P3
set_option maxHeartbeats 1000000
namespace K13
noncomputable def aZ(ns:List Int):PO:= .kM (ns.map PV.int)
theorem wq:(10:Int) ^ Int.toNat 18=1000000000000000000:=by decide +kernel
theorem qI:(10:Int) ^ 18=1000000000000000000:=by decide +kernel
theorem BI{ns:List Int}{i:Int}(h0:0<=i)(h1:i < ns.length): ∃ v:Int,eF (ns.map PV.int) i=some (.int v):=by
 obtain⟨n,en⟩:=Int.eq_ofNat_of_zero_le h0;subst en
 have hn:n < ns.length:=by omega
 exact⟨ns[n],P3.eT rfl (by rw[List.getElem?_map,List.getElem?_eq_getElem hn];rfl)⟩
section
variable{pg:Tb}(T:cI pg)
include T
theorem CO(j:Nat){h:PH}{r:Nat}{ns:List Int}(hr:h[r]?=some (aZ ns))(hn:ns.length<=63){k m:Int}(k0:0<=k)(k9:k<=1000000)(m0:0 < m)(m9:m<=1000000000): ∃ v:Int,0<=v/\v < m/\run pg (j+1) "_law_draw" [.ref r,.int k,.int m] h= .ok (.int v) h:=by
 have fin1: ∀ v:Int,run pg (j+1) "_law_draw" [.ref r,.int k,.int m] h= .ok (.int (v % m)) h-> ∃ v:Int,0<=v/\v < m/\run pg (j+1) "_law_draw" [.ref r,.int k,.int m] h= .ok (.int v) h:=fun v e=>⟨_,Int.emod_nonneg _ (by omega),Int.emod_lt_of_pos _ m0,e⟩
 have key: ∃ v:Int,run pg (j+1) "_law_draw" [.ref r,.int k,.int m] h= .ok (.int (v % m)) h:=by
  rw[run_eq T.tV rfl]
  by_cases z:ns.length=0
  · have hz: ¬ (0:Int) < (ns.length:Int):=by omega
    have z18: ¬ (1000000000000000000:Int)<=0:=by omega
    simp? [cn,dv,hr,aZ,List.length_map,hz,wq,qI,z18,mH]
    exact⟨_,rfl⟩
  · have hz:(0:Int) < (ns.length:Int):=by omega
    obtain⟨v,hv⟩:=BI (ns:=ns) (i:=k % ns.length) (Int.emod_nonneg _ (by omega)) (Int.emod_lt_of_pos _ hz)
    have loop: ∀(xs xs0:List PV)(a:Int)(o:Option PV),∃(b:Int)(o':Option PV),cg ⟨none,xs0⟩ (fL (gN 5) (aj (ag nL (ab 4) (eC (.int 1000003))) (gN 4)) (run pg j)) xs [some (.ref r),some (.int k),some (.int m),some (.int v),some (.int a),o,none] h= .ok (.nx [some (.ref r),some (.int k),some (.int m),some (.int v),some (.int b),o',none]) h:=by
     intro xs xs0
     induction xs with
     | nil=>intro a o;exact⟨a,o,rfl⟩
     | cons x xs ih =>
      intro a o
      obtain⟨b,o',e⟩:=ih (a / 1000003) (some x)
      refine⟨b,o',?_⟩
      rw[fu]
      simp? [cQ,e]
    have hm60:0<=k / (ns.length:Int) % 60/\k / (ns.length:Int) % 60 < 60:=⟨Int.emod_nonneg _ (by omega),Int.emod_lt_of_pos _ (by omega)⟩
    by_cases z18:(1000000000000000000:Int)<=v
    · obtain⟨b,o',e⟩:=loop (bX 0 (Int.toNat (k / (ns.length:Int) % 60))) (bX 0 (Int.toNat (k / (ns.length:Int) % 60))) v none
      by_cases b0:0 < b
      · simp? [cn,dv,hr,aZ,List.length_map,hz,hv,wq,qI,z18,e,b0,mH]
        exact⟨_,rfl⟩
      · simp? [cn,dv,hr,aZ,List.length_map,hz,hv,wq,qI,z18,e,b0,mH]
        exact⟨_,rfl⟩
    · simp? [cn,dv,hr,aZ,List.length_map,hz,hv,wq,qI,z18,mH]
      exact⟨_,rfl⟩
 obtain⟨v,e⟩:=key
 exact fin1 v e
end
end K13
end
section
open PySem L2 P3
set_option maxHeartbeats 1000000
namespace K13
noncomputable def aU(k:Int)(o:Option Int):PO:= .dct ((.inr "script",.ref 0)::(.inr "k",.int k)::(match o with | none=>[] | some l=>[(.inr "left",.int l)]))
theorem Ff{k:Int}{o:Option Int}{n:Nat}(hn:0 < n):(aU k o).jg n=true:=by cases o<;>simp[aU,PO.jg,PV.jI,PV.jg,hn]
theorem bU{ns:List Int}{k k':Int}{o o':Option Int}{g g':PH}{v:PV}(hv:v.flat=true):settle (aZ ns::aU k o::g) v (aZ ns::aU k' o'::(g++g'))= .ok v (aZ ns::aU k' o'::g) :=
 vK (h:=aZ ns::aU k o::g) (g:=g') (i:=1) (o:=aU k o) (o':=aU k' o') hv rfl rfl (Ff (by simp))
theorem iw{ns:List Int}{k k':Int}{o o':Option Int}{g:PH}{v:PV}:settle (aZ ns::aU k o::g) v (aZ ns::aU k' o'::g)= .ok v (aZ ns::aU k' o'::g) :=
 lZ (h:=aZ ns::aU k o::g) (i:=1) (o:=aU k o) (o':=aU k' o')
section
variable{ns:List Int}{k l v:Int}{o:Option Int}{g:PH}
theorem Lg{h:PH}:Fv (.str "k") h (some (aU k o))= .ok (.int k) h:=by cases o<;>simp[aU,C1,aW,aI,mF]
theorem vT{h:PH}:Fv (.str "script") h (some (aU k o))= .ok (.ref 0) h:=by cases o<;>simp[aU,C1,aW,aI,mF]
theorem iE{h:PH}:Fv (.str "left") h (some (aU k (some l)))= .ok (.int l) h:=by simp[aU,C1,aW,aI,mF]
theorem L7{h:PH}{n:Nat}:Ak n (.str "k") (.int v) h (some (aU k o))= .ok () (h.set n (aU v o)):=by
 unfold aU
 rw[fz (by cases o<;>simp)]
 cases o<;>simp[c8,aI]
theorem nM{h:PH}{n:Nat}:Ak n (.str "left") (.int v) h (some (aU k o))= .ok () (h.set n (aU k (some v))):=by
 unfold aU
 rw[fz (by cases o<;>simp)]
 cases o<;>simp[c8,aI]
end
section
variable{pg:Tb}(T:cI pg)
include T
theorem aV(j:Nat)(g:PH){ns:List Int}(hn:ns.length<=63)(o:Option Int){k:Int}(m:Int)(k0:0<=k)(k9:k < 1000000)(m0:0 < m)(m9:m<=1000000000): ∃ v:Int,0<=v/\v < m/\run pg (j+2) "_law_pick" [.ref 1,.int m] (aZ ns::aU k o::g)= .ok (.int v) (aZ ns::aU (k+1) o::g):=by
 obtain⟨v,h0,h1,e⟩:=CO T j (h:=aZ ns::aU (k+1) o::g) (r:=0) rfl hn (k:=k+1) (by omega) (by omega) m0 m9
 refine⟨v,h0,h1,?_⟩
 rw[run_eq T.sY rfl]
 simp? [er,hV,Lg,L7,vT,e,iw]
end
noncomputable def bS:Nat->Int
 | 0=>3
 | d+1=>2+2*bS d
theorem Bw: ∀ d,3<=bS d
 | 0=>by decide
 | d+1=>by have:=Bw d;unfold bS;omega
theorem EL{v:Int}(h0:0<=v)(h1:v < 5): ∃ o:Bo,eF [PV.str "add",.str "sub",.str "mul",.str "less",.str "same"] v=some (.str o.w):=by
 have:v=0\/v=1\/v=2\/v=3\/v=4:=by omega
 rcases this with rfl | rfl | rfl | rfl | rfl
 · exact⟨.add,rfl⟩
 · exact⟨.sub,rfl⟩
 · exact⟨.mul,rfl⟩
 · exact⟨.less,rfl⟩
 · exact⟨.same,rfl⟩
theorem GB{v w:Int}(h0:0<=v)(h1:v < 5)(w0:0<=w)(w1:w < 1000): ∃ n:Int,0<=n/\n<=999/\eF [PV.int 0,.int 1,.int 2,.int 999,.int w] v=some (.int n):=by
 have:v=0\/v=1\/v=2\/v=3\/v=4:=by omega
 rcases this with rfl | rfl | rfl | rfl | rfl
 · exact⟨0,by decide,by decide,rfl⟩
 · exact⟨1,by decide,by decide,rfl⟩
 · exact⟨2,by decide,by decide,rfl⟩
 · exact⟨999,by decide,by decide,rfl⟩
 · exact⟨w,w0,by omega,rfl⟩
theorem jJ{ss:List Str}{v:Int}(h0:0<=v)(h1:v < ss.length): ∃ x∈ss,eF (ss.map PV.str) v=some (.str x):=by
 obtain⟨n,en⟩:=Int.eq_ofNat_of_zero_le h0;subst en
 have hn:n < ss.length:=by omega
 exact⟨ss[n],List.getElem_mem hn,P3.eT rfl (by rw[List.getElem?_map,List.getElem?_eq_getElem hn];rfl)⟩
section
variable{pg:Tb}(T:cI pg)
include T
theorem wu(j:Nat){ns:List Int}(hn:ns.length<=63){np:Nat}{ps:List Str}(p0:0 < ps.length)(p9:ps.length<=1000)(deep w k:Int)(o:Option Int)(g:PH)(k0:0<=k)(k9:k+2<=1000000)(hp:g[np]?=some (.lst (ps.map PV.str)))(u v:Option PV) :
  ∃(e:Sm)(k':Int)(g':PH),e.ok/\e.dp=1/\k<=k'/\k'<=k+2/\ah (bz (ao (ag cm (ag eL (ab 3) (eC (.int 2))) (eC (.int 0)))) (az (aw (aa (eC (.str "num")) (aa (ag aq (aT (aa (eC (.int 0)) (aa (eC (.int 1)) (aa (eC (.int 2)) (aa (eC (.int 999)) (aa (af "_law_pick" (aa (ab 0) (aa (eC (.int 1000)) ae))) ae)))))) (af "_law_pick" (aa (ab 0) (aa (eC (.int 5)) ae)))) ae)))) bB)
  (az (aw (aa (eC (.str "of")) (aa (ag aq (ab 1) (af "_law_pick" (aa (ab 0) (aa (eB bY (aa (ab 1) ae)) ae)))) ae)))) (run pg (j+2)) [some (.ref 1),some (.ref (np+1+1)),some (.int deep),some (.int w),u,v] (aZ ns::aU k o::g)= .ok (.rt (eE e)) (aZ ns::aU k' o::(g++g')):=by
 by_cases z:w % 2=0
 · obtain⟨a,a0,a1,ea⟩:=aV T j g hn o (k:=k) 1000 k0 (by omega) (by decide) (by decide)
   obtain⟨b,b0,b1,eb⟩:=aV T j (g++[.lst [.int 0,.int 1,.int 2,.int 999,.int a]]) hn o (k:=k+1) 5 (by omega) (by omega) (by decide) (by decide)
   obtain⟨n,n0,n1,en⟩:=GB b0 b1 a0 a1
   refine⟨.num n,k+1+1,[.lst [.int 0,.int 1,.int 2,.int 999,.int a]],⟨n0,n1⟩,rfl,by omega,by omega,?_⟩
   simp? [z,ea,eb,en,eE]
 · obtain⟨a,a0,a1,ea⟩:=aV T j g hn o (k:=k) ps.length k0 (by omega) (by omega) (by omega)
   obtain⟨x,hx,ex⟩:=jJ a0 a1
   refine⟨.of x,k+1,[],trivial,rfl,by omega,by omega,?_⟩
   simp? [z,ea,hp,ex,eE,List.length_map,List.append_nil]
theorem xI(j:Nat){ns:List Int}(hn:ns.length<=63){np:Nat}{ps:List Str}(p0:0 < ps.length)(p9:ps.length<=1000): ∀(d:Nat)(deep:Int),deep+d=5-> ∀(k l:Int)(g:PH),0<=k->k+bS d<=1000000->g[np]?=some (.lst (ps.map PV.str)) ->
  ∃(e:Sm)(k' l':Int),e.ok/\e.dp<=d+1/\k<=k'/\k'<=k+bS d/\run pg (j+d+3) "_law_sum_in" [.ref 1,.ref (np+1+1),.int deep] (aZ ns::aU k (some l)::g)= .ok (eE e) (aZ ns::aU k' (some l')::g):=by
 intro d
 induction d with
 | zero =>
  intro deep hd k l g k0 k9 hp
  have hd5: ¬ deep < 5:=by omega
  simp only[bS] at k9
  obtain⟨w,w0,w1,ew⟩:=aV T j g hn (some l) (k:=k) 9 k0 (by omega) (by decide) (by decide)
  obtain⟨e,k',g',h1,h2,h3,h4,h5⟩:=wu T j hn p0 p9 deep w (k+1) (some l) g (by omega) (by omega) hp none none
  refine⟨e,k',l,h1,by omega,by omega,by simp only[bS];omega,?_⟩
  rw[run_eq T.d6 rfl]
  simp? [bc,bJ,Nat.add_zero,ew,hd5,↓h5,bU (c7 e)]
 | succ d ih =>
  intro deep hd k l g k0 k9 hp
  have hd5:deep < 5:=by omega
  have b3:=Bw d
  simp only[bS] at k9
  have hlt:=bC hp
  obtain⟨w,w0,w1,ew⟩:=aV T (j+d+1) g hn (some l) (k:=k) 9 k0 (by omega) (by decide) (by decide)
  by_cases c1:2 < w/\1 < l
  · obtain⟨a,a0,a1,ea⟩:=aV T (j+d+1) (g++[.lst [.str "add",.str "sub",.str "mul",.str "less",.str "same"]]) hn (some (l - 2)) (k:=k+1) 5 (by omega) (by omega) (by decide) (by decide)
    obtain⟨o,eo⟩:=EL a0 a1
    have hp':(g++[.lst [.str "add",.str "sub",.str "mul",.str "less",.str "same"]])[np]?=some (.lst (ps.map PV.str)):=by rw[aS hlt];exact hp
    obtain⟨e1,k1,l1,q1,q2,q3,q4,q5⟩:=ih (deep+1) (by omega) (k+1+1) (l - 2) _ (by omega) (by omega) hp'
    obtain⟨e2,k2,l2,r1,r2,r3,r4,r5⟩:=ih (deep+1) (by omega) k1 l1 _ (by omega) (by omega) hp'
    refine⟨.bin o e1 e2,k2,l2,⟨q1,r1⟩,by unfold Sm.dp;omega,by omega,by simp only[bS];omega,?_⟩
    rw[show j+(d+1)+3=(j+d+3)+1 by omega,run_eq T.d6 rfl]
    have c11:=c1.1
    have c12:=c1.2
    simp? [bc,bJ,ew,hd5,c11,c12,iE,nM,ea,eo,q5,r5]
    exact bU (v:=eE (.bin o e1 e2)) (c7 _)
  · by_cases c2:w=2/\0 < l
    · obtain⟨c21,c22⟩:=c2
      subst c21
      obtain⟨e1,k1,l1,q1,q2,q3,q4,q5⟩:=ih (deep+1) (by omega) (k+1) (l - 1) g (by omega) (by omega) hp
      refine⟨.un e1,k1,l1,q1,by unfold Sm.dp;omega,by omega,by simp only[bS];omega,?_⟩
      rw[show j+(d+1)+3=(j+d+3)+1 by omega,run_eq T.d6 rfl]
      simp? [bc,bJ,ew,hd5,c22,iE,nM,q5]
      exact iw (v:=eE (.un e1))
    · obtain⟨e,k',g',h1,h2,h3,h4,h5⟩:=wu T (j+d+1) hn p0 p9 deep w (k+1) (some l) g (by omega) (by omega) hp none none
      refine⟨e,k',l,h1,by omega,by omega,by simp only[bS];omega,?_⟩
      rw[show j+(d+1)+3=(j+d+3)+1 by omega,run_eq T.d6 rfl]
      by_cases d1:2 < w
      · have d2: ¬ 1 < l:=fun z=>c1 ⟨d1,z⟩
        have d3: ¬ w=2:=by omega
        simp? [bc,bJ,ew,hd5,d1,d2,d3,iE,↓h5,bU (c7 e)]
      · by_cases d3:w=2
        · subst d3
          have d2: ¬ 0 < l:=fun z=>c2 ⟨rfl,z⟩
          simp? [bc,bJ,ew,hd5,d1,d2,iE,↓h5,bU (c7 e)]
        · simp? [bc,bJ,ew,hd5,d1,d3,iE,↓h5,bU (c7 e)]
omit T in
theorem DK{v:Int}(h0:0<=v)(h1:v < 4): ∃ n:Int,eF [PV.int 0,.int 2,.int 5,.int 11] v=some (.int n):=by
 have:v=0\/v=1\/v=2\/v=3:=by omega
 rcases this with rfl | rfl | rfl | rfl<;>exact⟨_,rfl⟩
theorem m7(j:Nat){ns:List Int}(hn:ns.length<=63){np:Nat}{ps:List Str}(p0:0 < ps.length)(p9:ps.length<=1000)(k:Int)(o:Option Int)(g:PH)(k0:0<=k)(k9:k+80<=1000000)(hp:g[np]?=some (.lst (ps.map PV.str))) :
  ∃(e:Sm)(k':Int)(o':Option Int),l8 e/\k<=k'/\k'<=k+80/\run pg (j+8) "_law_sum" [.ref 1,.ref (np+1+1)] (aZ ns::aU k o::g)= .ok (eE e) (aZ ns::aU k' o'::g):=by
 obtain⟨a,a0,a1,ea⟩:=aV T (j+5) (g++[.lst [.int 0,.int 2,.int 5,.int 11]]) hn o (k:=k) 4 k0 (by omega) (by decide) (by decide)
 obtain⟨l,el⟩:=DK a0 a1
 have hp':(g++[.lst [.int 0,.int 2,.int 5,.int 11]])[np]?=some (.lst (ps.map PV.str)):=by rw[aS (bC hp)];exact hp
 have b4:bS 4=78:=by decide
 obtain⟨e,k',l',q1,q2,q3,q4,q5⟩:=xI T j hn p0 p9 4 1 (by decide) (k+1) l _ (by omega) (by omega) hp'
 refine⟨e,k',some l',⟨q1,by omega⟩,by omega,by omega,?_⟩
 rw[run_eq T.vh rfl]
 simp? [fq,jK,ea,el,nM,q5,bU (c7 e)]
end
end K13
end
section
open PySem L2 P3
set_option maxHeartbeats 1000000
namespace K13
theorem oR{f:Nat->Option PyData}: ∀ ss:List Str,cG f (ss.map PV.str)=some (ss.map PyData.str)
 | []=>rfl
 | x::r=>by rw[List.map_cons,cG,oR r];rfl
theorem ug{h:PH}{n k:Nat}{ss:List Str}(e:h[n]?=some (.lst (ss.map PV.str))):dat (k+1) h (.ref n)=some (.list (ss.map PyData.str)):=by
 unfold dat
 simp only[j2,e,oR,Option.map_some]
theorem ne_nil{h:PH}{n m:Nat}{ss:List Str}(e1:h[n]?=some (.lst (ss.map PV.str)))(e2:h[m]?=some (.lst []))(ok: ∀ x∈ss,PyData.strOk x=true):gS (.ref n) (.ref m) h= .ok (.bl (!decide (ss=[]))) h:=by
 have d1:=ug (k:=5) e1
 have d2:=ug (k:=5) (ss:=[]) (n:=m) e2
 have sc:jN (.ref n) (.ref m)=false:=rfl
 have dp: ∀ xs:List Str,PyData.canLay0 (.list (xs.map PyData.str))=xs.all PyData.strOk:=fun xs=>by
  rw[PyData.canLay0,PyProof.Rows.canLayAll_strs']
 have al:alike (.ref n) (.ref m) h=some (decide (ss=[])):=by
  unfold alike
  rw[sc,d1,d2]
  have c1:(PyData.list (ss.map PyData.str)).canLay0=true:=by rw[dp];exact List.all_eq_true.mpr ok
  have c2:(PyData.list (([]:List Str).map PyData.str)).canLay0=true:=by rw[dp];rfl
  have c3:min (PyData.list (ss.map PyData.str)).depth (PyData.list (([]:List Str).map PyData.str)).depth<=64:=Nat.le_trans (Nat.min_le_right _ _) (by decide)
  simp only[Bool.false_eq_true,if_false,c1,c2,c3,and_self,if_true]
  cases ss with
  | nil=>rfl
  | cons x r=>rfl
 have nd:gp h (.ref n)=false:=by simp only[gp,e1]
 unfold gS
 rw[al,nd]
 rfl
noncomputable def jx(s1 s2 s3 s4:List Str)(x:Str):Prop:=x= "let" \/x= "leap" \/x= "clock" \/x= "lot" \/(s1≠[]/\(x= "get" \/x= "put"))\/(s2≠[]/\(x= "take" \/x= "free"))\/(s3≠[]/\(x= "send" \/x= "fetch"))\/(s4≠[]/\(x= "say" \/x= "hear"))
theorem zH(c:CF){H:PH}{nd cc q b:Nat}{nm:List (Key × PV)}{ks qs ss:List Str}{sort:Str}(e1:H[nd]?=some (.dct nm))(e2:aW nm (.inr sort)=some (.ref b))(e3:H[b]?=some (.lst (ss.map PV.str)))(e4:H[cc]?=some (.lst (ks.map PV.str)))(e5:H[q]?=some (.lst (qs.map PV.str)))
  (hs: ∀ x∈ss,PyData.strOk x=true) (hl:ks.length+qs.length+qs.length<=1000) (a0 a2 a3 u5 u6 n7 n8 n9 n10:Option PV) :
  ∃ g' c',(H++g')[c']?=some (.lst ((if ss=[] then ks else ks++qs++qs).map PV.str))/\fL (gT 2 (aL (gN 5) (aL (gN 6) dS))) (bz (ao (ag gS (ag aq (ab 1) (ab 5)) (aT ae))) (aj (ag aE (ag aE (ab 4) (ab 6)) (ab 6)) (gN 4)) bB) c (.tup [.str sort,.ref q]) [a0,some (.ref nd),a2,a3,some (.ref cc),u5,u6,n7,n8,n9,n10] H =
   .ok (.nx [a0,some (.ref nd),a2,a3,some (.ref c'),some (.str sort),some (.ref q),n7,n8,n9,n10]) (H++g'):=by
 have l3:=bC e3
 have l4:=bC e4
 have l5:=bC e5
 have ne:=ne_nil (h:=H++[.lst []]) (n:=b) (m:=H.length) (ss:=ss) (by rw[aS l3];exact e3) bE hs
 by_cases z:ss=[]
 · refine⟨[.lst []],cc,by rw[if_pos z,aS l4];exact e4,?_⟩
   simp? [e1,e2,ne,z]
 · have ad1:=mU (h:=H++[.lst []]) (n:=cc) (m:=q) (by rw[aS l4];exact e4) (by rw[aS l5];exact e5) (by rw[List.length_map,List.length_map];omega)
   have ad2:aE (.ref (H.length+(0+1))) (.ref q) (H++[.lst [],.lst (ks.map PV.str++qs.map PV.str)])= .ok (.ref (H.length+(0+1+1))) (H++[.lst [],.lst (ks.map PV.str++qs.map PV.str),.lst (ks.map PV.str++qs.map PV.str++qs.map PV.str)]):=by
    have:=mU (h:=H++[.lst [],.lst (ks.map PV.str++qs.map PV.str)]) (n:=H.length+(0+1)) (m:=q) (xs:=ks.map PV.str++qs.map PV.str) (ys:=qs.map PV.str) (by rw[aK];rfl) (by rw[aS l5];exact e5) (by rw[List.length_append,List.length_map,List.length_map];omega)
    simpa using this
   refine⟨[.lst [],.lst (ks.map PV.str++qs.map PV.str),.lst (ks.map PV.str++qs.map PV.str++qs.map PV.str)],H.length+(0+1+1),by rw[if_neg z,aK,List.map_append,List.map_append];rfl,?_⟩
   simp? [e1,e2,ne,z,ad1,ad2]
end K13
end
section
open PySem L2 P3
set_option maxHeartbeats 1000000
namespace K13
structure Named(H:PH)(nd:Nat)(s1 s2 s3 s4 s5:List Str):Prop where
 at_: ∃ b1 b2 b3 b4 b5:Nat,H[nd]?=some (.dct [(.inr "box",.ref b1),(.inr "lock",.ref b2),(.inr "lane",.ref b3),(.inr "door",.ref b4),(.inr "hand",.ref b5)]) /\
  H[b1]?=some (.lst (s1.map PV.str))/\H[b2]?=some (.lst (s2.map PV.str))/\H[b3]?=some (.lst (s3.map PV.str))/\H[b4]?=some (.lst (s4.map PV.str))/\H[b5]?=some (.lst (s5.map PV.str))
 ok:(∀ x∈s1,gD x)/\(∀ x∈s2,gD x)/\(∀ x∈s3,gD x)/\(∀ x∈s4,gD x)
 le:s1.length<=10/\s2.length<=10/\s3.length<=10/\s4.length<=10/\s5.length<=10
theorem iT{b1 b2 b3 b4 b5:Nat}:aW [((.inr "box" :Key),PV.ref b1),(.inr "lock",.ref b2),(.inr "lane",.ref b3),(.inr "door",.ref b4),(.inr "hand",.ref b5)] (.inr "box")=some (.ref b1) /\
  aW [((.inr "box" :Key),PV.ref b1),(.inr "lock",.ref b2),(.inr "lane",.ref b3),(.inr "door",.ref b4),(.inr "hand",.ref b5)] (.inr "lock")=some (.ref b2) /\
  aW [((.inr "box" :Key),PV.ref b1),(.inr "lock",.ref b2),(.inr "lane",.ref b3),(.inr "door",.ref b4),(.inr "hand",.ref b5)] (.inr "lane")=some (.ref b3) /\
  aW [((.inr "box" :Key),PV.ref b1),(.inr "lock",.ref b2),(.inr "lane",.ref b3),(.inr "door",.ref b4),(.inr "hand",.ref b5)] (.inr "door")=some (.ref b4) /\
  aW [((.inr "box" :Key),PV.ref b1),(.inr "lock",.ref b2),(.inr "lane",.ref b3),(.inr "door",.ref b4),(.inr "hand",.ref b5)] (.inr "hand")=some (.ref b5):=by
 refine⟨?_,?_,?_,?_,?_⟩<;>simp[aW,aI]
theorem rp{p:Prop}[Decidable p]{ks qs:List Str}{n:Nat}(h:ks.length+qs.length+qs.length<=n):(if p then ks else ks++qs++qs).length<=n:=by
 split
 · omega
 · simp only[List.length_append];omega
theorem qU{p:Prop}[Decidable p]{ks qs:List Str}{x:Str}(h:x∈(if p then ks else ks++qs++qs)):x∈ks\/(¬ p/\x∈qs):=by
 split at h
 · exact .inl h
 · rename_i z
   rcases List.mem_append.1 h with h | h
   · rcases List.mem_append.1 h with h | h
     · exact .inl h
     · exact .inr ⟨z,h⟩
   · exact .inr ⟨z,h⟩
theorem Bn(c : CF){H : PH}{nd : Nat}{s1 s2 s3 s4 s5 : List Str}(hn : Named H nd s1 s2 s3 s4 s5)(a0 a2 a3 n7 n8 n9 n10 : Option PV) :
    ∃(g' : PH)(c' : Nat)(ks : List Str)(u5 u6 : PV), (H ++ g')[c']? = some (.lst (ks.map PV.str)) /\ 0 < ks.length /\ ks.length <= 100 /\ (∀ x ∈ ks, jx s1 s2 s3 s4 x) /\ ∀ rest : MS,
    ah (aj (aT (aa (eC (.str "let")) (aa (eC (.str "let")) (aa (eC (.str "leap")) (aa (eC (.str "clock")) (aa (eC (.str "lot")) ae)))))) (gN 4))
    (ah (jf (oV (aT (aa (aw (aa (eC (.str "box")) (aa (aT (aa (eC (.str "get")) (aa (eC (.str "put")) ae))) ae))) (aa (aw (aa (eC (.str "lock")) (aa (aT (aa (eC (.str "take")) (aa (eC (.str "free")) ae))) ae))) (aa (aw (aa (eC (.str "lane")) (aa (aT (aa (eC (.str "send")) (aa (eC (.str "fetch")) ae))) ae))) ae))))) (gT 2 (aL (gN 5) (aL (gN 6) dS))) (bz (ao (ag gS (ag aq (ab 1) (ab 5)) (aT ae))) (aj (ag aE (ag aE (ab 4) (ab 6)) (ab 6)) (gN 4)) bB))
    (ah (bz (ao (ag gS (ag aq (ab 1) (eC (.str "door"))) (aT ae))) (aj (ag aE (ab 4) (aT (aa (eC (.str "say")) (aa (eC (.str "hear")) (aa (eC (.str "say")) ae))))) (gN 4)) bB)
    rest)) c [a0, some (.ref nd), a2, a3, none, none, none, n7, n8, n9, n10] H = rest c [a0, some (.ref nd), a2, a3, some (.ref c'), some u5, some u6, n7, n8, n9, n10] (H ++ g') := by
  obtain⟨b1, b2, b3, b4, b5, e0, e1, e2, e3, e4, e5⟩ := hn.at_
  obtain⟨o1, o2, o3, o4⟩ : (∀ x ∈ s1, PyData.strOk x = true) /\ (∀ x ∈ s2, PyData.strOk x = true) /\ (∀ x ∈ s3, PyData.strOk x = true) /\ (∀ x ∈ s4, PyData.strOk x = true) := ⟨fun x m => (hn.ok.1 x m).1, fun x m => (hn.ok.2.1 x m).1, fun x m => (hn.ok.2.2.1 x m).1, fun x m => (hn.ok.2.2.2 x m).1⟩
  obtain⟨w1, w2, w3, w4, w5⟩ := iT (b1 := b1) (b2 := b2) (b3 := b3) (b4 := b4) (b5 := b5)
  let k0 : List Str := ["let", "let", "leap", "clock", "lot"]
  let G : PH := [.lst (k0.map PV.str), .lst [.str "get", .str "put"], .lst [.str "take", .str "free"], .lst [.str "send", .str "fetch"],
    .lst [.tup [.str "box", .ref (H.length + 1)], .tup [.str "lock", .ref (H.length + 2)], .tup [.str "lane", .ref (H.length + 3)]]]
  have old : ∀{n : Nat}{o : PO}(g : PH), H[n]? = some o -> (H ++ g)[n]? = some o := fun g e => (aS (bC e)).trans e
  have oldG : ∀{n : Nat}{o : PO}(g : PH), (H ++ G)[n]? = some o -> (H ++ (G ++ g))[n]? = some o := fun g e => by rw[<- List.append_assoc]; exact(aS (bC e)).trans e
  have G0 : (H ++ G)[H.length]? = some (.lst (k0.map PV.str)) := bE
  have G1 : (H ++ G)[H.length + 1]? = some (.lst ((["get", "put"] : List Str).map PV.str)) := aK
  have G2 : (H ++ G)[H.length + 2]? = some (.lst ((["take", "free"] : List Str).map PV.str)) := aK
  have G3 : (H ++ G)[H.length + 3]? = some (.lst ((["send", "fetch"] : List Str).map PV.str)) := aK
  have G4 : (H ++ G)[H.length + 4]? = some (.lst [.tup [.str "box", .ref (H.length + 1)], .tup [.str "lock", .ref (H.length + 2)], .tup [.str "lane", .ref (H.length + 3)]]) := aK
  have fin1 : ∀ g : PH, iV.gx ⟨some (H.length + 4), [.tup [.str "box", .ref (H.length + 1)], .tup [.str "lock", .ref (H.length + 2)], .tup [.str "lane", .ref (H.length + 3)]]⟩ (H ++ (G ++ g)) = true := fun g => by
    unfold iV.gx
    simp only[oldG g G4, true_or, decide_true]
  obtain⟨g1, c1, f1, st1⟩ := zH c (H := H ++ G) (nd := nd) (cc := H.length) (q := H.length + 1) (ks := k0) (qs := ["get", "put"]) (sort := "box") (old G e0) w1 (old G e1) G0 G1 o1 (by decide) a0 a2 a3 none none n7 n8 n9 n10
  generalize hk1 : (if s1 = [] then k0 else k0 ++ (["get", "put"] : List Str) ++ (["get", "put"] : List Str)) = k1 at f1
  have l1 : k1.length <= 20 := by rw[<- hk1]; exact rp (by decide)
  obtain⟨g2, c2, f2, st2⟩ := zH c (H := H ++ G ++ g1) (nd := nd) (cc := c1) (q := H.length + 2) (ks := k1) (qs := ["take", "free"]) (sort := "lock") (by rw[List.append_assoc]; exact old _ e0) w2 (by rw[List.append_assoc]; exact old _ e2) f1 (by rw[List.append_assoc]; exact oldG g1 G2) o2 (by show k1.length + 2 + 2 <= 1000; omega) a0 a2 a3 (some (.str "box")) (some (.ref (H.length + 1))) n7 n8 n9 n10
  generalize hk2 : (if s2 = [] then k1 else k1 ++ (["take", "free"] : List Str) ++ (["take", "free"] : List Str)) = k2 at f2
  have l2 : k2.length <= 30 := by rw[<- hk2]; exact rp (by show k1.length + 2 + 2 <= 30; omega)
  obtain⟨g3, c3, f3, st3⟩ := zH c (H := H ++ G ++ g1 ++ g2) (nd := nd) (cc := c2) (q := H.length + 3) (ks := k2) (qs := ["send", "fetch"]) (sort := "lane") (by rw[List.append_assoc, List.append_assoc]; exact old _ e0) w3 (by rw[List.append_assoc, List.append_assoc]; exact old _ e3) f2 (by rw[List.append_assoc, List.append_assoc]; exact oldG _ G3) o3 (by show k2.length + 2 + 2 <= 1000; omega) a0 a2 a3 (some (.str "lock")) (some (.ref (H.length + 2))) n7 n8 n9 n10
  generalize hk3 : (if s3 = [] then k2 else k2 ++ (["send", "fetch"] : List Str) ++ (["send", "fetch"] : List Str)) = k3 at f3
  have l3 : k3.length <= 40 := by rw[<- hk3]; exact rp (by show k2.length + 2 + 2 <= 40; omega)
  have in0 : ∀ x ∈ k0, jx s1 s2 s3 s4 x := fun x m => by
    rcases List.mem_cons.mp m with e | m
    · exact .inl e
    rcases List.mem_cons.mp m with e | m
    · exact .inl e
    rcases List.mem_cons.mp m with e | m
    · exact .inr (.inl e)
    rcases List.mem_cons.mp m with e | m
    · exact .inr (.inr (.inl e))
    rcases List.mem_cons.mp m with e | m
    · exact .inr (.inr (.inr (.inl e)))
    · cases m
  have two : ∀{x a b : Str}, x ∈ [a, b] -> x = a \/ x = b := fun m => by simpa using m
  have in1 : ∀ x ∈ k1, jx s1 s2 s3 s4 x := fun x m => by
    rw[<- hk1] at m
    rcases qU m with m | ⟨z, m⟩
    · exact in0 x m
    · exact .inr (.inr (.inr (.inr (.inl ⟨z, two m⟩))))
  have in2 : ∀ x ∈ k2, jx s1 s2 s3 s4 x := fun x m => by
    rw[<- hk2] at m
    rcases qU m with m | ⟨z, m⟩
    · exact in1 x m
    · exact .inr (.inr (.inr (.inr (.inr (.inl ⟨z, two m⟩)))))
  have Jn : ∀ x ∈ k3, jx s1 s2 s3 s4 x := fun x m => by
    rw[<- hk3] at m
    rcases qU m with m | ⟨z, m⟩
    · exact in2 x m
    · exact .inr (.inr (.inr (.inr (.inr (.inr (.inl ⟨z, two m⟩))))))
  have p1 : 0 < k1.length := by rw[<- hk1]; split <;> simp[k0]
  have p2 : 0 < k2.length := by
                                   rw[<- hk2]; split
                                   · exact p1
                                   · simp only[List.length_append, List.length_cons]; omega
  have p3 : 0 < k3.length := by
                                   rw[<- hk3]; split
                                   · exact p2
                                   · simp only[List.length_append, List.length_cons]; omega
  have lp : cg ⟨some (H.length + 4), [.tup [.str "box", .ref (H.length + 1)], .tup [.str "lock", .ref (H.length + 2)], .tup [.str "lane", .ref (H.length + 3)]]⟩ (fL (gT 2 (aL (gN 5) (aL (gN 6) dS))) (bz (ao (ag gS (ag aq (ab 1) (ab 5)) (aT ae))) (aj (ag aE (ag aE (ab 4) (ab 6)) (ab 6)) (gN 4)) bB) c) [.tup [.str "box", .ref (H.length + 1)], .tup [.str "lock", .ref (H.length + 2)], .tup [.str "lane", .ref (H.length + 3)]]
      [a0, some (.ref nd), a2, a3, some (.ref H.length), none, none, n7, n8, n9, n10] (H ++ G) = .ok (.nx [a0, some (.ref nd), a2, a3, some (.ref c3), some (.str "lane"), some (.ref (H.length + 3)), n7, n8, n9, n10]) (H ++ (G ++ (g1 ++ (g2 ++ g3)))) := by
    have z0 := fin1 []
    rw[List.append_nil] at z0
    rw[jR z0, st1, tq, cQ, List.append_assoc, jR (fin1 g1)]
    rw[List.append_assoc] at st2 st3
    rw[st2, tq, cQ, List.append_assoc, List.append_assoc, jR (fin1 (g1 ++ g2))]
    simp only[List.append_assoc] at st3
    rw[st3, tq, cQ]
    try simp only[List.append_assoc]
    rw[rT (fin1 (g1 ++ (g2 ++ g3)))]
  simp only[List.append_assoc] at f3
  have l4 := bC e4
  have ev0 : ∀ rest' : MS, ah (aj (aT (aa (eC (.str "let")) (aa (eC (.str "let")) (aa (eC (.str "leap")) (aa (eC (.str "clock")) (aa (eC (.str "lot")) ae)))))) (gN 4))
    (ah (jf (oV (aT (aa (aw (aa (eC (.str "box")) (aa (aT (aa (eC (.str "get")) (aa (eC (.str "put")) ae))) ae))) (aa (aw (aa (eC (.str "lock")) (aa (aT (aa (eC (.str "take")) (aa (eC (.str "free")) ae))) ae))) (aa (aw (aa (eC (.str "lane")) (aa (aT (aa (eC (.str "send")) (aa (eC (.str "fetch")) ae))) ae))) ae))))) (gT 2 (aL (gN 5) (aL (gN 6) dS))) (bz (ao (ag gS (ag aq (ab 1) (ab 5)) (aT ae))) (aj (ag aE (ag aE (ab 4) (ab 6)) (ab 6)) (gN 4)) bB))
    rest') c [a0, some (.ref nd), a2, a3, none, none, none, n7, n8, n9, n10] H = rest' c [a0, some (.ref nd), a2, a3, some (.ref c3), some (.str "lane"), some (.ref (H.length + 3)), n7, n8, n9, n10] (H ++ (G ++ (g1 ++ (g2 ++ g3)))) := fun rest' => by
    simp? (disch := omega) only[List.map_nil]
    exact(congrArg (fun r => RV.bind r (vQ rest' c)) lp).trans rfl
  generalize hJ : H ++ (G ++ (g1 ++ (g2 ++ g3))) = J at f3 ev0
  have oJ : ∀{n : Nat}{o : PO}, H[n]? = some o -> J[n]? = some o := fun e => by rw[<- hJ]; exact old _ e
  have ne := ne_nil (h := J ++ [.lst []]) (n := b4) (m := J.length) (ss := s4) (by rw[aS (bC (oJ e4))]; exact oJ e4) bE o4
  by_cases z : s4 = []
  · refine⟨G ++ (g1 ++ (g2 ++ g3)) ++ [.lst []], c3, k3, .str "lane", .ref (H.length + 3), ?_, p3, by omega, Jn, fun rest => ?_⟩
    · rw[<- List.append_assoc, hJ, aS (bC f3)]; exact f3
    · rw[ev0, <- List.append_assoc, hJ]
      simp? (disch := omega) only[oJ e0, w4, ne, z]
  · have ad : aE (.ref c3) (.ref (J.length + (0 + 1))) (J ++ [.lst [], .lst [.str "say", .str "hear", .str "say"]]) = .ok (.ref (J.length + (0 + 1 + 1))) (J ++ [.lst [], .lst [.str "say", .str "hear", .str "say"], .lst (k3.map PV.str ++ [.str "say", .str "hear", .str "say"])]) := by
      have := mU (h := J ++ [.lst [], .lst [.str "say", .str "hear", .str "say"]]) (n := c3) (m := J.length + (0 + 1)) (xs := k3.map PV.str) (ys := [.str "say", .str "hear", .str "say"]) (by rw[aS (bC f3)]; exact f3) (by rw[aK]; rfl) (by rw[List.length_map]; simp only[List.length_cons, List.length_nil]; omega)
      simpa using this
    refine⟨G ++ (g1 ++ (g2 ++ g3)) ++ [.lst [], .lst [.str "say", .str "hear", .str "say"], .lst (k3.map PV.str ++ [.str "say", .str "hear", .str "say"])], J.length + (0 + 1 + 1), k3 ++ (["say", "hear", "say"] : List Str), .str "lane", .ref (H.length + 3), ?_, by simp, by simp; omega, fun x m => ?_, fun rest => ?_⟩
    · rw[<- List.append_assoc, hJ, aK, List.map_append]; rfl
    · rcases List.mem_append.mp m with m | m
      · exact Jn x m
      · refine .inr (.inr (.inr (.inr (.inr (.inr (.inr ⟨z, ?_⟩))))))
        rcases List.mem_cons.mp m with e | m
        · exact .inl e
        rcases List.mem_cons.mp m with e | m
        · exact .inr e
        rcases List.mem_cons.mp m with e | m
        · exact .inl e
        · cases m
    · rw[ev0, <- List.append_assoc, hJ]
      simp? (disch := omega) only[oJ e0, w4, ne, z, ad]
end K13
end
section
open PySem L2 P3
set_option maxHeartbeats 1000000
namespace K13
noncomputable def eI(g:PH)(nd:Nat)(s1 s2 s3 s4 s5:List Str):Prop :=
 (∃ b1 b2 b3 b4 b5:Nat,g[nd]?=some (.dct [(.inr "box",.ref (b1+1+1)),(.inr "lock",.ref (b2+1+1)),(.inr "lane",.ref (b3+1+1)),(.inr "door",.ref (b4+1+1)),(.inr "hand",.ref (b5+1+1))]) /\
  g[b1]?=some (.lst (s1.map PV.str))/\g[b2]?=some (.lst (s2.map PV.str))/\g[b3]?=some (.lst (s3.map PV.str))/\g[b4]?=some (.lst (s4.map PV.str))/\g[b5]?=some (.lst (s5.map PV.str))) /\
 ((∀ x∈s1,gD x)/\(∀ x∈s2,gD x)/\(∀ x∈s3,gD x)/\(∀ x∈s4,gD x)) /\
 (s1.length<=10/\s2.length<=10/\s3.length<=10/\s4.length<=10/\s5.length<=10)
theorem eI.app{g g':PH}{nd:Nat}{s1 s2 s3 s4 s5:List Str}(h:eI g nd s1 s2 s3 s4 s5):eI (g++g') nd s1 s2 s3 s4 s5:=by
 obtain⟨⟨b1,b2,b3,b4,b5,e0,e1,e2,e3,e4,e5⟩,h2,h3⟩:=h
 exact⟨⟨b1,b2,b3,b4,b5,(aS (bC e0)).trans e0,(aS (bC e1)).trans e1,(aS (bC e2)).trans e2,(aS (bC e3)).trans e3,(aS (bC e4)).trans e4,(aS (bC e5)).trans e5⟩,h2,h3⟩
theorem eI.up{g:PH}{nd:Nat}{s1 s2 s3 s4 s5:List Str}(h:eI g nd s1 s2 s3 s4 s5)(x y:PO):Named (x::y::g) (nd+1+1) s1 s2 s3 s4 s5:=by
 obtain⟨⟨b1,b2,b3,b4,b5,e0,e1,e2,e3,e4,e5⟩,h2,h3⟩:=h
 exact⟨⟨_,_,_,_,_,e0,e1,e2,e3,e4,e5⟩,h2,h3⟩
theorem G5{ns:List Int}{k:Int}{o:Option Int}{J:PH}{c:Nat}{xs:List PV}(h:(aZ ns::aU k o::J)[c]?=some (.lst xs)): ∃ c',c=c'+1+1/\J[c']?=some (.lst xs):=by
 match c,h with
 | 0,h=>exact nomatch h
 | 1,h=>exact nomatch h
 | c+2,h=>exact⟨c,rfl,h⟩
noncomputable def dE:List (Key × PV):=[(.inr "get",.str "box"),(.inr "put",.str "box"),(.inr "take",.str "lock"),(.inr "free",.str "lock"),(.inr "send",.str "lane"),(.inr "fetch",.str "lane"),(.inr "say",.str "door"),(.inr "hear",.str "door")]
theorem yh:aW dE (.inr "get")=some (.str "box")/\aW dE (.inr "put")=some (.str "box")/\aW dE (.inr "take")=some (.str "lock")/\aW dE (.inr "free")=some (.str "lock") /\
  aW dE (.inr "send")=some (.str "lane")/\aW dE (.inr "fetch")=some (.str "lane")/\aW dE (.inr "say")=some (.str "door")/\aW dE (.inr "hear")=some (.str "door"):=by
 refine⟨?_,?_,?_,?_,?_,?_,?_,?_⟩<;>simp[dE,aW,aI]
theorem tZ{a b c:Str}{h:PH}:kG (.str a) (.tup [.str b,.str c]) h= .ok (.bl (decide (a=b\/a=c))) h:=by
 have:=xD (h:=h) (a:=a) (ss:=[b,c])
 simpa using this
theorem tE{a b c d:Str}{h:PH}:kG (.str a) (.tup [.str b,.str c,.str d]) h= .ok (.bl (decide (a=b\/a=c\/a=d))) h:=by
 have:=xD (h:=h) (a:=a) (ss:=[b,c,d])
 simpa using this
theorem Gg{v w:Int}(h0:0<=v)(h1:v < 4)(w0:0<=w)(w1:w < 999): ∃ n:Int,2<=n/\n<=1000/\eF [PV.int 2,.int 3,.int 1000,.int (2+w)] v=some (.int n):=by
 have:v=0\/v=1\/v=2\/v=3:=by omega
 rcases this with rfl | rfl | rfl | rfl
 · exact⟨2,by decide,by decide,rfl⟩
 · exact⟨3,by decide,by decide,rfl⟩
 · exact⟨1000,by decide,by decide,rfl⟩
 · exact⟨2+w,by omega,by omega,rfl⟩
section
variable{pg:Tb}(T:cI pg)
include T
theorem Ab(j:Nat){ns:List Int}(hn:ns.length<=63){np nd sd:Nat}{ps L:List Str}(p0:0 < ps.length)(p9:ps.length<=1000)(hL: ∀ x∈ps,x∈L){s1 s2 s3 s4 s5:List Str}{J:PH}(hN:eI J nd s1 s2 s3 s4 s5)(hp:J[np]?=some (.lst (ps.map PV.str)))(hs:J[sd]?=some (.dct dE))
  (k many:Int) (o:Option Int) (k0:0<=k) (k9:k+82<=1000000) (m0:0<=many) (m9:many<=1000) {x y:Str} (hx:jx s1 s2 s3 s4 x) (hy:y∈ps) (u4 u5 u6:Option PV) :
  ∃(r:Rw)(k':Int)(o':Option Int)(g':PH),(cz L many.toNat r/\mC r)/\k<=k'/\k'<=k+82 /\
  ah (bz (ao (ag cm (ab 7) (eC (.str "let")))) (az (aw (aa (eC (.str "let")) (aa (ab 8) (aa (af "_law_sum" (aa (ab 0) (aa (ab 2) ae))) ae))))) bB)
  (ah (bz (ao (ag cm (ab 7) (eC (.str "leap")))) (az (aw (aa (eC (.str "leap")) (aa (af "_law_pick" (aa (ab 0) (aa (ag aE (ab 3) (eC (.int 1))) ae))) (aa (af "_law_sum" (aa (ab 0) (aa (ab 2) ae))) ae))))) bB)
  (ah (bz (ao (ag cm (ab 7) (eC (.str "clock")))) (az (aw (aa (eC (.str "clock")) (aa (ab 8) ae)))) bB)
  (ah (bz (ao (ag cm (ab 7) (eC (.str "lot")))) (az (aw (aa (eC (.str "lot")) (aa (ab 8) (aa (ag aq (aT (aa (eC (.int 2)) (aa (eC (.int 3)) (aa (eC (.int 1000)) (aa (ag aE (eC (.int 2)) (af "_law_pick" (aa (ab 0) (aa (eC (.int 999)) ae)))) ae))))) (af "_law_pick" (aa (ab 0) (aa (eC (.int 4)) ae)))) ae))))) bB)
  (ah (aj (ag aq (ab 1) (ag aq (ab 9) (ab 7))) (gN 6))
  (ah (aj (ag aq (ab 6) (af "_law_pick" (aa (ab 0) (aa (eB bY (aa (ab 6) ae)) ae)))) (gN 10))
  (ah (bz (ao (ag kG (ab 7) (aw (aa (eC (.str "take")) (aa (eC (.str "free")) ae))))) (az (aw (aa (ab 7) (aa (ab 10) ae)))) bB)
  (ah (bz (ao (ag kG (ab 7) (aw (aa (eC (.str "get")) (aa (eC (.str "fetch")) (aa (eC (.str "hear")) ae)))))) (az (aw (aa (ab 7) (aa (ab 8) (aa (ab 10) ae))))) bB)
  (az (aw (aa (ab 7) (aa (ab 10) (aa (af "_law_sum" (aa (ab 0) (aa (ab 2) ae))) ae))))))))))))
  (run pg (j+8)) [some (.ref 1),some (.ref (nd+1+1)),some (.ref (np+1+1)),some (.int many),u4,u5,u6,some (.str x),some (.str y),some (.ref (sd+1+1)),none] (aZ ns::aU k o::J)= .ok (.rt (cL r)) (aZ ns::aU k' o'::(J++g')):=by
 obtain⟨⟨b1,b2,b3,b4,b5,e0,e1,e2,e3,e4,e5⟩,⟨n1,n2,n3,n4⟩,⟨l1,l2,l3,l4,l5⟩⟩:=hN
 obtain⟨w1,w2,w3,w4,w5⟩:=iT (b1:=b1+1+1) (b2:=b2+1+1) (b3:=b3+1+1) (b4:=b4+1+1) (b5:=b5+1+1)
 obtain⟨v1,v2,v3,v4,v5,v6,v7,v8⟩:=yh
 have yL:=hL y hy
 have len0: ∀{s:List Str},s≠[]->0 < s.length:=fun h=>List.length_pos_iff.mpr h
 rcases hx with rfl | rfl | rfl | rfl | ⟨z,hx⟩ | ⟨z,hx⟩ | ⟨z,hx⟩ | ⟨z,hx⟩
 · obtain⟨e,k',o',q1,q2,q3,q4⟩:=m7 T j hn p0 p9 k o J k0 (by omega) hp
   refine⟨.let_ y e,k',o',[],⟨⟨yL,q1⟩,trivial⟩,q2,by omega,?_⟩
   simp? [q4,cL,Rw.w,Rw.ps,List.append_nil]
 · obtain⟨a,a0,a1,ea⟩:=aV T (j+6) J hn o (k:=k) (many+1) k0 (by omega) (by omega) (by omega)
   obtain⟨e,k',o',q1,q2,q3,q4⟩:=m7 T j hn p0 p9 (k+1) o J (by omega) (by omega) hp
   refine⟨.leap a e,k',o',[],⟨⟨a0,by omega,q1⟩,trivial⟩,by omega,by omega,?_⟩
   simp? [ea,q4,cL,Rw.w,Rw.ps,List.append_nil]
 · refine⟨.clock y,k,o,[],⟨yL,trivial⟩,by omega,by omega,?_⟩
   simp? [cL,Rw.w,Rw.ps,List.append_nil]
 · obtain⟨a,a0,a1,ea⟩:=aV T (j+6) J hn o (k:=k) 999 k0 (by omega) (by decide) (by decide)
   obtain⟨b,b0,b1,eb⟩:=aV T (j+6) (J++[.lst [.int 2,.int 3,.int 1000,.int (2+a)]]) hn o (k:=k+1) 4 (by omega) (by omega) (by decide) (by decide)
   obtain⟨n,n0,n9,en⟩:=Gg b0 b1 a0 a1
   refine⟨.lot y n,k+1+1,o,[.lst [.int 2,.int 3,.int 1000,.int (2+a)]],⟨⟨yL,n0,n9⟩,trivial⟩,by omega,by omega,?_⟩
   simp? [ea,eb,en,cL,Rw.w,Rw.ps]
 · have zl:=len0 z
   obtain⟨a,a0,a1,ea⟩:=aV T (j+6) J hn o (k:=k) s1.length k0 (by omega) (by omega) (by omega)
   obtain⟨t,ht,et⟩:=jJ a0 a1
   rcases hx with rfl | rfl
   · refine⟨.get y t,k+1,o,[],⟨yL,n1 t ht⟩,by omega,by omega,?_⟩
     simp? [e0,hs,v1,w1,e1,List.length_map,ea,et,tZ,tE,cL,Rw.w,Rw.ps,List.append_nil,true_or,or_true,or_false,false_or]
   · obtain⟨e,k',o',q1,q2,q3,q4⟩:=m7 T j hn p0 p9 (k+1) o J (by omega) (by omega) hp
     refine⟨.put t e,k',o',[],⟨q1,n1 t ht⟩,by omega,by omega,?_⟩
     simp? [e0,hs,v2,w1,e1,List.length_map,ea,et,tZ,tE,q4,cL,Rw.w,Rw.ps,List.append_nil,true_or,or_true,or_false,false_or]
 · have zl:=len0 z
   obtain⟨a,a0,a1,ea⟩:=aV T (j+6) J hn o (k:=k) s2.length k0 (by omega) (by omega) (by omega)
   obtain⟨t,ht,et⟩:=jJ a0 a1
   rcases hx with rfl | rfl
   · refine⟨.take t,k+1,o,[],⟨trivial,n2 t ht⟩,by omega,by omega,?_⟩
     simp? [e0,hs,v3,w2,e2,List.length_map,ea,et,tZ,tE,cL,Rw.w,Rw.ps,List.append_nil,true_or,or_true,or_false,false_or]
   · refine⟨.free t,k+1,o,[],⟨trivial,n2 t ht⟩,by omega,by omega,?_⟩
     simp? [e0,hs,v4,w2,e2,List.length_map,ea,et,tZ,tE,cL,Rw.w,Rw.ps,List.append_nil,true_or,or_true,or_false,false_or]
 · have zl:=len0 z
   obtain⟨a,a0,a1,ea⟩:=aV T (j+6) J hn o (k:=k) s3.length k0 (by omega) (by omega) (by omega)
   obtain⟨t,ht,et⟩:=jJ a0 a1
   rcases hx with rfl | rfl
   · obtain⟨e,k',o',q1,q2,q3,q4⟩:=m7 T j hn p0 p9 (k+1) o J (by omega) (by omega) hp
     refine⟨.send t e,k',o',[],⟨q1,n3 t ht⟩,by omega,by omega,?_⟩
     simp? [e0,hs,v5,w3,e3,List.length_map,ea,et,tZ,tE,q4,cL,Rw.w,Rw.ps,List.append_nil,true_or,or_true,or_false,false_or]
   · refine⟨.fetch y t,k+1,o,[],⟨yL,n3 t ht⟩,by omega,by omega,?_⟩
     simp? [e0,hs,v6,w3,e3,List.length_map,ea,et,tZ,tE,cL,Rw.w,Rw.ps,List.append_nil,true_or,or_true,or_false,false_or]
 · have zl:=len0 z
   obtain⟨a,a0,a1,ea⟩:=aV T (j+6) J hn o (k:=k) s4.length k0 (by omega) (by omega) (by omega)
   obtain⟨t,ht,et⟩:=jJ a0 a1
   rcases hx with rfl | rfl
   · obtain⟨e,k',o',q1,q2,q3,q4⟩:=m7 T j hn p0 p9 (k+1) o J (by omega) (by omega) hp
     refine⟨.say t e,k',o',[],⟨q1,n4 t ht⟩,by omega,by omega,?_⟩
     simp? [e0,hs,v7,w4,e4,List.length_map,ea,et,tZ,tE,q4,cL,Rw.w,Rw.ps,List.append_nil,true_or,or_true,or_false,false_or]
   · refine⟨.hear y t,k+1,o,[],⟨yL,n4 t ht⟩,by omega,by omega,?_⟩
     simp? [e0,hs,v8,w4,e4,List.length_map,ea,et,tZ,tE,cL,Rw.w,Rw.ps,List.append_nil,true_or,or_true,or_false,false_or]
end
end K13
end
section
open PySem L2 P3
set_option maxHeartbeats 1000000
namespace K13
noncomputable def cx:List (Key × PV):=[(.inr "get",.str "box"),(.inr "put",.str "box"),(.inr "take",.str "lock"),(.inr "free",.str "lock"),(.inr "send",.str "lane"),(.inr "fetch",.str "lane")]
theorem vF:bA [] cx=cx/\bA [] [((.inr "say" :Key),PV.str "door"),(.inr "hear",.str "door")]=[(.inr "say",.str "door"),(.inr "hear",.str "door")]/\bA cx [((.inr "say" :Key),PV.str "door"),(.inr "hear",.str "door")]=dE:=by
 refine⟨?_,?_,?_⟩<;>simp[cx,dE,bA,c8,aI]
section
variable{pg:Tb}(T:cI pg)
include T
theorem Jh(j:Nat){ns:List Int}(hn:ns.length<=63){np nd:Nat}{ps L:List Str}(p0:0 < ps.length)(p9:ps.length<=1000)(hL: ∀ x∈ps,x∈L){s1 s2 s3 s4 s5:List Str}{g:PH}(hN:eI g nd s1 s2 s3 s4 s5)(hp:g[np]?=some (.lst (ps.map PV.str)))
  (k many:Int) (o:Option Int) (k0:0<=k) (k9:k+84<=1000000) (m0:0<=many) (m9:many<=1000) :
  ∃(r:Rw)(k':Int)(o':Option Int),(cz L many.toNat r/\mC r)/\k<=k'/\k'<=k+84/\run pg (j+9) "_law_row" [.ref 1,.ref (nd+1+1),.ref (np+1+1),.int many] (aZ ns::aU k o::g)= .ok (cL r) (aZ ns::aU k' o'::g):=by
 have kk:=Bn (run pg (j+8)) (hN.up (aZ ns) (aU k o)) (some (.ref 1)) (some (.ref (np+1+1))) (some (.int many)) none none none none
 obtain⟨m1,m2,m3⟩:=vF
 have pre: ∃(g':PH)(c':Nat)(ks:List Str)(u5 u6:PV),(g++g')[c']?=some (.lst (ks.map PV.str))/\0 < ks.length/\ks.length<=100/\(∀ x∈ks,jx s1 s2 s3 s4 x)/\ ∀ rest, 
  ah (aj (aT (aa (eC (.str "let")) (aa (eC (.str "let")) (aa (eC (.str "leap")) (aa (eC (.str "clock")) (aa (eC (.str "lot")) ae)))))) (gN 4))
  (ah (jf (oV (aT (aa (aw (aa (eC (.str "box")) (aa (aT (aa (eC (.str "get")) (aa (eC (.str "put")) ae))) ae))) (aa (aw (aa (eC (.str "lock")) (aa (aT (aa (eC (.str "take")) (aa (eC (.str "free")) ae))) ae))) (aa (aw (aa (eC (.str "lane")) (aa (aT (aa (eC (.str "send")) (aa (eC (.str "fetch")) ae))) ae))) ae))))) (gT 2 (aL (gN 5) (aL (gN 6) dS))) (bz (ao (ag gS (ag aq (ab 1) (ab 5)) (aT ae))) (aj (ag aE (ag aE (ab 4) (ab 6)) (ab 6)) (gN 4)) bB))
  (ah (bz (ao (ag gS (ag aq (ab 1) (eC (.str "door"))) (aT ae))) (aj (ag aE (ab 4) (aT (aa (eC (.str "say")) (aa (eC (.str "hear")) (aa (eC (.str "say")) ae))))) (gN 4)) bB)
  rest)) (run pg (j+8)) [some (.ref 1),some (.ref (nd+1+1)),some (.ref (np+1+1)),some (.int many),none,none,none,none,none,none,none] (aZ ns::aU k o::g) =
  rest (run pg (j+8)) [some (.ref 1),some (.ref (nd+1+1)),some (.ref (np+1+1)),some (.int many),some (.ref (c'+1+1)),some u5,some u6,none,none,none,none] (aZ ns::aU k o::(g++g')):=by
  obtain⟨g',c,ks,u5,u6,h1,h2,h3,h4,h5⟩:=kk
  obtain⟨c',rfl,h1'⟩:=G5 (J:=g++g') h1
  exact⟨g',c',ks,u5,u6,h1',h2,h3,h4,h5⟩
 obtain⟨g',c',ks,u5,u6,hc,kp,kl,hk,ev⟩:=pre
 obtain⟨v,v0,v1,ev1⟩:=aV T (j+6) (g++g') hn o (k:=k) ks.length k0 (by omega) (by omega) (by omega)
 obtain⟨x,xm,ex⟩:=jJ v0 v1
 obtain⟨w,w0,w1,ew1⟩:=aV T (j+6) (g++g') hn o (k:=k+1) ps.length (by omega) (by omega) (by omega) (by omega)
 obtain⟨y,ym,ey⟩:=jJ w0 w1
 have hp':(g++g')[np]?=some (.lst (ps.map PV.str)):=(aS (bC hp)).trans hp
 have dk1:FX ((g++g').length+1+1) cx (aZ ns::aU (k+1+1) o::(g++g'++[.dct []]))= .ok (.ref ((g++g').length+1+1)) (aZ ns::aU (k+1+1) o::(g++g'++[.dct cx])):=by
  have:=mN (h:=aZ ns::aU (k+1+1) o::(g++g')) (kvs:=cx) (by decide)
  rw[m1] at this;exact this
 have dk2:FX ((g++g'++[PO.dct cx]).length+1+1) [((.inr "say" :Key),PV.str "door"),(.inr "hear",.str "door")] (aZ ns::aU (k+1+1) o::(g++g'++[PO.dct cx]++[.dct []]))= .ok (.ref ((g++g'++[PO.dct cx]).length+1+1)) (aZ ns::aU (k+1+1) o::(g++g'++[PO.dct cx]++[.dct [(.inr "say",.str "door"),(.inr "hear",.str "door")]])):=by
  have:=mN (h:=aZ ns::aU (k+1+1) o::(g++g'++[PO.dct cx])) (kvs:=[((.inr "say" :Key),PV.str "door"),(.inr "hear",.str "door")]) (by decide)
  rw[m2] at this;exact this
 generalize hJ:g++g'=J at *
 obtain⟨r,k',o',g2,t1,t2,t3,t4⟩:=Ab T j hn p0 p9 hL (J:=J++([.dct dE,.dct [(.inr "say",.str "door"),(.inr "hear",.str "door")]]:PH)) (sd:=J.length) (by rw[<- hJ];exact hN.app.app) (by rw[aS (bC hp')];exact hp') bE (k+1+1) many o (by omega) (by omega) m0 m9 (hk x xm) ym (some (.ref (c'+1+1))) (some u5) (some u6)
 refine⟨r,k',o',t1,by omega,by omega,?_⟩
 rw[run_eq T.uI rfl]
 unfold fB jC
 refine(congrArg (fin _) (ev _)).trans ?_
 have md: ∀ rr c e,Mo fW jD rr c e (.ref (J.length+1+1)) (aZ ns::aU (k+1+1) o::(J++[.dct cx]))=(rr c e (aZ ns::aU (k+1+1) o::(J++[.dct cx]))).bind (fW (.ref (J.length+1+1))):=fun rr c e=>Lr (MW (kvs:=cx) bE)
 have up:fW (.ref (J.length+1+1)) [.ref (J.length+(0+1)+1+1)] (aZ ns::aU (k+1+1) o::(J++[.dct cx,.dct [(.inr "say",.str "door"),(.inr "hear",.str "door")]]))= .ok .non (aZ ns::aU (k+1+1) o::(J++[.dct dE,.dct [(.inr "say",.str "door"),(.inr "hear",.str "door")]])):=by
  have:=N5 (h:=aZ ns::aU (k+1+1) o::(J++[.dct cx,.dct [(.inr "say",.str "door"),(.inr "hear",.str "door")]])) (n:=J.length+1+1) (m:=J.length+(0+1)+1+1) (kvs:=cx) (more:=[(.inr "say",.str "door"),(.inr "hear",.str "door")]) bE aK (by omega) (by decide)
  rw[m3] at this
  rw[this]
  simp only[List.set_cons_succ,eW,List.set_cons_zero]
 rw[List.length_append] at dk2
 simp only[List.append_assoc,List.cons_append,List.nil_append,List.length_cons,List.length_nil] at dk2
 unfold cx at dk1 md up dk2
 simp? [hc,ev1,ex,hp',ew1,ey,List.length_map,iO,kJ,i5,lx,lI,lg,dk1,dk2,md,up,↓t4,bU (mZ r)]
 rw[<- hJ,List.append_assoc]
 exact bU (mZ r)
end
end K13
end
section
open PySem L2 P3
set_option maxHeartbeats 1000000
namespace K13
noncomputable def qh:List Str:=["a", "ab", "abc", "lets", "leaper", "getit", "puts", "taken", "freed", "sender", "fetched", "says", "clocks", "lots", "hearth", "added", "subway", "mulled", "lesser", "samey", "nothing", "boxes", "locker", "lanes", "doors", "hands", "b", "zzzzzzzz", "of", "num"]
noncomputable def nA:List PV:=[.str "a",.str "ab",.str "abc",.str "lets",.str "leaper",.str "getit",.str "puts",.str "taken",.str "freed",.str "sender",.str "fetched",.str "says"]
noncomputable def nB:List PV:=[.str "clocks",.str "lots",.str "hearth",.str "added",.str "subway",.str "mulled",.str "lesser",.str "samey",.str "nothing"]
noncomputable def nC:List PV:=[.str "boxes",.str "locker",.str "lanes",.str "doors",.str "hands",.str "b",.str "zzzzzzzz",.str "of",.str "num"]
noncomputable def nD:List PV:=[.str "a",.str "ab",.str "abc",.str "lets",.str "leaper",.str "getit",.str "puts",.str "taken",.str "freed",.str "sender",.str "fetched",.str "says",.str "clocks",.str "lots",.str "hearth",.str "added",.str "subway",.str "mulled",.str "lesser",.str "samey",.str "nothing"]
noncomputable def nE:List PV:=[.str "a",.str "ab",.str "abc",.str "lets",.str "leaper",.str "getit",.str "puts",.str "taken",.str "freed",.str "sender",.str "fetched",.str "says",.str "clocks",.str "lots",.str "hearth",.str "added",.str "subway",.str "mulled",.str "lesser",.str "samey",.str "nothing",.str "boxes",.str "locker",.str "lanes",.str "doors",.str "hands",.str "b",.str "zzzzzzzz",.str "of",.str "num"]
theorem Ar: ∀ x∈qh,gD x:=by unfold gD;decide +kernel
theorem Ir:qh.Nodup:=by decide +kernel
theorem vv{x y:PO}{J:PH}{a b:Nat}{xs ys:List PV}(e1:J[a]?=some (.lst xs))(e2:J[b]?=some (.lst ys))(hl:xs.length+ys.length<=10000):aE (.ref (a+1+1)) (.ref (b+1+1)) (x::y::J)= .ok (.ref (J.length+1+1)) (x::y::(J++[.lst (xs++ys)])) :=
 mU (h:=x::y::J) (n:=a+1+1) (m:=b+1+1) e1 e2 (by omega)
section
variable{pg:Tb}(T:cI pg)
include T
theorem tT(j:Nat){ns:List Int}(hn:ns.length<=63)(k:Int)(o:Option Int)(g:PH)(k0:0<=k)(k9:k < 1000000) :
  ∃(g':PH)(n:Nat)(nm:List Str),(g++g')[n]?=some (.lst (nm.map PV.str))/\nm.length=30/\(∀ x∈nm,gD x)/\nm.Nodup/\run pg (j+3) "_law_names" [.ref 1] (aZ ns::aU k o::g)= .ok (.ref (n+1+1)) (aZ ns::aU (k+1) o::(g++g')):=by
 have ad1: ∀ x y,aE (.ref (g.length+1+1)) (.ref (g.length+(0+1)+1+1)) (x::y::(g++[.lst nA,.lst nB]))= .ok (.ref (g.length+(0+1+1)+1+1)) (x::y::(g++[.lst nA,.lst nB,.lst nD])):=fun x y=>by
  exact(vv (x:=x) (y:=y) (J:=g++[.lst nA,.lst nB]) (a:=g.length) (b:=g.length+(0+1)) bE aK (by decide)).trans (by simp only[List.append_assoc,List.length_append,List.cons_append,List.nil_append,List.length_cons,List.length_nil];rfl)
 have ad2: ∀ x y,aE (.ref (g.length+(0+1+1)+1+1)) (.ref (g.length+(0+1+1+1)+1+1)) (x::y::(g++[.lst nA,.lst nB,.lst nD,.lst nC]))= .ok (.ref (g.length+(0+1+1+1+1)+1+1)) (x::y::(g++[.lst nA,.lst nB,.lst nD,.lst nC,.lst nE])):=fun x y=>by
  exact(vv (x:=x) (y:=y) (J:=g++[.lst nA,.lst nB,.lst nD,.lst nC]) (a:=g.length+(0+1+1)) (b:=g.length+(0+1+1+1)) aK aK (by decide)).trans (by simp only[List.append_assoc,List.length_append,List.cons_append,List.nil_append,List.length_cons,List.length_nil];rfl)
 obtain⟨v,v0,v1,ev⟩:=aV T (j) (g++[.lst nA,.lst nB,.lst nD,.lst nC,.lst nE]) hn o (k:=k) 30 k0 k9 (by decide) (by decide)
 have hA:[.str "a",.str "ab",.str "abc",.str "lets",.str "leaper",.str "getit",.str "puts",.str "taken",.str "freed",.str "sender",.str "fetched",.str "says"]=nA:=rfl
 have hB:[.str "clocks",.str "lots",.str "hearth",.str "added",.str "subway",.str "mulled",.str "lesser",.str "samey",.str "nothing"]=nB:=rfl
 have hC:[.str "boxes",.str "locker",.str "lanes",.str "doors",.str "hands",.str "b",.str "zzzzzzzz",.str "of",.str "num"]=nC:=rfl
 have lA:nA.length=12:=rfl
 have lB:nB.length=9:=rfl
 have lC:nC.length=9:=rfl
 have lD:nD.length=21:=rfl
 have c30:((nE.length:Nat):Int)=30:=rfl
 have c1:dY nE (some v) none=(qh.drop v.toNat).map PV.str:=by rw[P3.fA v0,List.map_drop];rfl
 have c2:dY nE none (some v)=(qh.take v.toNat).map PV.str:=by rw[P3.oS v0,List.map_take];rfl
 have ad3: ∀ x y,aE (.ref (g.length+(0+1+1+1+1+1)+1+1)) (.ref (g.length+(0+1+1+1+1+1+1)+1+1)) (x::y::(g++[.lst nA,.lst nB,.lst nD,.lst nC,.lst nE,.lst ((qh.drop v.toNat).map PV.str),.lst ((qh.take v.toNat).map PV.str)]))= .ok (.ref (g.length+(0+1+1+1+1+1+1+1)+1+1)) (x::y::(g++[.lst nA,.lst nB,.lst nD,.lst nC,.lst nE,.lst ((qh.drop v.toNat).map PV.str),.lst ((qh.take v.toNat).map PV.str),.lst ((qh.drop v.toNat++qh.take v.toNat).map PV.str)])):=fun x y=>by
  have:=vv (x:=x) (y:=y) (J:=g++[.lst nA,.lst nB,.lst nD,.lst nC,.lst nE,.lst ((qh.drop v.toNat).map PV.str),.lst ((qh.take v.toNat).map PV.str)]) (a:=g.length+(0+1+1+1+1+1)) (b:=g.length+(0+1+1+1+1+1+1)) aK aK (by rw[List.length_map,List.length_map,List.length_drop,List.length_take];have:qh.length=30:=rfl;omega)
  rw[<- List.map_append] at this
  rw[this]
  simp only[List.append_assoc,List.length_append,List.cons_append,List.nil_append,List.length_cons,List.length_nil]
 refine⟨[.lst nA,.lst nB,.lst nD,.lst nC,.lst nE,.lst ((qh.drop v.toNat).map PV.str),.lst ((qh.take v.toNat).map PV.str),.lst ((qh.drop v.toNat++qh.take v.toNat).map PV.str)],g.length+(0+1+1+1+1+1+1+1),qh.drop v.toNat++qh.take v.toNat,aK,?_,fun x m=>?_,?_,?_⟩
 · rw[List.length_append,List.length_drop,List.length_take];have:qh.length=30:=rfl;omega
 · rcases List.mem_append.mp m with m | m
   · exact Ar x (List.mem_of_mem_drop m)
   · exact Ar x (List.mem_of_mem_take m)
 · exact(List.perm_append_comm.trans (by rw[List.take_append_drop])).nodup_iff.mpr Ir
 · rw[run_eq T.rX rfl]
   simp? [dM,gO,hA,hB,hC,ad1,ad2,c30,ev,c1,c2,ad3]
   exact uH (v:= .ref _) rfl
end
end K13
end
section
open PySem L2 P3
set_option maxHeartbeats 1000000
namespace K13
noncomputable def ND(h:PH)(a b:Option PO):RV PV:=match a,b with
 | some (.lst xs),some (.lst ys)=>CD (xs++ys) h
 | _,_=> .no
theorem Nn{n m:Nat}{h:PH}:aE (.ref n) (.ref m) h=ND h (h[n]?) (h[m]?):=by
 unfold aE ND
 first | rfl | (simp only;done) | (cases h[n]?<;>cases h[m]?<;>rfl)
theorem Hh{h:PH}{xs ys:List PV}(hl:xs.length+ys.length<=10000):ND h (some (.lst xs)) (some (.lst ys))= .ok (.ref h.length) (h++[.lst (xs++ys)]):=by
 unfold ND CD
 exact oH (by rw[List.length_append];omega)
theorem j3{n:Nat}{xs:List PV}{h:PH}(e:h[n]?=some (.lst xs)):iV.gx ⟨some n,xs⟩ h=true:=by
 unfold iV.gx
 simp only[e,true_or,decide_true]
theorem mO{nm:List Str}{v:Int}(h0:0<=v):dY (nm.map PV.str) none (some v)=(nm.take v.toNat).map PV.str:=by rw[P3.oS h0,List.map_take]
theorem yw{nm:List Str}{v:Int}(h0:0<=v):dY (nm.map PV.str) (some v) none=(nm.drop v.toNat).map PV.str:=by rw[P3.fA h0,List.map_drop]
theorem x8{a b c d e:PV}:c8 [] (.inr "box") a=[(.inr "box",a)]/\c8 [(.inr "box",a)] (.inr "lock") b=[(.inr "box",a),(.inr "lock",b)]/\c8 [(.inr "box",a),(.inr "lock",b)] (.inr "lane") c=[(.inr "box",a),(.inr "lock",b),(.inr "lane",c)] /\
  c8 [(.inr "box",a),(.inr "lock",b),(.inr "lane",c)] (.inr "door") d=[(.inr "box",a),(.inr "lock",b),(.inr "lane",c),(.inr "door",d)]/\c8 [(.inr "box",a),(.inr "lock",b),(.inr "lane",c),(.inr "door",d)] (.inr "hand") e=[(.inr "box",a),(.inr "lock",b),(.inr "lane",c),(.inr "door",d),(.inr "hand",e)]:=by
 refine⟨?_,?_,?_,?_,?_⟩<;>simp[c8,aI]
section
variable{pg:Tb}(T:cI pg)
include T
theorem zB(j : Nat){ns : List Int}(hn : ns.length <= 63)(k : Int)(o : Option Int)(g : PH){n : Nat}{nm : List Str}(hg : g[n]? = some (.lst (nm.map PV.str)))(k0 : 0 <= k)(k9 : k + 5 < 1000000)(nl : nm.length = 30) :
    ∃ m1 m2 m3 m4 m5 : Int, (0 <= m1 /\ m1 < 5) /\ (0 <= m2 /\ m2 < 5) /\ (0 <= m3 /\ m3 < 5) /\ (0 <= m4 /\ m4 < 5) /\ (0 <= m5 /\ m5 < 5) /\ ∀ rest : MS,
    ah (aj ng (gN 2))
    (ah (jf (oV (aT (aa (eC (.str "box")) (aa (eC (.str "lock")) (aa (eC (.str "lane")) (aa (eC (.str "door")) (aa (eC (.str "hand")) ae))))))) (gN 3) (ah (aj (af "_law_pick" (aa (ab 0) (aa (eC (.int 5)) ae))) (gN 4))
    (ah (bz (ao (ag cm (ab 3) (eC (.str "hand")))) (aj (ag aE (eC (.int 1)) (ag eL (ab 4) (eC (.int 4)))) (gN 4)) bB)
    (ah (jd hE (ab 2) (ab 3) (mE (ab 1) cH (cJ (ab 4))))
    (aj (mE (ab 1) (cJ (ab 4)) cH) (gN 1))))))
    rest) (run pg (j + 2)) [some (.ref 1), some (.ref (n + 1 + 1)), none, none, none, none, none, none, none] (aZ ns :: aU k o :: g) =
    rest (run pg (j + 2)) [some (.ref 1), some (.ref (g.length + 11 + 1 + 1)), some (.ref (g.length + 1 + 1)), some (.str "hand"), some (.int (1 + m5 % 4)), none, none, none, none] (aZ ns :: aU (k + 5) o :: (g ++
      [.dct [(.inr "box", .ref (g.length + 2 + 1 + 1)), (.inr "lock", .ref (g.length + 4 + 1 + 1)), (.inr "lane", .ref (g.length + 6 + 1 + 1)), (.inr "door", .ref (g.length + 8 + 1 + 1)), (.inr "hand", .ref (g.length + 10 + 1 + 1))],
       .lst [.str "box", .str "lock", .str "lane", .str "door", .str "hand"],
       .lst ((nm.take m1.toNat).map PV.str), .lst ((nm.drop m1.toNat).map PV.str),
       .lst (((nm.drop m1.toNat).take m2.toNat).map PV.str), .lst (((nm.drop m1.toNat).drop m2.toNat).map PV.str),
       .lst ((((nm.drop m1.toNat).drop m2.toNat).take m3.toNat).map PV.str), .lst ((((nm.drop m1.toNat).drop m2.toNat).drop m3.toNat).map PV.str),
       .lst (((((nm.drop m1.toNat).drop m2.toNat).drop m3.toNat).take m4.toNat).map PV.str), .lst (((((nm.drop m1.toNat).drop m2.toNat).drop m3.toNat).drop m4.toNat).map PV.str),
       .lst ((((((nm.drop m1.toNat).drop m2.toNat).drop m3.toNat).drop m4.toNat).take (1 + m5 % 4).toNat).map PV.str), .lst ((((((nm.drop m1.toNat).drop m2.toNat).drop m3.toNat).drop m4.toNat).drop (1 + m5 % 4).toNat).map PV.str)])) := by
  have lt := bC hg
  have old : ∀ G : PH, (g ++ G)[n]? = some (.lst (nm.map PV.str)) := fun G => (aS lt).trans hg
  obtain⟨m1, a1, b1, p1⟩ := aV T j (g ++ [.dct [], .lst [.str "box", .str "lock", .str "lane", .str "door", .str "hand"]]) hn o (k := k) 5 k0 (by omega) (by decide) (by decide)
  let G1 : PH := [.dct [(.inr "box", .ref (g.length + (0 + 1 + 1) + 1 + 1))], .lst [.str "box", .str "lock", .str "lane", .str "door", .str "hand"], .lst ((nm.take m1.toNat).map PV.str), .lst ((nm.drop m1.toNat).map PV.str)]
  obtain⟨m2, a2, b2, p2⟩ := aV T j (g ++ G1) hn o (k := k + 1) 5 (by omega) (by omega) (by decide) (by decide)
  let G2 : PH := [.dct [(.inr "box", .ref (g.length + (0 + 1 + 1) + 1 + 1)), (.inr "lock", .ref (g.length + (0 + 1 + 1 + 1 + 1) + 1 + 1))], .lst [.str "box", .str "lock", .str "lane", .str "door", .str "hand"], .lst ((nm.take m1.toNat).map PV.str), .lst ((nm.drop m1.toNat).map PV.str), .lst (((nm.drop m1.toNat).take m2.toNat).map PV.str), .lst (((nm.drop m1.toNat).drop m2.toNat).map PV.str)]
  obtain⟨m3, a3, b3, p3⟩ := aV T j (g ++ G2) hn o (k := k + 1 + 1) 5 (by omega) (by omega) (by decide) (by decide)
  let G3 : PH := [.dct [(.inr "box", .ref (g.length + (0 + 1 + 1) + 1 + 1)), (.inr "lock", .ref (g.length + (0 + 1 + 1 + 1 + 1) + 1 + 1)), (.inr "lane", .ref (g.length + (0 + 1 + 1 + 1 + 1 + 1 + 1) + 1 + 1))], .lst [.str "box", .str "lock", .str "lane", .str "door", .str "hand"], .lst ((nm.take m1.toNat).map PV.str), .lst ((nm.drop m1.toNat).map PV.str), .lst (((nm.drop m1.toNat).take m2.toNat).map PV.str), .lst (((nm.drop m1.toNat).drop m2.toNat).map PV.str),
       .lst ((((nm.drop m1.toNat).drop m2.toNat).take m3.toNat).map PV.str), .lst ((((nm.drop m1.toNat).drop m2.toNat).drop m3.toNat).map PV.str)]
  obtain⟨m4, a4, b4, p4⟩ := aV T j (g ++ G3) hn o (k := k + 1 + 1 + 1) 5 (by omega) (by omega) (by decide) (by decide)
  let G4 : PH := [.dct [(.inr "box", .ref (g.length + (0 + 1 + 1) + 1 + 1)), (.inr "lock", .ref (g.length + (0 + 1 + 1 + 1 + 1) + 1 + 1)), (.inr "lane", .ref (g.length + (0 + 1 + 1 + 1 + 1 + 1 + 1) + 1 + 1)), (.inr "door", .ref (g.length + (0 + 1 + 1 + 1 + 1 + 1 + 1 + 1 + 1) + 1 + 1))], .lst [.str "box", .str "lock", .str "lane", .str "door", .str "hand"], .lst ((nm.take m1.toNat).map PV.str), .lst ((nm.drop m1.toNat).map PV.str), .lst (((nm.drop m1.toNat).take m2.toNat).map PV.str), .lst (((nm.drop m1.toNat).drop m2.toNat).map PV.str),
       .lst ((((nm.drop m1.toNat).drop m2.toNat).take m3.toNat).map PV.str), .lst ((((nm.drop m1.toNat).drop m2.toNat).drop m3.toNat).map PV.str), .lst (((((nm.drop m1.toNat).drop m2.toNat).drop m3.toNat).take m4.toNat).map PV.str), .lst (((((nm.drop m1.toNat).drop m2.toNat).drop m3.toNat).drop m4.toNat).map PV.str)]
  obtain⟨m5, a5, b5, p5⟩ := aV T j (g ++ G4) hn o (k := k + 1 + 1 + 1 + 1) 5 (by omega) (by omega) (by decide) (by decide)
  refine⟨m1, m2, m3, m4, m5, ⟨a1, b1⟩, ⟨a2, b2⟩, ⟨a3, b3⟩, ⟨a4, b4⟩, ⟨a5, b5⟩, fun rest => ?_⟩
  have mm : 0 <= m5 % 4 := Int.emod_nonneg _ (by decide)
  dsimp only[G1, G2, G3, G4] at p2 p3 p4 p5
  have pu := fun a b c d e => x8 (a := a) (b := b) (c := c) (d := d) (e := e)
  simp? (disch := first | omega | exact j3 aK | (simp only[List.length_cons, List.length_nil] <;> omega)) only[old, jR, rT, cQ, mO, yw, fz, p1, p2, p3, p4, p5, (pu .non .non .non .non .non).1, fun a => (pu a .non .non .non .non).1, fun a b => (pu a b .non .non .non).2.1, fun a b c => (pu a b c .non .non).2.2.1, fun a b c d => (pu a b c d .non).2.2.2.1, fun a b c d e => (pu a b c d e).2.2.2.2]
  have kk : k + 1 + 1 + 1 + 1 + 1 = k + 5 := by omega
  rw[kk]
theorem yi(j:Nat){ns:List Int}(hn:ns.length<=63)(k:Int)(o:Option Int)(g:PH){n:Nat}{nm:List Str}(hg:g[n]?=some (.lst (nm.map PV.str)))(k0:0<=k)(k9:k+5 < 1000000)(nl:nm.length=30)(nk: ∀ x∈nm,gD x) :
  ∃(g':PH)(nn nd:Nat)(s1 s2 s3 s4 s5 n5:List Str)(u3 u4:Option PV),eI (g++g') nd s1 s2 s3 s4 s5/\(g++g')[nn]?=some (.lst (n5.map PV.str))/\n5.length<=30/\1<=s5.length/\s5.length<=4/\s1++(s2++(s3++(s4++(s5++n5))))=nm/\ ∀ rest:MS,
  ah (aj ng (gN 2))
  (ah (jf (oV (aT (aa (eC (.str "box")) (aa (eC (.str "lock")) (aa (eC (.str "lane")) (aa (eC (.str "door")) (aa (eC (.str "hand")) ae))))))) (gN 3) (ah (aj (af "_law_pick" (aa (ab 0) (aa (eC (.int 5)) ae))) (gN 4))
  (ah (bz (ao (ag cm (ab 3) (eC (.str "hand")))) (aj (ag aE (eC (.int 1)) (ag eL (ab 4) (eC (.int 4)))) (gN 4)) bB)
  (ah (jd hE (ab 2) (ab 3) (mE (ab 1) cH (cJ (ab 4))))
  (aj (mE (ab 1) (cJ (ab 4)) cH) (gN 1))))))
  rest) (run pg (j+2)) [some (.ref 1),some (.ref (n+1+1)),none,none,none,none,none,none,none] (aZ ns::aU k o::g) =
  rest (run pg (j+2)) [some (.ref 1),some (.ref (nn+1+1)),some (.ref (nd+1+1)),u3,u4,none,none,none,none] (aZ ns::aU (k+5) o::(g++g')):=by
 obtain⟨m1,m2,m3,m4,m5,⟨a1,b1⟩,⟨a2,b2⟩,⟨a3,b3⟩,⟨a4,b4⟩,⟨a5,b5⟩,h⟩:=zB T j hn k o g hg k0 k9 nl
 have q5:0<=m5 % 4/\m5 % 4 < 4:=⟨Int.emod_nonneg _ (by decide),Int.emod_lt_of_pos _ (by decide)⟩
 have tk: ∀{l:List Str}{m:Nat}{x:Str},x∈l.take m->x∈l:=fun h=>List.mem_of_mem_take h
 have dr: ∀{l:List Str}{m:Nat}{x:Str},x∈l.drop m->x∈l:=fun h=>List.mem_of_mem_drop h
 refine⟨_,_,_,nm.take m1.toNat,(nm.drop m1.toNat).take m2.toNat,((nm.drop m1.toNat).drop m2.toNat).take m3.toNat,(((nm.drop m1.toNat).drop m2.toNat).drop m3.toNat).take m4.toNat,((((nm.drop m1.toNat).drop m2.toNat).drop m3.toNat).drop m4.toNat).take (1+m5 % 4).toNat,((((nm.drop m1.toNat).drop m2.toNat).drop m3.toNat).drop m4.toNat).drop (1+m5 % 4).toNat,_,_,⟨⟨_,_,_,_,_,bE,aK,aK,aK,aK,aK⟩,⟨fun x m=>nk x (tk m),fun x m=>nk x (dr (tk m)),fun x m=>nk x (dr (dr (tk m))),fun x m=>nk x (dr (dr (dr (tk m))))⟩,?_⟩,aK,?_,?_,?_,by simp only[List.take_append_drop],h⟩
 · simp only[List.length_take,List.length_drop];omega
 · simp only[List.length_take,List.length_drop];omega
 · simp only[List.length_take,List.length_drop];omega
 · simp only[List.length_take,List.length_drop];omega
end
end K13
end
section
open PySem L2 P3
set_option maxHeartbeats 1000000
namespace K13
mutual
def IC:PV->Bool
 | .tup xs=>decide (xs.length<=100000)&&zo xs
 | .non=>true
 | .bl _=>true
 | .int _=>true
 | .str _=>true
 | _=>false
def zo:List PV->Bool
 | []=>true
 | x::r=>IC x&&zo r
end
mutual
def PU:PV->Nat
 | .tup xs=>Pc xs+1
 | _=>0
def Pc:List PV->Nat
 | []=>0
 | x::r=>max (PU x) (Pc r)
end
theorem dw{xs:List PV}{h:PH}:iV.gx ⟨none,xs⟩ h=true:=rfl
theorem Dq{v:Int}(h0:0<=v)(h1:v < 3): ∃ x:Str,eF [PV.str "a",.str "ab",.str "boxes"] v=some (.str x):=by
 have:v=0\/v=1\/v=2:=by omega
 rcases this with rfl | rfl | rfl<;>exact⟨_,rfl⟩
theorem JL{v w:Int}(h0:0<=v)(h1:v < 4): ∃ n:Int,eF [PV.int 0,.int 1,.int 999,.int w] v=some (.int n):=by
 have:v=0\/v=1\/v=2\/v=3:=by omega
 rcases this with rfl | rfl | rfl | rfl<;>exact⟨_,rfl⟩
theorem D4{v a b c:Int}(h0:0<=v)(h1:v < 4)(a0:0<=a)(a1:a < 4)(b0:0<=b)(b1:b < 6)(c0:0<=c)(c1:c < 6): ∃ n:Int,0<=n/\n<=30/\eF [PV.int a,.int (3+b),.int (3+c),.int 30] v=some (.int n):=by
 have:v=0\/v=1\/v=2\/v=3:=by omega
 rcases this with rfl | rfl | rfl | rfl
 · exact⟨a,a0,by omega,rfl⟩
 · exact⟨3+b,by omega,by omega,rfl⟩
 · exact⟨3+c,by omega,by omega,rfl⟩
 · exact⟨30,by decide,by decide,rfl⟩
section
variable{pg:Tb}(T:cI pg)
include T
theorem vc(j:Nat){ns:List Int}(hn:ns.length<=63)(k:Int)(o:Option Int)(J:PH){nn nd:Nat}{s1 s2 s3 s4 s5 n5:List Str}(hN:eI J nd s1 s2 s3 s4 s5)(h5:J[nn]?=some (.lst (n5.map PV.str)))(k0:0<=k)(k9:k+1 < 1000000)(u3 u4 n7 n8:Option PV) :
  ∃(G:PH)(np:Nat)(ps:List Str),(J++G)[np]?=some (.lst (ps.map PV.str))/\0 < ps.length/\ps.length<=5/\ ∀ rest:MS,
  ah (aj (ag aE (ag aE (ag aE (mE (ab 1) cH (cJ (eC (.int 2)))) (mE (ag aq (ab 2) (eC (.str "box"))) cH (cJ (eC (.int 1))))) (mE (ag aq (ab 2) (eC (.str "hand"))) cH (cJ (eC (.int 1))))) (aT (aa (ag aq (aT (aa (eC (.str "a")) (aa (eC (.str "ab")) (aa (eC (.str "boxes")) ae)))) (af "_law_pick" (aa (ab 0) (aa (eC (.int 3)) ae)))) ae))) (gN 5))
  (ah (aj (aT ae) (gN 6)) rest) (run pg (j+2)) [some (.ref 1),some (.ref (nn+1+1)),some (.ref (nd+1+1)),u3,u4,none,none,n7,n8] (aZ ns::aU k o::J) =
  rest (run pg (j+2)) [some (.ref 1),some (.ref (nn+1+1)),some (.ref (nd+1+1)),u3,u4,some (.ref (np+1+1)),some (.ref ((J++G).length+1+1)),n7,n8] (aZ ns::aU (k+1) o::(J++G++[.lst []])):=by
 obtain⟨⟨b1,b2,b3,b4,b5,e0,e1,e2,e3,e4,e5⟩,_,_⟩:=hN
 obtain⟨w1,w2,w3,w4,w5⟩:=iT (b1:=b1+1+1) (b2:=b2+1+1) (b3:=b3+1+1) (b4:=b4+1+1) (b5:=b5+1+1)
 have o0: ∀ G:PH,(J++G)[nd]?=_:=fun G=>(aS (bC e0)).trans e0
 have o1: ∀ G:PH,(J++G)[b1]?=_:=fun G=>(aS (bC e1)).trans e1
 have o5: ∀ G:PH,(J++G)[b5]?=_:=fun G=>(aS (bC e5)).trans e5
 let A:List PV:=(n5.take 2).map PV.str
 let B:List PV:=(s1.take 1).map PV.str
 let C:List PV:=(s5.take 1).map PV.str
 have t2:dY (n5.map PV.str) none (some 2)=A:=mO (by decide)
 have t1:dY (s1.map PV.str) none (some 1)=B:=mO (by decide)
 have t5:dY (s5.map PV.str) none (some 1)=C:=mO (by decide)
 have lA:A.length<=2:=by simp only[A,List.length_map,List.length_take];omega
 have lB:B.length<=1:=by simp only[B,List.length_map,List.length_take];omega
 have lC:C.length<=1:=by simp only[C,List.length_map,List.length_take];omega
 obtain⟨v,v0,v1,ev⟩:=aV T j (J++[.lst A,.lst B,.lst (A++B),.lst C,.lst (A++(B++C)),.lst [.str "a",.str "ab",.str "boxes"]]) hn o (k:=k) 3 k0 (by omega) (by decide) (by decide)
 obtain⟨x,ex⟩:=Dq v0 v1
 have eq:A++(B++(C++[PV.str x]))=(n5.take 2++(s1.take 1++(s5.take 1++[x]))).map PV.str:=by simp only[A,B,C,List.map_append,List.map_cons,List.map_nil]
 refine⟨[.lst A,.lst B,.lst (A++B),.lst C,.lst (A++(B++C)),.lst [.str "a",.str "ab",.str "boxes"],.lst [.str x],.lst (A++(B++(C++[.str x])))],J.length+(0+1+1+1+1+1+1+1),n5.take 2++(s1.take 1++(s5.take 1++[x])),?_,?_,?_,fun rest=>?_⟩
 · rw[<- eq];exact aK
 · simp only[List.length_append,List.length_cons];omega
 · simp only[List.length_append,List.length_cons,List.length_nil,List.length_take];omega
 · clear_value A B C
   simp? (disch:=first | omega | (simp only[List.length_append,List.length_cons,List.length_nil]<;>omega)) only[e0,o0,w1,w5,o1,o5,h5,t2,t1,t5,Nn,Hh,ev,ex]
theorem B9(j:Nat){ns:List Int}(hn:ns.length<=63){np nd:Nat}{ps L:List Str}(p0:0 < ps.length)(p9:ps.length<=1000)(hL: ∀ x∈ps,x∈L){s1 s2 s3 s4 s5:List Str}{g:PH}(hN:eI g nd s1 s2 s3 s4 s5)(hp:g[np]?=some (.lst (ps.map PV.str)))(many:Int)(m0:0<=many)(m9:many<=30)(xs0:List PV)(e1 e3 e6 e7 e8:Option PV) :
  ∀(xs ys:List PV)(k:Int)(o:Option Int),0<=k->k+84*xs.length<=1000000->ys.length+xs.length<=1000-> ∃(rs:List Rw)(k':Int)(o':Option Int),rs.length=xs.length/\(∀ r∈rs,cz L many.toNat r/\mC r)/\k<=k'/\k'<=k+84*xs.length /\
   je ⟨none,xs0⟩ (bD 1 (gN 9) eA (af "_law_row" (aa (ab 0) (aa (ab 2) (aa (ab 5) (aa (ab 4) ae))))) (run pg (j+9)) [some (.ref 1),e1,some (.ref (nd+1+1)),e3,some (.int many),some (.ref (np+1+1)),e6,e7,e8]) xs ys (aZ ns::aU k o::g)= .ok (ys++rs.map cL) (aZ ns::aU k' o'::g):=by
 intro xs
 induction xs with
 | nil=>intro ys k o k0 k9 _;exact⟨[],k,o,rfl,fun r m=>(nomatch m),by omega,by simp,by rw[P3.je,if_pos dw];simp⟩
 | cons x xs ih =>
  intro ys k o k0 k9 hl
  rw[List.length_cons] at k9 hl
  obtain⟨r,k1,o1,q1,q2,q3,q4⟩:=Jh T j hn p0 p9 hL hN hp k many o k0 (by omega) m0 (by omega)
  obtain⟨rs,k2,o2,r1,r2,r3,r4,r5⟩:=ih (ys++[cL r]) k1 o1 (by omega) (by omega) (by simp;omega)
  refine⟨r::rs,k2,o2,by simp[r1],fun z m=>?_,by omega,by rw[List.length_cons];omega,?_⟩
  · rcases List.mem_cons.mp m with rfl | m
    · exact q1
    · exact r2 z m
  · have st:bD 1 (gN 9) eA (af "_law_row" (aa (ab 0) (aa (ab 2) (aa (ab 5) (aa (ab 4) ae))))) (run pg (j+9)) [some (.ref 1),e1,some (.ref (nd+1+1)),e3,some (.int many),some (.ref (np+1+1)),e6,e7,e8] x (aZ ns::aU k o::g)= .ok (some (cL r)) (aZ ns::aU k1 o1::g):=by
     simp? [q4]
    have hz:ys.length < sizeLine:=Nat.lt_of_lt_of_le (show ys.length < 1001 by omega) (by decide)
    rw[P3.je,if_pos ⟨dw,hz⟩,st,bQ]
    simpa using r5
end
end K13
end
section
open PySem L2 P3
set_option maxHeartbeats 1000000
namespace K13
noncomputable def dP(h:Str × List Rw):PV:= .tup [.str h.1,aD h.2]
theorem oT: ∀ hs:List (Str × List Rw),PV.bF (hs.map dP)=true
 | []=>rfl
 | h::r=>by simp only[List.map_cons,PV.bF,oT r,dP,PV.flat,aD,qm,Bool.and_self]
theorem p7(n:Nat):(bX 0 n).length=n:=by
 rw[show bX 0 n=(List.range n).map (fun i:Nat=>PV.int (0+(i:Int))) from rfl,List.length_map,List.length_range]
section
variable{pg:Tb}(T:cI pg)
include T
theorem BO(j:Nat){ns:List Int}(hn:ns.length<=63){np nd b5:Nat}{ps L:List Str}(p0:0 < ps.length)(p9:ps.length<=1000)(hL: ∀ x∈ps,x∈L){s1 s2 s3 s4 s5:List Str}{B:PH}(hN:eI B nd s1 s2 s3 s4 s5)(hp:B[np]?=some (.lst (ps.map PV.str)))(h5:B[b5]?=some (.lst (s5.map PV.str)))(u1 u3 n8:Option PV) :
  ∀(xs:List Str)(hs:List (Str × List Rw))(k:Int)(o:Option Int)(g2:PH)(u4 u7:Option PV),0<=k->k+2600*xs.length<=1000000->hs.length+xs.length<=100-> ∃(hs':List (Str × List Rw))(k':Int)(o':Option Int)(g3:PH)(u4' u7':Option PV),
   hs'.length=xs.length/\(∀ h∈hs',h.2.length<=30/\ ∀ r∈h.2,cz L h.2.length r/\mC r)/\k<=k'/\k'<=k+2600*xs.length /\
   cg ⟨some (b5+1+1),s5.map PV.str⟩ (fL (gN 7) (ah (aj (ag aq (aT (aa (af "_law_pick" (aa (ab 0) (aa (eC (.int 4)) ae))) (aa (ag aE (eC (.int 3)) (af "_law_pick" (aa (ab 0) (aa (eC (.int 6)) ae)))) (aa (ag aE (eC (.int 3)) (af "_law_pick" (aa (ab 0) (aa (eC (.int 6)) ae)))) (aa (eC (.int 30)) ae))))) (af "_law_pick" (aa (ab 0) (aa (eC (.int 4)) ae)))) (gN 4))
  (fN (eM cR ee (ab 6) (aa (aw (aa (ab 7) (aa (eB bj (aa (pb 1 (eU (aa (ab 4) ae)) (gN 9) eA (af "_law_row" (aa (ab 0) (aa (ab 2) (aa (ab 5) (aa (ab 4) ae)))))) ae)) ae))) ae)))) (run pg (j+9))) (xs.map PV.str)
    [some (.ref 1),u1,some (.ref (nd+1+1)),u3,u4,some (.ref (np+1+1)),some (.ref (B.length+1+1)),u7,n8] (aZ ns::aU k o::(B++(.lst (hs.map dP)::g2))) =
   .ok (.nx [some (.ref 1),u1,some (.ref (nd+1+1)),u3,u4',some (.ref (np+1+1)),some (.ref (B.length+1+1)),u7',n8]) (aZ ns::aU k' o'::(B++(.lst ((hs++hs').map dP)::g3))):=by
 have fin1: ∀(k:Int)(o:Option Int)(g:PH),iV.gx ⟨some (b5+1+1),s5.map PV.str⟩ (aZ ns::aU k o::(B++g))=true:=fun k o g=>j3 (show(B++g)[b5]?=_ from(aS (bC h5)).trans h5)
 intro xs
 induction xs with
 | nil=>intro hs k o g2 u4 u7 k0 k9 _;exact⟨[],k,o,g2,u4,u7,rfl,fun h m=>(nomatch m),by omega,by simp,by rw[List.map_nil,rT (fin1 _ _ _),List.append_nil]⟩
 | cons x xs ih =>
  intro hs k o g2 u4 u7 k0 k9 hl
  rw[List.length_cons] at k9 hl
  obtain⟨a,a0,a1,ea⟩:=aV T (j+7) (B++(.lst (hs.map dP)::g2)) hn o (k:=k) 4 k0 (by omega) (by decide) (by decide)
  obtain⟨b,b0,b1,eb⟩:=aV T (j+7) (B++(.lst (hs.map dP)::g2)) hn o (k:=k+1) 6 (by omega) (by omega) (by decide) (by decide)
  obtain⟨c,c0,c1,ec⟩:=aV T (j+7) (B++(.lst (hs.map dP)::g2)) hn o (k:=k+1+1) 6 (by omega) (by omega) (by decide) (by decide)
  obtain⟨d,d0,d1,ed⟩:=aV T (j+7) (B++(.lst (hs.map dP)::(g2++[.lst [.int a,.int (3+b),.int (3+c),.int 30]]))) hn o (k:=k+1+1+1) 4 (by omega) (by omega) (by decide) (by decide)
  obtain⟨m,m0,m9,em⟩:=D4 d0 d1 a0 a1 b0 b1 c0 c1
  have ml:(bX 0 m.toNat).length=m.toNat:=p7 _
  obtain⟨rs,k1,o1,r1,r2,r3,r4,r5⟩:=B9 T j hn p0 p9 hL (g:=B++(.lst (hs.map dP)::(g2++[.lst [.int a,.int (3+b),.int (3+c),.int 30]]))) hN.app ((aS (bC hp)).trans hp) m m0 m9 (bX 0 m.toNat) u1 u3 (some (.ref (B.length+1+1))) (some (.str x)) n8 (bX 0 m.toNat) [] (k+1+1+1+1) o (by omega) (by omega) (by rw[ml];simp;omega)
  rw[ml] at r1 r4
  obtain⟨hs',k2,o2,g3,u4',u7',q1,q2,q3,q4,q5⟩:=ih (hs++[(x,rs)]) k1 o1 (g2++[.lst [.int a,.int (3+b),.int (3+c),.int 30],.lst (rs.map cL)]) (some (.int m)) (some (.str x)) (by omega) (by omega) (by simp;omega)
  refine⟨(x,rs)::hs',k2,o2,g3,u4',u7',by simp[q1],fun h mm=>?_,by omega,by rw[List.length_cons];omega,?_⟩
  · rcases List.mem_cons.mp mm with rfl | mm
    · exact⟨by show rs.length<=30;omega,fun r mr=>by show cz L rs.length r/\mC r;rw[r1];exact r2 r mr⟩
    · exact q2 h mm
  · rw[List.map_cons,jR (fin1 _ _ _)]
    have hz:(hs.map dP).length < 16777216:=by rw[List.length_map];omega
    have e2:(hs++[(x,rs)]).map dP=hs.map dP++[.tup [.str x,.tup (rs.map cL)]]:=by rw[List.map_append];rfl
    rw[e2] at q5
    rw[show hs++(x,rs)::hs'=hs++[(x,rs)]++hs' by simp]
    rw[List.nil_append] at r5
    simp? [ea,eb,ec,ed,em,r5,vI hz,cQ,q5]
theorem BU(j:Nat){ns:List Int}(hn:ns.length<=63){b1:Nat}{s1:List Str}{B:PH}(h1:B[b1]?=some (.lst (s1.map PV.str)))(o:Option Int)(e1 e2 e3 e4 e5 e6 e7 e8:Option PV) :
  ∀(xs:List Str)(ys:List PV)(k:Int)(g2:PH),0<=k->k+2*xs.length<=1000000->ys.length+xs.length<=1000-> ∃(bs:List PV)(k':Int)(g3:PH),PV.bF bs=true/\((∀ b∈bs,∃(x:Str)(n:Int),b= .tup [.str x,.int n])/\bs.length=xs.length)/\k<=k'/\k'<=k+2*xs.length /\
   je ⟨some (b1+1+1),s1.map PV.str⟩ (bD 1 (gN 9) eA (aw (aa (ab 9) (aa (ag aq (aT (aa (eC (.int 0)) (aa (eC (.int 1)) (aa (eC (.int 999)) (aa (af "_law_pick" (aa (ab 0) (aa (eC (.int 1000)) ae))) ae))))) (af "_law_pick" (aa (ab 0) (aa (eC (.int 4)) ae)))) ae))) (run pg (j+2)) [some (.ref 1),e1,e2,e3,e4,e5,e6,e7,e8]) (xs.map PV.str) ys (aZ ns::aU k o::(B++g2))= .ok (ys++bs) (aZ ns::aU k' o::(B++(g2++g3))):=by
 have fin1: ∀(k:Int)(o:Option Int)(g:PH),iV.gx ⟨some (b1+1+1),s1.map PV.str⟩ (aZ ns::aU k o::(B++g))=true:=fun k o g=>j3 (show(B++g)[b1]?=_ from(aS (bC h1)).trans h1)
 intro xs
 induction xs with
 | nil=>intro ys k g2 k0 k9 _;exact⟨[],k,[],rfl,⟨(fun b m=>nomatch m),rfl⟩,by omega,by simp,by rw[List.map_nil,P3.je,if_pos (fin1 _ _ _)];simp⟩
 | cons x xs ih =>
  intro ys k g2 k0 k9 hl
  rw[List.length_cons] at k9 hl
  obtain⟨a,a0,a1,ea⟩:=aV T j (B++g2) hn o (k:=k) 1000 k0 (by omega) (by decide) (by decide)
  obtain⟨b,b0,b1,eb⟩:=aV T j (B++(g2++[.lst [.int 0,.int 1,.int 999,.int a]])) hn o (k:=k+1) 4 (by omega) (by omega) (by decide) (by decide)
  obtain⟨n,en⟩:=JL (w:=a) b0 b1
  obtain⟨bs,k2,g3,q1,q5,q2,q3,q4⟩:=ih (ys++[.tup [.str x,.int n]]) (k+1+1) (g2++[.lst [.int 0,.int 1,.int 999,.int a]]) (by omega) (by omega) (by simp;omega)
  refine⟨.tup [.str x,.int n]::bs,k2,.lst [.int 0,.int 1,.int 999,.int a]::g3,by rw[PV.bF,q1];rfl,⟨fun b m=>(List.mem_cons.mp m).elim (fun e=>⟨x,n,e⟩) (q5.1 b),by simp[q5.2]⟩,by omega,by rw[List.length_cons];omega,?_⟩
  have st:bD 1 (gN 9) eA (aw (aa (ab 9) (aa (ag aq (aT (aa (eC (.int 0)) (aa (eC (.int 1)) (aa (eC (.int 999)) (aa (af "_law_pick" (aa (ab 0) (aa (eC (.int 1000)) ae))) ae))))) (af "_law_pick" (aa (ab 0) (aa (eC (.int 4)) ae)))) ae))) (run pg (j+2)) [some (.ref 1),e1,e2,e3,e4,e5,e6,e7,e8] (.str x) (aZ ns::aU k o::(B++g2))= .ok (some (.tup [.str x,.int n])) (aZ ns::aU (k+1+1) o::(B++(g2++[.lst [.int 0,.int 1,.int 999,.int a]]))):=by
   simp? [ea,eb,en]
  have hz:ys.length < sizeLine:=Nat.lt_of_lt_of_le (show ys.length < 1001 by omega) (by decide)
  rw[List.map_cons,P3.je,if_pos ⟨fin1 _ _ _,hz⟩,st,bQ]
  simpa using q4
end
end K13
end
section
open PySem L2 P3
set_option maxHeartbeats 1000000
namespace K13
noncomputable def aP:List Str:=["a", "ab", "boxes", "b", "lets"]
structure jz(L:List Str)(s2:List Str)(hs:List (Str × List Rw))(p:PV):Prop where
 len:L.length<=10
 OL: ∀ x∈aP,x∈L
 Ft:s2.length<=10
 PR:s2.Nodup
 many:1<=hs.length/\hs.length<=4
 rows: ∀ h∈hs,h.2.length<=30/\ ∀ r∈h.2,cz L h.2.length r
 PM: ∀ h∈hs,∀ r∈h.2,mC r
 at_: ∃ bs s3 s4:List PV,p= .tup [.tup bs,.tup (s2.map PV.str),.tup s3,.tup s4,.tup (hs.map dP)]
 flat:p.flat=true
 PQ: ∀ bs l2 l3 l4 l5:List PV,p= .tup [.tup bs,.tup l2,.tup l3,.tup l4,.tup l5]->(∀ b∈bs,∃(x:Str)(n:Int),b= .tup [.str x,.int n])/\bs.length<=10/\l2.length<=10/\l3.length<=10/\l4.length<=10
section
variable{pg:Tb}(T:cI pg)
include T
theorem om(j:Nat){ns:List Int}(hn:ns.length<=63)(k:Int)(o:Option Int)(g:PH)(k0:0<=k)(k9:k+11000<=1000000) :
  ∃(L s2:List Str)(hs:List (Str × List Rw))(p:PV)(k':Int)(o':Option Int),jz L s2 hs p/\k<=k'/\k'<=k+11000/\run pg (j+10) "_law_program" [.ref 1] (aZ ns::aU k o::g)= .ok p (aZ ns::aU k' o'::g):=by
 obtain⟨g1,n,nm,a1,a2,a3,a5,a4⟩:=tT T (j+6) hn k o g k0 (by omega)
 obtain⟨g2,nn,nd,s1,s2,s3,s4,s5,n5,u3,u4,b1,b2,b3,b4,b5,b7,b6⟩:=yi T (j+7) hn (k+1) o (g++g1) a1 (by omega) (by omega) a2 a3
 obtain⟨g3,np,ps,c1,c2,c3,c4⟩:=vc T (j+7) hn (k+1+5) o (g++g1++g2) b1 b2 (by omega) (by omega) u3 u4 none none
 have NB:eI (g++g1++g2++g3) nd s1 s2 s3 s4 s5:=b1.app
 generalize hB:g++g1++g2++g3=B at *
 have NB':=NB
 obtain⟨⟨x1,x2,x3,x4,x5,e0,e1,e2,e3,e4,e5⟩,_,l1,l2,l3,l4,l5⟩:=NB'
 obtain⟨w1,w2,w3,w4,w5⟩:=iT (b1:=x1+1+1) (b2:=x2+1+1) (b3:=x3+1+1) (b4:=x4+1+1) (b5:=x5+1+1)
 obtain⟨hs,k1,o1,g4,v4,v7,d1,d2,d3,d4,d5⟩:=BO T j hn (L:=ps++aP) c2 (by omega) (fun x m=>List.mem_append_left _ m) NB c1 e5 (some (.ref (nn+1+1))) u3 none s5 [] (k+1+5+1) o [] u4 none (by omega) (by omega) (by simp;omega)
 obtain⟨bs,k2,g5,f1,f5,f2,f3,f4⟩:=BU T (j+7) hn e1 o1 (some (.ref (nn+1+1))) (some (.ref (nd+1+1))) u3 v4 (some (.ref (np+1+1))) (some (.ref (B.length+1+1))) v7 none s1 [] k1 (.lst (hs.map dP)::g4) (by omega) (by omega) (by simp;omega)
 have pf:PV.flat (.tup [.tup bs,.tup (s2.map PV.str),.tup (s3.map PV.str),.tup (s4.map PV.str),.tup (hs.map dP)])=true:=by
  simp only[PV.flat,PV.bF,f1,lJ,oT,Bool.and_self]
 refine⟨ps++aP,s2,hs,_,k2,o1,⟨by simp only[List.length_append];have:aP.length=5:=rfl;omega,fun x m=>List.mem_append_right _ m,l2,by rw[<- b7] at a5;exact(List.nodup_append.mp (List.nodup_append.mp a5).2.1).1,by omega,(fun h m=>⟨(d2 h m).1,fun r mr=>((d2 h m).2 r mr).1⟩),(fun h m r mr=>((d2 h m).2 r mr).2),⟨bs,s3.map PV.str,s4.map PV.str,rfl⟩,pf,fun b' c2 c3 c4 c5 e=>by
  cases e
  exact⟨f5.1,by rw[f5.2];exact l1,by rw[List.length_map];exact l2,by rw[List.length_map];exact l3,by rw[List.length_map];exact l4⟩⟩,by omega,by omega,?_⟩
 rw[run_eq T.oN rfl]
 unfold cK fF
 have s0: ∀ rest,ah (aj (af "_law_names" (aa (ab 0) ae)) (gN 1)) rest (run pg (j+9)) [some (.ref 1),none,none,none,none,none,none,none,none] (aZ ns::aU k o::g)=rest (run pg (j+9)) [some (.ref 1),some (.ref (n+1+1)),none,none,none,none,none,none,none] (aZ ns::aU (k+1) o::(g++g1)):=fun rest=>by
  simp? [a4]
 refine(congrArg (fin _) ((s0 _).trans ((b6 _).trans (c4 _)))).trans ?_
 have o0: ∀ G:PH,(B++G)[nd]?=_:=fun G=>(aS (bC e0)).trans e0
 have y1: ∀ G:PH,(B++G)[x1]?=_:=fun G=>(aS (bC e1)).trans e1
 have y2: ∀ G:PH,(B++G)[x2]?=_:=fun G=>(aS (bC e2)).trans e2
 have y3: ∀ G:PH,(B++G)[x3]?=_:=fun G=>(aS (bC e3)).trans e3
 have y4: ∀ G:PH,(B++G)[x4]?=_:=fun G=>(aS (bC e4)).trans e4
 have y5: ∀ G:PH,(B++G)[x5]?=_:=fun G=>(aS (bC e5)).trans e5
 rw[List.map_nil,List.nil_append] at d5
 rw[List.nil_append,List.cons_append] at f4
 simp? [o0,w1,w2,w3,w4,w5,y1,y2,y3,y4,y5,d5,f4]
 rw[<- hB]
 simp only[List.append_assoc]
 exact bU pf
end
end K13
end
section
open PySem L2 P3
set_option maxHeartbeats 1000000
namespace K13
noncomputable def uE(a b:Int):List (Key × PV):=[(.inr "add",.int ((a+b) % 1000)),(.inr "sub",.int ((a - b) % 1000)),(.inr "mul",.int (a*b % 1000))]
theorem rg(a b:Int)(u v:PV):bA [] (uE a b)=uE a b/\c8 (uE a b) (.inr "less") u=uE a b++[(.inr "less",u)]/\c8 (uE a b++[(.inr "less",u)]) (.inr "same") v=uE a b++[(.inr "less",u),(.inr "same",v)]:=by
 refine⟨?_,?_,?_⟩<;>simp[uE,bA,c8,aI]
theorem JQ(o:Bo)(a b:Int):aW (uE a b++[(.inr "less",.int (if a < b then 1 else 0)),(.inr "same",.int (if a=b then 1 else 0))]) (.inr o.w)=some (.int (o.f a b)):=by
 cases o<;>simp[uE,aW,aI,Bo.w,Bo.f]
section
variable{pg:Tb}(T:cI pg)
include T
theorem su{D:Pk}{n:Nat}(hf: ∀ x,0<=fP D x/\fP D x<=999): ∀(e:Sm)(k:Nat)(h:PH),h[n]?=some (.dct (bL D))->e.ok->e.dp<=k->run pg (k+1) "_law_worth" [eE e,.ref n] h= .ok (.int (e.val (fP D))) h
 | .num i,k,h,hn,ho,hk=>by
  rw[run_eq T.eQ rfl]
  simp? [bG,cu,eE,Sm.val]
 | .of x,k,h,hn,ho,hk=>by
  rw[run_eq T.eQ rfl]
  simp? [bG,cu,eE,Sm.val,hn,vt]
 | .un a,k,h,hn,ho,hk=>by
  obtain⟨k,rfl⟩: ∃ j,k=j+1:=⟨k - 1,by unfold Sm.dp at hk;omega⟩
  have ih:=su hf a k h hn ho (by unfold Sm.dp at hk;omega)
  have e1:je ⟨none,[eE a]⟩ (bD 1 (gN 6) eA (af "_law_worth" (aa (ab 6) (aa (ab 1) ae))) (run pg (k+1)) [some (.tup [.str "not",eE a]),some (.ref n),none,none,none,none]) [eE a] [] h= .ok [.int (a.val (fP D))] h:=by
   have:=fM (it:=⟨none,[eE a]⟩) (h:=h) dw (step:=bD 1 (gN 6) eA (af "_law_worth" (aa (ab 6) (aa (ab 1) ae))) (run pg (k+1)) [some (.tup [.str "not",eE a]),some (.ref n),none,none,none,none]) (f:=fun e:Sm=>some (PV.int (e.val (fP D)))) (g:=eE) [a] [] (fun x m=>by
    rw[List.mem_singleton] at m;subst m
    simp? [ih]) (show 1+0<=16777216 by decide)
   exact this
  rw[run_eq T.eQ rfl]
  simp? [bG,cu,eE,Sm.val,Io,e1,rC]
  split<;>exact bh rfl
 | .bin o a b,k,h,hn,ho,hk=>by
  obtain⟨k,rfl⟩: ∃ j,k=j+1:=⟨k - 1,by unfold Sm.dp at hk;omega⟩
  have ih1:=su hf a k h hn ho.1 (by unfold Sm.dp at hk;omega)
  have ih2:=su hf b k h hn ho.2 (by unfold Sm.dp at hk;omega)
  have va:=Sm.lr hf a ho.1
  have vb:=Sm.lr hf b ho.2
  show run pg (k+1+1) "_law_worth" [.tup [.str o.w,eE a,eE b],.ref n] h= .ok (.int (o.f (a.val (fP D)) (b.val (fP D)))) h
  generalize a.val (fP D)=x at ih1 va ⊢
  generalize b.val (fP D)=y at ih2 vb ⊢
  have e1:je ⟨none,[eE a,eE b]⟩ (bD 1 (gN 6) eA (af "_law_worth" (aa (ab 6) (aa (ab 1) ae))) (run pg (k+1)) [some (.tup [.str o.w,eE a,eE b]),some (.ref n),none,none,none,none]) [eE a,eE b] [] h= .ok [.int x,.int y] h:=by
   have:=fM (it:=⟨none,[eE a,eE b]⟩) (h:=h) dw (step:=bD 1 (gN 6) eA (af "_law_worth" (aa (ab 6) (aa (ab 1) ae))) (run pg (k+1)) [some (.tup [.str o.w,eE a,eE b]),some (.ref n),none,none,none,none]) (f:=fun q:PV × Int=>some (PV.int q.2)) (g:=fun q:PV × Int=>q.1) [(eE a,x),(eE b,y)] [] (fun q m=>by
    rcases List.mem_cons.mp m with rfl | m
    · simp? [ih1]
    · rw[List.mem_singleton] at m;subst m
      simp? [ih2]) (show 2+0<=16777216 by decide)
   exact this
  rw[run_eq T.eQ rfl]
  have dk:FX (h.length+(0+1)) (uE x y) (h++[.lst [.int x,.int y],.dct []])= .ok (.ref (h.length+(0+1))) (h++[.lst [.int x,.int y],.dct (uE x y)]):=by
   have:=mN (h:=h++[.lst [.int x,.int y]]) (kvs:=uE x y) (show 3<=15 by decide)
   rw[(rg x y .non .non).1] at this
   simpa using this
  have l3:(uE x y).length < 16777216:=by show 3 < 16777216;decide
  have l4: ∀ u,(uE x y++[((.inr "less" :Key),u)]).length < 16777216:=fun u=>by show 4 < 16777216;decide
  have p3:=fun u=>(rg x y u .non).2.1
  have p4:=fun u v=>(rg x y u v).2.2
  have tv:=JQ o x y
  have ne: ¬ o.w= "not" :=by cases o<;>decide
  have n1: ¬ o.w= "num" :=by cases o<;>decide
  have n2: ¬ o.w= "of" :=by cases o<;>decide
  unfold uE at dk l3 l4 p3 p4 tv
  simp only[List.cons_append,List.nil_append] at l4 p3 p4 tv
  by_cases c2:x=y
  · subst c2
    have c1: ¬ x < x:=by omega
    simp only[c1,eq_self,if_true,if_false,reduceIte] at tv
    simp? (disch:=first | omega | exact l3 | exact l4 _) only[bG,cu,n1,n2,ne,c1,eq_self,Io,e1,wz,AN,xa,iO,kJ,i5,lx,lI,lg,dk,fz,p3,p4,tv]
    exact bh (v:= .int _) rfl
  · by_cases c1:x < y<;>simp only[c1,c2,if_true,if_false,reduceIte] at tv <;>
     (simp? (disch:=first | omega | exact l3 | exact l4 _) only[bG,cu,n1,n2,ne,c1,c2,Io,e1,wz,AN,xa,iO,kJ,i5,lx,lI,lg,dk,fz,p3,p4,tv];exact bh (v:= .int _) rfl)
end
end K13
end
section
open PySem L2 P3
set_option maxHeartbeats 1000000
namespace K13
structure tS(L:List Str)(D:Pk):Prop where
 nd:(D.map (·.1)).Nodup
 mem: ∀ q∈D,q.1∈L/\0<=q.2/\q.2<=999
noncomputable def putD(D:Pk)(x:Str)(v:Int):Pk:=if x∈D.map (·.1) then D.map (fun q=>if q.1=x then(q.1,v) else q) else D++[(x,v)]
theorem vm(D:Pk)(x:Str)(v:Int):(D.map (fun q=>if q.1=x then(q.1,v) else q)).map (·.1)=D.map (·.1):=by
 rw[List.map_map]
 refine List.map_congr_left fun q _=>?_
 show(if q.1=x then(q.1,v) else q).1=q.1
 split<;>rfl
theorem iK(D:Pk)(x:Str)(v:Int):c8 (bL D) (.inr x) (.int v)=bL (putD D x v):=by
 unfold c8 putD
 have e:((bL D).any fun kv=>decide (kv.1= .inr x))=decide (x∈D.map (·.1)):=by
  rw[Bool.eq_iff_iff]
  simp only[List.any_eq_true,decide_eq_true_eq,bL,List.mem_map]
  constructor
  · rintro ⟨kv,⟨q,m,rfl⟩,e⟩;exact⟨q,m,Sum.inr.inj e⟩
  · rintro ⟨q,m,rfl⟩;exact⟨_,⟨q,m,rfl⟩,rfl⟩
 rw[e]
 by_cases h:x∈D.map (·.1)
 · rw[if_pos (by simpa only[decide_eq_true_eq] using h),if_pos h]
   unfold bL
   rw[List.map_map];rw[List.map_map]
   refine List.map_congr_left fun q _=>?_
   show(if (Sum.inr q.1:Key)=Sum.inr x then((Sum.inr q.1:Key),PV.int v) else(Sum.inr q.1,PV.int q.2))=_
   by_cases z:q.1=x
   · rw[if_pos (by rw[z])];simp[z]
   · rw[if_neg (fun e=>z (Sum.inr.inj e))];simp[z]
 · rw[if_neg (by simpa only[decide_eq_true_eq] using h),if_neg h]
   unfold bL
   rw[List.map_append];rfl
theorem uY(x:Str)(v:Int)(y:Str): ∀ D:Pk,x∈D.map (·.1)->fP (D.map (fun q=>if q.1=x then(q.1,v) else q)) y=if y=x then v else fP D y
 | q::r,h=>by
  rw[List.map_cons,fP,fP]
  by_cases z:q.1=x
  · rw[if_pos z]
    by_cases w:y=x
    · subst w;rw[if_pos z,if_pos rfl]
    · rw[if_neg (fun e=>w (e.symm.trans z)),if_neg w,if_neg (fun e=>w (e.symm.trans z))]
      by_cases hr:x∈r.map (·.1)
      · rw[uY x v y r hr,if_neg w]
      · congr 1
        refine(List.map_congr_left fun p m=>?_).trans (List.map_id _)
        show(if p.1=x then(p.1,v) else p)=p
        rw[if_neg (fun e=>hr (List.mem_map.mpr ⟨p,m,e⟩))]
  · rw[if_neg z]
    have hr:x∈r.map (·.1):=by
     rcases List.mem_cons.mp h with e | m
     · exact absurd e.symm z
     · exact m
    rw[uY x v y r hr]
    by_cases w:q.1=y
    · rw[if_pos w,if_pos w,if_neg (fun e=>z (w.trans e))]
    · rw[if_neg w,if_neg w]
theorem zQ(x:Str)(v:Int)(y:Str): ∀ D:Pk,x ∉ D.map (·.1)->fP (D++[(x,v)]) y=if y=x then v else fP D y
 | [],_=>by
  rw[List.nil_append,fP,fP]
  by_cases w:y=x
  · rw[if_pos w,if_pos w.symm]
  · rw[if_neg w,if_neg (fun e=>w e.symm)];rfl
 | q::r,h=>by
  rw[List.map_cons,List.mem_cons,not_or] at h
  rw[List.cons_append,fP,fP,zQ x v y r h.2]
  by_cases w:q.1=y
  · rw[if_pos w,if_pos w,if_neg (fun e=>h.1 (e.symm.trans w.symm))]
  · rw[if_neg w,if_neg w]
theorem wF(D:Pk)(x:Str)(v:Int)(y:Str):fP (putD D x v) y=if y=x then v else fP D y:=by
 unfold putD
 split
 · rename_i h;exact uY x v y D h
 · rename_i h;exact zQ x v y D h
theorem wm{L:List Str}{D:Pk}{x:Str}{v:Int}(h:tS L D)(hx:x∈L)(h0:0<=v)(h9:v<=999):tS L (putD D x v):=by
 unfold putD
 split
 · refine⟨by rw[vm];exact h.nd,fun q m=>?_⟩
   obtain⟨p,mp,rfl⟩:=List.mem_map.mp m
   by_cases z:p.1=x
   · rw[if_pos z];exact⟨(h.mem p mp).1,h0,h9⟩
   · rw[if_neg z];exact h.mem p mp
 · rename_i hn
   refine⟨?_,fun q m=>?_⟩
   · rw[List.map_append]
     refine List.nodup_append.mpr ⟨h.nd,by simp,fun a ha b hb e=>?_⟩
     have hb':b=x:=by simpa using hb
     exact hn (by rw[<- hb',<- e];exact ha)
   · rcases List.mem_append.mp m with m | m
     · exact h.mem q m
     · rw[List.mem_singleton.mp m];exact⟨hx,h0,h9⟩
theorem tS.yJ{L:List Str}{D:Pk}(h:tS L D): ∀ x,0<=fP D x/\fP D x<=999:=fun x=>by
 by_cases hx:x∈D.map (·.1)
 · obtain⟨q,m,rfl⟩:=List.mem_map.mp hx
   rw[lj h.nd q m];exact(h.mem q m).2
 · rw[jA hx];decide
end K13
end
section
open PySem L2 P3
set_option maxHeartbeats 1000000
namespace K13
theorem set_same{h:PH}{n:Nat}{o:PO}(e:h[n]?=some o):h.set n o=h:=by
 refine List.ext_getElem? fun i=>?_
 by_cases z:n=i
 · subst z;rw[List.getElem?_set_self (bC e),e]
 · rw[List.getElem?_set_ne z]
section
variable{pg:Tb}(T:cI pg)
include T
theorem gL(k:Nat)(h:PH)(n:Nat){rs:List Rw}{s:aG}(hs:s.row<=rs.length)(hr:ba rs s=true):run pg (k+1) "_law_own" [aD rs,.int s.row,.ref n,cA s.held] h= .ok .non h:=by
 rw[run_eq T.nO rfl]
 cases e:rs[s.row]? with
 | none =>
  have:s.row=rs.length:=by have:=List.getElem?_eq_none_iff.mp e;omega
  simp? [bt,bM,aD,this,List.length_map]
 | some r =>
  have hlt:s.row < rs.length:=(List.getElem?_eq_some_iff.mp e).1
  have ne: ¬ (s.row:Int)=(rs.length:Int):=by omega
  have ix:=kD (h:=h) (ef e)
  have ho:own s.held r=false:=by unfold ba at hr;rw[e] at hr;simpa using hr
  cases r with
  | take l =>
   have hl: ¬ l∈s.held:=by simpa [own] using ho
   simp? [bt,bM,aD,ne,ix,cL,Rw.w,Rw.ps,cA,hl,List.length_map]
  | free l =>
   have hl:l∈s.held:=by simpa [own] using ho
   simp? [bt,bM,aD,ne,ix,cL,Rw.w,Rw.ps,cA,hl,List.length_map]
  | let_ x e0=>exact nomatch ho
  | leap x e0=>exact nomatch ho
  | _=>simp? [bt,bM,aD,ne,ix,cL,Rw.w,Rw.ps,cA,List.length_map]
theorem gR(k:Nat)(h:PH)(n:Nat){L:List Str}{rs:List Rw}{s:aG}{r:Rw}{D:Pk}(e:rs[s.row]?=some r)(ho:own s.held r=true)(hr:cz L rs.length r)(hn:h[n]?=some (.dct (bL D)))(hD:tS L D)(hf: ∀ x,fP D x=fP s.ps x)(nd:(s.ps.map (·.1)).Nodup)(dl:D.length<=1000) :
  ∃ D':Pk,tS L D'/\(∀ x,fP D' x=fP (behind s r).ps x)/\D'.length<=D.length+1/\run pg (k+9) "_law_own" [aD rs,.int s.row,.ref n,cA s.held] h= .ok (.int (behind s r).row) (h.set n (.dct (bL D'))):=by
 have hlt:s.row < rs.length:=(List.getElem?_eq_some_iff.mp e).1
 have ne: ¬ (s.row:Int)=(rs.length:Int):=by omega
 have ix:=kD (h:=h) (ef e)
 have ff:fP D=fP s.ps:=funext hf
 have w: ∀ e0:Sm,l8 e0->run pg (k+8) "_law_worth" [eE e0,.ref n] h= .ok (.int (e0.val (fP s.ps))) h:=fun e0 he=>by
  rw[<- ff];exact su T hD.yJ e0 (k+7) h hn he.1 (by have:=he.2;omega)
 have hl9:(bL D).length < 16777216:=by unfold bL;rw[List.length_map];omega
 rw[run_eq T.nO rfl]
 cases r with
 | let_ x e0 =>
  have hv:=Sm.lr (f:=fP s.ps) (by rw[<- ff];exact hD.yJ) e0 hr.2.1
  refine⟨putD D x (e0.val (fP s.ps)),wm hD hr.1 hv.1 hv.2,fun y=>?_,?_,?_⟩
  · rw[wF,behind,zD nd,hf]
  · unfold putD;split<;>simp
  · simp? [bt,bM,aD,ne,ix,cL,Rw.w,Rw.ps,cA,List.length_map,w e0 hr.2,hn,fz hl9,iK,lZ (o:=PO.dct (bL D)),behind]
    rfl
 | leap j e0 =>
  refine⟨D,hD,fun y=>?_,by omega,?_⟩
  · rw[hf];show _=fP (if e0.val (fP s.ps)=0 then(⟨s.row+1,s.ps,s.held⟩:aG) else⟨j.toNat,s.ps,s.held⟩).ps y;split<;>rfl
  · rw[set_same hn]
    have hv:=Sm.lr (f:=fP s.ps) (by rw[<- ff];exact hD.yJ) e0 hr.2.2.1
    by_cases z:e0.val (fP s.ps)=0
    · have z': ¬ 0 < e0.val (fP s.ps):=by omega
      simp? [bt,bM,aD,ne,ix,cL,Rw.w,Rw.ps,cA,List.length_map,w e0 hr.2.2,z',behind,z]
      rfl
    · have z':0 < e0.val (fP s.ps):=by omega
      have jj:((j.toNat:Nat):Int)=j:=by have:=hr.1;omega
      simp? [bt,bM,aD,ne,ix,cL,Rw.w,Rw.ps,cA,List.length_map,w e0 hr.2.2,z',behind,z,jj]
 | take l =>
  have hl:l∈s.held:=by simpa [own] using ho
  refine⟨D,hD,hf,by omega,?_⟩
  rw[set_same hn]
  simp? [bt,bM,aD,ne,ix,cL,Rw.w,Rw.ps,cA,hl,behind,List.length_map]
  rfl
 | free l =>
  have hl: ¬ l∈s.held:=by simpa [own] using ho
  refine⟨D,hD,hf,by omega,?_⟩
  rw[set_same hn]
  simp? [bt,bM,aD,ne,ix,cL,Rw.w,Rw.ps,cA,hl,behind,List.length_map]
  rfl
 | _=>exact nomatch ho
end
end K13
end
section
open PySem L2 P3
set_option maxHeartbeats 1000000
namespace K13
theorem j6{t:ax->PH->RV Bool}{b:ax->PH->RV Fl}{f:Nat}{e:ax}{h h1:PH}(ht:t e h= .ok false h1):dh t b (f+1) e h= .ok (.nx e) h1:=by
 rw[dh,ht,bQ];rfl
theorem qu{t:ax->PH->RV Bool}{b:ax->PH->RV Fl}{f:Nat}{e e1:ax}{h h1 h2:PH}(ht:t e h= .ok true h1)(hb:b e h1= .ok (.nx e1) h2):dh t b (f+1) e h=dh t b f e1 h2:=by
 rw[dh,ht,bQ,if_pos rfl,hb,bQ]
theorem pO{h g:PH}{D:Pk}(nd:(D.map (·.1)).Nodup)(dl:D.length<=1000):eN [.ref h.length] (h++ .dct (bL D)::g)= .ok (.ref (h.length+(g.length+1))) (h++ .dct (bL D)::(g++[.dct (bL D)])):=by
 have e:(h++ .dct (bL D)::g)[h.length]?=some (.dct (bL D)):=bE
 have z:(bL D).length<=sizeLine:=by unfold bL;rw[List.length_map];exact Nat.le_trans dl (by decide)
 simp only[eN,e,if_pos z,j5 nd,List.length_append,List.length_cons,List.append_assoc,List.cons_append]
theorem tS.len{L:List Str}{D:Pk}(h:tS L D):D.length<=L.length:=by
 have:=List.Nodup.length_le_of_subset h.nd (l₂ :=L) (fun x hx=>by obtain⟨q,hq,rfl⟩:=List.mem_map.mp hx;exact(h.mem q hq).1)
 simpa using this
theorem fU(s:aG)(r:Rw):(behind s r).held=s.held:=by
 cases r with
 | leap j e0=>show(if e0.val (fP s.ps)=0 then(⟨s.row+1,s.ps,s.held⟩:aG) else⟨j.toNat,s.ps,s.held⟩).held=s.held;split<;>rfl
 | _=>rfl
theorem jH{rs:List Rw}{s:aG}(h:ba rs s=false): ∃ r,rs[s.row]?=some r/\own s.held r=true:=by
 unfold ba at h
 cases e:rs[s.row]? with
 | none=>rw[e] at h;exact nomatch h
 | some r=>rw[e] at h;exact⟨r,rfl,by simpa using h⟩
section
variable{pg:Tb}(T:cI pg)
include T
theorem yk(k:Nat)(h:PH){L:List Str}(hL:L.length<=20){rs:List Rw}(hr: ∀ r∈rs,cz L rs.length r)(s0:aG): ∀(m i:Nat)(t:aG)(D:Pk)(g:PH)(a0:Int)(u6:Option PV)(f:Nat),i+m=199->m+2<=f->cj L rs t->t.held=s0.held->tS L D->(∀ x,fP D x=fP t.ps x) ->
  ∃(n':Nat)(D':Pk)(G:PH)(p':Int)(u6':Option PV),(h++G)[n']?=some (.dct (bL D'))/\tS L D'/\(∀ x,fP D' x=fP (aF rs m t).ps x) /\
  dh (ao (oO (dR true) (ab 5)) (run pg (k+9))) ((ah (aj (ab 5) (gN 3))
  (ah (aj (ag aE (ab 4) (eC (.int 1))) (gN 4))
  (ah (aj (eB eN (aa (ab 2) ae)) (gN 6))
  (ah (aj (af "_law_own" (aa (ab 0) (aa (ab 3) (aa (ab 2) (aa (ag aq (ab 1) (eC (.int 2))) ae))))) (gN 5))
  (bz (oQ (ao (ag cm (ab 4) (eC (.int 200)))) (ao (oO (dR true) (ab 5)))) (ah (aj (ab 6) (gN 2))
  (ah (aj (eB bY (aa (ab 0) ae)) (gN 3))
  (aj (eC .non) (gN 5)))) bB))))) (run pg (k+9))) f [some (aD rs),some (ak s0),some (.ref h.length),some (.int a0),some (.int i),some (.int t.row),u6] (h++ .dct (bL D)::g) =
  .ok (.nx [some (aD rs),some (ak s0),some (.ref n'),some (.int (aF rs m t).row),some (.int p'),some .non,u6']) (h++G):=by
 intro m
 induction m with
 | zero =>
  intro i t D g a0 u6 f hi hf hs hh hD hp
  obtain⟨f,rfl⟩: ∃ j,f=j+1+1:=⟨f - 2,by omega⟩
  have ct:=pO (h:=h) (g:=g) hD.nd (by have:=hD.len;omega)
  have p200:(i:Int)+1=200:=by omega
  have hd:aq (ak s0) (.int 2) (h++ .dct (bL D)::(g++[.dct (bL D)]))= .ok (cA t.held) (h++ .dct (bL D)::(g++[.dct (bL D)])):=by rw[hh];rfl
  cases r1:ba rs t with
  | true =>
   have on:=gL T (k+8) (h++ .dct (bL D)::(g++[.dct (bL D)])) h.length hs.le r1
   have fr:aF rs 0 t=t:=by unfold aF;rw[if_pos r1]
   refine⟨h.length,D,.dct (bL D)::(g++[.dct (bL D)]),i+1,some (.ref (h.length+(g.length+1))),bE,hD,by rw[fr];exact hp,?_⟩
   rw[fr]
   rw[qu (h1:=h++ .dct (bL D)::g) (e1:=[some (aD rs),some (ak s0),some (.ref h.length),some (.int t.row),some (.int (i+1)),some .non,some (.ref (h.length+(g.length+1)))]) (h2:=h++ .dct (bL D)::(g++[.dct (bL D)])) ?_ ?_]
   · refine j6 ?_
     simp? [List.map_nil]
   · simp? [List.map_nil]
   · simp? [ct,hd,on,p200]
  | false =>
   obtain⟨r,e,ho⟩:=jH r1
   obtain⟨D1,q1,q2,q3,q4⟩:=gR T k (h++ .dct (bL D)::(g++[.dct (bL D)])) h.length e ho (hr r (List.mem_of_getElem? e)) bE hD hp hs.pk.nd (by have:=hD.len;omega)
   rw[eW,List.set_cons_zero] at q4
   have fr:aF rs 0 t=⟨rs.length,t.ps,t.held⟩:=by unfold aF;rw[if_neg (by simp[r1])]
   refine⟨h.length+(g.length+1),D,.dct (bL D1)::(g++[.dct (bL D)]),i+1,some (.ref (h.length+(g.length+1))),by rw[aK,List.getElem?_cons_succ];exact bE,hD,by rw[fr];exact hp,?_⟩
   rw[fr]
   rw[qu (h1:=h++ .dct (bL D)::g) (e1:=[some (aD rs),some (ak s0),some (.ref (h.length+(g.length+1))),some (.int rs.length),some (.int (i+1)),some .non,some (.ref (h.length+(g.length+1)))]) (h2:=h++ .dct (bL D1)::(g++[.dct (bL D)])) ?_ ?_]
   · refine j6 ?_
     simp? [List.map_nil]
   · simp? [List.map_nil]
   · have rl:bY [aD rs] (h++ .dct (bL D1)::(g++[.dct (bL D)]))= .ok (.int rs.length) (h++ .dct (bL D1)::(g++[.dct (bL D)])):=by unfold aD;rw[len_T,List.length_map]
     simp? [ct,hd,q4,p200,rl]
 | succ m ih =>
  intro i t D g a0 u6 f hi hf hs hh hD hp
  obtain⟨f,rfl⟩: ∃ j,f=j+1+1:=⟨f - 2,by omega⟩
  have ct:=pO (h:=h) (g:=g) hD.nd (by have:=hD.len;omega)
  have n200: ¬ (i:Int)+1=200:=by omega
  have hd:aq (ak s0) (.int 2) (h++ .dct (bL D)::(g++[.dct (bL D)]))= .ok (cA t.held) (h++ .dct (bL D)::(g++[.dct (bL D)])):=by rw[hh];rfl
  cases r1:ba rs t with
  | true =>
   have on:=gL T (k+8) (h++ .dct (bL D)::(g++[.dct (bL D)])) h.length hs.le r1
   have fr:aF rs (m+1) t=t:=by unfold aF;rw[if_pos r1]
   refine⟨h.length,D,.dct (bL D)::(g++[.dct (bL D)]),i+1,some (.ref (h.length+(g.length+1))),bE,hD,by rw[fr];exact hp,?_⟩
   rw[fr]
   rw[qu (h1:=h++ .dct (bL D)::g) (e1:=[some (aD rs),some (ak s0),some (.ref h.length),some (.int t.row),some (.int (i+1)),some .non,some (.ref (h.length+(g.length+1)))]) (h2:=h++ .dct (bL D)::(g++[.dct (bL D)])) ?_ ?_]
   · refine j6 ?_
     simp? [List.map_nil]
   · simp? [List.map_nil]
   · simp? [ct,hd,on,n200]
  | false =>
   obtain⟨r,e,ho⟩:=jH r1
   have hm:=hr r (List.mem_of_getElem? e)
   obtain⟨D1,q1,q2,q3,q4⟩:=gR T k (h++ .dct (bL D)::(g++[.dct (bL D)])) h.length e ho hm bE hD hp hs.pk.nd (by have:=hD.len;omega)
   rw[eW,List.set_cons_zero] at q4
   have fr:aF rs (m+1) t=aF rs m (behind t r):=by rw[aF,if_neg (by simp[r1]),e]
   obtain⟨n',D',G,p',u6',w1,w2,w3,w4⟩:=ih (i+1) (behind t r) D1 (g++[.dct (bL D)]) t.row (some (.ref (h.length+(g.length+1)))) (f+1) (by omega) (by omega) (eV hs hm e) (by rw[fU];exact hh) q1 q2
   refine⟨n',D',G,p',u6',w1,w2,by rw[fr];exact w3,?_⟩
   rw[fr]
   rw[qu (h1:=h++ .dct (bL D)::g) (e1:=[some (aD rs),some (ak s0),some (.ref h.length),some (.int t.row),some (.int ((i+1:Nat):Int)),some (.int (behind t r).row),some (.ref (h.length+(g.length+1)))]) (h2:=h++ .dct (bL D1)::(g++[.dct (bL D)])) ?_ ?_]
   · exact w4
   · simp? [List.map_nil]
   · simp? [ct,hd,q4,n200]
     rfl
end
end K13
end
section
open PySem L2 P3
set_option maxHeartbeats 1000000
namespace K13
theorem AY{a b:MS}{c:CF}{e e1:ax}{h h1:PH}(q:a c e h= .ok (.nx e1) h1):ah a b c e h=b c e1 h1:=by rw[BH,q,tq,wk]
theorem zS{t:MT}{b:MS}{c:CF}{e:ax}{h:PH}:qK t b c e h=dh (t c) (b c) 100000 e h:=(rfl)
theorem bN(ss:List Str):(aM ss).Perm ss:=List.mergeSort_perm ss _
theorem i3{ss:List Str}(nd:ss.Nodup):(aM ss).Pairwise hI:=by
 have h1:(aM ss).Pairwise fun a b=>my a b=true:=List.pairwise_mergeSort gF (fun a b=>by simpa using i7 a b) ss
 have h2:(aM ss).Pairwise (· ≠ ·):=(bN ss).nodup_iff.mpr nd
 refine h1.imp₂ (fun a b z1 z2=>?_) h2
 rcases lN z2 with z | z
 · exact z
 · unfold my at z1;simp[z] at z1
theorem Bm{D:Pk}{f:Key × PV->PV}(hf: ∀ q:Str × Int,f (.inr q.1,.int q.2)= .str q.1):(bL D).map f=(D.map (·.1)).map PV.str:=by
 unfold bL;rw[List.map_map,List.map_map];exact List.map_congr_left fun q _=>hf q
theorem vY{h:PH}{n:Nat}{D:Pk}(e:h[n]?=some (.dct (bL D)))(hl:D.length < 64):bp [.ref n] h= .ok (.ref h.length) (h++[.lst ((aM (D.map (·.1))).map PV.str)]):=by
 have i0:itemsOf h (.ref n)=none:=by simp[itemsOf,dJ,e]
 show eR [.ref n] h=_
 unfold eR
 simp only[i0,e]
 rw[Bm,P3.dU]
 · simp only[List.length_map,if_pos hl]
 · exact fun q=>rfl
theorem Bu{D:Pk}{x:Str}: ∀{D:Pk},x∈D.map (·.1)->aW (bL D) (.inr x)=some (.int (fP D x))
 | q::r,m=>by
  unfold fP bL
  rw[List.map_cons]
  by_cases e:q.1=x
  · rw[if_pos e,e,rn]
  · rw[if_neg e,sZ (by simpa using e)]
    rcases List.mem_cons.mp m with m | m
    · exact absurd m.symm e
    · exact Bu (D:=D) m
noncomputable def tell(D:Pk)(ns:List Str):Pk:=(ns.filter fun x=>decide (0 < fP D x)).map fun x=>(x,fP D x)
theorem mM(D:Pk): ∀ ns:List Str,(ns.filterMap fun x=>if 0 < fP D x then some (eK (x,fP D x)) else none)=(tell D ns).map eK
 | []=>rfl
 | x::r=>by
  unfold tell
  by_cases z:0 < fP D x
  · rw[List.filterMap_cons_some (by rw[if_pos z]),List.filter_cons_of_pos (by simpa using z),List.map_cons,List.map_cons,mM D r];rfl
  · rw[List.filterMap_cons_none (by rw[if_neg z]),List.filter_cons_of_neg (by simpa using z),mM D r];rfl
theorem nq(D:Pk)(ns:List Str):(tell D ns).map (·.1)=ns.filter fun x=>decide (0 < fP D x):=by
 unfold tell;rw[List.map_map];exact List.map_id _
theorem wc{L:List Str}{D ps:Pk}(h:tS L D)(hp:fm L ps)(e: ∀ x,fP D x=fP ps x):tell D (aM (D.map (·.1)))=ps:=by
 have hin:fm L (tell D (aM (D.map (·.1)))):=by
  refine⟨?_,fun q m=>?_⟩
  · rw[nq];exact(i3 h.nd).sublist List.filter_sublist
  · unfold tell at m
    obtain⟨x,mx,rfl⟩:=List.mem_map.mp m
    obtain⟨m1,m2⟩:=List.mem_filter.mp mx
    obtain⟨q,mq,rfl⟩:=List.mem_map.mp ((bN _).mem_iff.mp m1)
    have:=h.yJ q.1
    have m3:0 < fP D q.1:=by simpa using m2
    exact⟨(h.mem q mq).1,by show 1<=fP D q.1;omega,by show fP D q.1<=999;omega⟩
 refine Ii hin hp fun x=>?_
 rw[<- e]
 by_cases hx:x∈(tell D (aM (D.map (·.1)))).map (·.1)
 · obtain⟨q,m,rfl⟩:=List.mem_map.mp hx
   rw[lj hin.nd q m]
   unfold tell at m
   obtain⟨y,_,rfl⟩:=List.mem_map.mp m
   rfl
 · rw[jA hx]
   rw[nq] at hx
   have:=h.yJ x
   by_cases hy:x∈D.map (·.1)
   · have: ¬ 0 < fP D x:=fun z=>hx (List.mem_filter.mpr ⟨(bN _).mem_iff.mpr hy,by simpa using z⟩)
     omega
   · rw[jA hy]
theorem dm{rs:List Rw}: ∀(n:Nat)(s:aG),(aF rs n s).held=s.held
 | 0,s=>by unfold aF;split<;>rfl
 | n+1,s=>by
  unfold aF;split
  · rfl
  · split
    · rfl
    · rw[dm n,fU]
section
variable{pg:Tb}(T:cI pg)
include T
theorem qg(k:Nat)(h G:PH){L:List Str}(hL:L.length<=20){rs:List Rw}{s t:aG}{n':Nat}{D':Pk}(p':PV)(u5 u6:Option PV)(e:(h++G)[n']?=some (.dct (bL D')))(hD:tS L D')(hp: ∀ x,fP D' x=fP t.ps x)(ht:cj L rs t)(hh:t.held=s.held) :
  fin h ((az (aw (aa (ab 3) (aa (eB bj (aa (pb 1 (oV (eB bp (aa (ab 2) ae))) (gN 7) (ao (ag ur (ag aq (ab 2) (ab 7)) (eC (.int 0)))) (aw (aa (ab 7) (aa (ag aq (ab 2) (ab 7)) ae)))) ae)) (aa (ag aq (ab 1) (eC (.int 2))) ae))))) (run pg k) [some (aD rs),some (ak s),some (.ref n'),some (.int t.row),some p',u5,u6] (h++G))= .ok (ak t) h:=by
 have dl:=hD.len
 have so:=vY e (show D'.length < 64 by omega)
 have e':(h++(G++[.lst ((aM (D'.map (·.1))).map PV.str)]))[n']?=some (.dct (bL D')):=by rw[<- List.append_assoc,aS (bC e)];exact e
 have fi:iV.gx ⟨some (h.length+G.length),(aM (D'.map (·.1))).map PV.str⟩ (h++(G++[.lst ((aM (D'.map (·.1))).map PV.str)]))=true:=by
  unfold iV.gx
  have:(h++(G++[PO.lst ((aM (D'.map (·.1))).map PV.str)]))[h.length+G.length]?=some (.lst ((aM (D'.map (·.1))).map PV.str)):=by rw[aK];exact bE
  simp only[this,true_or,decide_true]
 have lc:je ⟨some (h.length+G.length),(aM (D'.map (·.1))).map PV.str⟩ (bD 1 (gN 7) (ao (ag ur (ag aq (ab 2) (ab 7)) (eC (.int 0)))) (aw (aa (ab 7) (aa (ag aq (ab 2) (ab 7)) ae))) (run pg k) [some (aD rs),some (ak s),some (.ref n'),some (.int t.row),some p',u5,u6]) ((aM (D'.map (·.1))).map PV.str) [] (h++(G++[.lst ((aM (D'.map (·.1))).map PV.str)]))= .ok (t.ps.map eK) (h++(G++[.lst ((aM (D'.map (·.1))).map PV.str)])):=by
  refine(fM (f:=fun x:Str=>if 0 < fP D' x then some (eK (x,fP D' x)) else none) (g:=PV.str) fi (aM (D'.map (·.1))) [] (fun x m=>?_) (by rw[(bN _).length_eq];simp;omega)).trans (by rw[mM,wc hD ht.pk hp,List.nil_append])
  have hv:=Bu (D:=D') ((bN _).mem_iff.mp m)
  simp? [e',hv,eK]
  split<;>rfl
 have i2: ∀ g,aq (ak s) (.int 2) g= .ok (cA t.held) g:=fun g=>by rw[hh];rfl
 simp? [so,lc,i2]
 exact bh (v:=ak t) (dZ t)
theorem ji(k:Nat)(h:PH){L:List Str}(hL:L.length<=20){rs:List Rw}(hr: ∀ r∈rs,cz L rs.length r){s:aG}(hs:cj L rs s):run pg (k+10) "_law_rested" [aD rs,ak s] h= .ok (ak (aF rs 200 s)) h:=by
 have hz:(s.ps.map eK).length < 16777216:=by rw[List.length_map];have:=hs.pk.len;omega
 have dp:eN [kN s.ps] h= .ok (.ref h.length) (h++[.dct (bL s.ps)]):=by unfold kN;rw[uC,jP,qE hz,j5 hs.pk.nd]
 have hD:tS L s.ps:=⟨hs.pk.nd,fun q m=>⟨(hs.pk.mem q m).1,by have:=(hs.pk.mem q m).2.1;omega,(hs.pk.mem q m).2.2⟩⟩
 have i0: ∀ g,aq (ak s) (.int 0) g= .ok (.int s.row) g:=fun g=>rfl
 have i1: ∀ g,aq (ak s) (.int 1) g= .ok (kN s.ps) g:=fun g=>rfl
 have i2: ∀ g,aq (ak s) (.int 2) g= .ok (cA s.held) g:=fun g=>rfl
 rw[run_eq T.pH rfl]
 have hd: ∀(rest:MS)(v:PV)(h1:PH),run pg (k+9) "_law_own" [aD rs,.int s.row,.ref h.length,cA s.held] (h++[.dct (bL s.ps)])= .ok v h1->(ah (aj (eB eN (aa (ag aq (ab 1) (eC (.int 1))) ae)) (gN 2))
  (ah (aj (ag aq (ab 1) (eC (.int 0))) (gN 3))
  (ah (aj (eC (.int 0)) (gN 4))
  (ah (aj (af "_law_own" (aa (ab 0) (aa (ab 3) (aa (ab 2) (aa (ag aq (ab 1) (eC (.int 2))) ae))))) (gN 5)) rest)))) (run pg (k+9)) [some (aD rs),some (ak s),none,none,none,none,none] h=rest (run pg (k+9)) [some (aD rs),some (ak s),some (.ref h.length),some (.int s.row),some (.int 0),some v,none] h1:=fun rest v h1 q=>by
  simp? [i0,i1,i2,dp,q]
 cases r1:ba rs s with
 | true =>
  have on:=gL T (k+8) (h++[.dct (bL s.ps)]) h.length hs.le r1
  have fr:aF rs 200 s=s:=by rw[aF,if_pos r1]
  rw[fr]
  refine(congrArg (fin h) ((hd _ _ _ on).trans (AY ?_))).trans (qg T (k+9) h [.dct (bL s.ps)] hL (.int 0) (some .non) none bE hD (fun _=>rfl) hs rfl)
  rw[zS]
  refine j6 (f:=99999) ?_
  simp? [List.map_nil]
 | false =>
  obtain⟨r,e,ho⟩:=jH r1
  have hm:=hr r (List.mem_of_getElem? e)
  obtain⟨D1,q1,q2,q3,q4⟩:=gR T k (h++[.dct (bL s.ps)]) h.length e ho hm bE hD (fun _=>rfl) hs.pk.nd (by have:=hD.len;omega)
  rw[eW,List.set_cons_zero] at q4
  have fr:aF rs 200 s=aF rs 199 (behind s r):=by rw[aF,if_neg (by simp[r1]),e]
  rw[fr]
  obtain⟨n',D',G,p',u6',w1,w2,w3,w4⟩:=yk T k h hL hr s 199 0 (behind s r) D1 [] s.row none 100000 (by decide) (by decide) (eV hs hm e) (fU s r) q1 q2
  have hb:=iu hr 199 _ (eV hs hm e)
  refine(congrArg (fin h) ((hd _ _ _ q4).trans (AY ?_))).trans (qg T (k+9) h G hL (s:=s) (.int p') (some .non) u6' w1 w2 w3 hb (by rw[dm,fU]))
  rw[show((0:Nat):Int)=(0:Int) from rfl] at w4
  rw[zS]
  exact w4
end
end K13
end
section
open PySem L2 P3
set_option maxHeartbeats 1000000
namespace K13
theorem vq{h:PH}{n:Nat}{ss:List Str}(e:h[n]?=some (.lst (ss.map PV.str)))(hl:ss.length < 64):bp [.ref n] h= .ok (.ref h.length) (h++[.lst ((aM ss).map PV.str)]):=by
 have i0:itemsOf h (.ref n)=some (ss.map PV.str):=by simp[itemsOf,dJ,e]
 show eR [.ref n] h=_
 unfold eR
 simp only[i0,P3.dU,if_pos hl]
section
variable{pg:Tb}(T:cI pg)
include T
theorem jz.hand{L s2:List Str}{hs:List (Str × List Rw)}{p:PV}(P:jz L s2 hs p){i:Nat}{h:Str × List Rw}(e:hs[i]?=some h):dF p (i:Int) h.2/\ ∀ r∈h.2,cz L h.2.length r:=by
 obtain⟨bs,s3,s4,rfl⟩:=P.at_
 exact⟨⟨_,_,_,_,_,_,rfl,P3.eT rfl (by rw[List.getElem?_map,e];rfl)⟩,(P.rows h (List.mem_of_getElem? e)).2⟩
end
section
variable{pg:Tb}(T:cI pg)
include T
theorem Er(j:Nat){ns:List Int}(hn:ns.length<=63){b:Nat}{s1:List Str}{B:PH}(h1:B[b]?=some (.lst (s1.map PV.str)))(o:Option Int)(e1 e2 e3 e4 e5 e6:Option PV) :
  ∀(xs:List Str)(ys:List PV)(k:Int),0<=k->k+2*xs.length<=1000000->ys.length+xs.length<=1000-> ∃(ps:Pk)(k':Int),(ps.map (·.1)).Sublist xs/\(∀ q∈ps,1<=q.2/\q.2<=999)/\k<=k'/\k'<=k+2*xs.length /\
   P3.je ⟨some (b+1+1),s1.map PV.str⟩ (bD 1 (gN 7) (ao (ag cm (af "_law_pick" (aa (ab 0) (aa (eC (.int 3)) ae))) (eC (.int 0)))) (aw (aa (ab 7) (aa (ag aE (eC (.int 1)) (af "_law_pick" (aa (ab 0) (aa (eC (.int 999)) ae)))) ae))) (run pg (j+2)) [some (.ref 1),e1,e2,e3,e4,e5,e6]) (xs.map PV.str) ys (aZ ns::aU k o::B)= .ok (ys++ps.map eK) (aZ ns::aU k' o::B):=by
 have fin1: ∀(k:Int),iV.gx ⟨some (b+1+1),s1.map PV.str⟩ (aZ ns::aU k o::B)=true:=fun k=>j3 (show B[b]?=_ from h1)
 intro xs
 induction xs with
 | nil=>intro ys k k0 k9 _;exact⟨[],k,.slnil,fun q m=>(nomatch m),by omega,by simp,by rw[List.map_nil,P3.je,if_pos (fin1 _)];simp⟩
 | cons x xs ih =>
  intro ys k k0 k9 hl
  rw[List.length_cons] at k9 hl
  obtain⟨a,a0,a1,ea⟩:=aV T j B hn o (k:=k) 3 k0 (by omega) (by decide) (by decide)
  have hz:ys.length < sizeLine:=Nat.lt_of_lt_of_le (show ys.length < 1001 by omega) (by decide)
  rw[List.map_cons,P3.je,if_pos ⟨fin1 _,hz⟩]
  by_cases za:a=0
  · obtain⟨c,c0,c1,ec⟩:=aV T j B hn o (k:=k+1) 999 (by omega) (by omega) (by decide) (by decide)
    obtain⟨ps,k2,q1,q2,q3,q4,q5⟩:=ih (ys++[eK (x,1+c)]) (k+1+1) (by omega) (by omega) (by simp;omega)
    refine⟨(x,1+c)::ps,k2,by rw[List.map_cons];exact q1.cons_cons x,fun q m=>?_,by omega,by rw[List.length_cons];omega,?_⟩
    · rcases List.mem_cons.mp m with rfl | m
      · exact⟨by show 1<=1+c;omega,by show 1+c<=999;omega⟩
      · exact q2 q m
    have st:bD 1 (gN 7) (ao (ag cm (af "_law_pick" (aa (ab 0) (aa (eC (.int 3)) ae))) (eC (.int 0)))) (aw (aa (ab 7) (aa (ag aE (eC (.int 1)) (af "_law_pick" (aa (ab 0) (aa (eC (.int 999)) ae)))) ae))) (run pg (j+2)) [some (.ref 1),e1,e2,e3,e4,e5,e6] (.str x) (aZ ns::aU k o::B)= .ok (some (eK (x,1+c))) (aZ ns::aU (k+1+1) o::B):=by
     subst za
     simp? [ea,ec,eK]
    rw[st,bQ]
    simpa using q5
  · obtain⟨ps,k2,q1,q2,q3,q4,q5⟩:=ih ys (k+1) (by omega) (by omega) (by omega)
    refine⟨ps,k2,q1.cons x,q2,by omega,by rw[List.length_cons];omega,?_⟩
    have st:bD 1 (gN 7) (ao (ag cm (af "_law_pick" (aa (ab 0) (aa (eC (.int 3)) ae))) (eC (.int 0)))) (aw (aa (ab 7) (aa (ag aE (eC (.int 1)) (af "_law_pick" (aa (ab 0) (aa (eC (.int 999)) ae)))) ae))) (run pg (j+2)) [some (.ref 1),e1,e2,e3,e4,e5,e6] (.str x) (aZ ns::aU k o::B)= .ok none (aZ ns::aU (k+1) o::B):=by
     simp? [ea,za]
    rw[st,bQ]
    exact q5
theorem D6(j:Nat){ns:List Int}(hn:ns.length<=63){xs0:List PV}{B:PH}(o:Option Int)(e1 e2 e3 e4 e5 e6:Option PV) :
  ∀(xs:List Str)(ys:List PV)(k:Int),0<=k->k+xs.length<=1000000->ys.length+xs.length<=1000-> ∃(ls:List Str)(k':Int),ls.Sublist xs/\k<=k'/\k'<=k+xs.length /\
   P3.je ⟨none,xs0⟩ (bD 1 (gN 7) (ao (ag cm (af "_law_pick" (aa (ab 0) (aa (eC (.int 2)) ae))) (eC (.int 0)))) (ab 7) (run pg (j+2)) [some (.ref 1),e1,e2,e3,e4,e5,e6]) (xs.map PV.str) ys (aZ ns::aU k o::B)= .ok (ys++ls.map PV.str) (aZ ns::aU k' o::B):=by
 intro xs
 induction xs with
 | nil=>intro ys k k0 k9 _;exact⟨[],k,.slnil,by omega,by simp,by rw[List.map_nil,P3.je,if_pos dw];simp⟩
 | cons x xs ih =>
  intro ys k k0 k9 hl
  rw[List.length_cons] at k9 hl
  obtain⟨a,a0,a1,ea⟩:=aV T j B hn o (k:=k) 2 k0 (by omega) (by decide) (by decide)
  have hz:ys.length < sizeLine:=Nat.lt_of_lt_of_le (show ys.length < 1001 by omega) (by decide)
  rw[List.map_cons,P3.je,if_pos ⟨dw,hz⟩]
  by_cases za:a=0
  · obtain⟨ls,k2,q1,q2,q3,q4⟩:=ih (ys++[.str x]) (k+1) (by omega) (by omega) (by simp;omega)
    refine⟨x::ls,k2,q1.cons_cons x,by omega,by rw[List.length_cons];omega,?_⟩
    have st:bD 1 (gN 7) (ao (ag cm (af "_law_pick" (aa (ab 0) (aa (eC (.int 2)) ae))) (eC (.int 0)))) (ab 7) (run pg (j+2)) [some (.ref 1),e1,e2,e3,e4,e5,e6] (.str x) (aZ ns::aU k o::B)= .ok (some (.str x)) (aZ ns::aU (k+1) o::B):=by
     subst za
     simp? [ea]
    rw[st,bQ]
    simpa using q4
  · obtain⟨ls,k2,q1,q2,q3,q4⟩:=ih ys (k+1) (by omega) (by omega) (by omega)
    refine⟨ls,k2,q1.cons x,by omega,by rw[List.length_cons];omega,?_⟩
    have st:bD 1 (gN 7) (ao (ag cm (af "_law_pick" (aa (ab 0) (aa (eC (.int 2)) ae))) (eC (.int 0)))) (ab 7) (run pg (j+2)) [some (.ref 1),e1,e2,e3,e4,e5,e6] (.str x) (aZ ns::aU k o::B)= .ok none (aZ ns::aU (k+1) o::B):=by
     simp? [ea,za]
    rw[st,bQ]
    exact q4
theorem E6(j:Nat){ns:List Int}(hn:ns.length<=63){L s2:List Str}{hs:List (Str × List Rw)}{p:PV}(P:jz L s2 hs p){i:Nat}{hd:Str × List Rw}(ei:hs[i]?=some hd)(k:Int)(o:Option Int)(g:PH)(k0:0<=k)(k9:k+100<=1000000) :
  ∃(s:aG)(ls:List Str)(k':Int),cj L hd.2 s/\ls.Sublist s2/\s.held=aM ls/\k<=k'/\k'<=k+100/\run pg (j+3) "_law_seat" [.ref 1,p,.int i] (aZ ns::aU k o::g)= .ok (ak s) (aZ ns::aU k' o::g):=by
 have yY:(aM aP).length=5:=(bN _).length_eq
 have l2:=P.Ft
 have so:=vq (h:=aZ ns::aU k o::(g++[PO.lst (aP.map PV.str)])) (n:=g.length+1+1) (ss:=aP) (show(g++[PO.lst (aP.map PV.str)])[g.length]?=_ from bE) (by decide)
 have hB:(g++[PO.lst (aP.map PV.str),.lst ((aM aP).map PV.str)])[g.length+1]?=some (.lst ((aM aP).map PV.str)):=by rw[aK];rfl
 obtain⟨bs,s3,s4,rfl⟩:=P.at_
 obtain⟨ps,k1,a1,a2,a3,a4,a5⟩:=Er T j hn hB o (some (.tup [.tup bs,.tup (s2.map PV.str),.tup s3,.tup s4,.tup (hs.map dP)])) (some (.int i)) (some (aD hd.2)) (some (.ref (g.length+1+1+1))) none none (aM aP) [] k k0 (by omega) (by simp;omega)
 obtain⟨ls,k2,b1,b2,b3,b4⟩:=D6 T j hn (xs0:=s2.map PV.str) (B:=g++[PO.lst (aP.map PV.str),.lst ((aM aP).map PV.str),.lst (ps.map eK)]) o (some (.tup [.tup bs,.tup (s2.map PV.str),.tup s3,.tup s4,.tup (hs.map dP)])) (some (.int i)) (some (aD hd.2)) (some (.ref (g.length+1+1+1))) (some (kN ps)) none s2 [] k1 (by omega) (by omega) (by simp;omega)
 have ll:ls.length<=10:=Nat.le_trans b1.length_le l2
 have sh:=vq (h:=aZ ns::aU k2 o::(g++[PO.lst (aP.map PV.str),.lst ((aM aP).map PV.str),.lst (ps.map eK),.lst (ls.map PV.str)])) (n:=g.length+3+1+1) (ss:=ls) (show(g++[PO.lst (aP.map PV.str),.lst ((aM aP).map PV.str),.lst (ps.map eK),.lst (ls.map PV.str)])[g.length+3]?=_ from by rw[aK];rfl) (by omega)
 have rl:hd.2.length<=30:=(P.rows hd (List.mem_of_getElem? ei)).1
 obtain⟨c,c0,c1,ec⟩:=aV T j (g++[PO.lst (aP.map PV.str),.lst ((aM aP).map PV.str),.lst (ps.map eK),.lst (ls.map PV.str),.lst ((aM ls).map PV.str)]) hn o (k:=k2) (hd.2.length+1) (by omega) (by omega) (by omega) (by omega)
 have pin:fm L ps:=by
  refine⟨(i3 (by decide +kernel)).sublist a1,fun q m=>⟨P.OL _ ((bN _).mem_iff.mp (a1.subset (List.mem_map.mpr ⟨q,m,rfl⟩))),a2 q m⟩⟩
 refine⟨⟨c.toNat,ps,aM ls⟩,ls,k2+1,⟨pin,by show c.toNat<=hd.2.length;omega⟩,b1,rfl,by omega,by omega,?_⟩
 have at4:=kD (h:=aZ ns::aU k o::g) (xs:=hs.map dP) (i:=i) (v:= .tup [.str hd.1,aD hd.2]) (P3.eT rfl (by rw[List.getElem?_map,ei];rfl))
 have rlen: ∀ h,bY [aD hd.2] h= .ok (.int hd.2.length) h:=fun h=>by unfold aD;rw[len_T,List.length_map]
 rw[run_eq T.ua rfl]
 rw[List.nil_append] at a5 b4
 have pv:kN ps= .tup (ps.map eK):=rfl
 rw[pv] at b4
 have sn:aP.map PV.str=[.str "a",.str "ab",.str "boxes",.str "b",.str "lets"]:=rfl
 rw[sn] at so a5 b4 sh ec
 simp? [eg,ik,at4,so,a5,b4,sh,ec,rlen]
 have cv:PV.int c= .int (c.toNat:Nat):=by congr 1;omega
 rw[cv]
 exact bU (v:=ak ⟨c.toNat,ps,aM ls⟩) (dZ _)
end
end K13
end
section
open PySem L2 P3
set_option maxHeartbeats 1000000
namespace K13
theorem eO{rs:List Rw}: ∀(n:Nat)(s:aG),ba rs (aF rs n s)=true
 | 0,s=>by
  unfold aF;split
  · assumption
  · unfold ba;rw[List.getElem?_eq_none (Nat.le_refl _)]
 | n+1,s=>by
  unfold aF;split
  · assumption
  · split
    · rename_i e;unfold ba;rw[e]
    · exact eO n _
end K13
end
section
open PySem L2 P3
set_option maxHeartbeats 1000000
namespace K13
theorem Jz{x y:PV}{h:PH}:aq (.tup [x,y]) (.int (((0+1+1:Nat):Int) - 1)) h= .ok y h:=Ly
theorem Jg{x y z:PV}{h:PH}:aq (.tup [x,y,z]) (.int (((0+1+1+1:Nat):Int) - 1)) h= .ok z h:=Lz
theorem Jn(a:Str)(h:PH):kG (.str a) (.tup [.str "put",.str "send",.str "say"]) h= .ok (.bl (decide (a∈(["put", "send", "say"]:List Str)))) h:=xD (ss:=["put", "send", "say"])
theorem FT(a:Str)(h:PH):kG (.str a) (.tup [.str "get",.str "fetch",.str "clock",.str "lot",.str "hear"]) h= .ok (.bl (decide (a∈(["get", "fetch", "clock", "lot", "hear"]:List Str)))) h:=xD (ss:=["get", "fetch", "clock", "lot", "hear"])
theorem in4(a:Str)(h:PH):kG (.str a) (.tup [.str "get",.str "fetch",.str "clock",.str "hear"]) h= .ok (.bl (decide (a∈(["get", "fetch", "clock", "hear"]:List Str)))) h:=xD (ss:=["get", "fetch", "clock", "hear"])
theorem wM{h:PH}{L:List Str}{ps:Pk}(hL:L.length<=20)(hp:fm L ps):eN [kN ps] h= .ok (.ref h.length) (h++[.dct (bL ps)]):=by
 have hz:(ps.map eK).length < 16777216:=by rw[List.length_map];have:=hp.len;omega
 unfold kN;rw[uC,jP,qE hz,j5 hp.nd]
theorem fm.Lp{L:List Str}{ps:Pk}(hp:fm L ps):tS L ps:=⟨hp.nd,fun q m=>⟨(hp.mem q m).1,by have:=(hp.mem q m).2.1;omega,(hp.mem q m).2.2⟩⟩
section
variable{pg:Tb}(T:cI pg)
include T
theorem ke(k:Nat)(h:PH){L:List Str}(hL:L.length<=20){rs:List Rw}(hr: ∀ r∈rs,cz L rs.length r){s:aG}(hs:cj L rs s)(h1:ba rs s=true):run pg (k+10) "_law_touch" [aD rs,ak s] h= .ok (bO rs s) h:=by
 have i0: ∀ g,aq (ak s) (.int 0) g= .ok (.int s.row) g:=fun g=>rfl
 have i1: ∀ g,aq (ak s) (.int 1) g= .ok (kN s.ps) g:=fun g=>rfl
 have rl: ∀ g,bY [aD rs] g= .ok (.int rs.length) g:=fun g=>by unfold aD;rw[len_T,List.length_map]
 rw[run_eq T.rD rfl]
 cases e:rs[s.row]? with
 | none =>
  have:s.row=rs.length:=by have:=List.getElem?_eq_none_iff.mp e;have:=hs.le;omega
  have t1:bO rs s= .non:=by unfold bO;rw[e]
  simp? [bH,cy,t1,this,i0,rl]
 | some r =>
  have hlt:s.row < rs.length:=(List.getElem?_eq_some_iff.mp e).1
  have ne: ¬ (s.row:Int)=(rs.length:Int):=by omega
  have ix: ∀ g,aq (aD rs) (.int s.row) g= .ok (cL r) g:=fun g=>kD (ef e)
  have hrr:=hr r (List.mem_of_getElem? e)
  have t1:bO rs s=bP s r:=by unfold bO;rw[e]
  have ho:own s.held r=false:=by unfold ba at h1;rw[e] at h1;simpa using h1
  have pd:=wM (h:=h) hL hs.pk
  have w: ∀ e0:Sm,l8 e0->run pg (k+9) "_law_worth" [eE e0,.ref h.length] (h++[.dct (bL s.ps)])= .ok (.int (e0.val (fP s.ps))) (h++[.dct (bL s.ps)]):=fun e0 he=>su T hs.pk.Lp.yJ e0 (k+8) _ bE he.1 (by have:=he.2;omega)
  rw[t1]
  cases r with
  | let_ x e0=>exact nomatch ho
  | leap x e0=>exact nomatch ho
  | put b e0=>simp? [bH,cy,i0,i1,rl,ne,ix,cL,Rw.w,Rw.ps,Jn,List.mem_cons,List.not_mem_nil,or_false,or_true,true_or,false_or,pd,w e0 hrr,bP];exact bh rfl
  | send b e0=>simp? [bH,cy,i0,i1,rl,ne,ix,cL,Rw.w,Rw.ps,Jn,List.mem_cons,List.not_mem_nil,or_false,or_true,true_or,false_or,pd,w e0 hrr,bP];exact bh rfl
  | say b e0=>simp? [bH,cy,i0,i1,rl,ne,ix,cL,Rw.w,Rw.ps,Jn,List.mem_cons,List.not_mem_nil,or_false,or_true,true_or,false_or,pd,w e0 hrr,bP];exact bh rfl
  | _=>simp? [bH,cy,i0,i1,rl,ne,ix,cL,Rw.w,Rw.ps,Jn,List.mem_cons,List.not_mem_nil,or_false,or_true,true_or,false_or,Jz,Jg,bP]
end
end K13
end
section
open PySem L2 P3
set_option maxHeartbeats 1000000
namespace K13
theorem s9{ss:List Str}(h:ss.Pairwise hI):aM ss=ss:=List.mergeSort_of_pairwise (h.imp fun {a b} z=>by unfold my;simp[iP z])
theorem qM{ss:List Str}(h:ss.Pairwise hI):ss.Nodup:=h.imp fun {a b} z e=>by subst e;exact gU _ z
theorem qY(l:Str): ∀{ss:List Str},ss.Nodup->xk ss l=ss.filter fun z=> !decide (z=l)
 | [],_=>rfl
 | q::r,nd=>by
  rw[List.nodup_cons] at nd
  unfold xk
  by_cases z:q=l
  · subst z
    rw[List.idxOf_cons_self,List.filter_cons_of_neg (by simp)]
    show r=_
    exact(List.filter_eq_self.mpr fun a m=>by simp;rintro rfl;exact nd.1 m).symm
  · have:(q::r).idxOf l=r.idxOf l+1:=by rw[List.idxOf_cons,show(q == l)=false by simpa using z];rfl
    rw[this,List.filter_cons_of_pos (by simpa using z),List.eraseIdx_cons_succ]
    congr 1
    exact qY l nd.2
noncomputable def AK:MS:=ah (aj (eB bj (aa (pb 1 (oV (eB bp (aa (ab 4) ae))) (gN 7) (ao (ag ur (ag aq (ab 4) (ab 7)) (eC (.int 0)))) (aw (aa (ab 7) (aa (ag aq (ab 4) (ab 7)) ae)))) ae)) (gN 6))
  (az (af "_law_rested" (aa (ab 0) (aa (aw (aa (ag aE (ag aq (ab 1) (eC (.int 0))) (eC (.int 1))) (aa (ab 6) (aa (eB bj (aa (eB bp (aa (ab 5) ae)) ae)) ae)))) ae))))
section
variable{pg:Tb}(T:cI pg)
include T
theorem sU(k:Nat)(h:PH){L:List Str}(hL:L.length<=20){rs:List Rw}(hr: ∀ r∈rs,cz L rs.length r){s:aG}(hlt:s.row < rs.length){D ps:Pk}{hl:List Str}(v r:PV)(u6:Option PV)(hD:tS L D)(hp:fm L ps)(hf: ∀ x,fP D x=fP ps x)(hz:hl.length < 64) :
  fin h (AK (run pg (k+10)) [some (aD rs),some (ak s),some v,some r,some (.ref h.length),some (.ref (h.length+1)),u6] (h++[.dct (bL D),.lst (hl.map PV.str)]))= .ok (ak (aF rs 200 ⟨s.row+1,ps,aM hl⟩)) h:=by
 have dl:=hD.len
 have so:=vY (h:=h++[.dct (bL D),.lst (hl.map PV.str)]) (n:=h.length) bE (show D.length < 64 by omega)
 generalize hN:aM (D.map (·.1))=N at so
 have fi:iV.gx ⟨some (h.length+(0+1+1)),N.map PV.str⟩ (h++[.dct (bL D),.lst (hl.map PV.str),.lst (N.map PV.str)])=true:=j3 (by rw[aK];rfl)
 have e':(h++[PO.dct (bL D),.lst (hl.map PV.str),.lst (N.map PV.str)])[h.length]?=some (.dct (bL D)):=bE
 have lc:P3.je ⟨some (h.length+(0+1+1)),N.map PV.str⟩ (bD 1 (gN 7) (ao (ag ur (ag aq (ab 4) (ab 7)) (eC (.int 0)))) (aw (aa (ab 7) (aa (ag aq (ab 4) (ab 7)) ae))) (run pg (k+10)) [some (aD rs),some (ak s),some v,some r,some (.ref h.length),some (.ref (h.length+1)),u6]) (N.map PV.str) [] (h++[.dct (bL D),.lst (hl.map PV.str),.lst (N.map PV.str)])= .ok (ps.map eK) (h++[.dct (bL D),.lst (hl.map PV.str),.lst (N.map PV.str)]):=by
  refine(fM (f:=fun x:Str=>if 0 < fP D x then some (eK (x,fP D x)) else none) (g:=PV.str) fi N [] (fun x m=>?_) (by rw[<- hN,(bN _).length_eq];simp;omega)).trans (by rw[mM,<- hN,wc hD hp hf,List.nil_append])
  have hv:=Bu (D:=D) (x:=x) (by rw[<- hN] at m;exact(bN _).mem_iff.mp m)
  simp? [e',hv,eK]
  split<;>rfl
 have sh:=vq (h:=h++[PO.dct (bL D),.lst (hl.map PV.str),.lst (N.map PV.str),.lst (ps.map eK)]) (n:=h.length+1) (ss:=hl) (by rw[aK];rfl) hz
 have le:=ji T k (h++[PO.dct (bL D),.lst (hl.map PV.str),.lst (N.map PV.str),.lst (ps.map eK),.lst ((aM hl).map PV.str)]) hL hr (s:=⟨s.row+1,ps,aM hl⟩) ⟨hp,hlt⟩
 have i0: ∀ g,aq (ak s) (.int 0) g= .ok (.int s.row) g:=fun g=>rfl
 have le':run pg (k+10) "_law_rested" [aD rs,.tup [.int ((s.row:Int)+1),.tup (ps.map eK),.tup ((aM hl).map PV.str)]] (h++[PO.dct (bL D),.lst (hl.map PV.str),.lst (N.map PV.str),.lst (ps.map eK),.lst ((aM hl).map PV.str)])=_:=le
 simp? [AK,so,lc,sh,i0,le']
 exact bh (dZ _)
theorem oY(k:Nat)(h:PH){L:List Str}(hL:L.length<=20){rs:List Rw}(hr: ∀ r∈rs,cz L rs.length r){s:aG}(hs:cj L rs s)(hst:s.held.Pairwise hI)(hh:s.held.length<=60){r:Rw}(e:rs[s.row]?=some r)(ho:own s.held r=false){v:PV}(hv: ∀ x,r.aN=some x-> ∃ i:Int,v= .int i/\0<=i/\i<=999) :
  run pg (k+11) "_law_behind" [aD rs,ak s,v] h= .ok (ak (aF rs 200 (after s v r))) h:=by
 have i0: ∀ g,aq (ak s) (.int 0) g= .ok (.int s.row) g:=fun g=>rfl
 have i1: ∀ g,aq (ak s) (.int 1) g= .ok (kN s.ps) g:=fun g=>rfl
 have i2: ∀ g,aq (ak s) (.int 2) g= .ok (.tup (s.held.map PV.str)) g:=fun g=>rfl
 have hlt:s.row < rs.length:=(List.getElem?_eq_some_iff.mp e).1
 have ix: ∀ g,aq (aD rs) (.int s.row) g= .ok (cL r) g:=fun g=>kD (ef e)
 have hrr:=hr r (List.mem_of_getElem? e)
 have pd:=wM (h:=h) hL hs.pk
 have pn:(bL s.ps).length < 16777216:=by unfold bL;rw[List.length_map];have:=hs.pk.len;omega
 have hn:(s.held.map PV.str).length < 16777216:=by rw[List.length_map];omega
 rw[run_eq T.o6 rfl]
 have hd: ∀(D:Pk)(hl:List Str),(∀ rest:MS,(ah (aj (ag aq (ab 0) (ag aq (ab 1) (eC (.int 0)))) (gN 3))
  (ah (aj (eB eN (aa (ag aq (ab 1) (eC (.int 1))) ae)) (gN 4))
  (ah (aj (eB uq (aa (ag aq (ab 1) (eC (.int 2))) ae)) (gN 5))
  (ah (bz (ao (ag kG (ag aq (ab 3) (eC (.int 0))) (aw (aa (eC (.str "get")) (aa (eC (.str "fetch")) (aa (eC (.str "clock")) (aa (eC (.str "lot")) (aa (eC (.str "hear")) ae)))))))) (jd hE (ab 4) (ag aq (ab 3) (eC (.int 1))) (ab 2)) bB)
  (ah (bz (ao (ag cm (ag aq (ab 3) (eC (.int 0))) (eC (.str "take")))) (fN (eM cR ee (ab 5) (aa (ag aq (ab 3) (eC (.int 1))) ae))) bB)
  (ah (bz (ao (ag cm (ag aq (ab 3) (eC (.int 0))) (eC (.str "free")))) (fN (eM i4 ee (ab 5) (aa (ag aq (ab 3) (eC (.int 1))) ae))) bB)
  rest)))))) (run pg (k+10)) [some (aD rs),some (ak s),some v,none,none,none,none] h=rest (run pg (k+10)) [some (aD rs),some (ak s),some v,some (cL r),some (.ref h.length),some (.ref (h.length+1)),none] (h++[.dct (bL D),.lst (hl.map PV.str)])) ->
   ∀ ps:Pk,tS L D->fm L ps->(∀ x,fP D x=fP ps x)->hl.length < 64->after s v r=⟨s.row+1,ps,aM hl⟩ ->
   fin h (cC.body (run pg (k+10)) ([aD rs,ak s,v].map some++List.replicate cC.nl none) h)= .ok (ak (aF rs 200 (after s v r))) h:=fun D hl q ps a1 a2 a3 a4 a5=>by
  rw[a5]
  exact(congrArg (fin h) (q AK)).trans (sU T k h hL hr hlt v (cL r) none a1 a2 a3 a4)
 have pk: ∀ x,r.aN=some x->x∈L-> ∃ i:Int,v= .int i/\fm L (lay s.ps x i)/\tS L (putD s.ps x i)/\ ∀ y,fP (putD s.ps x i) y=fP (lay s.ps x i) y:=fun x hx hxL=>by
  obtain⟨i,rfl,h0,h9⟩:=hv x hx
  exact⟨i,rfl,rH hs.pk hxL h0 h9,wm hs.pk.Lp hxL h0 h9,fun y=>by rw[wF,zD hs.pk.nd]⟩
 have sid:=s9 hst
 cases r with
 | get x b =>
  obtain⟨i,rfl,q1,q2,q3⟩:=pk x rfl hrr
  refine hd (putD s.ps x i) s.held (fun rest=>?_) _ q2 q1 q3 (by omega) (by rw[sid];rfl)
  simp? [i0,i1,i2,ix,pd,cL,Rw.w,Rw.ps,FT,List.mem_cons,List.not_mem_nil,or_false,or_true,true_or,false_or,fz pn,iK]
 | fetch x b =>
  obtain⟨i,rfl,q1,q2,q3⟩:=pk x rfl hrr
  refine hd (putD s.ps x i) s.held (fun rest=>?_) _ q2 q1 q3 (by omega) (by rw[sid];rfl)
  simp? [i0,i1,i2,ix,pd,cL,Rw.w,Rw.ps,FT,List.mem_cons,List.not_mem_nil,or_false,or_true,true_or,false_or,fz pn,iK]
 | clock x =>
  obtain⟨i,rfl,q1,q2,q3⟩:=pk x rfl hrr
  refine hd (putD s.ps x i) s.held (fun rest=>?_) _ q2 q1 q3 (by omega) (by rw[sid];rfl)
  simp? [i0,i1,i2,ix,pd,cL,Rw.w,Rw.ps,FT,List.mem_cons,List.not_mem_nil,or_false,or_true,true_or,false_or,fz pn,iK]
 | lot x n =>
  obtain⟨i,rfl,q1,q2,q3⟩:=pk x rfl hrr.1
  refine hd (putD s.ps x i) s.held (fun rest=>?_) _ q2 q1 q3 (by omega) (by rw[sid];rfl)
  simp? [i0,i1,i2,ix,pd,cL,Rw.w,Rw.ps,FT,List.mem_cons,List.not_mem_nil,or_false,or_true,true_or,false_or,fz pn,iK]
 | hear x b =>
  obtain⟨i,rfl,q1,q2,q3⟩:=pk x rfl hrr
  refine hd (putD s.ps x i) s.held (fun rest=>?_) _ q2 q1 q3 (by omega) (by rw[sid];rfl)
  simp? [i0,i1,i2,ix,pd,cL,Rw.w,Rw.ps,FT,List.mem_cons,List.not_mem_nil,or_false,or_true,true_or,false_or,fz pn,iK]
 | take l =>
  refine hd s.ps (s.held++[l]) (fun rest=>?_) _ hs.pk.Lp hs.pk (fun _=>rfl) (by simp;omega) rfl
  simp? [i0,i1,i2,ix,pd,cL,Rw.w,Rw.ps,FT,List.mem_cons,List.not_mem_nil,or_false,or_true,true_or,false_or,vI hn,List.map_append]
 | free l =>
  have hl:l∈s.held:=by simpa [own] using ho
  have rm:=Oq (h:=h++[PO.dct (bL s.ps),.lst (s.held.map PV.str)]) (n:=h.length+(0+1)) (by rw[aK];rfl) hl
  refine hd s.ps (xk s.held l) (fun rest=>?_) _ hs.pk.Lp hs.pk (fun _=>rfl) ?_ ?_
  · simp? [i0,i1,i2,ix,pd,cL,Rw.w,Rw.ps,FT,List.mem_cons,List.not_mem_nil,or_false,or_true,true_or,false_or,rm]
  · rw[qY l (qM hst)];have:=List.length_filter_le (fun z=> !decide (z=l)) s.held;omega
  · rw[qY l (qM hst),s9 (hst.sublist List.filter_sublist)];rfl
 | let_ x e0=>exact nomatch ho
 | leap x e0=>exact nomatch ho
 | _ =>
  refine hd s.ps s.held (fun rest=>?_) _ hs.pk.Lp hs.pk (fun _=>rfl) (by omega) (by rw[sid];rfl)
  simp? [i0,i1,i2,ix,pd,cL,Rw.w,Rw.ps,FT,List.mem_cons,List.not_mem_nil,or_false,or_true,true_or,false_or]
end
end K13
end
section
open PySem L2 P3
set_option maxHeartbeats 1000000
namespace K13
theorem iG{S:aG}{r:Rw}(ho:own S.held r=false): ∃ th vl,bP S r= .tup [.str r.w,th,vl]/\(vl= .non\/ ∃ i,vl= .int i)/\(∀ x n,r= .lot x n->vl= .int n):=by
 cases r with
 | let_ _ _=>exact nomatch ho
 | leap _ _=>exact nomatch ho
 | put b e=>exact⟨_,_,rfl,.inr ⟨_,rfl⟩,fun _ _ q=>nomatch q⟩
 | send b e=>exact⟨_,_,rfl,.inr ⟨_,rfl⟩,fun _ _ q=>nomatch q⟩
 | say b e=>exact⟨_,_,rfl,.inr ⟨_,rfl⟩,fun _ _ q=>nomatch q⟩
 | lot x n=>exact⟨_,_,rfl,.inr ⟨_,rfl⟩,fun _ _ q=>by cases q;rfl⟩
 | _=>exact⟨_,_,rfl,.inl rfl,fun _ _ q=>nomatch q⟩
theorem nu{S:aG}{r:Rw}(ho:own S.held r=false):(∃ x n,r= .lot x n)\/(¬ r.w= "lot" /\(r.w∈(["get", "fetch", "clock", "hear"]:List Str)↔r.aN.isSome=true)):=by
 cases r with
 | let_ _ _=>exact nomatch ho
 | leap _ _=>exact nomatch ho
 | lot x n=>exact .inl ⟨x,n,rfl⟩
 | _=>exact .inr (by simp only[Rw.w,Rw.aN,Option.isSome_some,Option.isSome_none];decide +kernel)
theorem oC{S:aG}{r:Rw}(ho:own S.held r=false):r.w∈(["put", "send", "say", "take", "free"]:List Str)↔r.aN=none:=by
 cases r with
 | let_ _ _=>exact nomatch ho
 | leap _ _=>exact nomatch ho
 | put _ _=>exact⟨fun _=>rfl,fun _=>by simp only[Rw.w];decide +kernel⟩
 | send _ _=>exact⟨fun _=>rfl,fun _=>by simp only[Rw.w];decide +kernel⟩
 | say _ _=>exact⟨fun _=>rfl,fun _=>by simp only[Rw.w];decide +kernel⟩
 | take _=>exact⟨fun _=>rfl,fun _=>by simp only[Rw.w];decide +kernel⟩
 | free _=>exact⟨fun _=>rfl,fun _=>by simp only[Rw.w];decide +kernel⟩
 | _=>exact⟨fun q=>absurd q (by simp only[Rw.w];decide +kernel),fun q=>nomatch q⟩
theorem Cb{n w c:Int}(hn:2<=n/\n<=1000)(w0:0<=w)(w1:w < n)(c0:0<=c)(c1:c < 3): ∃ v:Int,0<=v/\v<=999/\v < n/\eF [PV.int 0,.int (n - 1),.int w] c=some (.int v):=by
 rcases(show c=0\/c=1\/c=2 by omega) with rfl | rfl | rfl
 · exact⟨0,by decide,by decide,by omega,rC⟩
 · exact⟨n - 1,by omega,by omega,by omega,xt⟩
 · exact⟨w,by omega,by omega,by omega,BB⟩
theorem Hg{w c:Int}(w0:0<=w)(w1:w < 1000)(c0:0<=c)(c1:c < 4): ∃ v:Int,0<=v/\v<=999/\eF [PV.int 0,.int 1,.int 999,.int w] c=some (.int v):=by
 rcases(show c=0\/c=1\/c=2\/c=3 by omega) with rfl | rfl | rfl | rfl
 · exact⟨0,by decide,by decide,rC⟩
 · exact⟨1,by decide,by decide,xt⟩
 · exact⟨999,by decide,by decide,BB⟩
 · exact⟨w,by omega,by omega,Ku⟩
section
variable{pg:Tb}(T:cI pg)
include T
theorem kA(j:Nat){ns:List Int}(hn:ns.length<=63){L:List Str}{n:Nat}{S:aG}{r:Rw}(hr:cz L n r)(ho:own S.held r=false)(k:Int)(o:Option Int)(g:PH)(k0:0<=k)(k9:k+10<=1000000) :
  ∃(v:PV)(k':Int),(∀ x,r.aN=some x-> ∃ i:Int,v= .int i/\0<=i/\i<=999)/\(r.aN=none->v= .non)/\(∀ x m,r= .lot x m-> ∀ i,v= .int i->i < m)/\k<=k'/\k'<=k+10/\run pg (j+3) "_law_value" [.ref 1,bP S r] (aZ ns::aU k o::g)= .ok v (aZ ns::aU k' o::g):=by
 obtain⟨th,vl,e,_,hv⟩:=iG ho
 rw[e]
 rcases nu ho with⟨x,m,rfl⟩ | ⟨nl,km⟩
 · rw[hv x m rfl]
   obtain⟨w,w0,w1,ew⟩:=aV T j g hn o (k:=k) m k0 (by omega) (by have:=hr.2;omega) (by have:=hr.2;omega)
   obtain⟨c,c0,c1,ec⟩:=aV T j (g++[.lst [.int 0,.int (m - 1),.int w]]) hn o (k:=k+1) 3 (by omega) (by omega) (by decide) (by decide)
   obtain⟨v,v0,v9,vn,ev⟩:=Cb hr.2 w0 w1 c0 c1
   refine⟨.int v,k+1+1,fun y q=>⟨v,rfl,v0,v9⟩,(fun q=>nomatch q),(fun y q z i e=>by cases z;cases e;exact vn),by omega,by omega,?_⟩
   rw[run_eq T.gK rfl]
   simp? [cw,dN,Rw.w,ew,ec,ev]
   exact bU rfl
 · cases hp:r.aN with
   | none =>
    have nm: ¬ r.w∈(["get", "fetch", "clock", "hear"]:List Str):=fun z=>by have:=km.mp z;rw[hp] at this;exact nomatch this
    refine⟨.non,k,(fun y q=>nomatch q),fun _=>rfl,(fun y q z=>by subst z;exact nomatch hp),by omega,by omega,?_⟩
    rw[run_eq T.gK rfl]
    simp? [cw,dN,nl,in4,nm]
   | some y =>
    have nm:r.w∈(["get", "fetch", "clock", "hear"]:List Str):=km.mpr (by rw[hp];rfl)
    obtain⟨w,w0,w1,ew⟩:=aV T j g hn o (k:=k) 1000 k0 (by omega) (by decide) (by decide)
    obtain⟨c,c0,c1,ec⟩:=aV T j (g++[.lst [.int 0,.int 1,.int 999,.int w]]) hn o (k:=k+1) 4 (by omega) (by omega) (by decide) (by decide)
    obtain⟨v,v0,v9,ev⟩:=Hg w0 w1 c0 c1
    refine⟨.int v,k+1+1,fun z q=>⟨v,rfl,v0,v9⟩,(fun q=>nomatch q),(fun y q z=>by subst z;exact absurd rfl nl),by omega,by omega,?_⟩
    rw[run_eq T.gK rfl]
    simp? [cw,dN,nl,in4,nm,ew,ec,ev]
    exact bU rfl
end
end K13
end
section
open PySem L2 P3
set_option maxHeartbeats 1000000
namespace K13
noncomputable def told(s:aG)(r:Rw)(v:PV):PV:=match bP s r with
 | .tup [a,b,_]=> .tup [a,b,v]
 | x=>x
noncomputable def rL(s:aG)(r:Rw):PV:=match bP s r with
 | .tup [_,_,c]=>c
 | _=> .non
noncomputable def kX(rs:List Rw):Nat->aG->List Int->List PV × aG
 | 0,s,_=>([],s)
 | n+1,s,vs=>match rs[s.row]? with
  | none=>([],s)
  | some r=>match r.aN,vs with
   | some _,[]=>([],s)
   | some _,v::vs=>let q:=kX rs n (aF rs 200 (after s (.int v) r)) vs;(told s r (.int v)::q.1,q.2)
   | none,vs=>let q:=kX rs n (aF rs 200 (after s (rL s r) r)) vs;(told s r (rL s r)::q.1,q.2)
structure mG(L M:List Str)(rs:List Rw)(s:aG):Prop where
 ok:cj L rs s
 rest:ba rs s=true
 yY:s.held.Pairwise hI
 sub: ∀ x∈s.held,x∈M
noncomputable def fk(M:List Str)(rs:List Rw):Prop:= ∀ l,Rw.take l∈rs->l∈M
theorem mG.len{L M:List Str}{rs:List Rw}{s:aG}(h:mG L M rs s):s.held.length<=M.length:=List.Nodup.length_le_of_subset (qM h.yY) h.sub
theorem mG.idle{L M:List Str}{rs:List Rw}{s:aG}(h:mG L M rs s){r:Rw}(e:rs[s.row]?=some r):own s.held r=false:=by
 have h1:=h.rest
 unfold ba at h1;rw[e] at h1;simpa using h1
theorem zJ{L:List Str}{rs:List Rw}{s:aG}{r:Rw}{v:PV}(hs:cj L rs s)(hr:cz L rs.length r)(e:rs[s.row]?=some r)(hv: ∀ x,r.aN=some x-> ∃ i:Int,v= .int i/\0<=i/\i<=999):cj L rs (after s v r):=by
 have hlt:s.row < rs.length:=(List.getElem?_eq_some_iff.mp e).1
 have pk: ∀ x,r.aN=some x->x∈L->fm L (lay s.ps x (PV.num v)):=fun x q hx=>by
  obtain⟨i,rfl,h0,h9⟩:=hv x q
  exact rH hs.pk hx h0 h9
 cases r with
 | get x b=>exact⟨pk x rfl hr,hlt⟩
 | fetch x b=>exact⟨pk x rfl hr,hlt⟩
 | clock x=>exact⟨pk x rfl hr,hlt⟩
 | lot x n=>exact⟨pk x rfl hr.1,hlt⟩
 | hear x d=>exact⟨pk x rfl hr,hlt⟩
 | _=>exact⟨hs.pk,hlt⟩
theorem mG.next{L M:List Str}{rs:List Rw}{s:aG}(h:mG L M rs s)(hM:fk M rs)(hr: ∀ r∈rs,cz L rs.length r){r:Rw}(e:rs[s.row]?=some r){v:PV}(hv: ∀ x,r.aN=some x-> ∃ i:Int,v= .int i/\0<=i/\i<=999):mG L M rs (aF rs 200 (after s v r)):=by
 have hm:=List.mem_of_getElem? e
 refine⟨iu hr 200 _ (zJ h.ok (hr r hm) e hv),eO 200 _,?_,?_⟩<;>rw[dm]
 · cases r with
   | take l =>
    have hl: ¬ l∈s.held:=by simpa [own] using h.idle e
    exact i3 (List.nodup_append.mpr ⟨qM h.yY,by simp,fun a ha b hb q=>hl (by rw[<- List.mem_singleton.mp hb,<- q];exact ha)⟩)
   | free l=>exact h.yY.sublist List.filter_sublist
   | _=>exact h.yY
 · cases r with
   | take l =>
    intro x m
    rcases List.mem_append.1 ((bN _).mem_iff.mp m) with m | m
    · exact h.sub x m
    · rw[List.mem_singleton.mp m];exact hM l hm
   | free l=>exact fun x m=>h.sub x (List.mem_filter.mp m).1
   | _=>exact h.sub
theorem eP{s:aG}{r:Rw}{th vl v:PV}(e:bP s r= .tup [.str r.w,th,vl]):told s r v= .tup [.str r.w,th,v]/\rL s r=vl:=by
 unfold told rL;rw[e];exact⟨rfl,rfl⟩
theorem iS{S:aG}{r:Rw}(ho:own S.held r=false):(r.w∈(["get", "fetch", "clock", "lot", "hear"]:List Str))↔r.aN.isSome=true:=by
 cases r with
 | let_ _ _=>exact nomatch ho
 | leap _ _=>exact nomatch ho
 | _=>simp only[Rw.w,Rw.aN,Option.isSome_some,Option.isSome_none];decide +kernel
section
variable{rs:List Rw}{n:Nat}{s:aG}{r:Rw}{vs:List Int}{v:Int}{y:Str}
theorem ka(e:rs[s.row]?=none):kX rs (n+1) s vs=([],s):=by rw[kX,e]
theorem iN(e:rs[s.row]?=some r)(hp:r.aN=none):kX rs (n+1) s vs=(told s r (rL s r)::(kX rs n (aF rs 200 (after s (rL s r) r)) vs).1,(kX rs n (aF rs 200 (after s (rL s r) r)) vs).2):=by rw[kX,e];simp only[hp]
theorem jZ(e:rs[s.row]?=some r)(hp:r.aN=some y):kX rs (n+1) s []=([],s):=by rw[kX,e];simp only[hp]
theorem gz(e:rs[s.row]?=some r)(hp:r.aN=some y):kX rs (n+1) s (v::vs)=(told s r (.int v)::(kX rs n (aF rs 200 (after s (.int v) r)) vs).1,(kX rs n (aF rs 200 (after s (.int v) r)) vs).2):=by rw[kX,e];simp only[hp]
end
end K13
end
section
open PySem L2 P3
set_option maxHeartbeats 1000000
namespace K13
noncomputable def cT:MT:=(ao (ag EF (eB bY (aa (ab 5) ae)) (eC (.int 60))))
noncomputable def cB:MS:=(ah (aj (af "touch_of" (aa (ab 0) (aa (ab 1) (aa (ab 4) ae)))) (gN 7)) (ah (bz (ao (oO (dR false) (ab 7))) kL bB) (ah (aj (ag aq (ab 7) (eC (.int 2))) (gN 8)) (ah (bz (ao (ag kG (ag aq (ab 7) (eC (.int 0))) (eC (.ktup [(.str "get"),(.str "fetch"),(.str "clock"),(.str "lot"),(.str "hear")])))) (ah (bz (ao (ag cm (ab 6) (eB bY (aa (ab 3) ae)))) kL bB) (ah (aj (ag aq (ab 3) (ab 6)) (gN 8)) (aj (ag sJ (ab 6) (eC (.int 1))) (gN 6)))) bB) (ah (fN (eM cR ee (ab 5) (aa (aw (aa (ag aq (ab 7) (eC (.int 0))) (aa (ag aq (ab 7) (eC (.int 1))) (aa (ab 8) ae)))) ae))) (aj (af "seat_behind" (aa (ab 0) (aa (ab 1) (aa (ab 4) (aa (ab 8) ae))))) (gN 4)))))))
theorem zw{t:ax->PH->RV Bool}{b:ax->PH->RV Fl}{f:Nat}{e e1:ax}{h h1 h2:PH}(ht:t e h= .ok true h1)(hb:b e h1= .ok (.bk e1) h2):dh t b (f+1) e h= .ok (.nx e1) h2:=by
 rw[dh,ht,bQ,if_pos rfl,hb,bQ]
theorem Oc{vs:List Int}{u:Nat}{v:Int}{r:List Int}(h:vs.drop u=v::r):eF (vs.map PV.int) (u:Int)=some (.int v)/\vs.drop (u+1)=r/\u < vs.length:=by
 have e:vs[u]?=some v:=by rw[<- List.head?_drop,h];rfl
 exact⟨P3.eT rfl (by rw[List.getElem?_map,e];rfl),by rw[<- List.drop_drop,h];rfl,(List.getElem?_eq_some_iff.mp e).1⟩
section
variable{pg:Tb}(T:cI pg)
include T
theorem tD(k:Nat)(h:PH){L M:List Str}(hL:L.length<=20){p:PV}{j:Int}{rs:List Rw}(ha:dF p j rs)(hr: ∀ r∈rs,cz L rs.length r)(hM:fk M rs)(lM:M.length<=60){vs:List Int}(hv: ∀ v∈vs,0<=v/\v<=999)(s0:PV): ∀(m:Nat)(s:aG)(ts:List PV)(u f:Nat)(u7 u8:Option PV),ts.length+m=60->m+2<=f->mG L M rs s->u<=vs.length-> ∃ u6' u7' u8':Option PV,
  dh (cT (run pg (k+11))) (cB (run pg (k+11))) f [some p,some (.int j),some s0,some (.tup (vs.map PV.int)),some (ak s),some (.ref h.length),some (.int u),u7,u8] (h++[.lst ts]) =
  .ok (.nx [some p,some (.int j),some s0,some (.tup (vs.map PV.int)),some (ak (kX rs m s (vs.drop u)).2),some (.ref h.length),u6',u7',u8']) (h++[.lst (ts++(kX rs m s (vs.drop u)).1)]):=by
 intro m
 induction m with
 | zero =>
  intro s ts u f u7 u8 hm hf hs hu
  obtain⟨f,rfl⟩: ∃ z,f=z+1:=⟨f - 1,by omega⟩
  have h60: ¬ (ts.length:Int) < 60:=by omega
  refine⟨some (.int u),u7,u8,?_⟩
  rw[j6 (h1:=h++[.lst ts]) ?_]
  · simp only[kX,List.append_nil]
  · simp? [cT,h60]
 | succ m ih =>
  intro s ts u f u7 u8 hm hf hs hu
  obtain⟨f,rfl⟩: ∃ z,f=z+1:=⟨f - 1,by omega⟩
  have h60:(ts.length:Int) < 60:=by omega
  have ht:cT (run pg (k+11)) [some p,some (.int j),some s0,some (.tup (vs.map PV.int)),some (ak s),some (.ref h.length),some (.int u),u7,u8] (h++[.lst ts])= .ok true (h++[.lst ts]):=by
   simp? [cT,h60]
  have t1:run pg (k+11) "touch_of" [p,.int j,ak s] (h++[.lst ts])=_:=iy T (k+1) _ hL ha hr hs.ok
  have hz:ts.length < 16777216:=by omega
  cases e:rs[s.row]? with
  | none =>
   have tn:bO rs s= .non:=by unfold bO;rw[e]
   rw[tn] at t1
   refine⟨some (.int u),some .non,u8,?_⟩
   rw[ka e,List.append_nil]
   refine zw ht ?_
   simp? [cB,t1]
  | some r =>
   have ho:=hs.idle e
   obtain⟨th,vl,te,_,_⟩:=iG ho
   have tr:bO rs s= .tup [.str r.w,th,vl]:=by unfold bO;rw[e];exact te
   rw[tr] at t1
   have ink: ∀ g,kG (.str r.w) (.ktup [(.str "get"),(.str "fetch"),(.str "clock"),(.str "lot"),(.str "hear")]) g= .ok (.bl (decide (r.w∈(["get", "fetch", "clock", "lot", "hear"]:List Str)))) g:=fun g=>in_K (ss:=["get", "fetch", "clock", "lot", "hear"])
   have hh:s.held.length<=60:=Nat.le_trans hs.len lM
   cases hp:r.aN with
   | none =>
    have nk: ¬ r.w∈(["get", "fetch", "clock", "lot", "hear"]:List Str):=fun z=>by have:=(iS ho).mp z;rw[hp] at this;exact nomatch this
    have b1: ∀ g,run pg (k+11) "seat_behind" [p,.int j,ak s,vl] g=_:=fun g=>fE T k g hL ha hr hs.ok hh e (v:=vl) (fun x q=>by rw[hp] at q;exact nomatch q)
    have sn:=hs.next hM hr e (v:=vl) (fun x q=>by rw[hp] at q;exact nomatch q)
    obtain⟨u6',u7',u8',q⟩:=ih (aF rs 200 (after s vl r)) (ts++[.tup [.str r.w,th,vl]]) u f (some (.tup [.str r.w,th,vl])) (some vl) (by simp;omega) (by omega) sn hu
    refine⟨u6',u7',u8',?_⟩
    rw[iN e hp,(eP te).1,(eP (v:= .non) te).2,qu ht (e1:=[some p,some (.int j),some s0,some (.tup (vs.map PV.int)),some (ak (aF rs 200 (after s vl r))),some (.ref h.length),some (.int u),some (.tup [.str r.w,th,vl]),some vl]) (h2:=h++[.lst (ts++[.tup [.str r.w,th,vl]])]) ?_,q]
    · simp only[List.append_assoc,List.cons_append,List.nil_append]
    · simp? [cB,t1,ink,nk,vI hz,b1]
   | some y =>
    have nk:r.w∈(["get", "fetch", "clock", "lot", "hear"]:List Str):=(iS ho).mpr (by rw[hp];rfl)
    cases hd:vs.drop u with
    | nil =>
     have ul:u=vs.length:=by have:=List.drop_eq_nil_iff.mp hd;omega
     refine⟨some (.int u),some (.tup [.str r.w,th,vl]),some vl,?_⟩
     rw[jZ e hp,List.append_nil]
     refine zw ht ?_
     simp? [cB,t1,ink,nk,ul,List.length_map]
    | cons v rest =>
     obtain⟨av,du,ul⟩:=Oc hd
     have ne: ¬ (u:Int)=(vs.length:Int):=by omega
     have hv1: ∀ x,r.aN=some x-> ∃ i:Int,PV.int v= .int i/\0<=i/\i<=999:=fun x _=>⟨v,rfl,hv v (List.mem_of_mem_drop (by rw[hd];exact List.mem_cons_self))⟩
     have b1: ∀ g,run pg (k+11) "seat_behind" [p,.int j,ak s,.int v] g=_:=fun g=>fE T k g hL ha hr hs.ok hh e hv1
     have ix: ∀ g,aq (.tup (vs.map PV.int)) (.int u) g= .ok (.int v) g:=fun g=>kD av
     obtain⟨u6',u7',u8',q⟩:=ih (aF rs 200 (after s (.int v) r)) (ts++[.tup [.str r.w,th,.int v]]) (u+1) f (some (.tup [.str r.w,th,vl])) (some (.int v)) (by simp;omega) (by omega) (hs.next hM hr e hv1) ul
     refine⟨u6',u7',u8',?_⟩
     rw[gz e hp,(eP te).1,<- du,qu ht (e1:=[some p,some (.int j),some s0,some (.tup (vs.map PV.int)),some (ak (aF rs 200 (after s (.int v) r))),some (.ref h.length),some (.int ((u+1:Nat):Int)),some (.tup [.str r.w,th,vl]),some (.int v)]) (h2:=h++[.lst (ts++[.tup [.str r.w,th,.int v]])]) ?_,q]
     · simp only[List.append_assoc,List.cons_append,List.nil_append]
     · simp? [cB,t1,ink,nk,ne,ix,ED,vI hz,b1,List.length_map]
       rfl
noncomputable def uQ(q:List PV × aG):PV:= .tup [.tup q.1,ak q.2]
omit T in
theorem iU: ∀{rs:List Rw}(n:Nat)(s:aG)(vs:List Int),PV.bF (kX rs n s vs).1=true
 | rs,0,s,vs=>rfl
 | rs,n+1,s,vs=>by
  have tf: ∀(r:Rw)(v:PV),v.flat=true->(told s r v).flat=true:=fun r v hv=>by unfold told bP;cases r<;>simp[PV.flat,PV.bF,hv]
  have of: ∀ r:Rw,(rL s r).flat=true:=fun r=>by unfold rL bP;cases r<;>rfl
  unfold kX
  split
  · rfl
  · split
    · rfl
    · simp only[PV.bF,iU n,tf _ _ (show(PV.int _).flat=true from rfl),Bool.and_self]
    · simp only[PV.bF,iU n,tf _ _ (of _),Bool.and_self]
theorem xJ(k:Nat)(h:PH){L M:List Str}(hL:L.length<=20){p:PV}{j:Int}{rs:List Rw}(ha:dF p j rs)(hr: ∀ r∈rs,cz L rs.length r)(hM:fk M rs)(lM:M.length<=60){vs:List Int}(hv: ∀ v∈vs,0<=v/\v<=999){s:aG}(hs:mG L M rs s) :
  run pg (k+12) "course" [p,.int j,ak s,.tup (vs.map PV.int)] h= .ok (uQ (kX rs 60 s vs)) h:=by
 obtain⟨u6,u7,u8,q⟩:=tD T k h hL ha hr hM lM hv (ak s) 60 s [] 0 100000 none none rfl (by decide) hs (Nat.zero_le _)
 rw[List.nil_append,List.drop_zero,show((0:Nat):Int)=(0:Int) from rfl] at q
 unfold cT cB at q
 rw[run_eq T.yE rfl]
 simp? [hZ,nK,zS,q]
 exact bh (v:=uQ (kX rs 60 s vs)) (by simp only[uQ,PV.flat,PV.bF,iU,dZ,Bool.and_self])
end
end K13
end
section
open PySem L2 P3
set_option maxHeartbeats 1000000
namespace K13
noncomputable def vB:MS:=(ah (aj (af "_law_touch" (aa (ab 1) (aa (ab 2) ae))) (gN 6)) (ah (bz (Fp (ao (oO (dR false) (ab 6))) (ao (ag cm (eB bY (aa (ab 4) ae)) (ab 3)))) (az (eB bj (aa (ab 4) ae))) bB) (ah (aj (af "_law_value" (aa (ab 0) (aa (ab 6) ae))) (gN 7)) (ah (bz (ao (oO (dR true) (ab 7))) (fN (eM cR ee (ab 4) (aa (ab 7) ae))) bB) (aj (af "_law_behind" (aa (ab 1) (aa (ab 2) (aa (ab 7) ae)))) (gN 2))))))
noncomputable def vR:MS:=(az (eB bj (aa (ab 4) ae)))
noncomputable def fit(rs:List Rw):Nat->aG->List Int->Prop
 | 0,_,_=>True
 | n+1,s,vs=>match rs[s.row]? with
  | none=>True
  | some r=>match r.aN,vs with
   | some _,[]=>True
   | some _,v::vs=>(∀ x m,r= .lot x m->v < m)/\fit rs n (aF rs 200 (after s (.int v) r)) vs
   | none,vs=>fit rs n (aF rs 200 (after s .non r)) vs
theorem mT{rs:List Rw}: ∀(n:Nat)(s:aG),fit rs n s []
 | 0,s=>trivial
 | n+1,s=>by
  unfold fit
  split
  · trivial
  · split
    · trivial
    · rename_i e;exact nomatch e
    · exact mT n _
theorem wg{rs:List Rw}{n:Nat}{s:aG}{r:Rw}{vs:List Int}(e:rs[s.row]?=some r)(hp:r.aN=none):fit rs (n+1) s vs=fit rs n (aF rs 200 (after s .non r)) vs:=by rw[fit,e];simp only[hp]
theorem uc{rs:List Rw}{n:Nat}{s:aG}{r:Rw}{vs:List Int}{v:Int}{y:Str}(e:rs[s.row]?=some r)(hp:r.aN=some y):fit rs (n+1) s (v::vs)=((∀ x m,r= .lot x m->v < m)/\fit rs n (aF rs 200 (after s (.int v) r)) vs):=by rw[fit,e];simp only[hp]
section
variable{pg:Tb}(T:cI pg)
include T
theorem tm(k:Nat){ns:List Int}(hn:ns.length<=63){L M:List Str}(hL:L.length<=20){rs:List Rw}(hr: ∀ r∈rs,cz L rs.length r)(hM:fk M rs)(lM:M.length<=60)(most:Int)(o:Option Int)(g:PH)(xs0:List PV): ∀(xs:List PV)(s:aG)(vs:List Int)(kk:Int)(u5 u6 u7:Option PV),mG L M rs s->(∀ v∈vs,0<=v/\v<=999)->vs.length+xs.length<=60->0<=kk->kk+10*xs.length+10<=1000000-> ∃(ws:List Int)(kk':Int),(∃ w2,ws=vs++w2/\ ∀ n,fit rs n s w2)/\(∀ v∈ws,0<=v/\v<=999)/\ws.length<=60/\kk<=kk'/\kk'<=kk+10*xs.length /\
  (cg ⟨none,xs0⟩ (fL (gN 5) vB (run pg (k+11))) xs [some (.ref 1),some (aD rs),some (ak s),some (.int most),some (.ref (g.length+1+1)),u5,u6,u7] (aZ ns::aU kk o::(g++[.lst (vs.map PV.int)]))).bind (vQ vR (run pg (k+11)))= .ok (.rt (.tup (ws.map PV.int))) (aZ ns::aU kk' o::(g++[.lst (ws.map PV.int)])):=by
 intro xs
 induction xs with
 | nil =>
  intro s vs kk u5 u6 u7 hs hv hl k0 k9
  refine⟨vs,kk,⟨[],(List.append_nil _).symm,fun n=>mT n _⟩,hv,by simpa using hl,by omega,by simp,?_⟩
  rw[lE]
  simp? [vR]
 | cons x xs ih =>
  intro s vs kk u5 u6 u7 hs hv hl k0 k9
  rw[List.length_cons] at hl k9
  have t1: ∀ g,run pg (k+11) "_law_touch" [aD rs,ak s] g= .ok (bO rs s) g:=fun g=>ke T (k+1) g hL hr hs.ok hs.rest
  cases e:rs[s.row]? with
  | none =>
   have tn:bO rs s= .non:=by unfold bO;rw[e]
   refine⟨vs,kk,⟨[],(List.append_nil _).symm,fun n=>mT n _⟩,hv,by omega,by omega,by omega,?_⟩
   rw[fu]
   simp? [vB,vR,t1,tn,mR]
  | some r =>
   have ho:=hs.idle e
   obtain⟨th,vl,te,_,_⟩:=iG ho
   have tr:bO rs s= .tup [.str r.w,th,vl]:=by unfold bO;rw[e];exact te
   by_cases em:(vs.length:Int)=most
   · refine⟨vs,kk,⟨[],(List.append_nil _).symm,fun n=>mT n _⟩,hv,by omega,by omega,by omega,?_⟩
     rw[fu]
     simp? [vB,vR,t1,tr,em,List.length_map,mR]
   · have hrr:=hr r (List.mem_of_getElem? e)
     have hh:s.held.length<=60:=Nat.le_trans hs.len lM
     obtain⟨v,k1,v1,v2,v6,v3,v4,v5⟩:=kA T (k+8) hn hrr ho kk o (g++[.lst (vs.map PV.int)]) k0 (by omega)
     rw[te,show k+8+3=k+11 from rfl] at v5
     have b1: ∀ g,run pg (k+11) "_law_behind" [aD rs,ak s,v] g= .ok (ak (aF rs 200 (after s v r))) g:=fun g=>oY T k g hL hr hs.ok hs.yY hh e ho v1
     have sn:=hs.next hM hr e v1
     have hz:(vs.map PV.int).length < 16777216:=by rw[List.length_map];omega
     cases hp:r.aN with
     | none =>
      have vn:=v2 hp;subst vn
      obtain⟨ws,kk',⟨w2,e2,f2⟩,a1,a2,a3,a4,a5⟩:=ih (aF rs 200 (after s .non r)) vs k1 (some x) (some (.tup [.str r.w,th,vl])) (some .non) sn hv (by omega) (by omega) (by omega)
      refine⟨ws,kk',⟨w2,e2,fun n=>by cases n with
       | zero=>trivial
       | succ n=>rw[wg e hp];exact f2 n⟩,a1,a2,by omega,by rw[List.length_cons];omega,?_⟩
      rw[fu]
      unfold vB vR at a5 ⊢
      simp? [t1,tr,em,List.length_map,v5,b1,cQ,a5]
     | some y =>
      obtain⟨i,rfl,i0,i9⟩:=v1 y hp
      obtain⟨ws,kk',⟨w2,e2,f2⟩,a1,a2,a3,a4,a5⟩:=ih (aF rs 200 (after s (.int i) r)) (vs++[i]) k1 (some x) (some (.tup [.str r.w,th,vl])) (some (.int i)) sn (fun z m=>by
       rcases List.mem_append.1 m with m | m
       · exact hv z m
       · rw[List.mem_singleton.mp m];exact⟨i0,i9⟩) (by simp;omega) (by omega) (by omega)
      refine⟨ws,kk',⟨i::w2,by rw[e2,List.append_assoc];rfl,fun n=>by cases n with
       | zero=>trivial
       | succ n=>rw[uc e hp];exact⟨fun x m z=>v6 x m z i rfl,f2 n⟩⟩,a1,a2,by omega,by rw[List.length_cons];omega,?_⟩
      rw[fu]
      unfold vB vR at a5 ⊢
      rw[List.map_append,List.map_cons,List.map_nil] at a5
      simp? [t1,tr,em,List.length_map,v5,b1,vI hz,cQ,a5]
theorem xx(k:Nat){ns:List Int}(hn:ns.length<=63){L M:List Str}(hL:L.length<=20){rs:List Rw}(hr: ∀ r∈rs,cz L rs.length r)(hM:fk M rs)(lM:M.length<=60)(most:Int)(o:Option Int)(g:PH){s:aG}(hs:mG L M rs s)(kk:Int)(k0:0<=kk)(k9:kk+610<=1000000): ∃(ws:List Int)(kk':Int),(∀ n,fit rs n s ws)/\(∀ v∈ws,0<=v/\v<=999)/\ws.length<=60/\kk<=kk'/\kk'<=kk+600 /\
  run pg (k+12) "_law_values" [.ref 1,aD rs,ak s,.int most] (aZ ns::aU kk o::g)= .ok (.tup (ws.map PV.int)) (aZ ns::aU kk' o::g):=by
 have l60:(bX 0 60).length=60:=p7 _
 obtain⟨ws,kk',⟨w2,e2,f2⟩,a1,a2,a3,a4,a5⟩:=tm T k hn hL hr hM lM most o g (bX 0 60) (bX 0 60) s [] kk none none none hs (fun v m=>nomatch m) (by rw[l60];decide) k0 (by rw[l60];omega)
 rw[l60] at a4
 refine⟨ws,kk',fun n=>by rw[e2];exact f2 n,a1,a2,a3,by omega,?_⟩
 unfold vB vR at a5
 rw[List.map_nil] at a5
 rw[run_eq T.pN rfl]
 simp? [cZ,f9]
 refine(congrArg (fin _) a5).trans ?_
 have fl: ∀ xs:List Int,PV.bF (xs.map PV.int)=true:=fun xs=>by
  induction xs with
  | nil=>rfl
  | cons x r ih=>rw[List.map_cons,PV.bF,ih];rfl
 exact bU (v:= .tup (ws.map PV.int)) (fl ws)
end
theorem qL{rs:List Rw}: ∀(n:Nat)(s:aG)(vs:List Int),(kX rs n s vs).1.length<=n
 | 0,s,vs=>Nat.le_refl _
 | n+1,s,vs=>by
  cases e:rs[s.row]? with
  | none=>rw[ka e];exact Nat.zero_le _
  | some r =>
   cases hp:r.aN with
   | none=>rw[iN e hp];exact Nat.succ_le_succ (qL n _ vs)
   | some y =>
    cases vs with
    | nil=>rw[jZ e hp];exact Nat.zero_le _
    | cons v vs=>rw[gz e hp];exact Nat.succ_le_succ (qL n _ vs)
noncomputable def mS(rs:List Rw):List Str:=rs.filterMap fun r=>match r with
 | .take l=>some l
 | _=>none
theorem yP(rs:List Rw)(M:List Str):fk (mS rs++M) rs:=fun l m=>List.mem_append_left _ (List.mem_filterMap.mpr ⟨_,m,rfl⟩)
theorem qR{L M:List Str}{rs:List Rw}(hM:fk M rs)(hr: ∀ r∈rs,cz L rs.length r): ∀(n:Nat)(s:aG)(vs:List Int),mG L M rs s->(∀ v∈vs,0<=v/\v<=999)->mG L M rs (kX rs n s vs).2
 | 0,s,vs,hs,_=>hs
 | n+1,s,vs,hs,hv=>by
  cases e:rs[s.row]? with
  | none=>rw[ka e];exact hs
  | some r =>
   cases hp:r.aN with
   | none=>rw[iN e hp];exact qR hM hr n _ vs (hs.next hM hr e (fun x q=>by rw[hp] at q;exact nomatch q)) hv
   | some y =>
    cases vs with
    | nil=>rw[jZ e hp];exact hs
    | cons v vs=>rw[gz e hp];exact qR hM hr n _ vs (hs.next hM hr e (fun x _=>⟨v,rfl,hv v List.mem_cons_self⟩)) (fun x m=>hv x (List.mem_cons_of_mem _ m))
end K13
end
section
open PySem L2 P3
set_option maxHeartbeats 1000000
namespace K13
theorem yj{a:Str}{g:PH}:kG (.str a) (.ktup [(.str "get"),(.str "fetch"),(.str "clock"),(.str "lot"),(.str "hear")]) g= .ok (.bl (decide (a∈(["get", "fetch", "clock", "lot", "hear"]:List Str)))) g:=in_K (ss:=["get", "fetch", "clock", "lot", "hear"])
structure Fits(s:aG)(r:Rw)(t:Str)(v:PV):Prop where
 te: ∃ vl,bP s r= .tup [.str r.w,.str t,vl]/\(r.aN=none->v=vl)
 pk: ∀ x,r.aN=some x-> ∃ i:Int,v= .int i/\0<=i/\i<=999/\ ∀ y m,r= .lot y m->i < m
noncomputable def kr(r:Rw)(t:Str)(v m:PV):PV:= .tup [.str r.w,.str t,v,m]
theorem fS{s:aG}{r:Rw}(ho:own s.held r=false): ∃(t:Str)(vl:PV),bP s r= .tup [.str r.w,.str t,vl]/\(vl= .non\/ ∃ i,vl= .int i)/\(r.aN=none->(∃ i,vl= .int i)\/(vl= .non/\(r.w= "take" \/r.w= "free")))/\(∀ x n,r= .lot x n->vl= .int n):=by
 cases r with
 | let_ _ _=>exact nomatch ho
 | leap _ _=>exact nomatch ho
 | put b e=>exact⟨_,_,rfl,.inr ⟨_,rfl⟩,fun _=> .inl ⟨_,rfl⟩,fun _ _ q=>nomatch q⟩
 | send b e=>exact⟨_,_,rfl,.inr ⟨_,rfl⟩,fun _=> .inl ⟨_,rfl⟩,fun _ _ q=>nomatch q⟩
 | say b e=>exact⟨_,_,rfl,.inr ⟨_,rfl⟩,fun _=> .inl ⟨_,rfl⟩,fun _ _ q=>nomatch q⟩
 | take _=>exact⟨_,_,rfl,.inl rfl,fun _=> .inr ⟨rfl,.inl rfl⟩,fun _ _ q=>nomatch q⟩
 | free _=>exact⟨_,_,rfl,.inl rfl,fun _=> .inr ⟨rfl,.inr rfl⟩,fun _ _ q=>nomatch q⟩
 | lot x n=>exact⟨_,_,rfl,.inr ⟨_,rfl⟩,(fun q=>nomatch q),fun _ _ q=>by cases q;rfl⟩
 | _=>exact⟨_,_,rfl,.inl rfl,(fun q=>nomatch q),fun _ _ q=>nomatch q⟩
theorem HN{s:aG}{r:Rw}(ho:own s.held r=false):(∃ x n,r= .lot x n)\/ ¬ r.w= "lot" :=(nu ho).imp id And.left
section
variable{pg:Tb}(T:cI pg)
include T
theorem j0(k:Nat)(h:PH)(i:Int):run pg (k+1) "is_whole" [.int i] h= .ok (.bl true) h:=by
 rw[run_eq T.jL rfl];simp? [di,ft,HV,GX]
theorem Cq(k:Nat)(h:PH):run pg (k+1) "is_whole" [.non] h= .ok (.bl false) h:=by
 rw[run_eq T.jL rfl];simp? [di,ft,Jc,Jq]
theorem EN(k:Nat)(h:PH)(b:Bool):run pg (k+1) "is_whole" [.bl b] h= .ok (.bl false) h:=by
 rw[run_eq T.jL rfl];simp? [di,ft,IZ,GG]
theorem ub(k:Nat)(h:PH){i:Int}(h0:0<=i)(h9:i<=999):run pg (k+3) "is_value" [.int i] h= .ok (.bl true) h:=by
 have q:run pg (k+2) "is_between" [.int i,.int 0,.int 999] h= .ok (.bl true) h:=by
  rw[run_eq T.j1 rfl];simp? [bI,cq,j0 T k,h0,h9]
 rw[run_eq T.nY rfl];simp? [dW,g8,q]
noncomputable def Oi(v:PV):Prop:=v= .int 1000\/v= .int (-1)\/v= .non\/v= .bl true
theorem zW(k:Nat)(h:PH){v:PV}(hv:Oi v):run pg (k+3) "is_value" [v] h= .ok (.bl false) h:=by
 have q:run pg (k+2) "is_between" [v,.int 0,.int 999] h= .ok (.bl false) h:=by
  rw[run_eq T.j1 rfl]
  rcases hv with rfl | rfl | rfl | rfl
  · simp? [bI,cq,j0 T k]
  · simp? [bI,cq,j0 T k]
  · simp? [bI,cq,Cq T k]
  · simp? [bI,cq,EN T k]
 rw[run_eq T.nY rfl];simp? [dW,g8,q]
theorem four(k:Nat)(h:PH)(a b c d:PV):run pg (k+1) "is_tuple_of" [.tup [a,b,c,d],.int 4] h= .ok (.bl true) h:=by
 rw[run_eq T.pA rfl];simp? [c6,gf,JZ]
 rfl
theorem xh(k:Nat)(g:PH){s:aG}{r:Rw}(ho:own s.held r=false){t:Str}{v:PV}(f:Fits s r t v)(m:PV):run pg (k+5) "gives_look" [bP s r,kr r t v m] g= .ok (.bl true) g:=by
 obtain⟨t',vl,e,nv,nn,lt⟩:=fS ho
 obtain⟨vl',e',ow⟩:=f.te
 rw[e'] at e;injection e with e;injection e with _ e;injection e with e1 e;injection e with e2 _
 subst e2;injection e1 with e1;subst e1
 rw[e',kr,run_eq T.cU rfl]
 cases hp:r.aN with
 | none =>
  have nk: ¬ r.w∈(["get", "fetch", "clock", "lot", "hear"]:List Str):=fun z=>by have:=(iS ho).mp z;rw[hp] at this;exact nomatch this
  rw[ow hp]
  rcases nv with rfl | ⟨i,rfl⟩
  · simp? [aX,bw,four T (k+3),yj,nk]
  · simp? [aX,bw,four T (k+3),yj,nk,j0 T (k+3)]
 | some y =>
  have nk:r.w∈(["get", "fetch", "clock", "lot", "hear"]:List Str):=(iS ho).mpr (by rw[hp];rfl)
  obtain⟨i,rfl,i0,i9,il⟩:=f.pk y hp
  have mc:run pg (k+4) "may_come" [.tup [.str r.w,.str t,vl'],.int i] g= .ok (.bl true) g:=by
   rw[run_eq T.n6 rfl]
   rcases HN ho with⟨x,n,rfl⟩ | nl
   · have:=il x n rfl
     rw[lt x n rfl]
     simp? [dq,fj,ub T k _ i0 i9,Rw.w,this]
   · simp? [dq,fj,ub T k _ i0 i9,nl]
  simp? [aX,bw,four T (k+3),yj,nk,mc]
theorem DL(k:Nat)(g:PH){w w':Str}{b c b' c' m:PV}(hw: ¬ w'=w):run pg (k+5) "gives_look" [.tup [.str w,b,c],.tup [.str w',b',c',m]] g= .ok (.bl false) g:=by
 rw[run_eq T.cU rfl]
 simp? [aX,bw,four T (k+3),hw]
theorem Be(k:Nat)(g:PH){w t t':Str}{c c' m:PV}(ht: ¬ t'=t):run pg (k+5) "gives_look" [.tup [.str w,.str t,c],.tup [.str w,.str t',c',m]] g= .ok (.bl false) g:=by
 rw[run_eq T.cU rfl]
 simp? [aX,bw,four T (k+3),ht]
theorem vX(k:Nat)(g:PH){w t:Str}{c v m:PV}(hw:w∈(["get", "fetch", "clock", "lot", "hear"]:List Str))(hv:Oi v):run pg (k+5) "gives_look" [.tup [.str w,.str t,c],.tup [.str w,.str t,v,m]] g= .ok (.bl false) g:=by
 have mc:run pg (k+4) "may_come" [.tup [.str w,.str t,c],v] g= .ok (.bl false) g:=by
  rw[run_eq T.n6 rfl]
  simp? [dq,fj,zW T k _ hv]
 rw[run_eq T.cU rfl]
 simp? [aX,bw,four T (k+3),yj,hw,mc]
theorem rM(k:Nat)(g:PH){w t:Str}{i j:Int}{m:PV}(hw: ¬ w∈(["get", "fetch", "clock", "lot", "hear"]:List Str))(hv: ¬ j=i):run pg (k+5) "gives_look" [.tup [.str w,.str t,.int i],.tup [.str w,.str t,.int j,m]] g= .ok (.bl false) g:=by
 rw[run_eq T.cU rfl]
 simp? [aX,bw,four T (k+3),yj,hw,j0 T (k+3),hv]
theorem AI(k:Nat)(g:PH){w t:Str}{j:Int}{m:PV}(hw: ¬ w∈(["get", "fetch", "clock", "lot", "hear"]:List Str)):run pg (k+5) "gives_look" [.tup [.str w,.str t,.non],.tup [.str w,.str t,.int j,m]] g= .ok (.bl false) g:=by
 rw[run_eq T.cU rfl]
 simp? [aX,bw,four T (k+3),yj,hw]
end
inductive Goes(rs:List Rw):aG->List PV->aG->Prop
 | nil (s:aG):Goes rs s [] s
 | cons {s:aG} {r:Rw} {t:Str} {v m:PV} {ys:List PV} {s':aG} (e:rs[s.row]?=some r) (f:Fits s r t v) (fl:m.flat=true) (g:Goes rs (aF rs 200 (after s v r)) ys s'):Goes rs s (kr r t v m::ys) s'
noncomputable def jq(q:PV × Nat):PV:= .tup [.int (q.2:Int),q.1]
noncomputable def FG:MG:=(gT 2 (aL (gN 5) (aL (gN 6) dS)))
noncomputable def gB:MS:=(ah (aj (af "touch_of" (aa (ab 0) (aa (ab 1) (aa (ab 4) ae)))) (gN 7)) (ah (bz (Fp (ao (oO (dR false) (ab 7))) (vw (ao (af "gives_look" (aa (ab 7) (aa (ab 6) ae)))))) (az (ab 5)) bB) (aj (af "seat_behind" (aa (ab 0) (aa (ab 1) (aa (ab 4) (aa (ag aq (ab 6) (eC (.int 2))) ae))))) (gN 4))))
section
variable{pg:Tb}(T:cI pg)
include T
theorem lh(k:Nat)(h:PH){L M:List Str}(hL:L.length<=20){p:PV}{j:Int}{rs:List Rw}(ha:dF p j rs)(hr: ∀ r∈rs,cz L rs.length r)(hM:fk M rs)(lM:M.length<=60)(s0 xs:PV)(xs0:List PV){s s':aG}{ys:List PV}(A:Goes rs s ys s') :
  mG L M rs s-> ∀(rest:List PV)(i:Nat)(u5 u6 u7:Option PV),mG L M rs s'/\ ∃ u5' u6' u7':Option PV,
  cg ⟨none,xs0⟩ (fL FG gB (run pg (k+11))) (((ys++rest).zipIdx i).map jq) [some p,some (.int j),some s0,some xs,some (ak s),u5,u6,u7] h =
  cg ⟨none,xs0⟩ (fL FG gB (run pg (k+11))) ((rest.zipIdx (i+ys.length)).map jq) [some p,some (.int j),some s0,some xs,some (ak s'),u5',u6',u7'] h:=by
 induction A with
 | nil s=>intro hs rest i u5 u6 u7;exact⟨hs,u5,u6,u7,rfl⟩
 | @cons s r t v m ys s' e f fl A ih =>
  intro hs rest i u5 u6 u7
  have ho:=hs.idle e
  have hh:s.held.length<=60:=Nat.le_trans hs.len lM
  have hv: ∀ x,r.aN=some x-> ∃ i:Int,v= .int i/\0<=i/\i<=999:=fun x q=>by
   obtain⟨i,a,b,c,_⟩:=f.pk x q
   exact⟨i,a,b,c⟩
  have t1:run pg (k+11) "touch_of" [p,.int j,ak s] h=_:=iy T (k+1) _ hL ha hr hs.ok
  obtain⟨vl,te,_⟩:=f.te
  have tr:bO rs s= .tup [.str r.w,.str t,vl]:=by unfold bO;rw[e];exact te
  have gy:=xh T (k+6) h ho f m
  rw[te] at gy
  rw[tr] at t1
  have b1:run pg (k+11) "seat_behind" [p,.int j,ak s,v] h=_:=fE T k h hL ha hr hs.ok hh e hv
  obtain⟨hs',u5',u6',u7',q⟩:=ih (hs.next hM hr e hv) rest (i+1) (some (.int (i:Int))) (some (kr r t v m)) (some (.tup [.str r.w,.str t,vl]))
  refine⟨hs',u5',u6',u7',?_⟩
  rw[List.length_cons,show i+(ys.length+1)=i+1+ys.length by omega,<- q,List.cons_append,List.zipIdx_cons,List.map_cons,fu]
  have i2: ∀ g,aq (kr r t v m) (.int 2) g= .ok v g:=fun g=>rfl
  unfold gB FG
  simp? [jq,t1,gy,b1,i2,cQ]
theorem oF(k:Nat)(h:PH){L M:List Str}(hL:L.length<=20){p:PV}{j:Int}{rs:List Rw}(ha:dF p j rs)(hr: ∀ r∈rs,cz L rs.length r)(hM:fk M rs)(lM:M.length<=60){s s':aG}(hs:mG L M rs s){ys:List PV}(A:Goes rs s ys s'):run pg (k+12) "goes_so" [p,.int j,ak s,.tup ys] h= .ok (.int ys.length) h:=by
 obtain⟨_,u5,u6,u7,q⟩:=lh T k h hL ha hr hM lM (ak s) (.tup ys) (ys.zipIdx.map jq) A hs [] 0 none none none
 rw[List.append_nil,List.zipIdx_nil,List.map_nil] at q
 unfold gB FG jq at q
 rw[run_eq T.pU rfl]
 simp? [eZ,iW,wQ,sE,q,lE]
theorem i6(k:Nat)(h:PH){L M:List Str}(hL:L.length<=20){p:PV}{j:Int}{rs:List Rw}(ha:dF p j rs)(hr: ∀ r∈rs,cz L rs.length r)(hM:fk M rs)(lM:M.length<=60){s s':aG}(hs:mG L M rs s){ys:List PV}(A:Goes rs s ys s'){y:PV}(B:List PV)
  (hy: ∀ r,rs[s'.row]?=some r-> ∀ g,run pg (k+11) "gives_look" [bP s' r,y] g= .ok (.bl false) g):run pg (k+12) "goes_so" [p,.int j,ak s,.tup (ys++y::B)] h= .ok (.int ys.length) h:=by
 obtain⟨hs',u5,u6,u7,q⟩:=lh T k h hL ha hr hM lM (ak s) (.tup (ys++y::B)) ((ys++y::B).zipIdx.map jq) A hs (y::B) 0 none none none
 rw[List.zipIdx_cons,List.map_cons,fu,Nat.zero_add] at q
 have t1:run pg (k+11) "touch_of" [p,.int j,ak s'] h=_:=iy T (k+1) _ hL ha hr hs'.ok
 have st:fL FG gB (run pg (k+11)) (jq (y,ys.length)) [some p,some (.int j),some (ak s),some (.tup (ys++y::B)),some (ak s'),u5,u6,u7] h= .ok (.rt (.int ys.length)) h:=by
  cases e:rs[s'.row]? with
  | none =>
   have tn:bO rs s'= .non:=by unfold bO;rw[e]
   rw[tn] at t1
   simp? [gB,FG,jq,t1]
  | some r =>
   obtain⟨t,vl,te,_⟩:=fS (hs'.idle e)
   have tr:bO rs s'= .tup [.str r.w,.str t,vl]:=by unfold bO;rw[e];exact te
   rw[tr] at t1
   have gy:=hy r e h
   rw[te] at gy
   simp? [gB,FG,jq,t1,gy]
 rw[st] at q
 have q':=q.trans (show _=RV.ok (.rt (.int ys.length)) h from rfl)
 unfold gB FG jq at q'
 rw[run_eq T.pU rfl]
 simp? [eZ,iW,wQ,sE,q']
end
end K13
end
section
open PySem L2 P3
set_option maxHeartbeats 1000000
namespace K13
noncomputable def zt(m:PV):Prop:=m= .non\/m= .int 5\/m= .tup [.int 1,.int 0]\/m= .str "x"
theorem zt.fl{m:PV}(h:zt m):m.flat=true:=by rcases h with rfl | rfl | rfl | rfl<;>rfl
inductive eJ:List PV->List PV->Prop
 | nil:eJ [] []
 | cons {a b v m:PV} {ts ys:List PV} (fl:zt m) (r:eJ ts ys):eJ (.tup [a,b,v]::ts) (.tup [a,b,v,m]::ys)
theorem eJ.len{ts ys:List PV}(h:eJ ts ys):ys.length=ts.length:=by
 induction h with
 | nil=>rfl
 | cons _ _ ih=>rw[List.length_cons,List.length_cons,ih]
theorem eJ.flat{ts ys:List PV}(h:eJ ts ys):PV.bF ts=true->PV.bF ys=true:=by
 induction h with
 | nil=>exact id
 | cons fl _ ih =>
  intro q
  simp only[PV.bF,PV.flat,Bool.and_true,Bool.and_eq_true] at q ih ⊢
  exact⟨⟨q.1.1,q.1.2.1,q.1.2.2,fl.fl⟩,ih q.2⟩
theorem yu{s:aG}{r:Rw}(hp:r.aN=none)(v w:PV):after s v r=after s w r:=by
 cases r<;>first | rfl | exact nomatch hp
theorem oy{L M:List Str}{rs:List Rw}(hM:fk M rs)(hr: ∀ r∈rs,cz L rs.length r): ∀(n:Nat)(s:aG)(vs:List Int)(ys:List PV),mG L M rs s->(∀ v∈vs,0<=v/\v<=999)->fit rs n s vs->eJ (kX rs n s vs).1 ys->Goes rs s ys (kX rs n s vs).2
 | 0,s,vs,ys,_,_,_,m=>by cases m;exact .nil s
 | n+1,s,vs,ys,hs,hv,hf,m=>by
  cases e:rs[s.row]? with
  | none=>rw[ka e] at m ⊢; cases m;exact .nil s
  | some r =>
   have ho:=hs.idle e
   obtain⟨t,vl,te,nv,nn,lt⟩:=fS ho
   cases hp:r.aN with
   | none =>
    rw[iN e hp,(eP te).1,(eP (v:= .non) te).2] at m
    rw[iN e hp,(eP (v:= .non) te).2]
    rw[wg e hp,yu hp .non vl] at hf
    cases m with
    | cons fl m=>exact .cons e ⟨⟨vl,te,fun _=>rfl⟩,fun x q=>by rw[hp] at q;exact nomatch q⟩ fl.fl (oy hM hr n _ vs _ (hs.next hM hr e (fun x q=>by rw[hp] at q;exact nomatch q)) hv hf m)
   | some y =>
    cases vs with
    | nil=>rw[jZ e hp] at m ⊢; cases m;exact .nil s
    | cons v vs =>
     rw[gz e hp,(eP te).1] at m
     rw[gz e hp]
     rw[uc e hp] at hf
     have h0:=hv v List.mem_cons_self
     cases m with
     | cons fl m=>exact .cons e ⟨⟨vl,te,fun q=>by rw[hp] at q;exact nomatch q⟩,fun x q=>⟨v,rfl,h0.1,h0.2,hf.1⟩⟩ fl.fl (oy hM hr n _ vs _ (hs.next hM hr e (fun x _=>⟨v,rfl,h0⟩)) (fun x z=>hv x (List.mem_cons_of_mem _ z)) hf.2 m)
theorem DU{rs:List Rw}{s s':aG}{ys:List PV}(A:Goes rs s ys s'): ∀{n:Nat}{y:PV},ys[n]?=some y-> ∃(s1:aG)(r:Rw)(t:Str)(v m:PV),Goes rs s (ys.take n) s1/\rs[s1.row]?=some r/\Fits s1 r t v/\m.flat=true/\y=kr r t v m:=by
 induction A with
 | nil s=>intro n y q;exact nomatch q
 | @cons s r t v m ys s' e f fl A ih =>
  intro n y q
  cases n with
  | zero =>
   rw[List.getElem?_cons_zero] at q
   injection q with q
   exact⟨s,r,t,v,m,.nil s,e,f,fl,q.symm⟩
  | succ n =>
   rw[List.getElem?_cons_succ] at q
   obtain⟨s1,r1,t1,v1,m1,g1,a1,a2,a3,a4⟩:=ih q
   exact⟨s1,r1,t1,v1,m1,.cons e f fl g1,a1,a2,a3,a4⟩
theorem Fj{c:Int}(c0:0<=c)(c1:c < 4): ∃ m:PV,zt m/\eF [PV.non,.int 5,.tup [.int 1,.int 0],.str "x"] c=some m:=by
 rcases(show c=0\/c=1\/c=2\/c=3 by omega) with rfl | rfl | rfl | rfl
 · exact⟨_,.inl rfl,rC⟩
 · exact⟨_,.inr (.inl rfl),xt⟩
 · exact⟨_,.inr (.inr (.inl rfl)),BB⟩
 · exact⟨_,.inr (.inr (.inr rfl)),Ku⟩
theorem Je{c:Int}(c0:0<=c)(c1:c < 4): ∃ m:PV,Oi m/\m.flat=true/\eF [PV.int 1000,.int (-1),.non,.bl true] c=some m:=by
 rcases(show c=0\/c=1\/c=2\/c=3 by omega) with rfl | rfl | rfl | rfl
 · exact⟨_,.inl rfl,rfl,rC⟩
 · exact⟨_,.inr (.inl rfl),rfl,xt⟩
 · exact⟨_,.inr (.inr (.inl rfl)),rfl,BB⟩
 · exact⟨_,.inr (.inr (.inr rfl)),rfl,Ku⟩
noncomputable def NR:ME:=(ag aE (ab 2) (aw (aa (ag aq (aT (aa (eC .non) (aa (eC (.int 5)) (aa (aw (aa (eC (.int 1)) (aa (eC (.int 0)) ae))) (aa (eC (.str "x")) ae))))) (af "_law_pick" (aa (ab 0) (aa (eC (.int 4)) ae)))) ae)))
noncomputable def Laid(x:PV):Prop:= ∃ d:PyData,(∀ sub,j2 sub x=some d)/\d.canLay0=true
theorem FR: ∀ ys:List PV,(∀ y∈ys,Laid y)-> ∃ ds:List PyData,(∀ sub,cG sub ys=some ds)/\PyData.canLayAll0 ds=true/\ds.length=ys.length
 | [],_=>⟨[],fun _=>rfl,rfl,rfl⟩
 | y::ys,h=>by
  obtain⟨d,a1,a2⟩:=h y List.mem_cons_self
  obtain⟨ds,b1,b2,b3⟩:=FR ys fun z m=>h z (List.mem_cons_of_mem _ m)
  exact⟨d::ds,fun sub=>by rw[cG,a1,b1],by rw[PyData.canLayAll0,a2,b2];rfl,by rw[List.length_cons,List.length_cons,b3]⟩
theorem ne_T{ys:List PV}(hy: ∀ y∈ys,Laid y)(h:PH):gS (.tup ys) (.tup []) h= .ok (.bl (!decide (ys=[]))) h:=by
 obtain⟨ds,b1,b2,b3⟩:=FR ys hy
 have d1:dat 6 h (.tup ys)=some (.tuple ds):=by unfold dat;simp only[j2,b1,Option.map_some]
 have d2:dat 6 h (.tup [])=some (.tuple []):=by unfold dat;simp only[j2,cG,Option.map_some]
 have sc:jN (.tup ys) (.tup [])=false:=rfl
 have al:alike (.tup ys) (.tup []) h=some (decide (ys=[])):=by
  unfold alike
  rw[sc,d1,d2]
  have c1:(PyData.tuple ds).canLay0=true:=by rw[PyData.canLay0];exact b2
  have c2:(PyData.tuple []).canLay0=true:=rfl
  have c3:min (PyData.tuple ds).depth (PyData.tuple []).depth<=64:=Nat.le_trans (Nat.min_le_right _ _) (by decide)
  simp only[if_false,Bool.false_eq_true,c1,c2,c3,and_self,if_true]
  cases ds<;>cases ys<;>first | rfl | exact nomatch b3
 have nd:gp h (.tup ys)=false:=rfl
 unfold gS;rw[al,nd];rfl
theorem K1{w t:Str}{v m:PV}(hw:PyData.strOk w=true)(ht:PyData.strOk t=true)(hv:v= .non\/ ∃ i,v= .int i)(hm:zt m):Laid (.tup [.str w,.str t,v,m]):=by
 have x1:PyData.strOk (Str.ofString "x")=true:=by decide +kernel
 rcases hv with rfl | ⟨i,rfl⟩<;>rcases hm with rfl | rfl | rfl | rfl<;>exact⟨_,fun _=>rfl,by simp[PyData.canLay0,PyData.canLayAll0,hw,ht,x1]⟩
noncomputable def Told(t:PV):Prop:= ∃(w x:Str)(v:PV),t= .tup [.str w,.str x,v]/\PyData.strOk w=true/\PyData.strOk x=true/\(v= .non\/ ∃ i,v= .int i)
theorem eJ.laid{ts ys:List PV}(h:eJ ts ys):(∀ t∈ts,Told t)-> ∀ y∈ys,Laid y:=by
 induction h with
 | nil=>intro _ y m;exact nomatch m
 | cons fl _ ih =>
  intro q y m
  rcases List.mem_cons.mp m with rfl | m
  · obtain⟨w,x,v',e,h1,h2,h3⟩:=q _ List.mem_cons_self
    cases e
    exact K1 h1 h2 h3 fl
  · exact ih (fun t z=>q t (List.mem_cons_of_mem _ z)) y m
theorem OG(r:Rw):PyData.strOk r.w=true:=by cases r<;>(show PyData.strOk (Str.ofString _)=true;decide +kernel)
theorem nS{s:aG}{r:Rw}(ho:own s.held r=false)(hm:mC r){v:PV}(hv:v= .non\/ ∃ i,v= .int i):Told (told s r v):=by
 obtain⟨t,vl,te,_⟩:=fS ho
 rw[(eP te).1]
 refine⟨r.w,t,v,rfl,OG r,?_,hv⟩
 cases r with
 | let_ _ _=>exact nomatch ho
 | leap _ _=>exact nomatch ho
 | clock _=>cases te;decide +kernel
 | lot _ _=>cases te;decide +kernel
 | _=>cases te;exact hm.1
theorem nG{L M:List Str}{rs:List Rw}(hM:fk M rs)(hr: ∀ r∈rs,cz L rs.length r)(hm: ∀ r∈rs,mC r): ∀(n:Nat)(s:aG)(vs:List Int),mG L M rs s->(∀ v∈vs,0<=v/\v<=999)-> ∀ t∈(kX rs n s vs).1,Told t
 | 0,s,vs,_,_,t,m=>nomatch m
 | n+1,s,vs,hs,hv,t,m=>by
  cases e:rs[s.row]? with
  | none=>rw[ka e] at m;exact nomatch m
  | some r =>
   have ho:=hs.idle e
   have mr:=hm r (List.mem_of_getElem? e)
   obtain⟨x,vl,te,nv,_⟩:=fS ho
   cases hp:r.aN with
   | none =>
    rw[iN e hp,(eP (v:= .non) te).2] at m
    rcases List.mem_cons.mp m with rfl | m
    · exact nS ho mr nv
    · exact nG hM hr hm n _ vs (hs.next hM hr e (fun x q=>by rw[hp] at q;exact nomatch q)) hv t m
   | some y =>
    cases vs with
    | nil=>rw[jZ e hp] at m;exact nomatch m
    | cons v vs =>
     rw[gz e hp] at m
     rcases List.mem_cons.mp m with rfl | m
     · exact nS ho mr (.inr ⟨v,rfl⟩)
     · exact nG hM hr hm n _ vs (hs.next hM hr e (fun x _=>⟨v,rfl,hv v List.mem_cons_self⟩)) (fun x z=>hv x (List.mem_cons_of_mem _ z)) t m
section
variable{pg:Tb}(T:cI pg)
include T
theorem BM(j:Nat){ns:List Int}(hn:ns.length<=63)(xs0:List PV)(o:Option Int)(e1:Option PV): ∀(ts ys:List PV)(k:Int)(g:PH),(∀ t∈ts,∃ a b v,t= .tup [a,b,v])->0<=k->k+ts.length<=1000000->ys.length+ts.length<=1000-> ∃(zs:List PV)(J:PH),eJ ts zs /\
  P3.je ⟨none,xs0⟩ (bD 1 (gN 2) eA NR (run pg (j+2)) [some (.ref 1),e1]) ts ys (aZ ns::aU k o::g)= .ok (ys++zs) (aZ ns::aU (k+ts.length) o::(g++J)):=by
 intro ts
 induction ts with
 | nil=>intro ys k g _ _ _ _;exact⟨[],[],.nil,by rw[P3.je,if_pos dw];simp⟩
 | cons x ts ih =>
  intro ys k g hx k0 k9 hl
  rw[List.length_cons] at k9 hl
  obtain⟨a,b,v,rfl⟩:=hx x List.mem_cons_self
  let m4:PO:= .lst [.non,.int 5,.tup [.int 1,.int 0],.str "x"]
  obtain⟨c,c0,c1,ec⟩:=aV T j (g++[m4]) hn o (k:=k) 4 k0 (by omega) (by decide) (by decide)
  obtain⟨m,mf,em⟩:=Fj c0 c1
  obtain⟨zs,J,q1,q2⟩:=ih (ys++[.tup [a,b,v,m]]) (k+1) (g++[m4]) (fun b m=>hx b (List.mem_cons_of_mem _ m)) (by omega) (by omega) (by simp;omega)
  refine⟨.tup [a,b,v,m]::zs,m4::J,.cons mf q1,?_⟩
  have hz:ys.length < sizeLine:=Nat.lt_of_lt_of_le (show ys.length < 1001 by omega) (by decide)
  have st:bD 1 (gN 2) eA NR (run pg (j+2)) [some (.ref 1),e1] (.tup [a,b,v]) (aZ ns::aU k o::g)= .ok (some (.tup [a,b,v,m])) (aZ ns::aU (k+1) o::(g++[m4])):=by
   have ad: ∀ h,aE (.tup [a,b,v]) (.tup [m]) h= .ok (.tup [a,b,v,m]) h:=fun h=>iY (by simp)
   simp? [NR,m4,ec,em,ad]
  rw[P3.je,if_pos ⟨dw,hz⟩,st,bQ]
  refine q2.trans ?_
  rw[show k+1+(ts.length:Int)=k+((PV.tup [a,b,v]::ts).length:Nat) by rw[List.length_cons];omega]
  simp
theorem Aq(j:Nat){ns:List Int}(hn:ns.length<=63)(o:Option Int){ts:List PV}(h3: ∀ t∈ts,∃ a b v,t= .tup [a,b,v])(hf:PV.bF ts=true)(hl:ts.length<=60)(k:Int)(g:PH)(k0:0<=k)(k9:k+60<=1000000): ∃ zs:List PV,eJ ts zs /\
  run pg (j+3) "_law_looks" [.ref 1,.tup ts] (aZ ns::aU k o::g)= .ok (.tup zs) (aZ ns::aU (k+ts.length) o::g):=by
 obtain⟨zs,J,q1,q2⟩:=BM T j hn ts o (some (.tup ts)) ts [] k g h3 k0 (by omega) (by simp;omega)
 refine⟨zs,q1,?_⟩
 rw[List.nil_append] at q2
 unfold NR at q2
 rw[run_eq T.rA rfl]
 simp? [dG,gY,q2]
 exact bU (v:= .tup zs) (q1.flat hf)
end
end K13
end
section
open PySem L2 P3
set_option maxHeartbeats 1000000
namespace K13
noncomputable def ja(a:PV):List (Key × PV):=[(.inr "put",a),(.inr "lot",.int 1000),(.inr "take",.int 0),(.inr "free",.int 0)]
noncomputable def sP(a:PV):List (Key × PV):=[(.inr "put",a),(.inr "lot",.int 1000),(.inr "take",.int 0),(.inr "free",.int 0),(.inr "send",a),(.inr "say",a)]
theorem DZ(a:PV):bA [] (ja a)=ja a/\aW (ja a) (.inr "put")=some a/\aW (c8 (ja a) (.inr "send") a) (.inr "put")=some a/\c8 (c8 (ja a) (.inr "send") a) (.inr "say") a=sP a:=by
 refine⟨?_,?_,?_,?_⟩<;>simp[ja,sP,bA,c8,aW,aI]
theorem xf(r:Rw)(a d:PV):(aW (sP a) (.inr r.w)).getD d=match r with
  | .put _ _=>a
  | .send _ _=>a
  | .say _ _=>a
  | .lot _ _=> .int 1000
  | .take _=> .int 0
  | .free _=> .int 0
  | _=>d:=by
 cases r<;>simp[sP,aW,Rw.w,aI]
theorem str_len(a b:Str):(a++b).length=a.length+b.length:=Array.size_append ..
theorem qo{x c:Str}(hc:c.length=1): ¬ x++c=x:=fun e=>by
 have:=congrArg Str.length e
 rw[str_len] at this
 omega
theorem Mn(r:Rw):r.w.length<=20:=by cases r<;>(show Str.length (Str.ofString _)<=20;decide +kernel)
theorem MB{s:aG}{r:Rw}(ho:own s.held r=false)(hn:mC r){t:Str}{vl:PV}(e:bP s r= .tup [.str r.w,.str t,vl]):t.length<=20:=by
 cases r with
 | let_ _ _=>exact nomatch ho
 | leap _ _=>exact nomatch ho
 | clock _=>cases e;decide +kernel
 | lot _ _=>cases e;decide +kernel
 | _=>cases e;exact hn.2
theorem uT{i:Int}: ¬ (i+1) % 1000=i:=by omega
section
variable{pg:Tb}(T:cI pg)
include T
theorem sI(j q:Nat){ns:List Int}(hn:ns.length<=63){s:aG}{r:Rw}(ho:own s.held r=false)(hm:mC r){t:Str}{v m:PV}(f:Fits s r t v)(fl:m.flat=true)(k:Int)(o:Option Int)(g:PH)(k0:0<=k)(k9:k+2<=1000000) :
  ∃(y:PV)(k':Int),k<=k'/\k'<=k+2/\run pg (j+3) "_law_wrong" [.ref 1,kr r t v m] (aZ ns::aU k o::g)= .ok y (aZ ns::aU k' o::g)/\ ∀ h,run pg (q+5) "gives_look" [bP s r,y] h= .ok (.bl false) h:=by
 obtain⟨vl,te,ow⟩:=f.te
 have tl:=MB ho hm te
 have wl:=Mn r
 have c1:(Str.ofString "s").length=1:=by decide +kernel
 have c2:(Str.ofString "x").length=1:=by decide +kernel
 obtain⟨c,c0,c9,ec⟩:=aV T j g hn o (k:=k) 3 k0 (by omega) (by decide) (by decide)
 have tw: ∀ e h,x9 (DD 4 (aL (gN 2) (aL (gN 3) (aL (gN 4) (aL (gN 5) dS))))) e (kr r t v m) h=x9 (gT 4 (aL (gN 2) (aL (gN 3) (aL (gN 4) (aL (gN 5) dS))))) e (.tup [.str r.w,.str t,v,m]) h:=fun e h=>rfl
 have a1: ∀ h,aE (.str r.w) (.str "s") h= .ok (.str (r.w++ "s")) h:=fun h=>wK (by omega)
 have a2: ∀ h,aE (.str t) (.str "x") h= .ok (.str (t++ "x")) h:=fun h=>wK (by omega)
 have vf:v.flat=true:=by
  cases hp:r.aN with
  | none=>rw[ow hp];obtain⟨t',vl',e',nv',_⟩:=fS ho;rw[te] at e';cases e';rcases nv' with rfl | ⟨i,rfl⟩<;>rfl
  | some x=>obtain⟨i,rfl,_⟩:=f.pk x hp;rfl
 have se: ∀ a b:Str,P3.settle (aZ ns::aU k o::g) (.tup [.str a,.str b,v,m]) (aZ ns::aU (k+1) o::g)= .ok (.tup [.str a,.str b,v,m]) (aZ ns::aU (k+1) o::g):=fun a b=>by
  have:=bU (ns:=ns) (k:=k) (k':=k+1) (o:=o) (o':=o) (g:=g) (g':=[]) (v:= .tup [.str a,.str b,v,m]) (by simp[PV.flat,PV.bF,vf,fl])
  rwa[List.append_nil] at this
 rw[te]
 by_cases z0:c=0
 · subst z0
   refine⟨.tup [.str (r.w++ "s"),.str t,v,m],k+1,by omega,by omega,?_,fun h=>DL T q h (qo c1)⟩
   rw[run_eq T.gH rfl]
   simp? [bT,cV,tw,ec,a1,se]
 · by_cases z1:c=1
   · subst z1
     refine⟨.tup [.str r.w,.str (t++ "x"),v,m],k+1,by omega,by omega,?_,fun h=>Be T q h (qo c2)⟩
     rw[run_eq T.gH rfl]
     simp? [bT,cV,tw,ec,a2,se]
   · have vn: ∃ a,(v= .non/\a=PV.int 5)\/ ∃ i,v= .int i/\a= .int ((i+1) % 1000):=by
      have:v= .non\/ ∃ i,v= .int i:=by
       cases hp:r.aN with
       | none=>rw[ow hp];obtain⟨t',vl',e',nv',_⟩:=fS ho;rw[te] at e';cases e';exact nv'
       | some x=>obtain⟨i,e,_⟩:=f.pk x hp;exact .inr ⟨i,e⟩
      rcases this with rfl | ⟨i,rfl⟩
      · exact⟨_,.inl ⟨rfl,rfl⟩⟩
      · exact⟨_,.inr ⟨i,rfl,rfl⟩⟩
     obtain⟨a,vn⟩:=vn
     obtain⟨d,d0,d9,ed⟩:=aV T j (g++[.dct (sP a),.lst [.int 1000,.int (-1),.non,.bl true]]) hn o (k:=k+1) 4 (by omega) (by omega) (by decide) (by decide)
     obtain⟨od,h1,h2,h3⟩:=Je d0 d9
     obtain⟨m1,m2,m3,m4⟩:=DZ a
     refine⟨.tup [.str r.w,.str t,(aW (sP a) (.inr r.w)).getD od,m],k+1+1,by omega,by omega,?_,fun h=>?_⟩
     · have dk:FX (g.length+1+1) [(.inr "put",a),(.inr "lot",.int 1000),(.inr "take",.int 0),(.inr "free",.int 0)] (aZ ns::aU (k+1) o::(g++[.dct []]))= .ok (.ref (g.length+1+1)) (aZ ns::aU (k+1) o::(g++[.dct (ja a)])):=by
        have:=mN (h:=aZ ns::aU (k+1) o::g) (kvs:=ja a) (by simp[ja])
        rw[m1] at this;exact this
       have l1:(ja a).length < 16777216:=by simp[ja]
       have l2:(c8 (ja a) (.inr "send") a).length < 16777216:=by
        have:c8 (ja a) (.inr "send") a=ja a++[(.inr "send",a)]:=by simp[c8,ja,aI]
        rw[this];simp[ja]
       have ff:(PV.tup [.str r.w,.str t,(aW (sP a) (.inr r.w)).getD od,m]).flat=true:=by
        have q1:((aW (sP a) (.inr r.w)).getD od).flat=true:=by
         have nf:a.flat=true:=by
          rcases vn with⟨_,rfl⟩ | ⟨i,_,rfl⟩<;>rfl
         rw[xf];cases r<;>first | exact nf | rfl | exact h2
        simp[PV.flat,PV.bF,q1,fl]
       rw[run_eq T.gH rfl]
       rcases vn with⟨rfl,rfl⟩ | ⟨i,rfl,rfl⟩
       · simp? (disch:=first | omega | exact l1 | exact l2) only[bT,cV,tw,ec,z0,z1,iO,kJ,i5,lx,lI,lg,dk,m2,fz l1,m3,fz l2,m4,ed,h3]
         exact bU ff
       · simp? (disch:=first | omega | exact l1 | exact l2) only[bT,cV,tw,ec,z0,z1,iO,kJ,i5,lx,lI,lg,dk,m2,fz l1,m3,fz l2,m4,ed,h3]
         exact bU ff
     · rw[xf]
       cases r with
       | let_ _ _=>exact nomatch ho
       | leap _ _=>exact nomatch ho
       | put x e =>
        have hv:=ow rfl;cases te
        rcases vn with⟨z,_⟩ | ⟨i,z,rfl⟩
        · rw[z] at hv;exact nomatch hv
        · rw[z] at hv;cases hv;exact rM T q h (by simp only[Rw.w];decide +kernel) uT
       | send x e =>
        have hv:=ow rfl;cases te
        rcases vn with⟨z,_⟩ | ⟨i,z,rfl⟩
        · rw[z] at hv;exact nomatch hv
        · rw[z] at hv;cases hv;exact rM T q h (by simp only[Rw.w];decide +kernel) uT
       | say x e =>
        have hv:=ow rfl;cases te
        rcases vn with⟨z,_⟩ | ⟨i,z,rfl⟩
        · rw[z] at hv;exact nomatch hv
        · rw[z] at hv;cases hv;exact rM T q h (by simp only[Rw.w];decide +kernel) uT
       | take x=>cases te;exact AI T q h (by simp only[Rw.w];decide +kernel)
       | free x=>cases te;exact AI T q h (by simp only[Rw.w];decide +kernel)
       | lot x n=>exact vX T q h (by simp only[Rw.w];decide +kernel) (.inl rfl)
       | _=>exact vX T q h (by simp only[Rw.w];decide +kernel) h1
end
end K13
end
section
open PySem L2 P3
set_option maxHeartbeats 1000000
namespace K13
theorem Bk(a:Str)(h:PH):iH (.str a) (.tup [.str "put",.str "send",.str "say",.str "take",.str "free"]) h= .ok (.bl (!decide (a∈(["put", "send", "say", "take", "free"]:List Str)))) h:=wj (ss:=["put", "send", "say", "take", "free"])
section
variable{pg:Tb}(T:cI pg)
include T
theorem DT(j:Nat){ns:List Int}(hn:ns.length<=63){L M:List Str}(hL:L.length<=20){p:PV}{i:Int}{rs:List Rw}(ha:dF p i rs)(hr: ∀ r∈rs,cz L rs.length r)(hm: ∀ r∈rs,mC r)(hM:fk M rs)(lM:M.length<=60){S:aG}(hs:mG L M rs S)(ts ys:PV)(k:Int)(o:Option Int)(g:PH)(k0:0<=k)(k9:k+12<=1000000) :
  ∃ k':Int,k<=k'/\k'<=k+12/\run pg (j+14) "_law_more_right" [.ref 1,p,.int i,.tup [ts,ak S],ys] (aZ ns::aU k o::g)= .ok (.bl true) (aZ ns::aU k' o::g):=by
 have t1: ∀ g,run pg (j+13) "_law_touch" [aD rs,ak S] g= .ok (bO rs S) g:=fun g=>ke T (j+3) g hL hr hs.ok hs.rest
 have ix: ∃ a b c d hh nm,p= .tup [a,b,c,d,.tup hh]/\ ∀ h,aq (.tup hh) (.int i) h= .ok (.tup [nm,aD rs]) h:=by
  obtain⟨a,b,c,d,hh,nm,e,ea⟩:=ha
  exact⟨a,b,c,d,hh,nm,e,fun h=>kD ea⟩
 obtain⟨a,b,c,d,hh,nm,pe,ia⟩:=ix
 cases e:rs[S.row]? with
 | none =>
  have tn:bO rs S= .non:=by unfold bO;rw[e]
  have g0: ∀ h,run pg (j+13) "goes_so" [p,.int i,ak S,.tup [.tup [.str "clock",.str "",.int 0,.non]]] h= .ok (.int 0) h:=fun h=>i6 T (j+1) h hL ha hr hM lM hs (.nil S) (y:= .tup [.str "clock",.str "",.int 0,.non]) [] (fun r e2=>nomatch (e.symm.trans e2))
  refine⟨k,by omega,by omega,?_⟩
  rw[run_eq T.dA rfl]
  subst pe
  simp? [bo,bR,ia,t1,tn,g0]
 | some r =>
  have ho:=hs.idle e
  have mr:=List.mem_of_getElem? e
  obtain⟨t,vl,te,nv,nn,lt⟩:=fS ho
  have tr:bO rs S= .tup [.str r.w,.str t,vl]:=by unfold bO;rw[e];exact te
  have fin2: ∀(v:PV)(k1:Int),Fits S r t v->0<=k1->k1+2<=1000000->(∀ h,run pg (j+13) "goes_so" [p,.int i,ak S,.tup [.tup [.str r.w,.str t,v,.non]]] h= .ok (.int 1) h)/\ ∃(y:PV)(k':Int),k1<=k'/\k'<=k1+2/\run pg (j+13) "_law_wrong" [.ref 1,.tup [.str r.w,.str t,v,.non]] (aZ ns::aU k1 o::g)= .ok y (aZ ns::aU k' o::g)/\ ∀ h,run pg (j+13) "goes_so" [p,.int i,ak S,.tup [y,.tup [.str r.w,.str t,v,.non]]] h= .ok (.int 0) h:=by
   intro v k1 f a0 a9
   obtain⟨y,k',b1,b2,b3,b4⟩:=sI T (j+10) (j+7) hn ho (hm r mr) f (m:= .non) rfl k1 o g a0 a9
   exact⟨fun h=>oF T (j+1) h hL ha hr hM lM hs (.cons (m:= .non) e f rfl (.nil _)),y,k',b1,b2,b3,fun h=>i6 T (j+1) h hL ha hr hM lM hs (.nil S) (y:=y) [.tup [.str r.w,.str t,v,.non]] (fun r2 e2=>by
    rw[e] at e2;cases e2;exact b4)⟩
  cases hp:r.aN with
  | none =>
   have nk:r.w∈(["put", "send", "say", "take", "free"]:List Str):=(oC ho).mpr hp
   obtain⟨g1,y,k',b1,b2,b3,b4⟩:=fin2 vl k ⟨⟨vl,te,fun _=>rfl⟩,fun x q=>by rw[hp] at q;exact nomatch q⟩ k0 (by omega)
   refine⟨k',by omega,by omega,?_⟩
   rw[run_eq T.dA rfl]
   subst pe
   simp? [bo,bR,ia,t1,tr,Bk,nk,g1,b3,b4,iw]
  | some x =>
   have nk: ¬ r.w∈(["put", "send", "say", "take", "free"]:List Str):=fun z=>by have:=(oC ho).mp z;rw[hp] at this;exact nomatch this
   obtain⟨v,k1,v1,v2,v6,v3,v4,v5⟩:=kA T (j+10) hn (hr r mr) ho k o g k0 (by omega)
   rw[te] at v5
   obtain⟨w,rfl,w0,w9⟩:=v1 x hp
   obtain⟨g1,y,k',b1,b2,b3,b4⟩:=fin2 (.int w) k1 ⟨⟨vl,te,fun q=>by rw[hp] at q;exact nomatch q⟩,fun x q=>⟨w,rfl,w0,w9,fun y m z=>v6 y m z w rfl⟩⟩ (by omega) (by omega)
   refine⟨k',by omega,by omega,?_⟩
   rw[run_eq T.dA rfl]
   subst pe
   simp? [bo,bR,ia,t1,tr,Bk,nk,v5,g1,b3,b4,iw]
end
noncomputable def ET(x:Str):List Rw:=[.say x (.num 1),.leap 0 (.num 1)]
noncomputable def NS(x:Str):PV:= .tup [.tup [],.tup [],.tup [],.tup [.str x],.tup [.tup [.str "handy",.tup [.tup [.str "say",.str x,.tup [.str "num",.int 1]],.tup [.str "leap",.int 0,.tup [.str "num",.int 1]]]]]]
noncomputable def l9(x:Str)(n:Int):PV:= .tup [.str "say",.str x,.int n,.non]
theorem AJ(x:Str): ∀ n:Nat,Goes (ET x) ⟨0,[],[]⟩ (List.replicate n (l9 x 1)) ⟨0,[],[]⟩
 | 0=> .nil _
 | n+1=>by
  have e:aF (ET x) 200 (after ⟨0,[],[]⟩ (.int 1) (.say x (.num 1)))=⟨0,[],[]⟩:=rfl
  refine .cons (r:= .say x (.num 1)) (t:=x) (v:= .int 1) (m:= .non) rfl ⟨⟨.int 1,rfl,fun _=>rfl⟩,fun y q=>nomatch q⟩ rfl ?_
  rw[e];exact AJ x n
section
variable{pg:Tb}(T:cI pg)
include T
theorem Ez(j:Nat){ns:List Int}(hn:ns.length<=63)(x:Str)(k:Int)(o:Option Int)(g:PH)(k0:0<=k)(k9:k+2<=1000000) :
  run pg (j+14) "_law_long_right" [.ref 1,.str x] (aZ ns::aU k o::g)= .ok (.bl true) (aZ ns::aU (k+1+1) o::g):=by
 have s1:l8 (.num 1):=⟨⟨by decide,by decide⟩,by decide⟩
 have ha:dF (NS x) 0 (ET x):=⟨_,_,_,_,_,_,rfl,rC⟩
 have hr: ∀ r∈ET x,cz [] (ET x).length r:=fun r m=>by
  rcases List.mem_cons.mp m with rfl | m
  · exact s1
  · rw[List.mem_singleton.mp m];exact⟨by decide,by simp[ET],s1⟩
 have hM:fk [] (ET x):=fun l m=>by simp[ET] at m
 have hs:mG [] [] (ET x) ⟨0,[],[]⟩:=⟨⟨.nil,Nat.zero_le _⟩,rfl,.nil,fun y m=>nomatch m⟩
 obtain⟨a,a0,a9,ea⟩:=aV T (j+11) g hn o (k:=k) 42 k0 (by omega) (by decide) (by decide)
 obtain⟨n,en⟩:=Int.eq_ofNat_of_zero_le (show 0<=59+a by omega)
 obtain⟨w,w0,w9,ew⟩:=aV T (j+11) g hn o (k:=k+1) (59+a) (by omega) (by omega) (by omega) (by omega)
 rw[en] at ew w9
 obtain⟨u,rfl⟩:=Int.eq_ofNat_of_zero_le w0
 have mu: ∀ h,gE (.tup [l9 x 1]) (.int n) h= .ok (.tup (List.replicate n (l9 x 1))) h:=fun h=>by
  rw[Ee (by simp only[List.length_cons,List.length_nil];omega),Int.toNat_natCast,List.flatten_replicate_singleton]
 have g1: ∀ h,run pg (j+13) "goes_so" [NS x,.int 0,.tup [.int 0,.tup [],.tup []],.tup (List.replicate n (l9 x 1))] h= .ok (.int n) h:=fun h=>by
  have:=oF T (j+1) h (Nat.zero_le _) ha hr hM (Nat.zero_le _) hs (AJ x n)
  rw[List.length_replicate] at this;exact this
 have c1:dY (List.replicate n (l9 x 1)) none (some (u:Int))=List.replicate u (l9 x 1):=by
  rw[P3.oS (by omega),Int.toNat_natCast,List.take_replicate,Nat.min_eq_left (by omega)]
 have c2:dY (List.replicate n (l9 x 1)) (some ((u:Int)+1)) none=(List.replicate n (l9 x 1)).drop (u+1):=by
  rw[P3.fA (by omega),show((u:Int)+1).toNat=u+1 by omega]
 have g2: ∀ h,run pg (j+13) "goes_so" [NS x,.int 0,.tup [.int 0,.tup [],.tup []],.tup (List.replicate u (l9 x 1)++l9 x 2::(List.replicate n (l9 x 1)).drop (u+1))] h= .ok (.int u) h:=fun h=>by
  have:=i6 T (j+1) h (Nat.zero_le _) ha hr hM (Nat.zero_le _) hs (AJ x u) (y:=l9 x 2) ((List.replicate n (l9 x 1)).drop (u+1)) (fun r e2 g=>by
   cases e2
   exact rM T (j+7) g (by decide +kernel) (by decide))
  rw[List.length_replicate] at this;exact this
 have d1: ∀ h,aE (.tup (List.replicate u (l9 x 1))) (.tup [l9 x 2]) h= .ok (.tup (List.replicate u (l9 x 1)++[l9 x 2])) h:=fun h=>iY (by rw[List.length_replicate];simp only[List.length_cons,List.length_nil];omega)
 have d2: ∀ h,aE (.tup (List.replicate u (l9 x 1)++[l9 x 2])) (.tup ((List.replicate n (l9 x 1)).drop (u+1))) h= .ok (.tup (List.replicate u (l9 x 1)++l9 x 2::(List.replicate n (l9 x 1)).drop (u+1))) h:=fun h=>by
  rw[iY (by simp only[List.length_append,List.length_replicate,List.length_drop,List.length_cons,List.length_nil];omega),List.append_assoc];rfl
 have f1:PV.tup [.str "say",.str x,.int 1,.non]=l9 x 1:=rfl
 have f2:PV.tup [.str "say",.str x,.int 2,.non]=l9 x 2:=rfl
 have f3:PV.tup [.tup [],.tup [],.tup [],.tup [.str x],.tup [.tup [.str "handy",.tup [.tup [.str "say",.str x,.tup [.str "num",.int 1]],.tup [.str "leap",.int 0,.tup [.str "num",.int 1]]]]]]=NS x:=rfl
 rw[run_eq T.j4 rfl]
 simp? [bV,dC,f1,f2,f3,ea,en,mu,g1,ew,c1,c2,d1,d2,g2,iw]
end
end K13
end
section
open PySem L2 P3
set_option maxHeartbeats 1000000
namespace K13
noncomputable def room:Nat:=20
theorem Ao{c:Int}(c0:0<=c)(c1:c < 3): ∃ v:Int,eF [PV.int 1,.int 3,.int 60] c=some (.int v):=by
 rcases(show c=0\/c=1\/c=2 by omega) with rfl | rfl | rfl
 · exact⟨_,rC⟩
 · exact⟨_,xt⟩
 · exact⟨_,BB⟩
noncomputable def tX:MS:=(bz (ao (ag ur (ab 3) (eC (.int 1)))) (aj (af "_law_rested" (aa (ab 6) (aa (af "_law_seat" (aa (ab 1) (aa (ab 4) (aa (ab 5) ae)))) ae))) (gN 7)) bB)
noncomputable def mW:MS:=(bz (ao (ag gS (ab 10) (aw ae))) (ah (aj (af "_law_pick" (aa (ab 1) (aa (eB bY (aa (ab 10) ae)) ae))) (gN 11)) (ah (aj (ag aE (ag aE (mE (ab 10) cH (cJ (ab 11))) (aw (aa (af "_law_wrong" (aa (ab 1) (aa (ag aq (ab 10) (ab 11)) ae))) ae))) (mE (ab 10) (cJ (ag aE (ab 11) (eC (.int 1)))) cH)) (gN 12)) (bz (ao (ag gS (af "goes_so" (aa (ab 4) (aa (ab 5) (aa (ab 7) (aa (ab 12) ae))))) (ab 11))) (az (eC (.bl false))) bB))) bB)
noncomputable def qW:MS:=(ah (aj (ag aq (ab 2) (ag eL (ab 3) (eC (.int 2)))) (gN 4)) (ah (aj (af "_law_pick" (aa (ab 1) (aa (eB bY (aa (ag aq (ab 4) (eC (.int 4))) ae)) ae))) (gN 5)) (ah (aj (ag aq (ag aq (ag aq (ab 4) (eC (.int 4))) (ab 5)) (eC (.int 1))) (gN 6)) (ah (aj (af "first_seat" (aa (ab 4) (aa (ab 5) ae))) (gN 7)) (ah tX (ah (aj (af "_law_values" (aa (ab 1) (aa (ab 6) (aa (ab 7) (aa (ag aq (aT (aa (eC (.int 1)) (aa (eC (.int 3)) (aa (eC (.int 60)) ae)))) (af "_law_pick" (aa (ab 1) (aa (eC (.int 3)) ae)))) ae))))) (gN 8)) (ah (aj (af "course" (aa (ab 4) (aa (ab 5) (aa (ab 7) (aa (ab 8) ae))))) (gN 9)) (ah (aj (af "_law_looks" (aa (ab 1) (aa (ag aq (ab 9) (eC (.int 0))) ae))) (gN 10)) (ah (bz (ao (ag gS (af "goes_so" (aa (ab 4) (aa (ab 5) (aa (ab 7) (aa (ab 10) ae))))) (eB bY (aa (ab 10) ae)))) (az (eC (.bl false))) bB) (ah (bz (vw (ao (af "_law_more_right" (aa (ab 1) (aa (ab 4) (aa (ab 5) (aa (ab 9) (aa (ab 10) ae)))))))) (az (eC (.bl false))) bB) mW))))))))))
section
variable{pg:Tb}(T:cI pg)
include T
theorem DS(k:Nat){ns:List Int}(hn:ns.length<=63){L M:List Str}(hL:L.length<=20){p:PV}{n:Int}{rs:List Rw}(ha:dF p n rs)(hr: ∀ r∈rs,cz L rs.length r)(hm: ∀ r∈rs,mC r)(hM:fk M rs)(lM:M.length<=60){S S':aG}(hS:mG L M rs S){zs:List PV}(A:Goes rs S zs S')(hl:zs.length<=60)(la: ∀ y∈zs,Laid y)(kk:Int)(o:Option Int)(g:PH)(k0:0<=kk)(k9:kk+10<=1000000)(u0 u2 u3 u6 u8 u9 u11 u12:Option PV) :
  ∃(k':Int)(v11 v12:Option PV),kk<=k'/\k'<=kk+3/\mW (run pg (k+14)) [u0,some (.ref 1),u2,u3,some p,some (.int n),u6,some (ak S),u8,u9,some (.tup zs),u11,u12] (aZ ns::aU kk o::g)= .ok (.nx [u0,some (.ref 1),u2,u3,some p,some (.int n),u6,some (ak S),u8,u9,some (.tup zs),v11,v12]) (aZ ns::aU k' o::g):=by
 have nt: ∀ h,gS (.tup zs) (.tup []) h= .ok (.bl (!decide (zs=[]))) h:=ne_T la
 by_cases z:zs=[]
 · refine⟨kk,u11,u12,by omega,by omega,?_⟩
   have nt: ∀ h,gS (.tup zs) (.tup []) h= .ok (.bl false) h:=fun h=>by rw[nt,decide_eq_true z];rfl
   simp? [mW,nt]
 · have zp:0 < zs.length:=List.length_pos_iff.mpr z
   obtain⟨w,w0,w9,ew⟩:=aV T (k+12) g hn o (k:=kk) zs.length k0 (by omega) (by omega) (by omega)
   obtain⟨u,rfl⟩:=Int.eq_ofNat_of_zero_le w0
   obtain⟨y,ey⟩: ∃ y,zs[u]?=some y:=⟨_,List.getElem?_eq_getElem (by omega)⟩
   obtain⟨s1,r,t,v,m,G,e,f,fl,rfl⟩:=DU A ey
   have sit1:mG L M rs s1:=(lh T 0 [] hL ha hr hM lM .non .non [] G hS [] 0 none none none).1
   have ho:=sit1.idle e
   obtain⟨y,k1,b1,b2,b3,b4⟩:=sI T (k+11) (k+8) hn ho (hm r (List.mem_of_getElem? e)) f fl (kk+1) o g (by omega) (by omega)
   have lt:(zs.take u).length=u:=by rw[List.length_take];omega
   have g2: ∀ h,run pg (k+14) "goes_so" [p,.int n,ak S,.tup (zs.take u++y::zs.drop (u+1))] h= .ok (.int u) h:=fun h=>by
    have:=i6 T (k+2) h hL ha hr hM lM hS G (y:=y) (zs.drop (u+1)) (fun r2 e2=>by rw[e] at e2;cases e2;exact b4)
    rw[lt] at this;exact this
   have ix: ∀ h,aq (.tup zs) (.int u) h= .ok (kr r t v m) h:=fun h=>kD (P3.eT rfl ey)
   have c1:dY zs none (some (u:Int))=zs.take u:=by rw[P3.oS (by omega),Int.toNat_natCast]
   have c2:dY zs (some ((u:Int)+1)) none=zs.drop (u+1):=by rw[P3.fA (by omega),show((u:Int)+1).toNat=u+1 by omega]
   have d1: ∀ h,aE (.tup (zs.take u)) (.tup [y]) h= .ok (.tup (zs.take u++[y])) h:=fun h=>iY (by rw[lt];simp only[List.length_cons,List.length_nil];omega)
   have d2: ∀ h,aE (.tup (zs.take u++[y])) (.tup (zs.drop (u+1))) h= .ok (.tup (zs.take u++y::zs.drop (u+1))) h:=fun h=>by
    rw[iY (by simp only[List.length_append,lt,List.length_drop,List.length_cons,List.length_nil];omega),List.append_assoc];rfl
   refine⟨k1,some (.int u),some (.tup (zs.take u++y::zs.drop (u+1))),by omega,by omega,?_⟩
   simp? [mW,nt,z,ew,ix,b3,c1,c2,d1,d2,g2]
theorem BV(k:Nat){ns:List Int}(hn:ns.length<=63){L1 t1 L2 t2:List Str}{hs1 hs2:List (Str × List Rw)}{p1 p2:PV}(P1:jz L1 t1 hs1 p1)(P2:jz L2 t2 hs2 p2)(xs0:List PV)(o:Option Int)(u0:Option PV) :
  ∀(js:List Nat)(kk:Int)(g:PH)(u3 u4 u5 u6 u7 u8 u9 u10 u11 u12:Option PV),0<=kk->kk+1000*js.length<=900000-> ∃(k':Int)(g':PH)(v3 v4 v5 v6 v7 v8 v9 v10 v11 v12:Option PV),kk<=k'/\k'<=kk+1000*js.length /\
   cg ⟨none,xs0⟩ (fL (gN 3) qW (run pg (k+14))) (js.map fun i:Nat=>PV.int (0+(i:Int))) [u0,some (.ref 1),some (.ref 2),u3,u4,u5,u6,u7,u8,u9,u10,u11,u12] (aZ ns::aU kk o:: .lst [p1,p2]::g)= .ok (.nx [u0,some (.ref 1),some (.ref 2),v3,v4,v5,v6,v7,v8,v9,v10,v11,v12]) (aZ ns::aU k' o:: .lst [p1,p2]::g'):=by
 intro js
 induction js with
 | nil=>intro kk g u3 u4 u5 u6 u7 u8 u9 u10 u11 u12 _ _;exact⟨kk,g,u3,u4,u5,u6,u7,u8,u9,u10,u11,u12,by omega,by omega,lE⟩
 | cons i js ih =>
  intro kk g u3 u4 u5 u6 u7 u8 u9 u10 u11 u12 k0 k9
  rw[List.length_cons] at k9
  have one: ∀{L t:List Str}{hs:List (Str × List Rw)}{p:PV},jz L t hs p->eF [p1,p2] ((i:Int) % 2)=some p-> ∃(k':Int)(g':PH)(v3 v4 v5 v6 v7 v8 v9 v10 v11 v12:Option PV),kk<=k'/\k'<=kk+1000*((i::js).length:Nat) /\
   cg ⟨none,xs0⟩ (fL (gN 3) qW (run pg (k+14))) ((i::js).map fun i:Nat=>PV.int (0+(i:Int))) [u0,some (.ref 1),some (.ref 2),u3,u4,u5,u6,u7,u8,u9,u10,u11,u12] (aZ ns::aU kk o:: .lst [p1,p2]::g)= .ok (.nx [u0,some (.ref 1),some (.ref 2),v3,v4,v5,v6,v7,v8,v9,v10,v11,v12]) (aZ ns::aU k' o:: .lst [p1,p2]::g'):=by
   intro L t hs p P ea
   have hm:=P.many
   have hL:L.length<=20:=Nat.le_trans P.len (by decide)
   obtain⟨hi,hi0,hi1,eh⟩:=aV T (k+12) (.lst [p1,p2]::g) hn o (k:=kk) hs.length k0 (by omega) (by omega) (by omega)
   obtain⟨n,rfl⟩:=Int.eq_ofNat_of_zero_le hi0
   obtain⟨hd,ei⟩: ∃ hd,hs[n]?=some hd:=⟨_,List.getElem?_eq_getElem (by omega)⟩
   obtain⟨ha,hr⟩:=P.hand T ei
   have hmem:=List.mem_of_getElem? ei
   have rl:=(P.rows hd hmem).1
   have nm:=P.PM hd hmem
   have hM:=yP hd.2 t
   have lM:(mS hd.2++t).length<=60:=by
    have h1:(mS hd.2).length<=hd.2.length:=List.length_filterMap_le _ _
    have h2:=P.Ft
    rw[List.length_append];omega
   have f2: ∀ h,run pg (k+14) "first_seat" [p,.int n] h=_:=fun h=>pj T (k+3) h hL ha hr
   have iz:(0:Int)+(i:Int)=(i:Int):=Int.zero_add _
   have b0: ∃(S:aG)(k1:Int),mG L (mS hd.2++t) hd.2 S/\kk+1<=k1/\k1<=kk+101/\ ∀ e8 e9 e10 e11 e12,tX (run pg (k+14)) [u0,some (.ref 1),some (.ref 2),some (.int i),some p,some (.int n),some (aD hd.2),some (ak (aF hd.2 200 ⟨0,[],[]⟩)),e8,e9,e10,e11,e12] (aZ ns::aU (kk+1) o:: .lst [p1,p2]::g)= .ok (.nx [u0,some (.ref 1),some (.ref 2),some (.int i),some p,some (.int n),some (aD hd.2),some (ak S),e8,e9,e10,e11,e12]) (aZ ns::aU k1 o:: .lst [p1,p2]::g):=by
    have h0:cj L hd.2 ⟨0,[],[]⟩:=⟨.nil,Nat.zero_le _⟩
    by_cases z:(i:Int) > 1
    · obtain⟨s,ls,k1,a1,a2,a3,a4,a5,a6⟩:=E6 T (k+11) hn P ei (kk+1) o (.lst [p1,p2]::g) (by omega) (by omega)
      have f1:run pg (k+14) "_law_rested" [aD hd.2,ak s] (aZ ns::aU k1 o:: .lst [p1,p2]::g)=_:=ji T (k+4) _ hL hr a1
      refine⟨aF hd.2 200 s,k1,⟨iu hr 200 _ a1,eO 200 _,by rw[dm,a3];exact i3 (a2.nodup P.PR),fun x m=>by
       rw[dm,a3] at m
       exact List.mem_append_right _ (a2.subset ((bN _).mem_iff.mp m))⟩,a4,by omega,fun e8 e9 e10 e11 e12=>?_⟩
      simp? [tX,z,a6,f1]
    · refine⟨aF hd.2 200 ⟨0,[],[]⟩,kk+1,⟨iu hr 200 _ h0,eO 200 _,by rw[dm];exact .nil,fun x m=>by rw[dm] at m;exact nomatch m⟩,by omega,by omega,fun e8 e9 e10 e11 e12=>?_⟩
      simp? [tX,z]
   obtain⟨S,k1,hS,q1,q2,b0⟩:=b0
   obtain⟨c,c0,c1,ec⟩:=aV T (k+12) (.lst [p1,p2]::(g++[.lst [.int 1,.int 3,.int 60]])) hn o (k:=k1) 3 (by omega) (by omega) (by decide) (by decide)
   obtain⟨mo,em⟩:=Ao c0 c1
   obtain⟨vs,k2,b6,b1,b2,b3,b4,b5⟩:=xx T (k+2) hn hL hr hM lM mo o (.lst [p1,p2]::(g++[.lst [.int 1,.int 3,.int 60]])) hS (k1+1) (by omega) (by omega)
   have d2: ∀ h,run pg (k+14) "course" [p,.int n,ak S,.tup (vs.map PV.int)] h=_:=fun h=>xJ T (k+2) h hL ha hr hM lM b1 hS
   have tp:=qL (rs:=hd.2) 60 S vs
   have tf:=iU (rs:=hd.2) 60 S vs
   have tt:=nG hM hr nm 60 S vs hS b1
   have cs:=qR hM hr 60 S vs hS b1
   obtain⟨zs,mk,lk⟩:=Aq T (k+11) hn o (fun t m=>by obtain⟨w,x,v,e,_⟩:=tt t m;exact⟨_,_,_,e⟩) tf tp k2 (.lst [p1,p2]::(g++[.lst [.int 1,.int 3,.int 60]])) (by omega) (by omega)
   have go:=oy hM hr 60 S vs zs hS b1 (b6 60) mk
   have zl:=mk.len
   have la:=mk.laid tt
   generalize hq:kX hd.2 60 S vs=q at d2 tp cs lk go zl
   have ga: ∀ h,run pg (k+14) "goes_so" [p,.int n,ak S,.tup zs] h= .ok (.int zs.length) h:=fun h=>oF T (k+2) h hL ha hr hM lM hS go
   obtain⟨k3,r1,r2,r3⟩:=DT T k hn hL ha hr nm hM lM cs (.tup q.1) (.tup zs) (k2+q.1.length) o (.lst [p1,p2]::(g++[.lst [.int 1,.int 3,.int 60]])) (by omega) (by omega)
   have i0: ∀ h,aq (uQ q) (.int 0) h= .ok (.tup q.1) h:=fun h=>rfl
   have r3':run pg (k+14) "_law_more_right" [.ref 1,p,.int n,uQ q,.tup zs] (aZ ns::aU (k2+q.1.length) o:: .lst [p1,p2]::(g++[.lst [.int 1,.int 3,.int 60]]))=_:=r3
   obtain⟨k4,v11,v12,s1,s2,tl⟩:=DS T k hn hL ha hr nm hM lM hS go (by omega) la k3 o (.lst [p1,p2]::(g++[.lst [.int 1,.int 3,.int 60]])) (by omega) (by omega) u0 (some (.ref 2)) (some (.int i)) (some (aD hd.2)) (some (.tup (vs.map PV.int))) (some (uQ q)) u11 u12
   obtain⟨k5,g',w3,w4,w5,w6,w7,w8,w9,w10,w11,w12,x1,x2,fi⟩:=ih k4 (g++[.lst [.int 1,.int 3,.int 60]]) (some (.int i)) (some p) (some (.int n)) (some (aD hd.2)) (some (ak S)) (some (.tup (vs.map PV.int))) (some (uQ q)) (some (.tup zs)) v11 v12 (by omega) (by omega)
   refine⟨k5,g',w3,w4,w5,w6,w7,w8,w9,w10,w11,w12,by omega,by rw[List.length_cons];omega,?_⟩
   rw[List.map_cons,fu]
   have at4:=kD (h:=aZ ns::aU (kk+1) o:: .lst [p1,p2]::g) (xs:=hs.map dP) (i:=n) (v:= .tup [.str hd.1,aD hd.2]) (P3.eT rfl (by rw[List.getElem?_map,ei];rfl))
   obtain⟨bs,s3,s4,rfl⟩:=P.at_
   unfold qW at fi ⊢
   simp? [iz,ea,List.length_map,eh,at4,f2,b0,ec,em,b5,d2,i0,lk,ga,r3',tl,cQ,fi]
  rcases(show(i:Int) % 2=0\/(i:Int) % 2=1 by omega) with z | z
  · exact one P1 (by rw[z];exact rC)
  · exact one P2 (by rw[z];exact xt)
end
theorem Am: ∀ ns:List Int,ns.length<=63->Ok (run tb (room+1) "law" [.ref 0] [.kM (ns.map PV.int)]) fun v _=>v= .bl true:=by
 intro ns hn
 have T:cI tb:=has
 show Ok (run tb (20+1) "law" [.ref 0] [aZ ns]) _
 rw[run_eq T.FZ rfl]
 have dk:FX (0+1) [((.inr "script" :Key),PV.ref 0),(.inr "k",.int 0)] [aZ ns,.dct []]= .ok (.ref 1) [aZ ns,aU 0 none]:=by
  have mk:bA [] [((.inr "script" :Key),PV.ref 0),(.inr "k",.int 0)]=[(.inr "script",.ref 0),(.inr "k",.int 0)]:=by simp[bA,c8,aI]
  have:=y0 (h:=[aZ ns,.dct []]) (n:=1) (kvs:=[((.inr "script" :Key),PV.ref 0),(.inr "k",.int 0)]) rfl (show 2<=15 by decide)
  rw[mk] at this;exact this
 obtain⟨L1,t1,hs1,p1,k1,o1,P1,a1,a2,a3⟩:=om T 10 hn 0 none [] (by decide) (by decide)
 obtain⟨L2,t2,hs2,p2,k2,o2,P2,b1,b2,b3⟩:=om T 10 hn k1 o1 [] (by omega) (by omega)
 obtain⟨k3,g',v3,v4,v5,v6,v7,v8,v9,v10,v11,v12,c1,c2,le⟩:=BV T 6 hn P1 P2 (bX 0 6) o2 (some (.ref 0)) (List.range 6) k2 [] none none none none none none none none none none (by omega) (by rw[List.length_range];omega)
 rw[List.length_range] at c2
 rw[show(List.range 6).map (fun i:Nat=>PV.int (0+(i:Int)))=bX 0 6 from rfl] at le
 obtain⟨g2,n,nm,d1,d2,_,_,d3⟩:=tT T 17 hn k3 o2 (.lst [p1,p2]::g') (by omega) (by omega)
 obtain⟨x,rest,rfl⟩: ∃ x rest,nm=x::rest:=by
  cases nm with
  | nil=>exact nomatch d2
  | cons x r=>exact⟨x,r,rfl⟩
 have lo:=Ez T 6 hn x (k3+1) o2 (.lst [p1,p2]::g'++g2) (by omega) (by omega)
 have ix:aq (.ref (n+1+1)) (.int 0) (aZ ns::aU (k3+1) o2::(.lst [p1,p2]::g'++g2))= .ok (.str x) (aZ ns::aU (k3+1) o2::(.lst [p1,p2]::g'++g2)):=by
  have e:(aZ ns::aU (k3+1) o2::(.lst [p1,p2]::g'++g2))[n+1+1]?=some (.lst ((x::rest).map PV.str)):=d1
  rw[Lm,e,Md,List.map_cons,rC];rfl
 rw[List.cons_append] at d3 lo ix
 unfold qW tX mW at le
 simp? [tU,Az,iO,kJ,i5,lx,lI,lg,dk,a3,b3,le,d3,ix,lo]
 unfold P3.settle
 split<;>exact⟨_,_,rfl,rfl⟩
end K13
end
section
open PySem PySem.W PyProof.Rows
set_option maxHeartbeats 8000000
namespace K13
open PySem L2 P3 PyProof.Rows
theorem all_mk{l:PySem.W.OpenLaw}{w:World}{K:PySem.W.Frag}{h:Heap}{mg:Str->Option Value}{fa:Addr}(X:K.In h)(G:h.Ns mainGlobals mg)(hfa:mg "law" =some (.ref fa)){tWORTHS:Tok}{tMOST_OWN_ROWS:Tok}{tMOST_TOUCHES:Tok}{aPOCKETING:Addr}{nPOCKETING:Nat}{dPOCKETING:Option Addr}{sPOCKETING:Array (Option Value)}{tPOCKETING0 tPOCKETING1 tPOCKETING2 tPOCKETING3 tPOCKETING4:Tok}{aROW_PARTS:Addr}{eROW_PARTS:Nat}{qROW_PARTS0 qROW_PARTS1 qROW_PARTS2 qROW_PARTS3 qROW_PARTS4 qROW_PARTS5 qROW_PARTS6 qROW_PARTS7 qROW_PARTS8 qROW_PARTS9 qROW_PARTS10 qROW_PARTS11:Tok}{rROW_PARTS0:Addr}{nROW_PARTSv0_:Nat}{dROW_PARTSv0_:Option Addr}{sROW_PARTSv0_:Array (Option Value)}{tROW_PARTSv0_0 tROW_PARTSv0_1:Tok}{rROW_PARTS1:Addr}{nROW_PARTSv1_:Nat}{dROW_PARTSv1_:Option Addr}{sROW_PARTSv1_:Array (Option Value)}{tROW_PARTSv1_0 tROW_PARTSv1_1:Tok}{rROW_PARTS2:Addr}{nROW_PARTSv2_:Nat}{dROW_PARTSv2_:Option Addr}{sROW_PARTSv2_:Array (Option Value)}{tROW_PARTSv2_0 tROW_PARTSv2_1:Tok}{rROW_PARTS3:Addr}{nROW_PARTSv3_:Nat}{dROW_PARTSv3_:Option Addr}{sROW_PARTSv3_:Array (Option Value)}{tROW_PARTSv3_0 tROW_PARTSv3_1:Tok}{rROW_PARTS4:Addr}{nROW_PARTSv4_:Nat}{dROW_PARTSv4_:Option Addr}{sROW_PARTSv4_:Array (Option Value)}{tROW_PARTSv4_0:Tok}{rROW_PARTS5:Addr}{nROW_PARTSv5_:Nat}{dROW_PARTSv5_:Option Addr}{sROW_PARTSv5_:Array (Option Value)}{tROW_PARTSv5_0:Tok}{rROW_PARTS6:Addr}{nROW_PARTSv6_:Nat}{dROW_PARTSv6_:Option Addr}{sROW_PARTSv6_:Array (Option Value)}{tROW_PARTSv6_0 tROW_PARTSv6_1:Tok}{rROW_PARTS7:Addr}{nROW_PARTSv7_:Nat}{dROW_PARTSv7_:Option Addr}{sROW_PARTSv7_:Array (Option Value)}{tROW_PARTSv7_0 tROW_PARTSv7_1:Tok}{rROW_PARTS8:Addr}{nROW_PARTSv8_:Nat}{dROW_PARTSv8_:Option Addr}{sROW_PARTSv8_:Array (Option Value)}{tROW_PARTSv8_0 tROW_PARTSv8_1:Tok}{rROW_PARTS9:Addr}{nROW_PARTSv9_:Nat}{dROW_PARTSv9_:Option Addr}{sROW_PARTSv9_:Array (Option Value)}{tROW_PARTSv9_0:Tok}{rROW_PARTS10:Addr}{nROW_PARTSv10_:Nat}{dROW_PARTSv10_:Option Addr}{sROW_PARTSv10_:Array (Option Value)}{tROW_PARTSv10_0 tROW_PARTSv10_1:Tok}{rROW_PARTS11:Addr}{nROW_PARTSv11_:Nat}{dROW_PARTSv11_:Option Addr}{sROW_PARTSv11_:Array (Option Value)}{tROW_PARTSv11_0 tROW_PARTSv11_1:Tok}
  (A0:At K mg "is_whole" (top 1))
  (A1:At K mg "is_between" (top 2))
  (A2:At K mg "is_value" (top 3))
  (A3:At K mg "is_tuple_of" (top 4))
  (A4:At K mg "worth" (top 8))
  (A5:At K mg "joined_worth" (top 9))
  (A6:At K mg "rows_of" (top 11))
  (A7:At K mg "first_seat" (top 16))
  (A8:At K mg "rested" (top 17))
  (A9:At K mg "is_rested" (top 18))
  (A10:At K mg "is_own_row" (top 19))
  (A11:At K mg "behind_own_row" (top 20))
  (A12:At K mg "laid" (top 21))
  (A13:At K mg "touch_of" (top 22))
  (A14:At K mg "seat_behind" (top 23))
  (A15:At K mg "course" (top 24))
  (A16:At K mg "goes_so" (top 25))
  (A17:At K mg "gives_look" (top 26))
  (A18:At K mg "may_come" (top 27))
  (A19:At K mg "_law_draw" (top 29))
  (A20:At K mg "_law_pick" (top 30))
  (A21:At K mg "_law_names" (top 31))
  (A22:At K mg "_law_sum_in" (top 32))
  (A23:At K mg "_law_sum" (top 33))
  (A24:At K mg "_law_row" (top 34))
  (A25:At K mg "_law_program" (top 35))
  (A26:At K mg "_law_worth" (top 36))
  (A27:At K mg "_law_own" (top 37))
  (A28:At K mg "_law_rested" (top 38))
  (A29:At K mg "_law_touch" (top 39))
  (A30:At K mg "_law_behind" (top 40))
  (A31:At K mg "_law_value" (top 41))
  (A32:At K mg "_law_seat" (top 42))
  (A33:At K mg "_law_values" (top 43))
  (A34:At K mg "_law_looks" (top 45))
  (A35:At K mg "_law_wrong" (top 46))
  (A36:At K mg "_law_more_right" (top 47))
  (A37:At K mg "_law_long_right" (top 48))
  (A38:At K mg "law" (top 49))
  (z0:PySem.W.nsIn K mainGlobals "len" =some none)
  (z1:PySem.W.nsIn K mainGlobals "range" =some none)
  (z2:PySem.W.nsIn K mainGlobals "isinstance" =some none)
  (z3:PySem.W.nsIn K mainGlobals "int" =some none)
  (z4:PySem.W.nsIn K mainGlobals "bool" =some none)
  (z5:PySem.W.nsIn K mainGlobals "tuple" =some none)
  (z6:PySem.W.nsIn K mainGlobals "dict" =some none)
  (z7:PySem.W.nsIn K mainGlobals "sorted" =some none)
  (z8:PySem.W.nsIn K mainGlobals "min" =some none)
  (z9:PySem.W.nsIn K mainGlobals "max" =some none)
  (z10:PySem.W.nsIn K mainGlobals "abs" =some none)
  (z11:PySem.W.nsIn K mainGlobals "all" =some none)
  (z12:PySem.W.nsIn K mainGlobals "any" =some none)
  (z13:PySem.W.nsIn K mainGlobals "sum" =some none)
  (z14:PySem.W.nsIn K mainGlobals "str" =some none)
  (z15:PySem.W.nsIn K mainGlobals "list" =some none)
  (z16:PySem.W.nsIn K mainGlobals "zip" =some none)
  (z17:PySem.W.nsIn K mainGlobals "set" =some none)
  (z18:PySem.W.nsIn K mainGlobals "repr" =some none)
  (z19:PySem.W.nsIn K mainGlobals "enumerate" =some none)
  (wWORTHS:PySem.W.nsIn K mainGlobals "WORTHS" =some (some (.int 1000 tWORTHS)))
  (wMOST_OWN_ROWS:PySem.W.nsIn K mainGlobals "MOST_OWN_ROWS" =some (some (.int 200 tMOST_OWN_ROWS)))
  (wMOST_TOUCHES:PySem.W.nsIn K mainGlobals "MOST_TOUCHES" =some (some (.int 60 tMOST_TOUCHES)))
  (wPOCKETING:PySem.W.nsIn K mainGlobals "POCKETING" =some (some (.ref aPOCKETING))) (oPOCKETING:K.lookup aPOCKETING=some ⟨.type "tuple",dPOCKETING,.seq #[.str "get" tPOCKETING0,.str "fetch" tPOCKETING1,.str "clock" tPOCKETING2,.str "lot" tPOCKETING3,.str "hear" tPOCKETING4] nPOCKETING,sPOCKETING⟩)
  (oROW_PARTSv0_:K.lookup rROW_PARTS0=some ⟨.type "tuple",dROW_PARTSv0_,.seq #[.str "pocket" tROW_PARTSv0_0,.str "sum" tROW_PARTSv0_1] nROW_PARTSv0_,sROW_PARTSv0_⟩)
  (oROW_PARTSv1_:K.lookup rROW_PARTS1=some ⟨.type "tuple",dROW_PARTSv1_,.seq #[.str "target" tROW_PARTSv1_0,.str "sum" tROW_PARTSv1_1] nROW_PARTSv1_,sROW_PARTSv1_⟩)
  (oROW_PARTSv2_:K.lookup rROW_PARTS2=some ⟨.type "tuple",dROW_PARTSv2_,.seq #[.str "pocket" tROW_PARTSv2_0,.str "box" tROW_PARTSv2_1] nROW_PARTSv2_,sROW_PARTSv2_⟩)
  (oROW_PARTSv3_:K.lookup rROW_PARTS3=some ⟨.type "tuple",dROW_PARTSv3_,.seq #[.str "box" tROW_PARTSv3_0,.str "sum" tROW_PARTSv3_1] nROW_PARTSv3_,sROW_PARTSv3_⟩)
  (oROW_PARTSv4_:K.lookup rROW_PARTS4=some ⟨.type "tuple",dROW_PARTSv4_,.seq #[.str "lock" tROW_PARTSv4_0] nROW_PARTSv4_,sROW_PARTSv4_⟩)
  (oROW_PARTSv5_:K.lookup rROW_PARTS5=some ⟨.type "tuple",dROW_PARTSv5_,.seq #[.str "lock" tROW_PARTSv5_0] nROW_PARTSv5_,sROW_PARTSv5_⟩)
  (oROW_PARTSv6_:K.lookup rROW_PARTS6=some ⟨.type "tuple",dROW_PARTSv6_,.seq #[.str "lane" tROW_PARTSv6_0,.str "sum" tROW_PARTSv6_1] nROW_PARTSv6_,sROW_PARTSv6_⟩)
  (oROW_PARTSv7_:K.lookup rROW_PARTS7=some ⟨.type "tuple",dROW_PARTSv7_,.seq #[.str "pocket" tROW_PARTSv7_0,.str "lane" tROW_PARTSv7_1] nROW_PARTSv7_,sROW_PARTSv7_⟩)
  (oROW_PARTSv8_:K.lookup rROW_PARTS8=some ⟨.type "tuple",dROW_PARTSv8_,.seq #[.str "door" tROW_PARTSv8_0,.str "sum" tROW_PARTSv8_1] nROW_PARTSv8_,sROW_PARTSv8_⟩)
  (oROW_PARTSv9_:K.lookup rROW_PARTS9=some ⟨.type "tuple",dROW_PARTSv9_,.seq #[.str "pocket" tROW_PARTSv9_0] nROW_PARTSv9_,sROW_PARTSv9_⟩)
  (oROW_PARTSv10_:K.lookup rROW_PARTS10=some ⟨.type "tuple",dROW_PARTSv10_,.seq #[.str "pocket" tROW_PARTSv10_0,.str "chances" tROW_PARTSv10_1] nROW_PARTSv10_,sROW_PARTSv10_⟩)
  (oROW_PARTSv11_:K.lookup rROW_PARTS11=some ⟨.type "tuple",dROW_PARTSv11_,.seq #[.str "pocket" tROW_PARTSv11_0,.str "door" tROW_PARTSv11_1] nROW_PARTSv11_,sROW_PARTSv11_⟩)
  (wROW_PARTS:PySem.W.nsIn K mainGlobals "ROW_PARTS" =some (some (.ref aROW_PARTS))) (oROW_PARTS:K.lookup aROW_PARTS=some { cls:= .type "dict",data:= .dict #[{ hash:=PyData.keyHash w.params "let",key:= .str "let" qROW_PARTS0,val:= .ref rROW_PARTS0 },{ hash:=PyData.keyHash w.params "leap",key:= .str "leap" qROW_PARTS1,val:= .ref rROW_PARTS1 },{ hash:=PyData.keyHash w.params "get",key:= .str "get" qROW_PARTS2,val:= .ref rROW_PARTS2 },{ hash:=PyData.keyHash w.params "put",key:= .str "put" qROW_PARTS3,val:= .ref rROW_PARTS3 },{ hash:=PyData.keyHash w.params "take",key:= .str "take" qROW_PARTS4,val:= .ref rROW_PARTS4 },{ hash:=PyData.keyHash w.params "free",key:= .str "free" qROW_PARTS5,val:= .ref rROW_PARTS5 },{ hash:=PyData.keyHash w.params "send",key:= .str "send" qROW_PARTS6,val:= .ref rROW_PARTS6 },{ hash:=PyData.keyHash w.params "fetch",key:= .str "fetch" qROW_PARTS7,val:= .ref rROW_PARTS7 },{ hash:=PyData.keyHash w.params "say",key:= .str "say" qROW_PARTS8,val:= .ref rROW_PARTS8 },{ hash:=PyData.keyHash w.params "clock",key:= .str "clock" qROW_PARTS9,val:= .ref rROW_PARTS9 },{ hash:=PyData.keyHash w.params "lot",key:= .str "lot" qROW_PARTS10,val:= .ref rROW_PARTS10 },{ hash:=PyData.keyHash w.params "hear",key:= .str "hear" qROW_PARTS11,val:= .ref rROW_PARTS11 }] eROW_PARTS }) (yROW_PARTS:(aROW_PARTS == sysModules)=false) :
  ∃ fd:FuncData,(∀(s:Shared)(v:Value),BindsTo s fd ⟨[v],[]⟩ [("_law_script",v)])/\ ∀ base:Heap,K.In base->base.Ns mainGlobals mg->iD l.prog w K mg base si (room+1) fa fd ["_law_script"] (uA K tb (room+1) "law"):=by
 have T:Top l.prog w K mg tb:=⟨(List.forall_mem_cons.mpr ⟨PySem.W.mg_none_of X G z0,(List.forall_mem_cons.mpr ⟨PySem.W.mg_none_of X G z1,(List.forall_mem_cons.mpr ⟨PySem.W.mg_none_of X G z2,(List.forall_mem_cons.mpr ⟨PySem.W.mg_none_of X G z3,(List.forall_mem_cons.mpr ⟨PySem.W.mg_none_of X G z4,(List.forall_mem_cons.mpr ⟨PySem.W.mg_none_of X G z5,(List.forall_mem_cons.mpr ⟨PySem.W.mg_none_of X G z6,(List.forall_mem_cons.mpr ⟨PySem.W.mg_none_of X G z7,(List.forall_mem_cons.mpr ⟨PySem.W.mg_none_of X G z8,(List.forall_mem_cons.mpr ⟨PySem.W.mg_none_of X G z9,(List.forall_mem_cons.mpr ⟨PySem.W.mg_none_of X G z10,(List.forall_mem_cons.mpr ⟨PySem.W.mg_none_of X G z11,(List.forall_mem_cons.mpr ⟨PySem.W.mg_none_of X G z12,(List.forall_mem_cons.mpr ⟨PySem.W.mg_none_of X G z13,(List.forall_mem_cons.mpr ⟨PySem.W.mg_none_of X G z14,(List.forall_mem_cons.mpr ⟨PySem.W.mg_none_of X G z15,(List.forall_mem_cons.mpr ⟨PySem.W.mg_none_of X G z16,(List.forall_mem_cons.mpr ⟨PySem.W.mg_none_of X G z17,(List.forall_mem_cons.mpr ⟨PySem.W.mg_none_of X G z18,(List.forall_mem_cons.mpr ⟨PySem.W.mg_none_of X G z19,(by intro p m;cases m)⟩)⟩)⟩)⟩)⟩)⟩)⟩)⟩)⟩)⟩)⟩)⟩)⟩)⟩)⟩)⟩)⟩)⟩)⟩)⟩),Dj (conT:=conT) rfl (List.forall_mem_cons.mpr ⟨uV (PySem.W.mg_of X G wWORTHS) (.int _ _),(List.forall_mem_cons.mpr ⟨uV (PySem.W.mg_of X G wMOST_OWN_ROWS) (.int _ _),(List.forall_mem_cons.mpr ⟨uV (PySem.W.mg_of X G wMOST_TOUCHES) (.int _ _),(List.forall_mem_cons.mpr ⟨Cz (us:=[.str "get" tPOCKETING0,.str "fetch" tPOCKETING1,.str "clock" tPOCKETING2,.str "lot" tPOCKETING3,.str "hear" tPOCKETING4]) (PySem.W.mg_of X G wPOCKETING) oPOCKETING (by show 5<=sizeLine;decide) (.cons (.str _ _) (.cons (.str _ _) (.cons (.str _ _) (.cons (.str _ _) (.cons (.str _ _) .nil))))),(by intro p m;cases m)⟩)⟩)⟩)⟩),D5 (dcT:=dcT) rfl (List.forall_mem_cons.mpr ⟨IP (ls:=[("let",qROW_PARTS0,.ref rROW_PARTS0),("leap",qROW_PARTS1,.ref rROW_PARTS1),("get",qROW_PARTS2,.ref rROW_PARTS2),("put",qROW_PARTS3,.ref rROW_PARTS3),("take",qROW_PARTS4,.ref rROW_PARTS4),("free",qROW_PARTS5,.ref rROW_PARTS5),("send",qROW_PARTS6,.ref rROW_PARTS6),("fetch",qROW_PARTS7,.ref rROW_PARTS7),("say",qROW_PARTS8,.ref rROW_PARTS8),("clock",qROW_PARTS9,.ref rROW_PARTS9),("lot",qROW_PARTS10,.ref rROW_PARTS10),("hear",qROW_PARTS11,.ref rROW_PARTS11)]) (PySem.W.mg_of X G wROW_PARTS) oROW_PARTS yROW_PARTS (show([.inr "let",.inr "leap",.inr "get",.inr "put",.inr "take",.inr "free",.inr "send",.inr "fetch",.inr "say",.inr "clock",.inr "lot",.inr "hear"]:List Key).Nodup by decide +kernel) (.cons ⟨rfl,eG (us:=[.str "pocket" tROW_PARTSv0_0,.str "sum" tROW_PARTSv0_1]) oROW_PARTSv0_ (by show 2<=sizeLine;decide) (.cons (.str _ _) (.cons (.str _ _) .nil))⟩ (.cons ⟨rfl,eG (us:=[.str "target" tROW_PARTSv1_0,.str "sum" tROW_PARTSv1_1]) oROW_PARTSv1_ (by show 2<=sizeLine;decide) (.cons (.str _ _) (.cons (.str _ _) .nil))⟩ (.cons ⟨rfl,eG (us:=[.str "pocket" tROW_PARTSv2_0,.str "box" tROW_PARTSv2_1]) oROW_PARTSv2_ (by show 2<=sizeLine;decide) (.cons (.str _ _) (.cons (.str _ _) .nil))⟩ (.cons ⟨rfl,eG (us:=[.str "box" tROW_PARTSv3_0,.str "sum" tROW_PARTSv3_1]) oROW_PARTSv3_ (by show 2<=sizeLine;decide) (.cons (.str _ _) (.cons (.str _ _) .nil))⟩ (.cons ⟨rfl,eG (us:=[.str "lock" tROW_PARTSv4_0]) oROW_PARTSv4_ (by show 1<=sizeLine;decide) (.cons (.str _ _) .nil)⟩ (.cons ⟨rfl,eG (us:=[.str "lock" tROW_PARTSv5_0]) oROW_PARTSv5_ (by show 1<=sizeLine;decide) (.cons (.str _ _) .nil)⟩ (.cons ⟨rfl,eG (us:=[.str "lane" tROW_PARTSv6_0,.str "sum" tROW_PARTSv6_1]) oROW_PARTSv6_ (by show 2<=sizeLine;decide) (.cons (.str _ _) (.cons (.str _ _) .nil))⟩ (.cons ⟨rfl,eG (us:=[.str "pocket" tROW_PARTSv7_0,.str "lane" tROW_PARTSv7_1]) oROW_PARTSv7_ (by show 2<=sizeLine;decide) (.cons (.str _ _) (.cons (.str _ _) .nil))⟩ (.cons ⟨rfl,eG (us:=[.str "door" tROW_PARTSv8_0,.str "sum" tROW_PARTSv8_1]) oROW_PARTSv8_ (by show 2<=sizeLine;decide) (.cons (.str _ _) (.cons (.str _ _) .nil))⟩ (.cons ⟨rfl,eG (us:=[.str "pocket" tROW_PARTSv9_0]) oROW_PARTSv9_ (by show 1<=sizeLine;decide) (.cons (.str _ _) .nil)⟩ (.cons ⟨rfl,eG (us:=[.str "pocket" tROW_PARTSv10_0,.str "chances" tROW_PARTSv10_1]) oROW_PARTSv10_ (by show 2<=sizeLine;decide) (.cons (.str _ _) (.cons (.str _ _) .nil))⟩ (.cons ⟨rfl,eG (us:=[.str "pocket" tROW_PARTSv11_0,.str "door" tROW_PARTSv11_1]) oROW_PARTSv11_ (by show 2<=sizeLine;decide) (.cons (.str _ _) (.cons (.str _ _) .nil))⟩ .nil)))))))))))),(by intro p m;cases m)⟩)⟩
 have gs: ∀ p∈fH,∃ st N,aH l.prog w K mg tb p.1 p.2 st N:=(List.forall_mem_cons.mpr ⟨⟨_,_,vg has A0⟩,(List.forall_mem_cons.mpr ⟨⟨_,_,rG has A1⟩,(List.forall_mem_cons.mpr ⟨⟨_,_,vi has A2⟩,(List.forall_mem_cons.mpr ⟨⟨_,_,o7 has A3⟩,(List.forall_mem_cons.mpr ⟨⟨_,_,EZ has A4⟩,(List.forall_mem_cons.mpr ⟨⟨_,_,nH has A5⟩,(List.forall_mem_cons.mpr ⟨⟨_,_,yx has A6⟩,(List.forall_mem_cons.mpr ⟨⟨_,_,rY has A7⟩,(List.forall_mem_cons.mpr ⟨⟨_,_,zg has A8⟩,(List.forall_mem_cons.mpr ⟨⟨_,_,tJ has A9⟩,(List.forall_mem_cons.mpr ⟨⟨_,_,qV has A10⟩,(List.forall_mem_cons.mpr ⟨⟨_,_,kQ has A11⟩,(List.forall_mem_cons.mpr ⟨⟨_,_,KO has A12⟩,(List.forall_mem_cons.mpr ⟨⟨_,_,uB has A13⟩,(List.forall_mem_cons.mpr ⟨⟨_,_,pC has A14⟩,(List.forall_mem_cons.mpr ⟨⟨_,_,zR has A15⟩,(List.forall_mem_cons.mpr ⟨⟨_,_,xP has A16⟩,(List.forall_mem_cons.mpr ⟨⟨_,_,rF has A17⟩,(List.forall_mem_cons.mpr ⟨⟨_,_,uD has A18⟩,(List.forall_mem_cons.mpr ⟨⟨_,_,tj has A19⟩,(List.forall_mem_cons.mpr ⟨⟨_,_,um has A20⟩,(List.forall_mem_cons.mpr ⟨⟨_,_,qC has A21⟩,(List.forall_mem_cons.mpr ⟨⟨_,_,px has A22⟩,(List.forall_mem_cons.mpr ⟨⟨_,_,vP has A23⟩,(List.forall_mem_cons.mpr ⟨⟨_,_,vH has A24⟩,(List.forall_mem_cons.mpr ⟨⟨_,_,nF has A25⟩,(List.forall_mem_cons.mpr ⟨⟨_,_,rZ has A26⟩,(List.forall_mem_cons.mpr ⟨⟨_,_,vM has A27⟩,(List.forall_mem_cons.mpr ⟨⟨_,_,pG has A28⟩,(List.forall_mem_cons.mpr ⟨⟨_,_,qZ has A29⟩,(List.forall_mem_cons.mpr ⟨⟨_,_,o9 has A30⟩,(List.forall_mem_cons.mpr ⟨⟨_,_,rS has A31⟩,(List.forall_mem_cons.mpr ⟨⟨_,_,sr has A32⟩,(List.forall_mem_cons.mpr ⟨⟨_,_,pD has A33⟩,(List.forall_mem_cons.mpr ⟨⟨_,_,rE has A34⟩,(List.forall_mem_cons.mpr ⟨⟨_,_,qO has A35⟩,(List.forall_mem_cons.mpr ⟨⟨_,_,jM has A36⟩,(List.forall_mem_cons.mpr ⟨⟨_,_,kn has A37⟩,(List.forall_mem_cons.mpr ⟨⟨_,_,FO has A38⟩,(by intro p m;cases m)⟩)⟩)⟩)⟩)⟩)⟩)⟩)⟩)⟩)⟩)⟩)⟩)⟩)⟩)⟩)⟩)⟩)⟩)⟩)⟩)⟩)⟩)⟩)⟩)⟩)⟩)⟩)⟩)⟩)⟩)⟩)⟩)⟩)⟩)⟩)⟩)⟩)⟩)⟩)
 exact Iz T (zL rfl gs) has.FZ rfl (FO has A38) hfa
theorem walk{l:PySem.W.OpenLaw}{q:Program}{loose:List Str}{XP:(Str->Option Value)->Heap->Prop}{YP:World->Heap->Prop}{d:DefRec}{K:Params->PySem.W.Frag}(hn:l.most=some 63)(hdf:d.params.defaults=[])
  (hY: ∀(w:World)(h:Heap),YP w h->(K w.params).In h)
  (F: ∀(w:World)(mg:Str->Option Value)(fa:Addr)(h:Heap),(K w.params).In h->h.Ns mainGlobals mg->mg d.name=some (.ref fa) ->
   ∃ fd:FuncData,(∀(s:Shared)(u:Value),BindsTo s fd ⟨[u],[]⟩ [("_law_script",u)])/\ ∀ base:Heap,(K w.params).In base->base.Ns mainGlobals mg->iD l.prog w (K w.params) mg base si (room+1) fa fd ["_law_script"] (uA (K w.params) tb (room+1) "law")) :
  PySem.W.WalkO q loose XP YP l.row.toRowW d [] (fun f vs=>PySem.call f vs) :=
 L2.DH (n:=63) (k:=room+1) (x:= "_law_script") (CX:=fun _=>si) (sp:=fun w=>uA (K w.params) tb (room+1) "law") hn (by decide) hdf ⟨rfl,by decide,by decide,rfl⟩ hY F (fun _ H a ns hl hO hS=>HH Am H a ns hl hO hS) fun _ _ _ _ _ z=>z
end K13
open PySem PySem.W PyProof.Rows
set_option maxRecDepth 100000 in
set_option maxHeartbeats 0 in
theorem PySem.Challenge.cw_leastrecord_k13_whole_courses_go_so_holds : PySem.Challenge.rw_leastrecord_k13_whole_courses_go_so.Holds := by
 w_on;o_law;k_head;(case hw=>w_witness2)
 k_fill
 refine K13.walk (l:=PySem.Challenge.rw_leastrecord_k13_whole_courses_go_so) rfl rfl (fun w h Y=>PySem.W.kIn_of Y) ?F
 case F =>
  intro w mg fa h KX G hmg
  refine' K13.all_mk KX G hmg (L2.bg KX G ?_ ?_ ?_ ?_) (L2.bg KX G ?_ ?_ ?_ ?_) (L2.bg KX G ?_ ?_ ?_ ?_) (L2.bg KX G ?_ ?_ ?_ ?_) (L2.bg KX G ?_ ?_ ?_ ?_) (L2.bg KX G ?_ ?_ ?_ ?_) (L2.bg KX G ?_ ?_ ?_ ?_) (L2.bg KX G ?_ ?_ ?_ ?_) (L2.bg KX G ?_ ?_ ?_ ?_) (L2.bg KX G ?_ ?_ ?_ ?_) (L2.bg KX G ?_ ?_ ?_ ?_) (L2.bg KX G ?_ ?_ ?_ ?_) (L2.bg KX G ?_ ?_ ?_ ?_) (L2.bg KX G ?_ ?_ ?_ ?_) (L2.bg KX G ?_ ?_ ?_ ?_) (L2.bg KX G ?_ ?_ ?_ ?_) (L2.bg KX G ?_ ?_ ?_ ?_) (L2.bg KX G ?_ ?_ ?_ ?_) (L2.bg KX G ?_ ?_ ?_ ?_) (L2.bg KX G ?_ ?_ ?_ ?_) (L2.bg KX G ?_ ?_ ?_ ?_) (L2.bg KX G ?_ ?_ ?_ ?_) (L2.bg KX G ?_ ?_ ?_ ?_) (L2.bg KX G ?_ ?_ ?_ ?_) (L2.bg KX G ?_ ?_ ?_ ?_) (L2.bg KX G ?_ ?_ ?_ ?_) (L2.bg KX G ?_ ?_ ?_ ?_) (L2.bg KX G ?_ ?_ ?_ ?_) (L2.bg KX G ?_ ?_ ?_ ?_) (L2.bg KX G ?_ ?_ ?_ ?_) (L2.bg KX G ?_ ?_ ?_ ?_) (L2.bg KX G ?_ ?_ ?_ ?_) (L2.bg KX G ?_ ?_ ?_ ?_) (L2.bg KX G ?_ ?_ ?_ ?_) (L2.bg KX G ?_ ?_ ?_ ?_) (L2.bg KX G ?_ ?_ ?_ ?_) (L2.bg KX G ?_ ?_ ?_ ?_) (L2.bg KX G ?_ ?_ ?_ ?_) (L2.bg KX G ?_ ?_ ?_ ?_) ?z0 ?z1 ?z2 ?z3 ?z4 ?z5 ?z6 ?z7 ?z8 ?z9 ?z10 ?z11 ?z12 ?z13 ?z14 ?z15 ?z16 ?z17 ?z18 ?z19 ?wWORTHS ?wMOST_OWN_ROWS ?wMOST_TOUCHES ?wPOCKETING ?oPOCKETING ?oROW_PARTSv0_ ?oROW_PARTSv1_ ?oROW_PARTSv2_ ?oROW_PARTSv3_ ?oROW_PARTSv4_ ?oROW_PARTSv5_ ?oROW_PARTSv6_ ?oROW_PARTSv7_ ?oROW_PARTSv8_ ?oROW_PARTSv9_ ?oROW_PARTSv10_ ?oROW_PARTSv11_ ?wROW_PARTS ?oROW_PARTS ?yROW_PARTS
  all_goals try k_is
  all_goals try k_is
  all_goals exact rfl
end
end
end
