import PyProof.Rows.All
import KE.KLam
import PyProof.Dict
import PyProof.EnumIter
import PyProof.FactsAll.NoneType
import PyProof.ListRange
import PyProof.RangeIter
import PyProof.Seq
import PyProof.TupleIter
import PyProof.WalksMore
import Wide.All
import OpenK.AllK
import Wide.FinOn
import Lean
import PyProof.EqAt
import PyProof.EqKinds
import PyProof.TupleCall
import PyProof.StrLawsTight
import PyProof.StrLawsChain
import KE.KIntText
import KE.KSortAsk
import KE.KEqDat
import PyProof.P3In
import PyProof.InstStoreFacts
import PyProof.InstLoad
import PyProof.ExcArgsOwn
import PyProof.StationsW
import PyProof.Rows.Range3
import PyProof.Rows.MinMaxN
import PyProof.WalkInts
import PyProof.StrOps2
import PyProof.StrLawsIn
import PyProof.Walks
import PyProof.InstFacts
import PySem.Challenge.RW_tentpairs_k03_whole_all_steady
set_option Elab.async false
set_option linter.all false
set_option maxRecDepth 100000
def PySem.W.Fast.tw891608283390812179:=0
def PySem.W.Fast.tw9301112231796821556:=0
def PySem.W.Fast.tw8340422964743654102:=0
def PySem.W.Fast.tw8066894157179233883:=0
def PySem.W.Fast.tw12233131989736804729:=0
def PySem.W.Fast.tw12627531209275515922:=0
def PySem.W.Fast.tw10268911774616631581:=0
def PySem.W.Fast.tw14596986281936558389:=0
def PySem.W.Fast.tw5842225109528353967:=0
def PySem.W.Fast.tw12047373420040536172:=0
def PySem.W.Fast.tw10332185851786614147:=0
def PySem.W.Fast.tw13162346316059091301:=0
def PySem.W.Fast.tw3804558165591335687:=0
def PySem.W.Fast.tw2977049030648835436:=0
def PySem.W.Fast.tw5599909533824737734:=0
def PySem.W.Fast.tw10324090396414193806:=0
def PySem.W.Fast.tw2572738378848848949:=0
def PySem.W.Fast.tw14592741562185543752:=0
def PySem.W.Fast.tw12604022871236612955:=0
def PySem.W.Fast.tw5334655799028621681:=0
def PySem.W.Fast.tw8852555456637212844:=0
def PySem.W.Fast.tw3990556898439694133:=0
def PySem.W.Fast.tw12167853397774175226:=0
def PySem.W.Fast.tw13762766507200748949:=0
def PySem.W.Fast.tw13402382072680264143:=0
def PySem.W.Fast.tw13809387629929117761:=0
namespace TX
open PySem
theorem Jn(f:Array Value->Array Value)(o:Obj):(Obj.mapFields f o).dict=o.dict:=by
 unfold Obj.mapFields
 split <;> rfl
def TrD(h base:Heap)(e:Addr)(cls cx fl:Value)(od:Option Addr):Prop :=
 ∃x fs T y ts,h.get? e=some x/\(x.cls=cls/\fs[2]?=some cx/\x.dict=od)/\x.data=.fields fs/\fs[1]?=some (.ref T)/\base.get? T=none/\T≠e/\h.get? T=some y/\y.data=.fields ts/\ts[3]?=some fl
def NoD(base:Heap)(l:List Env)(e:Addr)(cls cx fl:Value)(od:Option Addr)(h h':Heap):Prop:=base.StaysIn h'/\h'.FunFrames base l/\TrD h' base e cls cx fl od/\h.UpToSlots h'
section
variable {M:Model}{A:Around}{E:Value->Shared->Prop}{s:Shared}
theorem zfF{base:Heap}{env:Env}{outer:List Env}{L e:Addr}{x:Obj}{fs:Array Value}{head cx:Value}{more:Bool}{Q:Unit->Shared->Prop}
  (fr:A.frames=some (env::outer)) (ff:s.heap.FunFrames base (env::outer)) (lf:env.frame=some L) (ge:s.heap.get? e=some x) (kb:base.StaysIn s.heap) (ne:base.get? e=none) (dx:x.data=.fields fs) (sz:1<fs.size) (a:fs[2]?=some cx)
  (q:∀h',NoD base (env::outer) e x.cls cx (rawInt L) x.dict s.heap h'->Q () { s with heap:=h' }) :
  wpAny M A (do let u <-frameOf env;let p <-entryPlaceOf L more;let v <-EntryCells.newEntry head u .none (rawInt L) .none p;setField (.ref e) 1 v) Q E s:=by
 have out:e∉(env::outer).filterMap (·.frame):=λz=>by
  obtain⟨_,o,go,nf⟩:=ff.mem z;rw[ge] at go;cases go;exact nf fs dx
 refine wpAny_bind (wpAny_frameOf_fun fr ff lf λg kg=>wpAny_bind (wpAny_entryPlaceOf λp hp=>?_));unfold EntryCells.newEntry newFields;refine wpAny_bind (wpAny_newObj_type ?_ (hp.sizeOk5 _ _ _ _ _));have ge1:g.get? e=some x:=(kg.2.1 e out).trans ge
 have kb1:base.StaysIn g:=λb o z=>(kg.2.1 b λy=>by rw[(ff.mem y).1] at z;cases z).trans (kb b o z)
 generalize hN:({ cls:=.type "traceback",dict:=none,data:=.fields ([head,.ref L,.none,rawInt L,.none]++(if p.isEmpty then List.replicate 6 Value.none else p)).toArray }:Obj)=N
 have hNd:N.data=.fields ([head,.ref L,.none,rawInt L,.none]++(if p.isEmpty then List.replicate 6 Value.none else p)).toArray:=by rw[<-hN]
 have hNf:N.isFreed=false:=Obj.isFreed_of_fields hNd;have ge2:=Heap.get?_push_of_some (h:=g) N ge1;refine wpAny_setField ge2 dx sz (q _ ?_);have nT:g.objs.size≠e:=Nat.ne_of_gt (Heap.lt_size ge1);have d3:=Obj.data_mapFields dx (·.setIfInBounds 1 (Value.ref g.objs.size));have ge3:=Heap.get?_update_self (Obj.mapFields (·.setIfInBounds 1 (Value.ref g.objs.size))) ge2 (Obj.isFreed_of_fields d3);have gT:=(Heap.get?_update_other (g.push N) (Obj.mapFields (·.setIfInBounds 1 (Value.ref g.objs.size))) (Ne.symm nT)).trans (Heap.get?_push_size g hNf)
 have stay:∀b o,b≠e->g.get? b=some o->((g.push N).update e (Obj.mapFields (·.setIfInBounds 1 (Value.ref g.objs.size)))).get? b=some o:=λb o z y =>
  (Heap.get?_update_other _ _ (Ne.symm z)).trans (Heap.get?_push_of_some _ y)
 have rcd:∀b o,s.heap.get? b=some o->(∀vs,o.data≠.fields vs)->b≠e:=λb o z nf y=>by
  rw[y,ge] at z;cases z;exact nf fs dx
 refine⟨λb o z=>stay b o (λy=>by rw[y,ne] at z;cases z) (kb1 b o z),ff.of_keeps λb o z nf=>?_,?_,λb o z nf=>?_⟩
 ·obtain⟨sl,y⟩:=kg.2.2 b o z
  exact⟨_,stay b _ (rcd b o z nf) y,rfl⟩
 ·refine⟨_,_,g.objs.size,_,_,ge3,⟨Obj.cls_mapFields _ _,(Array.getElem?_setIfInBounds_ne (by decide)).trans a,Jn _ _⟩,d3,by simp[sz],kb1.fresh,nT,gT,hNd,?_⟩
  first|(simp;done)|(rcases hp with rfl|⟨_,_,_,_,_,_,_,rfl⟩ <;> simp)
 ·obtain⟨sl,y⟩:=kg.2.2 b o z
  exact⟨sl,stay b _ (rcd b o z nf) y⟩
theorem zbN{base:Heap}{env:Env}{outer:List Env}{L e:Addr}{x:Obj}{fs:Array Value}{cx:Value}{Q:Unit->Shared->Prop}
  (fr:A.frames=some (env::outer)) (ff:s.heap.FunFrames base (env::outer)) (lf:env.frame=some L) (ge:s.heap.get? e=some x) (kb:base.StaysIn s.heap) (ne:base.get? e=none) (dx:x.data=.fields fs) (a1:fs[1]?=some .none) (a:fs[2]?=some cx)
  (q:∀h',NoD base (env::outer) e x.cls cx (rawInt L) x.dict s.heap h'->Q () { s with heap:=h' }):wpAny M A (noteFrame (.ref e) env) Q E s:=by
 unfold noteFrame;simp only[lf];refine wpAny_bind (wpAny_field ge dx a1 ?_)
 rw[if_neg (by decide)]
 exact zfF fr ff lf ge kb ne dx (Array.getElem?_eq_some_iff.mp a1).1 a q
theorem zdh{base:Heap}{env:Env}{outer:List Env}{L e:Addr}{cls cx:Value}{od:Option Addr}{Q:Unit->Shared->Prop}
  (fr:A.frames=some (env::outer)) (ff:s.heap.FunFrames base (env::outer)) (lf:env.frame=some L) (tr:TrD s.heap base e cls cx .none od) (kb:base.StaysIn s.heap) (ne:base.get? e=none)
  (q:∀h',NoD base (env::outer) e cls cx (rawInt L) od s.heap h'->Q () { s with heap:=h' }):wpAny M A (noteFrame (.ref e) env) Q E s:=by
 obtain⟨x,fs,T,y,ts,ge,⟨rfl,a,rfl⟩,dx,a1,nT,Te,gT,dT,a3⟩:=tr;unfold noteFrame;simp only[lf];refine wpAny_bind (wpAny_field ge dx a1 ?_)
 rw[if_pos (show (Value.ref T != Value.none)=true from by simp)]
 refine wpAny_bind (wpAny_field gT dT a3 ?_)
 rw[if_neg (show ¬((Value.none==rawInt L)=true) from by simp[rawInt])]
 refine wpAny_bind (wpAny_setField gT dT (Array.getElem?_eq_some_iff.mp a3).1 ?_);have oth:∀b,b≠T->(s.heap.update T (Obj.mapFields (·.setIfInBounds 3 Value.none))).get? b=s.heap.get? b:=λb z=>Heap.get?_update_other _ _ (Ne.symm z)
 have rcd:∀b o,s.heap.get? b=some o->(∀vs,o.data≠.fields vs)->b≠T:=λb o z nf y=>by
  rw[y,gT] at z;cases z;exact nf ts dT
 refine zfF fr (ff.of_keeps λb o z nf=>⟨o,(oth b (rcd b o z nf)).trans z,rfl⟩) lf ((oth e (Ne.symm Te)).trans ge) (λb o z=>(oth b λy=>by rw[y,nT] at z;cases z).trans (kb b o z)) ne dx (Array.getElem?_eq_some_iff.mp a1).1 a λh' k=>?_
 exact q h' ⟨k.1,k.2.1,k.2.2.1,λb o z nf=>k.2.2.2 b o ((oth b (rcd b o z nf)).trans z) nf⟩
theorem qa{base:Heap}{l:List Env}{e:Addr}{cls cx fl:Value}{od:Option Addr}{Q:Unit->Shared->Prop}(kb:base.StaysIn s.heap)(ff:s.heap.FunFrames base l)(tr:TrD s.heap base e cls cx fl od)
  (q:∀h',NoD base l e cls cx .none od s.heap h'->Q () { s with heap:=h' }):wpAny M A (setFlight (.ref e) none) Q E s:=by
 obtain⟨x,fs,T,y,ts,ge,c,dx,a1,nT,Te,gT,dT,a3⟩:=tr;have z3:3<ts.size:=(Array.getElem?_eq_some_iff.mp a3).1;have oth:∀b,b≠T->(s.heap.update T (Obj.mapFields (·.setIfInBounds 3 ((none:Option Addr).elim Value.none λf=>rawInt f)))).get? b=s.heap.get? b:=λb z=>Heap.get?_update_other _ _ (Ne.symm z)
 have rcd:∀b o,s.heap.get? b=some o->(∀vs,o.data≠.fields vs)->b≠T:=λb o z nf y=>by
  rw[y,gT] at z;cases z;exact nf ts dT
 unfold setFlight;refine wpAny_bind (wpAny_field ge dx a1 ?_)
 rw[if_pos (show (Value.ref T != Value.none)=true from by simp)]
 refine wpAny_setField gT dT z3 (q _ ⟨λb o z=>(oth b λy=>by rw[y,nT] at z;cases z).trans (kb b o z),ff.of_keeps λb o z nf=>⟨o,(oth b (rcd b o z nf)).trans z,rfl⟩,?_,λb o z nf=>⟨o.slots,(oth b (rcd b o z nf)).trans z⟩⟩)
 exact⟨x,fs,T,_,_,(oth e (Ne.symm Te)).trans ge,c,dx,a1,nT,Te,Heap.get?_update_self _ gT (Obj.isFreed_of_fields (Obj.data_mapFields dT _)),Obj.data_mapFields dT _,by simp[z3]⟩
theorem Wl{base h h1 h2:Heap}{l:List Env}{e:Addr}{cls cx f1 f2:Value}{od:Option Addr}(x:NoD base l e cls cx f1 od h h1)(y:NoD base l e cls cx f2 od h1 h2):NoD base l e cls cx f2 od h h2:=⟨y.1,y.2.1,y.2.2.1,x.2.2.2.trans y.2.2.2⟩
theorem zas{base:Heap}{env:Env}{outer:List Env}{L e:Addr}{x:Obj}{fs:Array Value}{cx:Value}{Q:Unit->Shared->Prop}
  (fr:A.frames=some (env::outer)) (ff:s.heap.FunFrames base (env::outer)) (lf:env.frame=some L) (ge:s.heap.get? e=some x) (kb:base.StaysIn s.heap) (ne:base.get? e=none) (dx:x.data=.fields fs) (a1:fs[1]?=some .none) (a:fs[2]?=some cx)
  (q:∀h',NoD base (env::outer) e x.cls cx .none x.dict s.heap h'->Q () { s with heap:=h' }):wpAny M A (leaving env (.ref e)) Q E s:=by
 unfold leaving;exact wpAny_bind (zbN fr ff lf ge kb ne dx a1 a λh' k=>qa k.1 k.2.1 k.2.2.1 λh2 k2=>q h2 (Wl k k2))
theorem zbh{base:Heap}{env:Env}{outer:List Env}{L e:Addr}{cls cx:Value}{od:Option Addr}{Q:Unit->Shared->Prop}
  (fr:A.frames=some (env::outer)) (ff:s.heap.FunFrames base (env::outer)) (lf:env.frame=some L) (tr:TrD s.heap base e cls cx .none od) (kb:base.StaysIn s.heap) (ne:base.get? e=none)
  (q:∀h',NoD base (env::outer) e cls cx .none od s.heap h'->Q () { s with heap:=h' }):wpAny M A (leaving env (.ref e)) Q E s:=by
 unfold leaving;exact wpAny_bind (zdh fr ff lf tr kb ne λh' k=>qa k.1 k.2.1 k.2.2.1 λh2 k2=>q h2 (Wl k k2))
end
end TX
namespace TX
open PySem
theorem Qr:entryFor table "proto.unchain"=some Builtin.«proto.unchain»:=entryFor_of_tree (by kernel_rfl)
def Chn(e:Addr)(pl:List (Addr×Obj)):Prop:=(∃o fs,pl=[(e,o)]/\o.data=.fields fs/\fs[2]?=some .none) \/
 ∃o fs c u gs,pl=[(e,o),(c,u)]/\o.data=.fields fs/\fs[2]?=some (.ref c)/\c≠e/\u.data=.fields gs/\gs[2]?=some .none
theorem Chn.mem{e:Addr}{pl:List (Addr×Obj)}(x:Chn e pl):∃o,(e,o)∈pl:=by
 rcases x with ⟨o,_,rfl,_⟩|⟨o,_,c,u,_,rfl,_⟩
 ·exact⟨o,List.mem_cons_self⟩
 ·exact⟨o,List.mem_cons_self⟩
section
variable {prog:Program}{w:World}{A:Around}{E:Value->Shared->Prop}{s:Shared}
theorem ji{a c v:Addr}{b:Bool}{u:Obj}{gs:Array Value}{R:Result->Shared->Prop}(h1:s.heap.get? c=some u)(h2:u.data=.fields gs)(h3:gs[2]?=some .none)(q:R (.ok (.ret .none)) s) :
  codeAny (model prog w) A (.builtin "proto.unchain" ⟨[.ref a,.ref c,.ref v,.bool b],[]⟩) R s:=by
 refine codeAny_builtin Qr ?_;unfold Builtin.«proto.unchain»;dsimp only;refine wpAny_bind (wpAny_field h1 h2 h3 ?_)
 rw[if_pos (by decide)]
 exact wpAny_pure q
theorem zbt{a e:Addr}{pl:List (Addr×Obj)}{R:Result->Shared->Prop}(x:Chn e pl)(k:∀p∈pl,s.heap.get? p.1=some p.2/\p.1≠a)(q:R (.ok (.ret .none)) s) :
  codeAny (model prog w) A (.builtin "proto.unchain" ⟨[.ref a,.ref e,.ref e,.bool false],[]⟩) R s:=by
 rcases x with ⟨o,fs,rfl,h2,h3⟩|⟨o,fs,c,u,gs,rfl,h2,h3,h4,h6,h7⟩
 ·exact ji (k _ List.mem_cons_self).1 h2 h3 q
 ·have k2:=k (c,u) (by simp)
  refine codeAny_builtin Qr ?_;unfold Builtin.«proto.unchain»;dsimp only;refine wpAny_bind (wpAny_field (k _ List.mem_cons_self).1 h2 h3 ?_)
  rw[if_neg (by simp),if_neg (by simpa using k2.2),if_neg (by simpa using h4)]
  refine wpAny_bind (wpAny_pure ?_)
  exact wpAny_pure ⟨Code.quiet_builtin _ (by decide +kernel),ji k2.1 h6 h7 q⟩
theorem yw{α:Type}{a e:Addr}{pl:List (Addr×Obj)}{o:Obj}{vs:Array Value}{Q:α->Shared->Prop}(hh:A.handled=some (.ref e))(x:Chn e pl)(k:∀p∈pl,s.heap.get? p.1=some p.2/\p.1≠a)
  (ga:s.heap.get? a=some o) (d:o.data=.fields vs) (sz:2<vs.size) (q:E (.ref a) { s with heap:=s.heap.update a (Obj.mapFields (·.setIfInBounds 2 (.ref e))) }):wpAny (model prog w) A (raiseNew (.ref a):Sem α) Q E s:=by
 have hea:e≠a:=by obtain⟨o,h⟩:=x.mem;exact(k _ h).2
 unfold raiseNew;refine wpAny_bind (wpAny_handled ?_);rw[hh];dsimp only
 rw[if_pos (by simpa using hea)]
 refine wpAny_bind (wpAny_holding (wpAny_runValue (zbt x k ?_)));show wpAny (model prog w) A (setField (.ref a) 2 (.ref e)>>=λ_=>throw (Value.ref a)) Q E s;exact wpAny_bind (wpAny_setField ga d sz (wpAny_throw q))
theorem Wn{it l e:Addr}{i:Nat}{items:Array Value}{pl:List (Addr×Obj)}{Q:Option Value->Shared->Prop}(hh:A.handled=some (.ref e))(x:Chn e pl)(k:∀p∈pl,s.heap.get? p.1=some p.2/\p.1≠it)
  (ti:s.heap.IsListIter it l i) (tl:s.heap.IsList l items) (hx:items[i]?=none) (q:∀h',Heap.ExtBut it s.heap h'->Q none { s with heap:=h' }):wpAny (model prog w) A (pyNext (.ref it)) Q E s:=by
 obtain⟨o,ho,hc,hd⟩:=id ti;obtain⟨ol,hol,_,nl,hdl⟩:=tl;unfold pyNext;refine wpAny_bind (wpAny_attempt (wpAny_callSpecial?_slot (name:=Str.ofString "__next__") ti.typeIs slot_listiter_next (wpAny_call_entry slot_listiter_next ti.typeIs entry_listiter_next ?_ (args_listiter_next _))));show wpAny _ _ (field (.ref it) 0>>=_) _ _ _;refine wpAny_bind (wpAny_field ho hd (x:=.ref l) rfl ?_)
 show wpAny _ _ (if (Value.ref l==Value.none)=true then _ else _) _ _ _
 rw[if_neg (by simp)]
 show wpAny _ _ (field (.ref it) 1>>=_) _ _ _;refine wpAny_bind (wpAny_field ho hd (x:=.int i 0) rfl ?_);show wpAny _ _ (seqItems? (.ref l)>>=_) _ _ _;refine wpAny_bind (wpAny_seqItems hol hdl ?_);simp only[Int.toNat_natCast,hx]
 refine wpAny_bind (wpAny_rule (wpAny_bind (wpAny_setField ho hd (by simp) (wpAny_bind ?_))))
 simp only[newExc,newTuple]
 refine wpAny_bind (wpAny_newObj_type ?_ (by size_fits))
 refine wpAny_bind (m:=firstArgMember _ _) (wpAny_of_eq (a:=Value.none) (by first|rfl|(simp only[firstArgMember];rfl)) (wpAny_newObj_type ?_ (by size_fits)))
 have kk:∀b o,b≠it->s.heap.get? b=some o->(s.heap.update it (Obj.mapFields (·.setIfInBounds 0 Value.none))).get? b=some o:=λb o n z=>(Heap.get?_update_other _ _ (Ne.symm n)).trans z;generalize s.heap.update it (Obj.mapFields (·.setIfInBounds 0 Value.none))=g at kk ⊢;dsimp only;have gX:=Heap.get?_push_size (g.push { cls:=Value.type "tuple",data:=Data.seq #[] }) (o:={ cls:=Value.type "StopIteration",data:=Data.fields (#[Value.ref g.objs.size,Value.none,Value.none,Value.none,Value.bool false,Value.none]++ownMembersOf (Value.type "StopIteration") []) }) rfl;have old:∀b o,b≠it->s.heap.get? b=some o->(g.push { cls:=Value.type "tuple",data:=Data.seq #[] }).get? b=some o:=λb o n z=>Heap.get?_push_of_some _ (kk b o n z)
 refine yw (A:=A.in1) hh x (λp hp=>⟨Heap.get?_push_of_some _ (old _ _ (k p hp).2 (k p hp).1),Nat.ne_of_lt (Heap.lt_size (old _ _ (k p hp).2 (k p hp).1))⟩) gX rfl (by simp[ownMembersOf]) ?_
 refine wpAny_bind (wpAny_isInstance (T:="StopIteration") (b:=true) ⟨_,Heap.get?_update_self _ gX rfl,Obj.cls_mapFields _ _⟩ isSubtype_stop ?_);refine wpAny_pure (q _ λb o n z=>?_);exact(Heap.get?_update_other _ _ (Nat.ne_of_gt (Heap.lt_size (old b o n z)))).trans (Heap.get?_push_of_some _ (old b o n z))
theorem qy(I ax e:Addr)(pl:List (Addr×Obj))(hh:A.handled=some (.ref e))(x:Chn e pl)(np:∀p∈pl,p.1≠I)(hne:ax≠I)(items:Array Value) :
  Walks prog w A I ([I,ax]++pl.map (·.1)) [I] items.size (λi v=>items[i]?=some v) (λi h=>h.IsListIter I ax i/\h.IsList ax items/\∀p∈pl,h.get? p.1=some p.2) where
 sub:=λb hb=>by simp at hb;simp[hb]
 frame:=λ_ _ _ st hk=>⟨st.1.at λo e=>hk I (by simp) o e,st.2.1.at λo e=>hk ax (by simp) o e,λp hp=>hk p.1 (List.mem_append_right _ (List.mem_map.mpr ⟨p,hp,rfl⟩)) _ (st.2.2 p hp)⟩
 item:=λi s Q E hi st hQ=>by
  refine wpAny_pyNext_list_item st.1 st.2.1 (x:=items[i]) (by simp[hi]) λh' z y=>hQ _ h' s.toks (by simp[hi]) ⟨z,st.2.1.extBut y.extBut hne,λp hp=>y.extBut _ _ (np p hp) (st.2.2 p hp)⟩ λb o hb u=>y.extBut b o (λv=>hb (by simp[v])) u
 done:=λs Q E st hQ=>Wn hh x (λp hp=>⟨st.2.2 p hp,np p hp⟩) st.1 st.2.1 (by simp) λh' y=>hQ h' s.toks λb o hb u=>y b o (λv=>hb (by simp[v])) u
 self:=λ_ _ _ _ st hQ=>wpAny_pyIter_listiter st.1 hQ
end
end TX
namespace TX
open PySem
section
variable {prog:Program}{w:World}{A:Around}{E:Value->Shared->Prop}{s:Shared}
theorem Js{it e:Addr}{x left step:Int}{pl:List (Addr×Obj)}{Q:Option Value->Shared->Prop}(hh:A.handled=some (.ref e))(ch:Chn e pl)(k:∀p∈pl,s.heap.get? p.1=some p.2)(ti:IsRangeIter s.heap it x left step)(hl:left<=0)
  (q:∀h',Heap.ExtBut it s.heap h'->Q none { s with heap:=h' }):wpAny (model prog w) A (pyNext (.ref it)) Q E s:=by
 have tT:s.TypeIs (.ref it) "range_iterator":=⟨_,ti,rfl⟩;unfold pyNext;refine wpAny_bind (wpAny_attempt (wpAny_callSpecial?_slot (name:=Str.ofString "__next__") tT F.slot_range_iterator_next (wpAny_call_entry F.slot_range_iterator_next tT F.entry_range_iterator_next ?_ (F.args_range_iterator_next_1 _))));show wpAny _ _ (field (.ref it) 0>>=_) _ _ _;refine wpAny_bind (wpAny_field ti rfl (x:=rawInt x) rfl ?_);show wpAny _ _ (field (.ref it) 1>>=_) _ _ _;refine wpAny_bind (wpAny_field ti rfl (x:=rawInt left) rfl ?_);show wpAny _ _ (field (.ref it) 2>>=_) _ _ _;refine wpAny_bind (wpAny_field ti rfl (x:=rawInt step) rfl ?_)
 show wpAny _ _ (if left<=0 then _ else _) _ _ _
 rw[if_pos hl];refine wpAny_bind (wpAny_rule (wpAny_bind ?_));show wpAny _ _ (newExc (.type "StopIteration") []>>=_) _ _ _;refine wpAny_bind ?_;simp only[newExc,newTuple]
 refine wpAny_bind (wpAny_newObj_type ?_ (by size_fits))
 refine wpAny_bind (m:=firstArgMember _ _) (wpAny_of_eq (a:=Value.none) (by first|rfl|(simp only[firstArgMember];rfl)) (wpAny_newObj_type ?_ (by size_fits)))
 dsimp only;have gX:=Heap.get?_push_size (s.heap.push { cls:=Value.type "tuple",data:=Data.seq #[] }) (o:={ cls:=Value.type "StopIteration",data:=Data.fields (#[Value.ref s.heap.objs.size,Value.none,Value.none,Value.none,Value.bool false,Value.none]++ownMembersOf (Value.type "StopIteration") []) }) rfl;have old:∀b o,s.heap.get? b=some o->(s.heap.push { cls:=Value.type "tuple",data:=Data.seq #[] }).get? b=some o:=λb o z=>Heap.get?_push_of_some _ z
 refine yw (A:=A.in1) hh ch (λp hp=>⟨Heap.get?_push_of_some _ (old _ _ (k p hp)),Nat.ne_of_lt (Heap.lt_size (old _ _ (k p hp)))⟩) gX rfl (by simp[ownMembersOf]) ?_
 refine wpAny_bind (wpAny_isInstance (T:="StopIteration") (b:=true) ⟨_,Heap.get?_update_self _ gX rfl,Obj.cls_mapFields _ _⟩ isSubtype_stop ?_);refine wpAny_pure (q _ λb o n z=>?_);exact(Heap.get?_update_other _ _ (Nat.ne_of_gt (Heap.lt_size (old b o z)))).trans (Heap.get?_push_of_some _ (old b o z))
end
end TX
namespace TX
open PySem
section
variable {prog:Program}{w:World}{A:Around}{E:Value->Shared->Prop}{s:Shared}
theorem Jp{it l e:Addr}{i:Nat}{items:Array Value}{pl:List (Addr×Obj)}{Q:Option Value->Shared->Prop}(hh:A.handled=some (.ref e))(x:Chn e pl)(k:∀p∈pl,s.heap.get? p.1=some p.2/\p.1≠it)
  (ti:s.heap.IsTupleIter it l i) (tl:s.heap.IsTuple l items) (hx:items[i]?=none) (q:∀h',Heap.ExtBut it s.heap h'->Q none { s with heap:=h' }):wpAny (model prog w) A (pyNext (.ref it)) Q E s:=by
 obtain⟨o,ho,hc,hd⟩:=id ti;obtain⟨ol,hol,_,nl,hdl⟩:=tl;unfold pyNext;refine wpAny_bind (wpAny_attempt (wpAny_callSpecial?_slot (name:=Str.ofString "__next__") ti.typeIs F.slot_tuple_iterator_next (wpAny_call_entry F.slot_tuple_iterator_next ti.typeIs F.entry_tuple_iterator_next ?_ (F.args_tuple_iterator_next_1 _))));show wpAny _ _ (field (.ref it) 0>>=_) _ _ _;refine wpAny_bind (wpAny_field ho hd (x:=.ref l) rfl ?_)
 show wpAny _ _ (if (Value.ref l==Value.none)=true then _ else _) _ _ _
 rw[if_neg (by simp)]
 show wpAny _ _ (field (.ref it) 1>>=_) _ _ _;refine wpAny_bind (wpAny_field ho hd (x:=.int i 0) rfl ?_);show wpAny _ _ (seqItems? (.ref l)>>=_) _ _ _;refine wpAny_bind (wpAny_seqItems hol hdl ?_);simp only[Int.toNat_natCast,hx]
 refine wpAny_bind (wpAny_rule (wpAny_bind (wpAny_setField ho hd (by simp) (wpAny_bind ?_))))
 simp only[newExc,newTuple]
 refine wpAny_bind (wpAny_newObj_type ?_ (by size_fits))
 refine wpAny_bind (m:=firstArgMember _ _) (wpAny_of_eq (a:=Value.none) (by first|rfl|(simp only[firstArgMember];rfl)) (wpAny_newObj_type ?_ (by size_fits)))
 have kk:∀b o,b≠it->s.heap.get? b=some o->(s.heap.update it (Obj.mapFields (·.setIfInBounds 0 Value.none))).get? b=some o:=λb o n z=>(Heap.get?_update_other _ _ (Ne.symm n)).trans z;generalize s.heap.update it (Obj.mapFields (·.setIfInBounds 0 Value.none))=g at kk ⊢;dsimp only;have gX:=Heap.get?_push_size (g.push { cls:=Value.type "tuple",data:=Data.seq #[] }) (o:={ cls:=Value.type "StopIteration",data:=Data.fields (#[Value.ref g.objs.size,Value.none,Value.none,Value.none,Value.bool false,Value.none]++ownMembersOf (Value.type "StopIteration") []) }) rfl;have old:∀b o,b≠it->s.heap.get? b=some o->(g.push { cls:=Value.type "tuple",data:=Data.seq #[] }).get? b=some o:=λb o n z=>Heap.get?_push_of_some _ (kk b o n z)
 refine yw (A:=A.in1) hh x (λp hp=>⟨Heap.get?_push_of_some _ (old _ _ (k p hp).2 (k p hp).1),Nat.ne_of_lt (Heap.lt_size (old _ _ (k p hp).2 (k p hp).1))⟩) gX rfl (by simp[ownMembersOf]) ?_
 refine wpAny_bind (wpAny_isInstance (T:="StopIteration") (b:=true) ⟨_,Heap.get?_update_self _ gX rfl,Obj.cls_mapFields _ _⟩ isSubtype_stop ?_);refine wpAny_pure (q _ λb o n z=>?_);exact(Heap.get?_update_other _ _ (Nat.ne_of_gt (Heap.lt_size (old b o n z)))).trans (Heap.get?_push_of_some _ (old b o n z))
theorem qW{t e:Addr}{items:Array Value}{pl:List (Addr×Obj)}{Q:List Value->Shared->Prop}(hh:A.handled=some (.ref e))(x:Chn e pl)(k:∀p∈pl,s.heap.get? p.1=some p.2)(ht:s.heap.IsTuple t items)
  (hQ:∀h',Heap.ExtBut s.heap.objs.size s.heap h'->Q items.toList { s with heap:=h' }):wpAny (model prog w) A (unpackItems (.ref t) items.size none) Q E s:=by
 have hlt:t≠s.heap.objs.size:=by obtain⟨o,ho,_⟩:=ht;exact Nat.ne_of_lt (Heap.lt_size ho)
 unfold unpackItems;refine wpAny_bind ?_;unfold notIterableAtAll;refine wpAny_bind (wpAny_specialOf ht.typeIs F.slot_tuple_iter.lookup (wpAny_pure ?_));simp only[Bool.false_eq_true,if_false];refine wpAny_bind (wpAny_holding (wpAny_pyIter_tuple ht ?_))
 refine wpAny_bind (wpAny_holding (wpAny_draw_tuple hlt items.size 0 _ _ ⟨_,Heap.get?_push_size _ rfl,rfl,rfl⟩ (ht.push _) (by omega) λh₁ a b=>?_))
 rw[show List.take items.size (List.drop 0 items.toList)=items.toList by rw[List.drop_zero];exact List.take_of_length_le (by simp),if_neg (by simp)]
 refine wpAny_bind (wpAny_holding (Jp hh x (λp hp=>⟨b.extBut _ _ (Nat.ne_of_lt (Heap.lt_size (k p hp))) (Heap.get?_push_of_some _ (k p hp)),Nat.ne_of_lt (Heap.lt_size (k p hp))⟩) a ((ht.push _).extBut b.extBut hlt) (by simp) λh₂ c=>?_))
 simp only[Option.isSome_none,Bool.false_eq_true,if_false];exact wpAny_pure (hQ h₂ λb' o hb u=>c b' o hb (b.extBut b' o hb (Heap.get?_push_of_some _ u)))
theorem wG{env:Env}{elts:List Expr}{x1}{pos:Pos}{t e:Addr}{items:Array Value}{pl:List (Addr×Obj)}{Q:Unit->Shared->Prop}(hh:A.handled=some (.ref e))(x:Chn e pl)(k:∀p∈pl,s.heap.get? p.1=some p.2)(ht:s.heap.IsTuple t items)
  (hn:(assignEach elts env).length=items.size) (hstar:(assignEach elts env).findIdx? (·.1)=none)
  (h:∀h',Heap.ExtBut s.heap.objs.size s.heap h'->wpAny (model prog w) A (assignInOrder ((assignEach elts env).map (·.2)) items.toList) Q E { s with heap:=h' }) :
  wpAny (model prog w) A (assign (.Tuple elts x1 pos) env (.ref t)) Q E s:=by
 rw[arm_assign_Tuple];refine wpAny_bind (wpAny_standAt ?_);unfold unpack;rw[hn,hstar];exact wpAny_bind (wpAny_holding (qW hh x k ht h))
end
end TX
namespace TX
open PySem
def HdS(A:Around)(h:Heap):Prop:=A.handled=none\/∃e ch,A.handled=some (.ref e)/\Chn e ch/\∀p∈ch,h.get? p.1=some p.2
theorem Chn.fields{e:Addr}{ch:List (Addr×Obj)}(x:Chn e ch):∀p∈ch,∃(fs:Array Value) (y:Value),p.2.data=.fields fs/\fs[2]?=some y:=by
 rcases x with ⟨o,fs,rfl,a,b⟩|⟨o,fs,c,u,gs,rfl,a,b,_,d,f⟩
 ·intro p hp
  have:p=(e,o):=by simpa using hp
  subst this;exact⟨_,_,a,b⟩
 ·intro p hp
  have:p=(e,o)\/p=(c,u):=by simpa using hp
  rcases this with rfl|rfl
  ·exact⟨_,_,a,b⟩
  ·exact⟨_,_,d,f⟩
section
variable {prog:Program}{w:World}{A:Around}{E:Value->Shared->Prop}{s:Shared}
theorem zdo{it l:Addr}{i:Nat}{items:Array Value}{Q:Option Value->Shared->Prop}(hh:HdS A s.heap)(ti:s.heap.IsListIter it l i)(tl:s.heap.IsList l items)(hx:items[i]?=none)
  (q:∀h',Heap.ExtBut it s.heap h'->Q none { s with heap:=h' }):wpAny (model prog w) A (pyNext (.ref it)) Q E s:=by
 rcases hh with hh|⟨e,ch,hh,c,k⟩
 ·exact wpAny_pyNext_list_end hh ti tl hx q
 ·refine Wn hh c (λp hp=>⟨k p hp,λz=>?_⟩) ti tl hx q
  obtain⟨o,ho,_,hd⟩:=ti;obtain⟨fs,y,e1,e2⟩:=c.fields p hp;have e3:=k p hp;rw[z,ho] at e3;cases e3;rw[hd] at e1;cases e1;cases e2
theorem zbw{it l:Addr}{i:Nat}{items:Array Value}{Q:Option Value->Shared->Prop}(hh:HdS A s.heap)(ti:s.heap.IsTupleIter it l i)(tl:s.heap.IsTuple l items)(hx:items[i]?=none)
  (q:∀h',Heap.ExtBut it s.heap h'->Q none { s with heap:=h' }):wpAny (model prog w) A (pyNext (.ref it)) Q E s:=by
 rcases hh with hh|⟨e,ch,hh,c,k⟩
 ·exact wpAny_pyNext_tuple_end hh ti tl hx q
 ·refine Jp hh c (λp hp=>⟨k p hp,λz=>?_⟩) ti tl hx q
  obtain⟨o,ho,_,hd⟩:=ti;obtain⟨fs,y,e1,e2⟩:=c.fields p hp;have e3:=k p hp;rw[z,ho] at e3;cases e3;rw[hd] at e1;cases e1;cases e2
theorem zbJ{it:Addr}{x left step:Int}{Q:Option Value->Shared->Prop}(hh:HdS A s.heap)(ti:IsRangeIter s.heap it x left step)(hl:left<=0)
  (q:∀h',Heap.ExtBut it s.heap h'->Q none { s with heap:=h' }):wpAny (model prog w) A (pyNext (.ref it)) Q E s:=by
 rcases hh with hh|⟨e,ch,hh,c,k⟩
 ·exact wpAny_pyNext_range_end hh ti hl q
 ·exact Js hh c k ti hl q
theorem wH{env:Env}{elts:List Expr}{x1}{pos:Pos}{t:Addr}{items:Array Value}{Q:Unit->Shared->Prop}(hh:HdS A s.heap)(ht:s.heap.IsTuple t items)
  (hn:(assignEach elts env).length=items.size) (hstar:(assignEach elts env).findIdx? (·.1)=none)
  (h:∀h',Heap.ExtBut s.heap.objs.size s.heap h'->wpAny (model prog w) A (assignInOrder ((assignEach elts env).map (·.2)) items.toList) Q E { s with heap:=h' }) :
  wpAny (model prog w) A (assign (.Tuple elts x1 pos) env (.ref t)) Q E s:=by
 rcases hh with hh|⟨e,ch,hh,c,k⟩
 ·exact wpAny_assign_Tuple hh ht hn hstar h
 ·exact wG hh c k ht hn hstar h
theorem zae{it:Addr}{a:Int}{n i:Nat}{Q:Option Value->Shared->Prop}(hi:i<n)(st:IsRangeIter s.heap it (a+(i:Nat) * 1) ((n:Int)-(i:Nat)) 1)
  (hQ:∀v h' tk,(∃t,v=.int (a+i * 1) t)->IsRangeIter h' it (a+((i+1:Nat):Int) * 1) ((n:Int)-((i+1:Nat):Int)) 1->(∀b o,b∉[it]->s.heap.get? b=some o->h'.get? b=some o)->Q (some v) { s with heap:=h',toks:=tk }) :
  wpAny (model prog w) A (pyNext (.ref it)) Q E s:=by
 refine wpAny_pyNext_range_item st (by omega) λh' y z=>?_
 refine hQ _ h' _ ⟨_,rfl⟩ ?_ λb o hb e=>z.extBut b o (λh=>hb (by simp[h])) e
 rw[show a+((i+1:Nat):Int) * 1=a+(i:Int) * 1+1 by omega,show (n:Int)-((i+1:Nat):Int)=(n:Int)-(i:Int)-1 by omega]
 exact y
end
end TX
namespace TX
open PySem
section
variable {prog:Program}{w:World}{A:Around}{E:Value->Shared->Prop}{s:Shared}
theorem wM(I e:Addr)(pl:List (Addr×Obj))(hh:A.handled=some (.ref e))(x:Chn e pl)(np:∀p∈pl,p.1≠I)(a c:Int)(n:Nat) :
  Walks prog w A I (I::pl.map (·.1)) [I] n (λi v=>∃t,v=.int (a+i * c) t) (λi h=>IsRangeIter h I (a+(i:Nat) * c) ((n:Int)-(i:Nat)) c/\∀p∈pl,h.get? p.1=some p.2) where
 sub:=λb hb=>by rw[List.mem_singleton.mp hb];simp
 frame:=λ_ _ _ st hk=>⟨hk I (by simp) _ st.1,λp hp=>hk p.1 (List.mem_cons_of_mem _ (List.mem_map.mpr ⟨p,hp,rfl⟩)) _ (st.2 p hp)⟩
 item:=λi s Q E hi st hQ=>by
  refine wpAny_pyNext_range_item st.1 (by omega) λh' y z=>?_
  refine hQ _ h' _ ⟨_,rfl⟩ ⟨?_,λp hp=>z.extBut _ _ (np p hp) (st.2 p hp)⟩ λb o hb u=>z.extBut b o (λv=>hb (by simp[v])) u
  have e1:a+((i+1:Nat):Int) * c=a+(i:Int) * c+c:=by
   have:((i+1:Nat):Int)=(i:Int)+1:=by omega
   rw[this,Int.add_mul,Int.one_mul,Int.add_assoc]
  rw[e1,show (n:Int)-((i+1:Nat):Int)=(n:Int)-(i:Int)-1 by omega]
  exact y
 done:=λs Q E st hQ=>Js hh x st.2 st.1 (by omega) λh' y=>hQ h' s.toks λb o hb u=>y b o (λv=>hb (by simp[v])) u
 self:=λ_ _ _ _ st hQ=>wpAny_pyIter_rangeiter st.1 hQ
theorem wB{R:Result->Shared->Prop}{r e:Addr}{pl:List (Addr×Obj)}{a b c:Int}{t u v:Tok}{n:Nat}(hh:A.handled=some (.ref e))(ch:Chn e pl)(kp:∀p∈pl,s.heap.get? p.1=some p.2)
  (hr:IsRange s.heap r a b c t u v) (hs:Builtin.Range.small a b c=true) (hn:Builtin.Range.rangeSize a b c=n) (hl:n<=2 ^ 24) (S:Addr) (res:Value) (c₀:Nat)
  (hS:s.heap.get? S=some { cls:=.type "list",data:=.seq #[] c₀ })
  (hR:∀g tk acc k,(∀x o,x≠S->s.heap.get? x=some o->g.get? x=some o)->g.get? S=some { cls:=.type "list",dict:=none,data:=.seq acc k,slots:=#[] } ->
   ItemsOf (λi v=>∃t,v=.int (a+i * c) t) acc n->R (.ok (.ret res)) { s with heap:=g,toks:=tk }) :
  wpAny (model prog w) A.in1 (Builtin.List.listExtendWith (.ref S) (.ref r) res)
   (λfin z=>match fin with|.done f=>R (.ok f) z|.again q=>q.quiet=true/\codeAny (model prog w) A q R z) (λx z=>R (.error x) z) s:=by
 have nr:S≠r:=λz=>by rw[z,hr] at hS;simp at hS
 have ltS:S<s.heap.objs.size:=Heap.lt_size hS;have nI:S≠s.heap.objs.size:=Nat.ne_of_lt ltS
 have np:∀p∈pl,p.1≠S:=λp hp z=>by
  obtain⟨fs,y,e1,_⟩:=ch.fields p hp;have e3:=kp p hp;rw[z,hS] at e3;rw[<-Option.some.inj e3] at e1;cases e1
 have nf:S∉s.heap.objs.size::pl.map (·.1):=λhm=>by
  rcases List.mem_cons.mp hm with z|z
  ·exact nI z
  ·obtain⟨p,hp,z⟩:=List.mem_map.mp z
   exact np p hp z
 have npI:∀p∈pl,p.1≠s.heap.objs.size:=λp hp=>Nat.ne_of_lt (Heap.lt_size (kp p hp));have W:=(wM (prog:=prog) (w:=w) (A:=A.in1) s.heap.objs.size e pl hh ch npI a c n).toS
 have go:∀(g:Heap) (k tk:Nat),IsRangeIter g s.heap.objs.size (a+((0:Nat):Int) * c) ((n:Int)-((0:Nat):Int)) c->(∀x o,x≠S->s.heap.get? x=some o->g.get? x=some o) ->
   g.get? S=some { cls:=.type "list",data:=.seq #[] k }->codeAny (model prog w) A (.builtin "list.extend.loop" ⟨[.ref S,.ref s.heap.objs.size,res],[]⟩) R { s with heap:=g,toks:=tk }:=by
  intro g k tk it kk hS1
  refine codeAny_extend_loopS W (by rw[sizeLine_eq];omega) S nf res n 0 _ #[] k rfl (Nat.zero_le _) ⟨it,λp hp=>kk _ _ (np p hp) (kp p hp)⟩ hS1 (ItemsOf.nil _) λz acc k' mv hS2 it2=>?_
  rw[Moved.eq_with mv];refine hR z.heap z.toks acc k' (λx o nx y=>mv.heap x o (λhm=>?_) (kk x o nx y)) hS2 it2
  rcases List.mem_cons.mp hm with q|q
  ·exact nx q
  ·exact absurd (Heap.lt_size y) (by rw[List.mem_singleton.mp q];exact Nat.lt_irrefl _)
 unfold Builtin.List.listExtendWith;refine wpAny_bind (wpAny_typeOf (T:="range") ⟨_,hr,rfl⟩ ?_)
 have t1:Builtin.List.listSameRef (.ref S) (.ref r)=false:=by simp[Builtin.List.listSameRef,nr]
 have t2:(Value.type "range"==Value.type "list")=false:=rfl;have t3:(Value.type "range"==Value.type "tuple")=false:=rfl;simp only[t1,t2,t3,Bool.or_false,Bool.false_eq_true,if_false];refine wpAny_bind (wpAny_pyIter_range hr hs ?_);refine wpAny_bind (wpAny_holding (wpAny_hint_range (n:=n) (Heap.get?_push_of_some _ hr) hn hl ?_))
 have i1:IsRangeIter (s.heap.push { cls:=.type "range_iterator",data:=.fields #[rawInt a,rawInt (Builtin.Range.rangeSize a b c),rawInt c] }) s.heap.objs.size (a+((0:Nat):Int) * c) ((n:Int)-((0:Nat):Int)) c:=by
  rw[hn];have z:=Heap.get?_push_size s.heap (o:={ cls:=.type "range_iterator",data:=.fields #[rawInt a,rawInt ((n:Nat):Int),rawInt c] }) rfl;unfold IsRangeIter;rw[z];simp
 have S1:=Heap.get?_push_of_some { cls:=.type "range_iterator",data:=.fields #[rawInt a,rawInt (Builtin.Range.rangeSize a b c),rawInt c] } hS;refine wpAny_ite_split (λ_=>?_) (λ_=>wpAny_pure ⟨plainId_quiet F.plain_extend_loop _,go _ c₀ _ i1 (λx o _ y=>Heap.get?_push_of_some _ y) S1⟩);refine wpAny_bind (wpAny_rule (wpAny_bind ?_));show wpAny _ _ (updateSeq S (·.push .none)>>=λ_=>updateSeq S (·.pop)) _ _ _;refine wpAny_bind (wpAny_updateSeq S1 rfl ?_);have S2:=Heap.get?_update_self (Obj.mapSeq (·.push Value.none)) S1 rfl
 refine wpAny_updateSeq (hz:=by seq_fits) S2 rfl ?_
 have S3:=Heap.get?_update_self (Obj.mapSeq (·.pop)) S2 rfl;refine wpAny_pure ⟨plainId_quiet F.plain_extend_loop _,go _ _ _ ?_ (λx o nx y=>?_) S3⟩
 ·exact(Heap.get?_update_other _ _ nI).trans ((Heap.get?_update_other _ _ nI).trans i1)
 ·exact(Heap.get?_update_other _ _ (Ne.symm nx)).trans ((Heap.get?_update_other _ _ (Ne.symm nx)).trans (Heap.get?_push_of_some _ y))
theorem zau{R:Result->Shared->Prop}{r e:Addr}{pl:List (Addr×Obj)}{a b c:Int}{t u v:Tok}{n:Nat}(hh:A.handled=some (.ref e))(ch:Chn e pl)(kp:∀p∈pl,s.heap.get? p.1=some p.2)
  (hr:IsRange s.heap r a b c t u v) (hs:Builtin.Range.small a b c=true) (hn:Builtin.Range.rangeSize a b c=n) (hl:n<=2 ^ 24) (S:Addr)
  (hS:s.heap.get? S=some { cls:=.type "list",data:=.seq #[] })
  (hR:∀g tk acc k,(∀x o,x≠S->s.heap.get? x=some o->g.get? x=some o)->g.get? S=some { cls:=.type "list",dict:=none,data:=.seq acc k,slots:=#[] } ->
   ItemsOf (λi v=>∃t,v=.int (a+i * c) t) acc n->R (.ok (.ret .none)) { s with heap:=g,toks:=tk }) :
  wpAny (model prog w) A.in1 (Builtin.«list.__init__» ⟨[.ref S,.ref r],[]⟩)
   (λfin z=>match fin with|.done f=>R (.ok f) z|.again q=>q.quiet=true/\codeAny (model prog w) A q R z) (λx z=>R (.error x) z) s:=by
 have nr:S≠r:=λz=>by rw[z,hr] at hS;simp at hS
 have np:∀p∈pl,p.1≠S:=λp hp z=>by
  obtain⟨fs,y,e1,_⟩:=ch.fields p hp;have e3:=kp p hp;rw[z,hS] at e3;rw[<-Option.some.inj e3] at e1;cases e1
 show wpAny _ _ (Builtin.List.listItems (.ref S)>>=λold=>Builtin.List.listUpdate (.ref S) (λ_=>#[])>>=λ_=>letGo old.toList.reverse>>=λ_=>Builtin.List.listExtendWith (.ref S) (.ref r) .none) _ _ s;refine wpAny_bind ?_;unfold Builtin.List.listItems;refine wpAny_bind (wpAny_seqItems hS rfl (wpAny_pure ?_));show wpAny _ _ (updateSeq S (λ_=>#[])>>=λ_=>letGo (#[]:Array Value).toList.reverse>>=λ_=>Builtin.List.listExtendWith (.ref S) (.ref r) .none) _ _ s;refine wpAny_bind (wpAny_updateSeq hS rfl ?_);have S2:=Heap.get?_update_self (Obj.mapSeq (λ_=>(#[]:Array Value))) hS rfl;have oth:∀x o,x≠S->s.heap.get? x=some o->(s.heap.update S (Obj.mapSeq (λ_=>(#[]:Array Value)))).get? x=some o:=λx o nx y=>(Heap.get?_update_other _ _ (Ne.symm nx)).trans y;refine wpAny_bind (wpAny_letGo ?_);refine wB hh ch (λp hp=>oth _ _ (np p hp) (kp p hp)) (oth r _ (Ne.symm nr) hr) hs hn hl S .none _ S2 λg tk acc k kk hS' it=>?_;exact hR g tk acc k (λx o nx y=>kk x o nx (oth x o nx y)) hS' it
theorem zaq{Q:Value->Shared->Prop}{r:Addr}{a b c:Int}{t u v:Tok}{n:Nat}(hh:HdS A s.heap)(hr:IsRange s.heap r a b c t u v)(hs:Builtin.Range.small a b c=true)
  (hn:Builtin.Range.rangeSize a b c=n) (hl:n<=2 ^ 24)
  (hQ:∀g tk acc k,(∀x o,s.heap.get? x=some o->g.get? x=some o)->g.get? s.heap.objs.size=some { cls:=.type "list",dict:=none,data:=.seq acc k,slots:=#[] } ->
   ItemsOf (λi v=>∃t,v=.int (a+i * c) t) acc n->Q (.ref s.heap.objs.size) { s with heap:=g,toks:=tk }) :
  wpAny (model prog w) A (call (.type "list") [.ref r]) Q E s:=by
 rcases hh with hh|⟨e,pl,hh,ch,kp⟩
 ·exact call_list_range hh hr hs hn hl hQ
 ·refine callType_codes (Q₁:=λobj z=>obj=.ref s.heap.objs.size/\z={ s with heap:=s.heap.push { cls:=.type "list",data:=.seq #[] } }) F.called_list (F.typeCall_list_1 _) F.entry_list_init (code_list_new _ ⟨rfl,rfl⟩) λobj z hz=>?_
  obtain⟨rfl,rfl⟩:=hz;have S1:(s.heap.push { cls:=.type "list",data:=.seq #[] }).get? s.heap.objs.size=some { cls:=.type "list",data:=.seq #[] }:=Heap.get?_push_size _ rfl;refine⟨⟨_,S1,rfl⟩,F.args_list_init_2 _ _,zau (A:=A.in1) hh ch (λp hp=>Heap.get?_push_of_some _ (kp p hp)) (Heap.get?_push_of_some _ hr) hs hn hl _ S1 λg tk acc k kk hS' it=>?_⟩;exact⟨rfl,hQ g tk acc k (λx o y=>kk x o (Nat.ne_of_lt (Heap.lt_size y)) (Heap.get?_push_of_some _ y)) hS' it⟩
end
end TX
namespace TX
open PySem
def jX:Int:=0xFCA86420
section
variable {prog:Program}{w:World}{A:Around}{E:Value->Shared->Prop}{s:Shared}
theorem zbL{Q:Int->Shared->Prop}(h:Q jX { s with toks:=s.toks+1 }):wpAny (model prog w) A (pyHash .none) Q E s:=by
 have hT:s.TypeIs .none "NoneType":=rfl;unfold pyHash;refine wpAny_bind ?_
 rw[cRoomFor,if_neg (show ¬([Value.none].any Value.onHeap=true) from Bool.false_ne_true)]
 refine wpAny_pure ?_;refine wpAny_bind (wpAny_specialOf hT F.slot_NoneType_hash.lookup ?_)
 show wpAny _ _ (if (some (Value.builtin "NoneType.__hash__")==some Value.none)=true then _ else _) Q E s
 rw[if_neg (by rw[beq_builtin_none];exact Bool.false_ne_true)]
 refine wpAny_bind (wpAny_specialOf hT F.slot_NoneType_hash.lookup ?_);show wpAny _ _ (callSpecialIfBoundUnlessNone? .none "__hash__" _>>=_) Q E s
 refine wpAny_bind (wpAny_callSpecialIfBoundUnlessNone?_slot hT F.slot_NoneType_hash (wpAny_call_entry F.slot_NoneType_hash hT F.entry_NoneType_hash (show wpAny _ _ (do ret (<-mkInt jX)) _ _ s from wpAny_ret_mkInt ?_) (F.args_NoneType_hash_1 _)))
 show wpAny _ _ (if (decide (-(2:Int) ^ 63<=jX)&&decide (jX<2 ^ 63))=true then _ else _) Q E _
 rw[if_pos (by decide)]
 exact wpAny_pure h
theorem zb3{Q:Bool->Shared->Prop}(h:Q true s):wpAny (model prog w) A (eqBool .none .none) Q E s:=by
 unfold eqBool;refine wpAny_holding (wpAny_ite_split (λ_=>wpAny_bind (wpAny_rule (wpAny_pure h))) λz=>absurd rfl z)
end
end TX
namespace L2
open PySem PySem.Spec PyProof.Rows
abbrev Key:=Sum Int Unit
def zdx:Key->Value->Bool
 | .inl k,v=>Value.isInt k v
 | .inr _,v=>v==.none
def zjK(w:World):Key->Int
 | .inl k=>hashInt k
 | .inr _=>TX.jX
theorem Zy:∀{k:Key} {v:Value},zdx k v=true->(∃i t,k=Sum.inl i/\v=Value.int i t)\/(k=Sum.inr ()/\v=Value.none)
 | .inl i,v,h=>by
  obtain⟨t,e⟩:=Value.isInt_shape (k:=i) (v:=v) h;exact .inl ⟨i,t,rfl,e⟩
 | .inr _,v,h=>.inr ⟨rfl,eq_of_beq h⟩
theorem zdw(i:Int)(t:Tok):zdx (.inl i) (.int i t)=true:=by simp[zdx,Value.isInt]
theorem zdv:zdx (.inr ()) .none=true:=rfl
theorem zhR(a b:Int):decide ((Sum.inl a:Key)=Sum.inl b)=(a==b):=by
 by_cases e:a=b
 ·subst e;simp
 ·have h:¬(Sum.inl a:Key)=Sum.inl b:=λq=>e (Sum.inl.inj q)
  rw[decide_eq_false h];exact(beq_eq_false_iff_ne.mpr e).symm
theorem zhO(a b:Unit):decide ((Sum.inr a:Key)=Sum.inr b)=true:=decide_eq_true rfl
theorem zhQ(a:Int)(b:Unit):decide ((Sum.inl a:Key)=Sum.inr b)=false:=decide_eq_false (λq=>nomatch q)
theorem zhP(a:Unit)(b:Int):decide ((Sum.inr a:Key)=Sum.inl b)=false:=decide_eq_false (λq=>nomatch q)
def ZE(prog:Program)(w:World):PySem.KeyKind prog w Key where
 is:=zdx
 hash:=zjK w
 inj:=λv a b ha hb=>by
  rcases Zy ha with ⟨i,t,rfl,rfl⟩|⟨rfl,rfl⟩
  ·rcases Zy hb with ⟨j,u,rfl,e⟩|⟨rfl,e⟩
   ·injection e with e1 _;rw[e1]
   ·exact nomatch e
  ·rcases Zy hb with ⟨j,u,rfl,e⟩|⟨rfl,e⟩
   ·exact nomatch e
   ·rfl
 byValue:=λk v h=>by
  rcases Zy h with ⟨i,t,rfl,rfl⟩|⟨rfl,rfl⟩ <;> rfl
 pyHash:=λhv h=>by
  rcases Zy hv with ⟨i,t,rfl,rfl⟩|⟨rfl,rfl⟩
  ·exact wpAny_pyHash_int h
  ·exact TX.zbL h
 eqBool:=λhu hv h=>by
  rcases Zy hu with ⟨i,t,rfl,rfl⟩|⟨rfl,rfl⟩
  ·rcases Zy hv with ⟨j,u,rfl,rfl⟩|⟨rfl,rfl⟩
   ·rw[zhR] at h;exact wpAny_eqBool_int h
   ·rw[zhQ] at h;exact SeqAt.EqAt.int_none i t _ _ _ _ h
  ·rcases Zy hv with ⟨j,u,rfl,rfl⟩|⟨rfl,rfl⟩
   ·rw[zhP] at h;exact SeqAt.EqAt.none_int j u _ _ _ _ h
   ·rw[zhO] at h;exact TX.zb3 h
 «strs»:=λk x t v h=>by
  rcases Zy h with ⟨i,u,rfl,e⟩|⟨rfl,e⟩ <;> exact nomatch e
theorem zao(prog:Program)(w:World)(i:Int)(t:Tok):(ZE prog w).is (.inl i) (.int i t)=true:=zdw i t
theorem zan(prog:Program)(w:World):(ZE prog w).is (.inr ()) .none=true:=zdv
end L2
namespace L2
open PySem PySem.Spec PyProof.Rows
inductive V where
 | non|bl (b:Bool)|int (i:Int)|str (x:Str)|byt (b:Array UInt8)|flt (b:UInt64)|ref (a:Addr)|ty (n:String)
 deriving DecidableEq
def Zo:V->Value->Prop
 | .non,u=>u=Value.none
 | .bl b,u=>u=Value.bool b
 | .int i,u=>∃t,u=Value.int i t
 | .str x,u=>∃t,u=Value.str x t
 | .byt b,u=>∃t,u=Value.bytes b t
 | .flt b,u=>∃t,u=Value.float b t
 | .ref a,u=>u=Value.ref a
 | .ty n,u=>u=Value.type n
abbrev Zg:List V->List Value->Prop:=Paired Zo
theorem Zg.length{xs:List V}{us:List Value}(r:Zg xs us):xs.length=us.length:=Paired.length r
theorem Zg.get:∀{xs:List V} {us:List Value} {i:Nat} {x:V},Zg xs us->xs[i]?=some x->∃u,us[i]?=some u/\Zo x u
 | _,_,_,_,.nil,e=>by simp at e
 | _,_,0,_,.cons r _,e=>by simp at e;subst e;exact⟨_,rfl,r⟩
 | _,_,i+1,x,.cons _ t,e=>by
  obtain⟨u,h1,h2⟩:=Zg.get (i:=i) (x:=x) t (by simpa using e)
  exact⟨u,by simpa using h1,h2⟩
theorem Zg.set{x:V}{u:Value}(r:Zo x u):∀{xs:List V} {us:List Value} (i:Nat),Zg xs us->Zg (xs.set i x) (us.set i u)
 | _,_,_,.nil=>.nil
 | _,_,0,.cons _ t=>.cons r t
 | _,_,i+1,.cons q t=>.cons q (Zg.set r i t)
theorem Zg.append:∀{xs ys:List V} {us ws:List Value},Zg xs us->Zg ys ws->Zg (xs++ys) (us++ws)
 | _,_,_,_,.nil,s=>s
 | _,_,_,_,.cons r t,s=>.cons r (Zg.append t s)
theorem Zg.take:∀{xs:List V} {us:List Value} (n:Nat),Zg xs us->Zg (xs.take n) (us.take n)
 | _,_,0,_=>.nil
 | _,_,_+1,.nil=>.nil
 | _,_,n+1,.cons r t=>.cons r (Zg.take n t)
theorem Zg.drop:∀{xs:List V} {us:List Value} (n:Nat),Zg xs us->Zg (xs.drop n) (us.drop n)
 | _,_,0,r=>r
 | _,_,_+1,.nil=>.nil
 | _,_,n+1,.cons _ t=>Zg.drop n t
def WS:Option V->Option Value->Prop
 | some v,some u=>Zo v u
 | none,none=>True
 | _,_=>False
def KV{κ:Type}:List (κ×V)->List (κ×Value)->Prop:=Paired λ(p:κ×V) (q:κ×Value)=>p.1=q.1/\Zo p.2 q.2
def kV:Key->V
 | .inl i=>.int i
 | .inr _=>.non
inductive HO where
 | lst (xs:List V)
 | tup (xs:List V)
 | dK (kvs:List (Key×V))|dT (kvs:List (List Key×V))
 | set (S:Int->Bool) (n:Nat)
 | ins (C dx:Addr) (fs:List (Str×V))
 | own (x:Addr)
 | xd (fs:List (Str×V))
 | met (f x:Addr)
 | rng (lo hi:Int)
 | frz (o:Obj) (u:HO)
 | tbl (ps:Array Value)
 | ext (φ:Heap->Prop)
abbrev Hp:=Addr->Option HO
def upd(H:Hp)(a:Addr)(o:HO):Hp:=λb=>if b=a then some o else H b
theorem ze{H:Hp}{a:Addr}{o:HO}:upd H a o a=some o:=by unfold upd;rw[if_pos rfl]
theorem zq{H:Hp}{a b:Addr}{o:HO}(h:b≠a):upd H a o b=H b:=by unfold upd;rw[if_neg h]
theorem zfS{H:Hp}{a:Addr}{o u:HO}:upd (upd H a o) a u=upd H a u:=by
 funext b;unfold upd;split <;> rfl
theorem Wm{H:Hp}{a b:Addr}{o u:HO}(h:H a=some o)(h':H b=some u)(d:o≠u):a≠b:=by
 intro e;subst e;rw[h] at h';exact d (Option.some.inj h')
theorem zx{H:Hp}{a b:Addr}{o:HO}(h:H a=some o)(h':H b=none):a≠b:=by
 intro e;subst e;rw[h] at h';cases h'
section
variable (P:Program)(w:World)
def Zt(H:Hp)(h:Heap)(a:Addr):HO->Prop
 | .lst xs=>xs.length<=sizeLine/\∃(its:List Value) (n:Nat),Zg xs its/\h.get? a=some { cls:=.type "list",data:=.seq its.toArray n }
 | .tup xs=>xs.length<=sizeLine/\∃its:List Value,Zg xs its/\IsTup h a its.toArray
 | .dK kvs=>kvs.length<=sizeLine/\(a==sysModules)=false/\∃vs,KV kvs vs/\h.DictOf (ZE P w) a vs
 | .dT kvs=>kvs.length<=sizeLine/\(a==sysModules)=false/\∃xs:List (List Key×Addr×Value),
   Paired (λ(p:List Key×V) (q:List Key×Addr×Value)=>p.1=q.1/\H q.2.1=some (.tup (p.1.map kV))/\Zo p.2 q.2.2) kvs xs /\
   ∃o es ep,h.get? a=some o/\o.ExactDict/\o.data=.dict es ep/\es.toList=xs.map (entryOfKey (tupleKind (ZE P w)))/\(xs.map (·.1)).Nodup
 | .set S n=>h.SetOf (intKind P w) a S n
 | .ins C dx fs=>H dx=some (.own a)/\fs.length<=1000/\dx≠a/\h.get? a=some (PySem.W.instObj C dx) /\
   ∃mA,h.Ns1 dx mA/\(∀f,WS (fs.lookup f) (mA f))/\PySem.Within mA (fs.map (·.1))
 | .own _=>∃o,h.get? a=some o
 | .xd fs=>∃mA,h.Ns1 a mA/\∀f,WS (fs.lookup f) (mA f)
 | .rng lo hi=>∃t u v,h.get? a=some { cls:=.type "range",data:=.fields #[.int lo t,.int hi u,.int 1 v] }
 | .frz o u=>h.get? a=some o/\Zt H h a u
 | .tbl ps=>h.get? a=some { cls:=.none,data:=.fields ps }
 | .met f x=>h.get? a=some (PySem.W.methodObj (.ref f) (.ref x))
 | .ext φ=>φ h/\(∃o,h.get? a=some o)/\∀h1 h2:Heap,φ h1->(∀o,h1.get? a=some o->h2.get? a=some o)->φ h2
def HOk(H:Hp)(h:Heap):Prop:=∀a o,H a=some o->Zt P w H h a o
end
section
variable {P:Program}{w:World}{H H':Hp}{h h':Heap}{a:Addr}{o:HO}
theorem Zt.lt(x:Zt P w H h a o):a<h.objs.size:=by
 cases o with
 | lst xs=>obtain⟨_,_,_,_,e⟩:=x;exact Heap.lt_size e
 | tup xs=>obtain⟨_,_,_,p⟩:=x;exact p.lt
 | dK kvs=>obtain⟨_,_,_,_,o,_,_,e,_⟩:=x;exact Heap.lt_size e
 | dT kvs=>obtain⟨_,_,_,_,o,_,_,e,_⟩:=x;exact Heap.lt_size e
 | set S n=>obtain⟨o,_,_,_,e,_⟩:=x;exact Heap.lt_size e
 | ins C dx fs=>obtain⟨_,_,_,e,_⟩:=x;exact Heap.lt_size e
 | own y=>obtain⟨_,e⟩:=x;exact Heap.lt_size e
 | xd fs=>obtain⟨_,⟨_,_,_,e,_⟩,_⟩:=x;exact Heap.lt_size e
 | rng lo hi=>obtain⟨_,_,_,e⟩:=x;exact Heap.lt_size e
 | frz ob u=>obtain⟨e,_⟩:=x;exact Heap.lt_size e
 | tbl ps=>exact Heap.lt_size (show h.get? a=some _ from x)
 | met f y=>exact Heap.lt_size (show h.get? a=some _ from x)
 | ext φ=>obtain⟨_,⟨_,e⟩,_⟩:=x;exact Heap.lt_size e
theorem Paired.mapP{α β:Type}{F G:α->β->Prop}:∀{l₁:List α} {l₂:List β},Paired F l₁ l₂->(∀a b,F a b->G a b)->Paired G l₁ l₂
 | _,_,.nil,_=>.nil
 | _,_,.cons r t,f=>.cons (f _ _ r) (Paired.mapP t f)
theorem Zt.stay(x:Zt P w H h a o)(k:∀b u,(b=a\/H b=some (.own a))->h.get? b=some u->h'.get? b=some u)
  (ho:∀b,H b=some (.own a)->H' b=some (.own a)) (ht:∀b xs,H b=some (.tup xs)->H' b=some (.tup xs)):Zt P w H' h' a o:=by
 induction o with
 | lst xs=>obtain⟨z,its,n,r,e⟩:=x;exact⟨z,its,n,r,k _ _ (.inl rfl) e⟩
 | tup xs=>obtain⟨z,its,r,ob,e,c⟩:=x;exact⟨z,its,r,ob,k _ _ (.inl rfl) e,c⟩
 | dK kvs=>obtain⟨z,y,vs,r,ob,es,ep,e,c⟩:=x;exact⟨z,y,vs,r,ob,es,ep,k _ _ (.inl rfl) e,c⟩
 | dT kvs =>
  obtain⟨z,y,xs,r,ob,es,ep,e,c⟩:=x;exact⟨z,y,xs,Paired.mapP r λp q z=>⟨z.1,ht _ _ z.2.1,z.2.2⟩,ob,es,ep,k _ _ (.inl rfl) e,c⟩
 | set S n=>obtain⟨ob,es,ep,t,e,c⟩:=x;exact⟨ob,es,ep,t,k _ _ (.inl rfl) e,c⟩
 | ins C dx fs =>
  obtain⟨d,z,ne,e,mA,⟨od,es,ep,e2,c⟩,r⟩:=x;exact⟨ho _ d,z,ne,k _ _ (.inl rfl) e,mA,⟨od,es,ep,k _ _ (.inr d) e2,c⟩,r⟩
 | own y=>obtain⟨ob,e⟩:=x;exact⟨ob,k _ _ (.inl rfl) e⟩
 | xd fs=>obtain⟨mA,⟨od,es,ep,e,c⟩,r⟩:=x;exact⟨mA,⟨od,es,ep,k _ _ (.inl rfl) e,c⟩,r⟩
 | rng lo hi=>obtain⟨t,u,v,e⟩:=x;exact⟨t,u,v,k _ _ (.inl rfl) e⟩
 | frz ob u ih=>obtain⟨e,q⟩:=x;exact⟨k _ _ (.inl rfl) e,ih q⟩
 | tbl ps =>
  have e:h.get? a=some { cls:=.none,data:=.fields ps }:=x;show h'.get? a=some { cls:=.none,data:=.fields ps };exact k a _ (.inl rfl) e
 | met f y =>
  have e:h.get? a=some (PySem.W.methodObj (.ref f) (.ref y)):=x;show h'.get? a=some (PySem.W.methodObj (.ref f) (.ref y));exact k a _ (.inl rfl) e
 | ext φ=>obtain⟨p,⟨o,e⟩,st⟩:=x;exact⟨st _ _ p λo q=>k _ _ (.inl rfl) q,⟨o,k _ _ (.inl rfl) e⟩,st⟩
theorem HOk.lt(x:HOk P w H h)(e:H a=some o):a<h.objs.size:=(x a o e).lt
theorem HOk.fresh(x:HOk P w H h)(e:h.objs.size<=a):H a=none:=by
 cases q:H a with
 | none=>rfl
 | some u=>exact absurd (Nat.lt_of_lt_of_le (x.lt q) e) (Nat.lt_irrefl _)
theorem HOk.kept(x:HOk P w H h)(k:∀b u,h.get? b=some u->h'.get? b=some u):HOk P w H h':=λa o e =>
 (x a o e).stay (λb u _ q=>k b u q) (λ_ q=>q) λ_ _ q=>q
theorem HOk.laid(x:HOk P w H h)(k:∀b u,h.get? b=some u->h'.get? b=some u)(hp:h.objs.size<=a)(new:Zt P w (upd H a o) h' a o):HOk P w (upd H a o) h':=λb u e=>by
 have hn:=x.fresh hp
 by_cases hb:b=a
 ·subst hb;rw[ze] at e;cases e;exact new
 ·rw[zq hb] at e
  exact(x b u e).stay (λc v _ q=>k c v q) (λc q=>by rw[zq (zx q hn)];exact q) λc xs q=>by rw[zq (zx q hn)];exact q
end
def Rd(H:Hp)(a:Addr)(u:HO):Prop:=H a=some u\/∃o,H a=some (.frz o u)
theorem Rd.ok{P:Program}{w:World}{H:Hp}{h:Heap}{a:Addr}{u:HO}(r:Rd H a u)(x:HOk P w H h):Zt P w H h a u:=by
 rcases r with r|⟨o,r⟩
 ·exact x a u r
 ·obtain⟨_,q⟩:=x a _ r
  exact q
def Mut:Option HO->Prop
 | some (.lst _)=>True
 | some (.dK _)=>True
 | some (.dT _)=>True
 | some (.set _ _)=>True
 | some (.ins _ _ _)=>True
 | some (.ext _)=>True
 | _=>False
section
variable {P:Program}{w:World}{H:Hp}{h h':Heap}{x e:Addr}{o':HO}
theorem HOk.write(ok:HOk P w H h)(mu:Mut (H x))(he:e=x\/H e=some (.own x))(k:∀b u,b≠e->h.get? b=some u->h'.get? b=some u)(heo:∃u,h'.get? e=some u)
  (new:Zt P w (upd H x o') h' x o'):HOk P w (upd H x o') h':=λb u q=>by
 have nown:∀c y,H c=some (.own y)->c≠x:=λc y r z=>by subst z;rw[r] at mu;exact mu
 have ntup:∀c xs,H c=some (.tup xs)->c≠x:=λc xs r z=>by subst z;rw[r] at mu;exact mu
 by_cases hb:b=x
 ·subst hb;rw[ze] at q;cases q;exact new
 ·rw[zq hb] at q
  by_cases hbe:b=e
  ·have q':H b=some (.own x):=by
    rcases he with z|z
    ·exact absurd (hbe.trans z) hb
    ·rw[hbe];exact z
   rw[q] at q';cases q';obtain⟨v,hv⟩:=heo
   exact⟨v,by rw[hbe];exact hv⟩
  ·refine(ok b u q).stay (λc v hc r=>k c v ?_ r) (λc r=>by rw[zq (nown c b r)];exact r) λc xs r=>by rw[zq (ntup c xs r)];exact r
   rcases hc with rfl|hc
   ·exact hbe
   ·rintro rfl
    rcases he with z|z
    ·exact nown c b hc z
    ·rw[hc] at z;cases z;exact hb rfl
end
structure Un(fs ex:List Addr)(H H':Hp)(h h':Heap):Prop where
 keep:∀b o,h.get? b=some o->H b=none->b∉fs->b∉ex->h'.get? b=some o
 slot:∀b o,h.get? b=some o->H b=none->b∈fs->b∉ex->∃sl,h'.get? b=some { o with slots:=sl }
 free:∀b o,h.get? b=some o->H b=none->b∉ex->H' b=none
 there:∀b o,h.get? b=some o->b∉ex->∃o',h'.get? b=some o'
 tups:∀b xs,H b=some (.tup xs)->H' b=some (.tup xs)
 frzs:∀b o u,H b=some (.frz o u)->H' b=some (.frz o u)
 tbls:∀b ps,H b=some (.tbl ps)->∃more,H' b=some (.tbl (ps++more))
section
variable {fs fs' ex ex':List Addr}{H H1 H2:Hp}{h h1 h2 h':Heap}{a x e:Addr}{o:HO}
theorem Un.any(u:Un fs ex H H1 h h1){b:Addr}{ob:Obj}(q:h.get? b=some ob)(n:H b=none)(hx:b∉ex):∃sl,h1.get? b=some { ob with slots:=sl }:=by
 by_cases hb:b∈fs
 ·exact u.slot b ob q n hb hx
 ·exact⟨ob.slots,u.keep b ob q n hb hx⟩
theorem Un.kept(k:∀b u,h.get? b=some u->h'.get? b=some u):Un fs ex H H h h' :=
 ⟨λb ob q _ _ _=>k b ob q,λb ob q _ _ _=>⟨ob.slots,k b ob q⟩,λ_ _ _ n _=>n,λb ob q _=>⟨ob,k b ob q⟩,λ_ _ q=>q,λ_ _ _ q=>q,λ_ ps q=>⟨#[],by rw[q];simp⟩⟩
theorem Un.refl:Un fs ex H H h h:=Un.kept λ_ _ q=>q
theorem Un.laid(k:∀b u,h.get? b=some u->h'.get? b=some u)(hp:h.objs.size<=a)(hn:H a=none):Un fs ex H (upd H a o) h h' where
 keep:=λb u q _ _ _=>k b u q
 slot:=λb u q _ _ _=>⟨u.slots,k b u q⟩
 free:=λb u q n _=>by rw[zq (Nat.ne_of_lt (Nat.lt_of_lt_of_le (Heap.lt_size q) hp))];exact n
 there:=λb u q _=>⟨u,k b u q⟩
 tups:=λb xs q=>by rw[zq (zx q hn)];exact q
 frzs:=λb u xs q=>by rw[zq (zx q hn)];exact q
 tbls:=λb ps q=>⟨#[],by rw[zq (zx q hn),q];simp⟩
theorem Un.write(mu:Mut (H x))(he:e=x\/H e=some (.own x))(k:∀b u,b≠e->h.get? b=some u->h'.get? b=some u)(heo:∃u,h'.get? e=some u):Un fs ex H (upd H x o) h h':=by
 have hx:∀b,H b=none->b≠x:=λb n z=>by subst z;rw[n] at mu;exact mu
 have hb:∀b,H b=none->b≠e:=λb n z=>by
  subst z
  rcases he with r|r
  ·exact hx b n r
  ·rw[n] at r;cases r
 have hm:∀b u,H b=some u->¬Mut (some u)->b≠x:=λb u q nm z=>by subst z;rw[q] at mu;exact nm mu
 refine⟨λb u q n _ _=>k b u (hb b n) q,λb u q n _ _=>⟨u.slots,k b u (hb b n) q⟩,λb u q n _=>by rw[zq (hx b n)];exact n,λb u q _=>?_,
  λb xs q=>by rw[zq (hm b _ q λz=>z)];exact q,λb u xs q=>by rw[zq (hm b _ q λz=>z)];exact q,λb ps q=>⟨#[],by rw[zq (hm b _ q λz=>z),q];simp⟩⟩
 by_cases hbe:b=e
 ·subst hbe;exact heo
 ·exact⟨u,k b u hbe q⟩
end
def trk(h:Heap)(H:Hp):List Addr:=(List.range h.objs.size).filter λa=>(H a).isSome
def zce(h:Heap)(H:Hp):Heap:=PySem.W.hideAll h (trk h H)
theorem Wy(h:Heap)(H:Hp):(zce h H).objs.size=h.objs.size:=PySem.W.hideAll_size _ _
theorem zbj{h:Heap}{H:Hp}{b:Addr}{o:Obj}(e:h.get? b=some o)(n:H b=none):(zce h H).get? b=some o :=
 PySem.W.hideAll_get _ e λhm=>by
  have q:(H b).isSome=true:=(List.mem_filter.mp hm).2;rw[n] at q;simp at q
theorem wn{h:Heap}{H:Hp}{b:Addr}{o:Obj}(e:(zce h H).get? b=some o):h.get? b=some o/\H b=none:=by
 have e':h.get? b=some o:=PySem.W.of_hideAll (trk h H) e;refine⟨e',?_⟩
 cases q:H b with
 | none=>rfl
 | some x =>
  have hm:b∈trk h H:=List.mem_filter.mpr ⟨List.mem_range.mpr (Heap.lt_size e'),by simp[q]⟩
  have z:(zce h H).get? b=none:=PySem.W.hideAll_none (trk h H) hm;rw[z] at e;cases e
def qR(g h:Heap)(L:Addr):List (Addr×Obj):=(List.range h.objs.size).filterMap λa=>if a=L\/(g.get? a).isSome=true then none else (h.get? a).map λo=>(a,o)
theorem jI{g h:Heap}{L a:Addr}{o:Obj}(h1:a≠L)(h2:g.get? a=none)(h3:h.get? a=some o):(a,o)∈qR g h L :=
 List.mem_filterMap.mpr ⟨a,List.mem_range.mpr (Heap.lt_size h3),by simp[h1,h2,h3]⟩
theorem Jl{g h:Heap}{L:Addr}{p:Addr×Obj}(hp:p∈qR g h L):p.1≠L/\g.get? p.1=none/\h.get? p.1=some p.2:=by
 obtain⟨b,_,e⟩:=List.mem_filterMap.mp hp;split at e
 ·cases e
 ·rename_i hn
  cases q:h.get? b with
  | none=>rw[q] at e;simp at e
  | some u =>
   rw[q] at e;simp only[Option.map_some,Option.some.injEq] at e;subst e;refine⟨λz=>hn (.inl z),?_,q⟩;show g.get? b=none
   cases r:g.get? b with
   | none=>rfl
   | some v=>exact(hn (.inr (by simp[r]))).elim
def rest(g h:Heap)(L d:Addr):List (Addr×Obj):=(qR g h L).filter λp=>decide (p.1≠d)
theorem zeX{g h:Heap}{L:Addr}:News g L h (qR g h L):=λp hp=>let ⟨a,b,c⟩:=Jl hp;⟨c,a,b⟩
end L2
namespace L2
open PySem PySem.Spec PyProof.Rows
structure Mod(K:PySem.W.Frag)(mg:Str->Option Value)(base:Heap):Prop where
 kin:K.In base
 glob:base.Ns mainGlobals mg
 blt:∃mb,base.Ns builtinsNs mb/\∀x:Str,x≠"__name__"->mb x=bootBuiltins x
 nolimit:base.NoLimit
structure Cx where
 prog:Program
 w:World
 K:PySem.W.Frag
 mg:Str->Option Value
 base:Heap
 A:Around
 N:List Str
 s₀:Shared
 H₀:Hp
 env:Env
 outer:List Env
 stack:List Env
 ex:List Addr
 fn:Str->Bool
 calm:Bool
 pn:List (Addr×Obj)
 xe:Value->Shared->Prop
def frs(l:List Env):List Addr:=l.filterMap (·.frame)
abbrev Cx.fs(X:Cx):List Addr:=frs X.outer
def Vis(sc:Scope)(x:Str):Prop:=sc.names.lookup x=some .local\/sc.names.lookup x=some .cell\/sc.names.lookup x=some .free
def Loc(sc:Scope)(x:Str):Prop:=sc.names.lookup x=some .local\/sc.names.lookup x=some .cell
def zjp(env:Env)(h:Heap)(m:Str->Option Value)(x:Str)(u:Value):Prop :=
 (env.kindOf x=some .local/\m x=some u)\/((env.kindOf x=some .cell\/env.kindOf x=some .free)/\∃c,env.cells.lookup x=some c/\h.IsCell c (some u))
def HdH(A:Around)(H:Hp):Prop:=A.handled=none\/∃e ch,A.handled=some (.ref e)/\TX.Chn e ch/\∀p∈ch,∃u,H p.1=some (.frz p.2 u)
structure Cx.Ok(X:Cx):Prop where
 mod:Mod X.K X.mg X.base
 kind:X.env.scope.kind=.function
 glob:X.env.globals=mainGlobals
 blt:X.env.builtins=builtinsNs
 above:X.s₀.heap.objs.size<=X.env.locals
 inj:∀x y c,X.env.cells.lookup x=some c->X.env.cells.lookup y=some c->x=y
 has:∀x,(X.env.kindOf x=some .cell\/X.env.kindOf x=some .free)->∃c,X.env.cells.lookup x=some c
 cab:∀x c,X.fn x=true->X.env.cells.lookup x=some c->X.s₀.heap.objs.size<=c
 hd:X.calm=true->HdH X.A X.H₀
 frames:X.A.frames=some X.stack
 stk:X.stack=X.outer\/(X.stack=X.env::X.outer/\X.env.frame=some X.env.locals)
 exf:∀b∈X.ex,b≠X.env.locals/\∀x c,X.env.cells.lookup x=some c->c≠b
 bs:∀b o,X.base.get? b=some o->X.s₀.heap.get? b=some o/\X.H₀ b=none
 bsz:X.base.objs.size<=X.s₀.heap.objs.size
 noex:∀b o,X.base.get? b=some o->b∉X.ex
 exfs:∀b∈X.ex,b∉X.fs
 funs:X.s₀.heap.FunFrames X.base X.outer
 frf:∀b∈X.fs,X.H₀ b=none
structure Inv(X:Cx)(pins:List (Addr×Obj))(σ:List (Option V))(H:Hp)(s:Shared):Prop where
 ok:X.Ok
 os:s.os=X.s₀.os
 bare:AllBare s.gens
 base:Un X.fs X.ex X.H₀ H X.s₀.heap s.heap
 loc:∃m,s.heap.Ns X.env.locals m/\∀(i:Nat) (x:Str) (v:V),X.N[i]?=some x->σ[i]?=some (some v)->Vis X.env.scope x->∃u,Zo v u/\zjp X.env s.heap m x u
 cell:∀x c,X.env.cells.lookup x=some c->∃v,s.heap.IsCell c v
 free:H X.env.locals=none
 freeC:∀x c,X.env.cells.lookup x=some c->H c=none
 pin:∀p∈X.pn++pins,s.heap.get? p.1=some p.2/\H p.1=none/\p.1≠X.env.locals/\p.1∉X.fs/\∀v,p.2.data≠.cell v
 hok:HOk X.prog X.w H s.heap
 len:σ.length=X.N.length
section
variable {X:Cx}{pins:List (Addr×Obj)}{σ:List (Option V)}{H H':Hp}{s:Shared}{h':Heap}
theorem Cx.Ok.nofr(ok:X.Ok){b:Addr}{o:Obj}(e:X.base.get? b=some o):b∉X.fs:=λhb=>by
 have:=(ok.funs.mem hb).1;rw[e] at this;cases this
theorem Inv.bs(I:Inv X pins σ H s):∀b o,X.base.get? b=some o->s.heap.get? b=some o/\H b=none:=λb o e =>
 ⟨I.base.keep b o (I.ok.bs b o e).1 (I.ok.bs b o e).2 (I.ok.nofr e) (I.ok.noex b o e),I.base.free b o (I.ok.bs b o e).1 (I.ok.bs b o e).2 (I.ok.noex b o e)⟩
theorem Inv.bk(I:Inv X pins σ H s):∀b o,X.base.get? b=some o->s.heap.get? b=some o:=λb o e=>(I.bs b o e).1
theorem Inv.mod(I:Inv X pins σ H s):Mod X.K X.mg X.base:=I.ok.mod
theorem Inv.hdh(I:Inv X pins σ H s)(hc:X.calm=true):HdH X.A H:=by
 rcases I.ok.hd hc with h|⟨e,ch,a,b,c⟩
 ·exact .inl h
 ·refine .inr ⟨e,ch,a,b,λp hp=>?_⟩
  obtain⟨u,z⟩:=c p hp;exact⟨u,I.base.frzs _ _ _ z⟩
theorem HdH.at_{A:Around}{P:Program}{w:World}{H:Hp}{h:Heap}(x:HdH A H)(hok:HOk P w H h):TX.HdS A h:=by
 rcases x with x|⟨e,ch,a,b,c⟩
 ·exact .inl x
 ·refine .inr ⟨e,ch,a,b,λp hp=>?_⟩
  obtain⟨u,z⟩:=c p hp
  exact(show h.get? p.1=some p.2/\_ from hok _ _ z).1
theorem Inv.hds(I:Inv X pins σ H s)(hc:X.calm=true):TX.HdS X.A s.heap:=(I.hdh hc).at_ I.hok
theorem Inv.kIn(I:Inv X pins σ H s):X.K.In s.heap:=I.ok.mod.kin.keeps I.bk
theorem Inv.fr(I:Inv X pins σ H s):∃m,Fr X.base X.env.locals s.heap m :=
 let ⟨m,hn,_⟩:=I.loc
 ⟨m,hn,I.bk,Nat.le_trans I.ok.bsz I.ok.above⟩
theorem Inv.lt(I:Inv X pins σ H s):X.env.locals<s.heap.objs.size:=let ⟨_,hn,_⟩:=I.loc;hn.lt
theorem Inv.sz(I:Inv X pins σ H s):X.s₀.heap.objs.size<=s.heap.objs.size:=Nat.le_trans I.ok.above (Nat.le_of_lt I.lt)
theorem Inv.nofs(I:Inv X pins σ H s){a:Addr}(h:s.heap.objs.size<=a):a∉X.fs:=λhb=>by
 obtain⟨_,o,ho,_⟩:=I.ok.funs.mem hb;exact absurd (Nat.lt_of_lt_of_le (Heap.lt_size ho) (Nat.le_trans I.sz h)) (Nat.lt_irrefl _)
theorem Inv.cne(I:Inv X pins σ H s):∀x c,X.env.cells.lookup x=some c->c≠X.env.locals:=λx c e z=>by
 obtain⟨v,o,ho,hd⟩:=I.cell x c e;obtain⟨m,⟨o',es,ep,ho',hd',_⟩,_⟩:=I.loc;rw[z,ho'] at ho;cases ho;rw[hd'] at hd;cases hd
theorem Inv.funs(I:Inv X pins σ H s):s.heap.FunFrames X.base X.outer:=by
 have all:∀(l:List Env),(∀b∈frs l,b∈X.fs)->X.s₀.heap.FunFrames X.base l->s.heap.FunFrames X.base l:=by
  intro l
  induction l with
  | nil=>intro _ _;trivial
  | cons env r ih =>
   intro hs hl;obtain⟨hk,⟨L,o,hf,hn,ho,hd⟩,hr⟩:=hl
   have hL:L∈X.fs:=hs L (by unfold frs;rw[List.filterMap_cons,hf];exact List.mem_cons_self)
   obtain⟨sl,e⟩:=I.base.slot L o ho (I.ok.frf L hL) hL λz=>I.ok.exfs L z hL
   exact⟨hk,⟨L,_,hf,hn,e,hd⟩,ih (λb hb=>hs b (by unfold frs;rw[List.filterMap_cons,hf];exact List.mem_cons_of_mem _ hb)) hr⟩
 exact all X.outer (λ_ hb=>hb) I.ok.funs
theorem Inv.stack(I:Inv X pins σ H s):s.heap.FunFrames X.base X.stack:=by
 rcases I.ok.stk with e|⟨e,hf⟩
 ·rw[e];exact I.funs
 ·rw[e]
  obtain⟨m,hn,_⟩:=I.loc
  refine .cons (by rw[I.ok.kind];decide) hf hn ?_ I.funs
  exact Heap.get?_none_of_le (Nat.le_trans I.ok.bsz I.ok.above)
theorem Inv.stkSub(I:Inv X pins σ H s):∀b∈frs X.stack,b∈X.env.locals::X.fs:=λb hb=>by
 rcases I.ok.stk with e|⟨e,hf⟩
 ·rw[e] at hb;exact List.mem_cons_of_mem _ hb
 ·rw[e] at hb
  unfold frs at hb;rw[List.filterMap_cons,hf] at hb;exact hb
theorem Inv.stkFree(I:Inv X pins σ H s):∀b∈frs X.stack,H b=none:=λb hb=>by
 rcases List.mem_cons.mp (I.stkSub b hb) with e|hb
 ·rw[e];exact I.free
 ·obtain⟨_,o,ho,_⟩:=I.ok.funs.mem hb
  exact I.base.free b o ho (I.ok.frf b hb) λz=>I.ok.exfs b z hb
theorem Inv.step{g':Array GenState}{t':Nat}{d':Drawn}{ch:List Addr}(I:Inv X pins σ H s)
  (hch:∀b∈ch,(b∈X.ex\/X.s₀.heap.objs.size<=b)/\b≠X.env.locals/\(∀x c,X.env.cells.lookup x=some c->c≠b)/\∀p∈X.pn++pins,p.1≠b)
  (keep:∀b o,b≠X.env.locals->b∉X.fs->b∉ch->s.heap.get? b=some o->H b=none->h'.get? b=some o)
  (slot:∀b o,b≠X.env.locals->b∈X.fs->b∉ch->s.heap.get? b=some o->H b=none->∃sl,h'.get? b=some { o with slots:=sl }) (free:∀b o,b∉ch->s.heap.get? b=some o->H b=none->H' b=none)
  (there:∀b o,b∉ch->s.heap.get? b=some o->∃o',h'.get? b=some o')
  (tups:∀b xs,H b=some (.tup xs)->H' b=some (.tup xs)) (frzs:∀b o u,H b=some (.frz o u)->H' b=some (.frz o u)) (tbls:∀b ps,H b=some (.tbl ps)->∃more,H' b=some (.tbl (ps++more)))
  (ns:∀m,s.heap.Ns X.env.locals m->h'.Ns X.env.locals m) (hok:HOk X.prog X.w H' h') (hg:AllBare g') :
  Inv X pins σ H' { s with heap:=h',gens:=g',drawn:=d',toks:=t' }:=by
 have neL:∀b o,X.s₀.heap.get? b=some o->b≠X.env.locals:=λb o e=>Nat.ne_of_lt (Nat.lt_of_lt_of_le (Heap.lt_size e) I.ok.above)
 have neC:∀b o,X.s₀.heap.get? b=some o->b∉X.ex->b∉ch:=λb o e hx hb=>by
  rcases(hch b hb).1 with z|z
  ·exact hx z
  ·exact absurd (Nat.lt_of_lt_of_le (Heap.lt_size e) z) (Nat.lt_irrefl _)
 have cellK:∀x c,X.env.cells.lookup x=some c->∀v,s.heap.IsCell c v->h'.IsCell c v:=λx c e v ⟨o,ho,hd⟩=>by
  have nch:c∉ch:=λz=>(hch c z).2.2.1 x c e rfl
  by_cases hc:c∈X.fs
  ·obtain⟨sl,q⟩:=slot c o (I.cne x c e) hc nch ho (I.freeC x c e)
   exact⟨_,q,hd⟩
  ·exact⟨o,keep c o (I.cne x c e) hc nch ho (I.freeC x c e),hd⟩
 refine⟨I.ok,I.os,hg,⟨λb o e n hb hx=>?_,λb o e n hb hx=>?_,λb o e n hx=>?_,λb o e hx=>?_,λb xs e=>tups b xs (I.base.tups b xs e),λb o xs e=>frzs b o xs (I.base.frzs b o xs e),λb ps e=>?_⟩,?_,λx c e=>?_,?_,λx c e=>?_,λp hp=>?_,hok,I.len⟩
 ·exact keep b o (neL b o e) hb (neC b o e hx) (I.base.keep b o e n hb hx) (I.base.free b o e n hx)
 ·obtain⟨sl,e1⟩:=I.base.slot b o e n hb hx
  obtain⟨sl',e2⟩:=slot b _ (neL b o e) hb (neC b o e hx) e1 (I.base.free b o e n hx);exact⟨sl',e2⟩
 ·obtain⟨o',e1⟩:=I.base.there b o e hx
  exact free b o' (neC b o e hx) e1 (I.base.free b o e n hx)
 ·obtain⟨o',e1⟩:=I.base.there b o e hx
  exact there b o' (neC b o e hx) e1
 ·obtain⟨m1,e1⟩:=I.base.tbls b ps e
  obtain⟨m2,e2⟩:=tbls b _ e1
  exact⟨m1++m2,by rw[e2,Array.append_assoc]⟩
 ·obtain⟨m,hn,hl⟩:=I.loc
  refine⟨m,ns m hn,λi x v e1 e2 e3=>?_⟩;obtain⟨u,r,l⟩:=hl i x v e1 e2 e3;refine⟨u,r,?_⟩
  rcases l with l|⟨k,c,e,z⟩
  ·exact .inl l
  ·exact .inr ⟨k,c,e,cellK x c e _ z⟩
 ·obtain⟨v,z⟩:=I.cell x c e
  exact⟨v,cellK x c e v z⟩
 ·obtain⟨m,⟨o,_,_,ho,_⟩,_⟩:=I.loc
  exact free _ o (λz=>(hch _ z).2.1 rfl) ho I.free
 ·obtain⟨v,o,ho,hd⟩:=I.cell x c e
  exact free c o (λz=>(hch c z).2.2.1 x c e rfl) ho (I.freeC x c e)
 ·obtain⟨e,n,ne,nf,d⟩:=I.pin p hp
  have nch:p.1∉ch:=λz=>(hch p.1 z).2.2.2 p hp rfl;exact⟨keep p.1 p.2 ne nf nch e n,free p.1 p.2 nch e n,ne,nf,d⟩
theorem Inv.un{t':Nat}(I:Inv X pins σ H s)(u:Un X.fs [] H H' s.heap h')(hok:HOk X.prog X.w H' h'):Inv X pins σ H' { s with heap:=h',toks:=t' }:=by
 obtain⟨m,⟨o,es,ep,ho,r⟩,_⟩:=id I.loc
 obtain⟨sl,hL⟩:=u.any ho I.free (by simp)
 exact I.step (g':=s.gens) (d':=s.drawn) (ch:=[]) (λ_ z=>nomatch z) (λb o _ hb _ e n=>u.keep b o e n hb (by simp)) (λb o _ hb _ e n=>u.slot b o e n hb (by simp)) (λb o _ e n=>u.free b o e n (by simp)) (λb o _ e=>u.there b o e (by simp)) u.tups u.frzs u.tbls (λm' hm=>by
  obtain⟨o',es',ep',ho',r'⟩:=hm;rw[ho] at ho';cases ho'
  exact⟨_,es',ep',hL,r'⟩) hok I.bare
theorem Inv.call{g':Array GenState}{t':Nat}{d':Drawn}{ch:List Addr}(I:Inv X pins σ H s)(u:Un (frs X.stack) ch H H' s.heap h')(hok:HOk X.prog X.w H' h')(hg:AllBare g')
  (hch:∀b∈ch,(b∈X.ex\/X.s₀.heap.objs.size<=b)/\b≠X.env.locals/\(∀x c,X.env.cells.lookup x=some c->c≠b)/\∀p∈X.pn++pins,p.1≠b) :
  Inv X pins σ H' { s with heap:=h',gens:=g',drawn:=d',toks:=t' }:=by
 obtain⟨m,⟨o,es,ep,ho,r⟩,_⟩:=id I.loc;obtain⟨sl,hL⟩:=u.any ho I.free λz=>(hch _ z).2.1 rfl
 exact I.step (ch:=ch) hch (λb o hL hb hc e n=>u.keep b o e n (λz=>(List.mem_cons.mp (I.stkSub b z)).elim hL hb) hc) (λb o _ _ hc e n=>u.any e n hc) (λb o hc e n=>u.free b o e n hc) (λb o hc e=>u.there b o e hc) u.tups u.frzs u.tbls (λm' hm=>by
  obtain⟨o',es',ep',ho',r'⟩:=hm;rw[ho] at ho';cases ho'
  exact⟨_,es',ep',hL,r'⟩) hok hg
theorem Inv.turned{t':Nat}{it:Addr}(I:Inv X pins σ H s)(k:∀b o,b≠it->s.heap.get? b=some o->h'.get? b=some o)(hn:H it=none)(hL:it≠X.env.locals)
  (h1:it∈X.ex\/X.s₀.heap.objs.size<=it) (h2:∀x c,X.env.cells.lookup x=some c->c≠it) (h3:∀p∈X.pn++pins,p.1≠it):Inv X pins σ H { s with heap:=h',toks:=t' }:=by
 have nit:∀b u,H b=some u->b≠it:=λb u e z=>by rw[z,hn] at e;cases e
 refine I.step (g':=s.gens) (d':=s.drawn) (ch:=[it]) (λb hb=>?_) (λb o _ _ hc e _=>k b o (λz=>hc (by simp[z])) e) (λb o _ _ hc e _=>⟨o.slots,k b o (λz=>hc (by simp[z])) e⟩) (λ_ _ _ _ n=>n)
  (λb o hc e=>⟨o,k b o (λz=>hc (by simp[z])) e⟩) (λ_ _ e=>e) (λ_ _ _ e=>e) (λb ps e=>⟨#[],by rw[e];simp⟩) (λm hm=>?_) (λb u e=>?_) I.bare
 ·have e:b=it:=by simpa using hb
  subst e;exact⟨h1,hL,h2,h3⟩
 ·obtain⟨o,es,ep,ho,r⟩:=hm
  exact⟨o,es,ep,k _ o (Ne.symm hL) ho,r⟩
 ·refine(I.hok b u e).stay (λc v hc q=>k c v ?_ q) (λ_ q=>q) λ_ _ q=>q
  rcases hc with z|z
  ·rw[z];exact nit b u e
  ·exact nit c _ z
theorem Inv.tok(I:Inv X pins σ H s)(t:Nat):Inv X pins σ H { s with toks:=t }:=I.un (h':=s.heap) (t':=t) Un.refl I.hok
theorem Inv.kept{t':Nat}(I:Inv X pins σ H s)(k:∀b u,s.heap.get? b=some u->h'.get? b=some u):Inv X pins σ H { s with heap:=h',toks:=t' }:=I.un (Un.kept k) (I.hok.kept k)
theorem Inv.laid{a:Addr}{o:HO}{t':Nat}(I:Inv X pins σ H s)(k:∀b u,s.heap.get? b=some u->h'.get? b=some u)(hp:s.heap.objs.size<=a)(new:Zt X.prog X.w (upd H a o) h' a o) :
  Inv X pins σ (upd H a o) { s with heap:=h',toks:=t' }:=I.un (Un.laid k hp (I.hok.fresh hp)) (I.hok.laid k hp new)
theorem Inv.write{x e:Addr}{o:HO}{t':Nat}(I:Inv X pins σ H s)(mu:Mut (H x))(he:e=x\/H e=some (.own x))(k:∀b u,b≠e->s.heap.get? b=some u->h'.get? b=some u)(heo:∃u,h'.get? e=some u)
  (new:Zt X.prog X.w (upd H x o) h' x o):Inv X pins σ (upd H x o) { s with heap:=h',toks:=t' }:=I.un (Un.write mu he k heo) (I.hok.write mu he k heo new)
theorem Inv.weak{σ':List (Option V)}(I:Inv X pins σ H s)(hl:σ'.length=σ.length)(w:∀(i:Nat) v,σ'[i]?=some (some v)->σ[i]?=some (some v)):Inv X pins σ' H s :=
 ⟨I.ok,I.os,I.bare,I.base,let ⟨m,hn,hl'⟩:=I.loc;⟨m,hn,λi x v e1 e2 e3=>hl' i x v e1 (w i v e2) e3⟩,I.cell,I.free,I.freeC,I.pin,I.hok,hl.trans I.len⟩
theorem Inv.pins_of{pins':List (Addr×Obj)}(I:Inv X pins σ H s)(h:∀p∈pins',s.heap.get? p.1=some p.2/\H p.1=none/\p.1≠X.env.locals/\p.1∉X.fs/\∀v,p.2.data≠.cell v):Inv X pins' σ H s :=
 ⟨I.ok,I.os,I.bare,I.base,I.loc,I.cell,I.free,I.freeC,λp hp=>(List.mem_append.mp hp).elim (λz=>I.pin p (List.mem_append_left _ z)) (h p),I.hok,I.len⟩
theorem zbd{N:List Str}(hN:N.Nodup){i j:Nat}{x:Str}(a:N[i]?=some x)(b:N[j]?=some x):i=j:=by
 obtain⟨h1,e1⟩:=List.getElem?_eq_some_iff.mp a;obtain⟨h2,e2⟩:=List.getElem?_eq_some_iff.mp b;exact(List.getElem_inj hN).mp (e1.trans e2.symm)
theorem zcx{M:Model}{A:Around}{E:Value->Shared->Prop}{i:Nat}{x:Str}{v:V}{u:Value}{Q:Unit->Shared->Prop}(I:Inv X pins σ H s)(hN:X.N.Nodup)(hi:X.N[i]?=some x)(hx:Loc X.env.scope x)(r:Zo v u)
  (h:∀s',Inv X pins (σ.set i (some v)) H s'->(∃a,Heap.SameBut a s.heap s'.heap/\(a=X.env.locals\/X.env.cells.lookup x=some a))->Q () s') (hf:X.fn x=true\/X.env.scope.names.lookup x=some .local:=by first|exact .inl rfl|exact .inr rfl|assumption):wpAny M A (storeName X.env x u) Q E s:=by
 obtain⟨m,hn,hl⟩:=id I.loc
 have hcls:(X.env.scope.kind==.class||(X.env.scope.kind==.module&&X.env.locals != X.env.globals))=false:=by rw[I.ok.kind];rfl
 have hiσ:i<σ.length:=by rw[I.len];exact(List.getElem?_eq_some_iff.mp hi).1
 have cne:=I.cne
 have tracked:∀{a:Addr} {h':Heap},(∃o,s.heap.get? a=some o/\H a=none)->Heap.SameBut a s.heap h'->HOk X.prog X.w H h':=λ{a h'} ha hs b ob e=>by
  obtain⟨_,_,hfree⟩:=ha;refine(I.hok b ob e).stay (λc w' hc q=>(hs.2 c ?_).trans q) (λ_ q=>q) λ_ _ q=>q;rintro rfl
  rcases hc with rfl|hc
  ·rw[hfree] at e;cases e
  ·rw[hfree] at hc;cases hc
 rcases hx with hk|hk
 ·refine wpAny_storeName_local hk hn (λh' hn' hs=>?_) hcls
  obtain⟨oL,_,_,hoL,_⟩:=id hn
  refine h _ ⟨I.ok,I.os,I.bare,⟨λb o e n hb hx=>?_,λb o e n hb hx=>?_,I.base.free,λb o e hx=>?_,I.base.tups,I.base.frzs,I.base.tbls⟩,⟨_,hn',λj y v' e1 e2 e3=>?_⟩,λy c e=>?_,I.free,I.freeC,λp hp=>?_,tracked ⟨oL,hoL,I.free⟩ hs,by simpa using I.len⟩ ⟨_,hs,.inl rfl⟩
  ·exact(hs.2 b (Nat.ne_of_lt (Nat.lt_of_lt_of_le (Heap.lt_size e) I.ok.above))).trans (I.base.keep b o e n hb hx)
  ·obtain⟨sl,e1⟩:=I.base.slot b o e n hb hx
   exact⟨sl,(hs.2 b (Nat.ne_of_lt (Nat.lt_of_lt_of_le (Heap.lt_size e) I.ok.above))).trans e1⟩
  ·obtain⟨o',e1⟩:=I.base.there b o e hx
   exact⟨o',(hs.2 b (Nat.ne_of_lt (Nat.lt_of_lt_of_le (Heap.lt_size e) I.ok.above))).trans e1⟩
  ·by_cases hj:j=i
   ·subst hj
    rw[hi] at e1;cases e1;rw[List.getElem?_set_self hiσ] at e2;cases e2
    exact⟨u,r,.inl ⟨hk,by simp⟩⟩
   ·rw[List.getElem?_set_ne (Ne.symm hj)] at e2
    obtain⟨u',r',q⟩:=hl j y v' e1 e2 e3;refine⟨u',r',?_⟩
    rcases q with ⟨k,e⟩|⟨k,c,e,z⟩
    ·refine .inl ⟨k,?_⟩
     have:y≠x:=λe=>hj (zbd hN e1 (e▸hi));simp[this,e]
    ·exact .inr ⟨k,c,e,z.sameBut hs (cne y c e)⟩
  ·obtain⟨w',z⟩:=I.cell y c e
   exact⟨w',z.sameBut hs (cne y c e)⟩
  ·obtain⟨e,n,ne,nf,d⟩:=I.pin p hp
   exact⟨(hs.2 p.1 ne).trans e,n,ne,nf,d⟩
 ·have hfn:X.fn x=true:=by
   rcases hf with z|z
   ·exact z
   ·rw[z] at hk;cases hk
  obtain⟨c,hc⟩:=I.ok.has x (.inl hk);obtain⟨w',z⟩:=I.cell x c hc;refine wpAny_storeName_cell I.ok.kind hk hc z (λh' hc' hs=>?_);obtain⟨oc,hoc,hocd⟩:=id z
  refine h { s with heap:=h' } ⟨I.ok,I.os,I.bare,⟨λb o e n hb hx=>?_,λb o e n hb hx=>?_,I.base.free,λb o e hx=>?_,I.base.tups,I.base.frzs,I.base.tbls⟩,⟨m,hn.sameBut hs (Ne.symm (cne x c hc)),λj y v' e1 e2 e3=>?_⟩,λy c' e=>?_,I.free,I.freeC,λp hp=>?_,tracked ⟨oc,hoc,I.freeC x c hc⟩ hs,by simpa using I.len⟩ ⟨c,hs,.inr hc⟩
  ·exact(hs.2 b (Nat.ne_of_lt (Nat.lt_of_lt_of_le (Heap.lt_size e) (I.ok.cab x c hfn hc)))).trans (I.base.keep b o e n hb hx)
  ·obtain⟨sl,e1⟩:=I.base.slot b o e n hb hx
   exact⟨sl,(hs.2 b (Nat.ne_of_lt (Nat.lt_of_lt_of_le (Heap.lt_size e) (I.ok.cab x c hfn hc)))).trans e1⟩
  ·obtain⟨o',e1⟩:=I.base.there b o e hx
   exact⟨o',(hs.2 b (Nat.ne_of_lt (Nat.lt_of_lt_of_le (Heap.lt_size e) (I.ok.cab x c hfn hc)))).trans e1⟩
  ·by_cases hj:j=i
   ·subst hj
    rw[hi] at e1;cases e1;rw[List.getElem?_set_self hiσ] at e2;cases e2;exact⟨u,r,.inr ⟨.inl hk,c,hc,hc'⟩⟩
   ·rw[List.getElem?_set_ne (Ne.symm hj)] at e2
    obtain⟨u',r',q⟩:=hl j y v' e1 e2 e3;refine⟨u',r',?_⟩
    rcases q with q|⟨k,c',e,z'⟩
    ·exact .inl q
    ·refine .inr ⟨k,c',e,z'.sameBut hs ?_⟩
     rintro rfl;exact hj (zbd hN e1 (I.ok.inj _ _ _ e hc▸hi))
  ·by_cases hcc:c'=c
   ·subst hcc;exact⟨_,hc'⟩
   ·obtain⟨w2,z2⟩:=I.cell y c' e
    exact⟨w2,z2.sameBut hs hcc⟩
  ·obtain⟨e,n,ne,nf,d⟩:=I.pin p hp
   refine⟨(hs.2 p.1 ?_).trans e,n,ne,nf,d⟩;intro q;rw[q,hoc] at e;have q':oc=p.2:=Option.some.inj e
   exact d w' (by rw[<-q'];exact hocd)
theorem JU{M:Model}{A:Around}{E:Value->Shared->Prop}{i:Nat}{x:Str}{v:V}{u:Value}{Q:Unit->Shared->Prop}(I:Inv X pins σ H s)(hN:X.N.Nodup)(hi:X.N[i]?=some x)(hx:Loc X.env.scope x)(r:Zo v u)
  (h:∀s',Inv X pins (σ.set i (some v)) H s'->Q () s') (hf:X.fn x=true\/X.env.scope.names.lookup x=some .local:=by first|exact .inl rfl|exact .inr rfl|assumption):wpAny M A (storeName X.env x u) Q E s :=
 zcx I hN hi hx r (λs' I' _=>h s' I') hf
theorem Inv.call'{s':Shared}{ch:List Addr}(I:Inv X pins σ H s)(ho:s'.os=s.os)(u:Un (frs X.stack) ch H H' s.heap s'.heap)(hok:HOk X.prog X.w H' s'.heap)(hg:AllBare s'.gens)
  (hch:∀b∈ch,(b∈X.ex\/X.s₀.heap.objs.size<=b)/\b≠X.env.locals/\(∀x c,X.env.cells.lookup x=some c->c≠b)/\∀p∈X.pn++pins,p.1≠b):Inv X pins σ H' s':=by
 obtain⟨h',g',d',t',o'⟩:=s';have e:o'=s.os:=ho;subst e;exact I.call (g':=g') (t':=t') (d':=d') u hok hg hch
end
abbrev XK:=Value->Option Addr->Hp->Prop
abbrev St:=List (Option V)
abbrev VK:=V->Hp->Prop
abbrev TE:=St->Hp->VK->Prop
abbrev TT:=St->Hp->(Bool->Hp->Prop)->Prop
abbrev TA:=St->Hp->(List V->Hp->Prop)->Prop
structure Ends where
 nx:St->Hp->Prop
 rt:VK
 bk:St->Hp->Prop:=λ_ _=>False
 ct:St->Hp->Prop:=λ_ _=>False
abbrev TS:=Ends->St->Hp->Prop
def EP(X:Cx)(pins:List (Addr×Obj))(σ:St)(Q:VK)(u:Value)(s':Shared):Prop:=∃v H',Inv X pins σ H' s'/\Zo v u/\Q v H'
def TP(X:Cx)(pins:List (Addr×Obj))(σ:St)(Q:Bool->Hp->Prop)(b:Bool)(s':Shared):Prop:=∃H',Inv X pins σ H' s'/\Q b H'
def AP(X:Cx)(pins:List (Addr×Obj))(σ:St)(Q:List V->Hp->Prop)(us:List Value)(s':Shared):Prop:=∃vs H',Inv X pins σ H' s'/\Zg vs us/\Q vs H'
def SP(X:Cx)(pins:List (Addr×Obj))(D:Ends)(f:Flow)(s':Shared):Prop :=
 match f with
 | .next=>∃σ' H',Inv X pins σ' H' s'/\D.nx σ' H'
 | .brk=>∃σ' H',Inv X pins σ' H' s'/\D.bk σ' H'
 | .cont=>∃σ' H',Inv X pins σ' H' s'/\D.ct σ' H'
 | .ret u=>∃v σ' H',Inv X pins σ' H' s'/\Zo v u/\D.rt v H'
def PE(X:Cx)(e:Expr)(t:TE):Prop :=
 ∀(pins:List (Addr×Obj)) (s:Shared) (σ:St) (H:Hp) (Q:VK),Inv X pins σ H s->t σ H Q->wpAny (model X.prog X.w) X.A (eval e X.env) (EP X pins σ Q) X.xe s
def PT(X:Cx)(e:Expr)(t:TT):Prop :=
 ∀(pins:List (Addr×Obj)) (s:Shared) (σ:St) (H:Hp) (Q:Bool->Hp->Prop),Inv X pins σ H s->t σ H Q->wpAny (model X.prog X.w) X.A (isTrue e X.env (eval e X.env)) (TP X pins σ Q) X.xe s
def PW(X:Cx)(e:Expr)(t:TT):Prop :=
 ∀(whole:Sem Value) (pins:List (Addr×Obj)) (s:Shared) (σ:St) (H:Hp) (Q:Bool->Hp->Prop),Inv X pins σ H s->t σ H Q->wpAny (model X.prog X.w) X.A (isTrue e X.env whole) (TP X pins σ Q) X.xe s
theorem PW.pt{X:Cx}{e:Expr}{t:TT}(h:PW X e t):PT X e t:=h _
def PA(X:Cx)(es:List Expr)(t:TA):Prop :=
 ∀(pos:Pos) (pins:List (Addr×Obj)) (s:Shared) (σ:St) (H:Hp) (Q:List V->Hp->Prop),Inv X pins σ H s->t σ H Q->wpAny (model X.prog X.w) X.A (spliced (backTo pos (starEach es X.env))) (AP X pins σ Q) X.xe s
def PS(X:Cx)(st:Stmt)(t:TS):Prop :=
 ∀(pins:List (Addr×Obj)) (s:Shared) (σ:St) (H:Hp) (D:Ends),Inv X pins σ H s->t D σ H->wpAny (model X.prog X.w) X.A (exec st X.env) (SP X pins D) X.xe s
def PSs(X:Cx)(st:List Stmt)(t:TS):Prop :=
 ∀(pins:List (Addr×Obj)) (s:Shared) (σ:St) (H:Hp) (D:Ends),Inv X pins σ H s->t D σ H->wpAny (model X.prog X.w) X.A (execs st X.env) (SP X pins D) X.xe s
theorem thn{α:Type}{t:Sem α}{Q Q':α->Shared->Prop}{M:Model}{A:Around}{E:Value->Shared->Prop}{s:Shared}(h:wpAny M A t Q E s)(hQ:∀a s,Q a s->Q' a s):wpAny M A t Q' E s:=wpAny_mono h hQ λ_ _ x=>x
end L2
namespace L2
open PySem PySem.Spec PyProof.Rows
section
variable {X:Cx}
def z7(i:Nat):TE:=λσ H Q=>∃v,σ[i]?=some (some v)/\Q v H
def tC(v:V):TE:=λ_ H Q=>Q v H
theorem zfw{i:Nat}{x:Str}{pos:Pos}(hN:X.N[i]?=some x)(hv:Vis X.env.scope x)(hd:(x==("__debug__":Str))=false:=by decide)(hcd:(x==("__classdict__":Str))=false:=by decide):PE X (.Name x pos) (z7 i):=by
 intro pins s σ H Q I h;obtain⟨v,e,h⟩:=h;obtain⟨m,hn,hl⟩:=I.loc;obtain⟨u,r,l⟩:=hl i x v hN e hv;have fin:EP X pins σ Q u s:=⟨v,H,I,r,h⟩
 rcases l with ⟨hk,hm⟩|⟨hk,c,hc,hcell⟩
 ·exact wpAny_Name (wpAny_loadName_local I.ok.kind hk hn hm fin) hd
 ·rcases hk with hk|hk
  ·exact wpAny_Name (wpAny_loadName_cell I.ok.kind hk hc hcell fin) hd
  ·exact wpAny_Name (wpAny_loadName_free I.ok.kind hk hc hcell fin hcd) hd
theorem zm{i j pos}:PE X (.Constant (.int i) j pos) (tC (.int i)):=λ_ _ _ H _ I h=>wpAny_Constant_int ⟨.int i,H,I.tok _,⟨_,rfl⟩,h⟩
theorem Z8{b j pos}:PE X (.Constant (.bool b) j pos) (tC (.bl b)):=λ_ _ _ H _ I h=>Constant_bool ⟨.bl b,H,I,rfl,h⟩
theorem zcY{j pos}:PE X (.Constant .none j pos) (tC .non):=λ_ _ _ H _ I h=>Constant_none ⟨.non,H,I,rfl,h⟩
theorem zhz{x j pos}:PE X (.Constant (.str x) j pos) (tC (.str x)):=λ_ _ _ H _ I h=>Calls.Constant_str ⟨.str x,H,I.tok _,⟨_,rfl⟩,h⟩
def Gl(X:Cx)(x:Str):Prop:=X.env.kindOf x=some .globalImplicit
theorem YY{E:Value->Shared->Prop}{pins:List (Addr×Obj)}{s:Shared}{σ:St}{H:Hp}{x:Str}{u:Value}{pos:Pos}{Q:Value->Shared->Prop}(I:Inv X pins σ H s)(hg:Gl X x)(hm:X.mg x=some u)(h:Q u s)
  (hd:(x==("__debug__":Str))=false:=by decide):wpAny (model X.prog X.w) X.A (eval (.Name x pos) X.env) Q E s :=
 Calls.Name_function_global I.ok.kind hg (Calls.loadGlobal_global (by rw[I.ok.glob];exact I.mod.glob.keeps I.bk) hm h) hd
theorem jQ{E:Value->Shared->Prop}{pins:List (Addr×Obj)}{s:Shared}{σ:St}{H:Hp}{x:Str}{u:Value}{pos:Pos}{Q:Value->Shared->Prop}(I:Inv X pins σ H s)(hg:Gl X x)(hm:X.mg x=none)(hv:bootBuiltins x=some u)(h:Q u s)
  (hn:x≠"__name__":=by decide) (hd:(x==("__debug__":Str))=false:=by decide):wpAny (model X.prog X.w) X.A (eval (.Name x pos) X.env) Q E s:=by
 obtain⟨mb,h1,h2⟩:=I.mod.blt
 exact Calls.Name_function_global I.ok.kind hg (Calls.loadGlobal_builtin (by rw[I.ok.glob];exact I.mod.glob.keeps I.bk) hm (by rw[I.ok.blt];exact h1.keeps I.bk) ((h2 x hn).trans hv) h) hd
theorem YS{x:Str}{v:V}{u:Value}{pos:Pos}(hg:Gl X x)(hm:X.mg x=some u)(r:Zo v u)(hd:(x==("__debug__":Str))=false:=by decide):PE X (.Name x pos) (tC v) :=
 λ_ _ _ H _ I h=>YY I hg hm ⟨v,H,I,r,h⟩ hd
theorem ye{x:Str}{v:V}{u:Value}{pos:Pos}(hg:Gl X x)(hm:X.mg x=none)(hv:bootBuiltins x=some u)(r:Zo v u)(hn:x≠"__name__":=by decide)(hd:(x==("__debug__":Str))=false:=by decide):PE X (.Name x pos) (tC v) :=
 λ_ _ _ H _ I h=>jQ I hg hm hv ⟨v,H,I,r,h⟩ hn hd
def t2I(ta tb:TE)(k:Int->Int->Hp->Prop):St->Hp->Prop:=λσ H=>ta σ H λx H1=>tb σ H1 λy H2=>∃i j,x=.int i/\y=.int j/\k i j H2
def zj4(ta tb:TE):TE:=λσ H Q=>t2I ta tb (λi j H2=>Q (.int (i+j)) H2) σ H
def zjX(ta tb:TE):TE:=λσ H Q=>t2I ta tb (λi j H2=>Q (.int (i-j)) H2) σ H
def zj0(ta tb:TE):TE:=λσ H Q=>t2I ta tb (λi j H2=>(-(2 ^ 64)<i/\i<2 ^ 64)/\Q (.int (i * j)) H2) σ H
variable {a b:Expr}{ta tb:TE}{pos:Pos}
def PC(X:Cx)(op:CmpOp)(a b:Expr)(t:TE):Prop :=
 ∀(pins:List (Addr×Obj)) (s:Shared) (σ:St) (H:Hp) (Q:VK),Inv X pins σ H s->t σ H Q ->
  wpAny (model X.prog X.w) X.A (eval a X.env) (λv s₁=>wpAny (model X.prog X.w) X.A (eval b X.env) (λu s₂=>wpAny (model X.prog X.w) X.A (compareOp op v u) (EP X pins σ Q) X.xe s₂) X.xe s₁) X.xe s
theorem zeV(b:Expr){op:CmpOp}(h:op≠.In)(h2:op≠.NotIn):behindInMarks op b=false:=by
 have e1:(op==CmpOp.In)=false:=by cases op <;> first|rfl|exact absurd rfl h
 have e2:(op==CmpOp.NotIn)=false:=by cases op <;> first|rfl|exact absurd rfl h2
 cases b <;> simp[behindInMarks,e1,e2]
def zgX(p:Int->Int->Bool)(ta tb:TE):TE:=λσ H Q=>t2I ta tb (λi j H2=>Q (.bl (p i j)) H2) σ H
abbrev tLt:TE->TE->TE:=zgX λi j=>decide (i<j)
abbrev tLe:TE->TE->TE:=zgX λi j=>decide (i<=j)
abbrev tGt:TE->TE->TE:=zgX λi j=>decide (j<i)
abbrev tGe:TE->TE->TE:=zgX λi j=>decide (j<=i)
abbrev zj1:TE->TE->TE:=zgX λi j=>decide (i=j)
abbrev zjZ:TE->TE->TE:=zgX λi j=>!decide (i=j)
def zjs(ta:TE):TE:=λσ H Q=>ta σ H λx H1=>Q (.bl (decide (x=.non))) H1
def zir(ta:TE):TE:=λσ H Q=>ta σ H λx H1=>Q (.bl (!decide (x=.non))) H1
theorem Zo.none_iff{x:V}{v:Value}(r:Zo x v):(v==Value.none)=decide (x=.non):=by
 cases x with
 | non=>cases r;rfl
 | bl _=>cases r;rfl
 | int _=>obtain⟨t,rfl⟩:=r;rfl
 | str _=>obtain⟨t,rfl⟩:=r;rfl
 | byt _=>obtain⟨t,rfl⟩:=r;rfl
 | flt _=>obtain⟨t,rfl⟩:=r;rfl
 | ref _=>cases r;rfl
 | ty _=>cases r;rfl
theorem zhB{j pos'}(ha:PE X a ta):PC X .Is a (.Constant .none j pos') (zjs ta):=by
 intro pins s σ H Q I h;refine thn (ha pins s σ H _ I h) λv s1 ⟨x,H1,I1,r1,q1⟩=>?_
 exact Constant_none (is_none_gen ⟨.bl _,H1,I1,by rw[r1.none_iff];rfl,q1⟩)
theorem zc0{j pos'}(ha:PE X a ta):PC X .IsNot a (.Constant .none j pos') (zir ta):=by
 intro pins s σ H Q I h;refine thn (ha pins s σ H _ I h) λv s1 ⟨x,H1,I1,r1,q1⟩=>?_
 exact Constant_none (isnot_none_gen ⟨.bl _,H1,I1,by rw[r1.none_iff];rfl,q1⟩)
def tB(t:TE):TT:=λσ H Q=>t σ H λx H1=>∃c,x=.bl c/\Q c H1
theorem QK{op:CmpOp}{t:TE}(h:PC X op a b t)(h1:behindInMarks op b=false:=by first|exact zeV _ (by decide) (by decide)|rfl):PT X (.Compare a [op] [b] pos) (tB t):=by
 intro pins s σ H Q I hw;refine wpAny_isTrue_Compare1 (thn (h pins s σ H _ I hw) λv s1 h1=>thn h1 λu s2 h2=>thn h2 λc s3 ⟨x,H1,I1,r1,q1⟩=>?_) h1;obtain⟨d,rfl,q⟩:=q1;cases r1;exact wpAny_truthy_bool ⟨H1,I1,q⟩
theorem zI{e:Expr}{t:TE}(h:PE X e t)(he:∀whole,isTrue e X.env whole=(do let v <-whole;standAt e.pos;holding [v] (truthy v)):=by intro _;rfl):PT X e (tB t):=by
 intro pins s σ H Q I hw;refine isTrue_plain (thn (h pins s σ H _ I hw) λv s1 ⟨x,H1,I1,r1,q1⟩=>?_) (he _);obtain⟨d,rfl,q⟩:=q1;cases r1;exact wpAny_truthy_bool ⟨H1,I1,q⟩
variable {tA tB':TT}{rest:List Expr}
def zjy(t u:TT):TT:=λσ H Q=>t σ H λc H1=>if c=true then u σ H1 Q else Q false H1
def tOr(t u:TT):TT:=λσ H Q=>t σ H λc H1=>if c=true then Q true H1 else u σ H1 Q
def zi5(t:TT):TT:=λσ H Q=>t σ H λc H1=>Q (!c) H1
theorem J6(ha:PT X a tA):PW X (.BoolOp .And [a] pos) tA:=by
 intro wh pins s σ H Q I h;refine isTrue_and (thn (ha pins s σ H Q I h) λc s1 e=>?_)
 cases c with
 | true=>exact isTrue_and_nil e
 | false=>exact e
theorem YE(ha:PT X a tA):PW X (.BoolOp .Or [a] pos) tA:=by
 intro wh pins s σ H Q I h;refine isTrue_or (thn (ha pins s σ H Q I h) λc s1 e=>?_)
 cases c with
 | false=>exact isTrue_or_nil e
 | true=>exact e
theorem za2(ha:PT X a tA)(hb:PW X (.BoolOp .And (b::rest) pos) tB'):PW X (.BoolOp .And (a::b::rest) pos) (zjy tA tB'):=by
 intro wh pins s σ H Q I h;refine isTrue_and (thn (ha pins s σ H _ I h) λc s1 ⟨H1,I1,q1⟩=>?_)
 cases c with
 | true=>exact hb wh pins s1 σ H1 Q I1 q1
 | false=>exact⟨H1,I1,q1⟩
theorem Qd(ha:PT X a tA)(hb:PW X (.BoolOp .Or (b::rest) pos) tB'):PW X (.BoolOp .Or (a::b::rest) pos) (tOr tA tB'):=by
 intro wh pins s σ H Q I h;refine isTrue_or (thn (ha pins s σ H _ I h) λc s1 ⟨H1,I1,q1⟩=>?_)
 cases c with
 | true=>exact⟨H1,I1,q1⟩
 | false=>exact hb wh pins s1 σ H1 Q I1 q1
theorem zQ(ha:PT X a tA):PT X (.UnaryOp .Not a pos) (zi5 tA):=by
 intro pins s σ H Q I h;exact isTrue_not (ha pins s σ H (λc H1=>Q (!c) H1) I h)
def zf1(ta tb:TE):TE:=λσ H Q=>ta σ H λx H1=>∃c,x=.bl c/\if c=true then tb σ H1 Q else Q (.bl false) H1
def zio(ta tb:TE):TE:=λσ H Q=>ta σ H λx H1=>∃c,x=.bl c/\if c=true then Q (.bl true) H1 else tb σ H1 Q
def zfW(ta:TE):TE:=λσ H Q=>ta σ H λx H1=>∃c,x=.bl c/\Q (.bl (!c)) H1
theorem YQ{op}{t:TE}(h:PE X a t):PE X (.BoolOp op [a] pos) t:=λpins s σ H Q I hw=>BoolOp_one (h pins s σ H Q I hw)
theorem jy(ha:PE X a ta)(hb:PE X (.BoolOp .And (b::rest) pos) tb):PE X (.BoolOp .And (a::b::rest) pos) (zf1 ta tb):=by
 intro pins s σ H Q I h;refine BoolOp_and (thn (ha pins s σ H _ I h) λv s1 ⟨x,H1,I1,r1,q1⟩=>?_);obtain⟨c,rfl,q1⟩:=q1;cases r1;refine wpAny_truthy_bool ?_
 cases c with
 | true=>exact hb pins s1 σ H1 Q I1 q1
 | false=>exact⟨.bl false,H1,I1,rfl,q1⟩
theorem zeC(ha:PE X a ta)(hb:PE X (.BoolOp .Or (b::rest) pos) tb):PE X (.BoolOp .Or (a::b::rest) pos) (zio ta tb):=by
 intro pins s σ H Q I h;refine BoolOp_or (thn (ha pins s σ H _ I h) λv s1 ⟨x,H1,I1,r1,q1⟩=>?_);obtain⟨c,rfl,q1⟩:=q1;cases r1;refine wpAny_truthy_bool ?_
 cases c with
 | false=>exact hb pins s1 σ H1 Q I1 q1
 | true=>exact⟨.bl true,H1,I1,rfl,q1⟩
theorem zfx(ha:PE X a ta):PE X (.UnaryOp .Not a pos) (zfW ta):=by
 intro pins s σ H Q I h;refine UnaryOp_ (thn (ha pins s σ H _ I h) λv s1 ⟨x,H1,I1,r1,q1⟩=>?_);obtain⟨c,rfl,q1⟩:=q1;cases r1;exact not_of (wpAny_truthy_bool ⟨.bl (!c),H1,I1,rfl,q1⟩)
def tIf(t:TT)(ta tb:TE):TE:=λσ H Q=>t σ H λc H1=>if c=true then ta σ H1 Q else tb σ H1 Q
theorem Q8{c:Expr}(hc:PT X c tA)(ha:PE X a ta)(hb:PE X b tb):PE X (.IfExp c a b pos) (tIf tA ta tb):=by
 intro pins s σ H Q I h;refine wpAny_IfExp (thn (hc pins s σ H _ I h) λd s1 ⟨H1,I1,q1⟩=>?_)
 cases d with
 | true=>exact ha pins s1 σ H1 Q I1 q1
 | false=>exact hb pins s1 σ H1 Q I1 q1
end
end L2
namespace L2
open PySem PySem.Spec PyProof.Rows
def SqL(K:PySem.W.Frag)(H:Hp)(a:Addr)(xs:List V):Prop :=
 Rd H a (.lst xs) \/
  ∃(o:Obj) (its:Array Value) (n:Nat),K.lookup a=some o/\o.cls=.type "list"/\o.dict=none/\o.data=.seq its n/\its.size<=sizeLine/\Zg xs its.toList
def SqT(K:PySem.W.Frag)(H:Hp)(a:Addr)(xs:List V):Prop :=
 Rd H a (.tup xs) \/
  ∃(o:Obj) (its:Array Value) (n:Nat),K.lookup a=some o/\o.cls=.type "tuple"/\o.data=.seq its n/\its.size<=sizeLine/\Zg xs its.toList
def zjS:Value->Option V
 | .none=>some .non
 | .bool b=>some (.bl b)
 | .int i _=>some (.int i)
 | .str x _=>some (.str x)
 | .bytes b _=>some (.byt b)
 | .float b _=>some (.flt b)
 | .ref a=>some (.ref a)
 | .type n=>some (.ty n)
 | _=>none
theorem Zo.abs{x:V}{u:Value}(r:Zo x u):zjS u=some x:=by
 cases x with
 | non=>cases r;rfl
 | bl _=>cases r;rfl
 | int _=>obtain⟨t,rfl⟩:=r;rfl
 | str _=>obtain⟨t,rfl⟩:=r;rfl
 | byt _=>obtain⟨t,rfl⟩:=r;rfl
 | flt _=>obtain⟨t,rfl⟩:=r;rfl
 | ref _=>cases r;rfl
 | ty _=>cases r;rfl
theorem Zo.inj{x y:V}{u:Value}(r:Zo x u)(q:Zo y u):x=y:=Option.some.inj (r.abs.symm.trans q.abs)
theorem Zg.inj:∀{xs ys:List V} {us:List Value},Zg xs us->Zg ys us->xs=ys
 | _,_,_,.nil,.nil=>rfl
 | _,_,_,.cons r t,.cons r' t'=>by rw[r.inj r',Zg.inj t t']
section
variable {X:Cx}{pins:List (Addr×Obj)}{σ:St}{H:Hp}{s:Shared}{a:Addr}{xs ys:List V}
theorem SqL.of{K:PySem.W.Frag}(h:H a=some (.lst xs)):SqL K H a xs:=.inl (.inl h)
theorem SqT.of{K:PySem.W.Frag}(h:H a=some (.tup xs)):SqT K H a xs:=.inl (.inl h)
theorem Inv.list(I:Inv X pins σ H s)(h:SqL X.K H a xs):∃its:List Value,Zg xs its/\PlainL s.heap a its.toArray/\xs.length<=sizeLine:=by
 rcases h with h|⟨o,its,n,hk,hc,hd,hs,hz,r⟩
 ·obtain⟨z,its,n,r,e⟩:=h.ok I.hok
  exact⟨its,r,⟨_,n,e,rfl,rfl,rfl⟩,z⟩
 ·refine⟨its.toList,r,⟨o,n,I.kIn a o hk,hc,hd,by simpa using hs⟩,?_⟩
  have e:=r.length;simp only[Array.length_toList] at e;omega
theorem Inv.tuple(I:Inv X pins σ H s)(h:SqT X.K H a xs):∃its:List Value,Zg xs its/\IsTup s.heap a its.toArray/\xs.length<=sizeLine:=by
 rcases h with h|⟨o,its,n,hk,hc,hs,hz,r⟩
 ·obtain⟨z,its,r,p⟩:=h.ok I.hok
  exact⟨its,r,p,z⟩
 ·refine⟨its.toList,r,⟨o,I.kIn a o hk,hc,n,by simpa using hs⟩,?_⟩
  have e:=r.length;simp only[Array.length_toList] at e;omega
theorem Inv.list_inj(I:Inv X pins σ H s)(h:SqL X.K H a xs)(h':SqL X.K H a ys):xs=ys:=by
 obtain⟨its,r,⟨o,n,e,_,_,d⟩,_⟩:=I.list h;obtain⟨its',r',⟨o',n',e',_,_,d'⟩,_⟩:=I.list h';rw[e] at e';cases e';rw[d] at d'
 injection d' with d1 _
 have:its=its':=by simpa using congrArg Array.toList d1
 subst this;exact r.inj r'
theorem Inv.tuple_inj(I:Inv X pins σ H s)(h:SqT X.K H a xs)(h':SqT X.K H a ys):xs=ys:=by
 obtain⟨its,r,⟨o,e,_,n,d⟩,_⟩:=I.tuple h;obtain⟨its',r',⟨o',e',_,n',d'⟩,_⟩:=I.tuple h';rw[e] at e';cases e';rw[d] at d'
 injection d' with d1 _
 have:its=its':=by simpa using congrArg Array.toList d1
 subst this;exact r.inj r'
end
abbrev Cx.wish(X:Cx)(E:Value->Shared->Prop):Cx:={ X with xe:=E }
abbrev Cx.nox(X:Cx):Cx:=X.wish λ_ _=>False
theorem Cx.Ok.wish{X:Cx}(ok:X.Ok)(E:Value->Shared->Prop):(X.wish E).Ok :=
 ⟨ok.mod,ok.kind,ok.glob,ok.blt,ok.above,ok.inj,ok.has,ok.cab,ok.hd,ok.frames,ok.stk,ok.exf,ok.bs,ok.bsz,ok.noex,ok.exfs,ok.funs,ok.frf⟩
theorem Cx.Ok.unwish{X:Cx}{E:Value->Shared->Prop}(ok:(X.wish E).Ok):X.Ok :=
 ⟨ok.mod,ok.kind,ok.glob,ok.blt,ok.above,ok.inj,ok.has,ok.cab,ok.hd,ok.frames,ok.stk,ok.exf,ok.bs,ok.bsz,ok.noex,ok.exfs,ok.funs,ok.frf⟩
section
variable {X:Cx}{pins:List (Addr×Obj)}{σ:St}{H:Hp}{s:Shared}{E:Value->Shared->Prop}
theorem Inv.wish(I:Inv X pins σ H s)(E:Value->Shared->Prop):Inv (X.wish E) pins σ H s:=⟨I.ok.wish E,I.os,I.bare,I.base,I.loc,I.cell,I.free,I.freeC,I.pin,I.hok,I.len⟩
theorem Inv.unwish(I:Inv (X.wish E) pins σ H s):Inv X pins σ H s:=⟨I.ok.unwish,I.os,I.bare,I.base,I.loc,I.cell,I.free,I.freeC,I.pin,I.hok,I.len⟩
theorem SP.unwish{D:Ends}{f:Flow}{s':Shared}(h:SP (X.wish E) pins D f s'):SP X pins D f s':=by
 cases f with
 | next=>obtain⟨σ',H',I,q⟩:=h;exact⟨σ',H',I.unwish,q⟩
 | brk=>obtain⟨σ',H',I,q⟩:=h;exact⟨σ',H',I.unwish,q⟩
 | cont=>obtain⟨σ',H',I,q⟩:=h;exact⟨σ',H',I.unwish,q⟩
 | ret u=>obtain⟨v,σ',H',I,r,q⟩:=h;exact⟨v,σ',H',I.unwish,r,q⟩
theorem PSs.nox{st:List Stmt}{t:TS}(h:PSs X.nox st t):PSs X st t:=λpins s σ H D I hw =>
 wpAny_mono (h pins s σ H D (I.wish _) hw) (λ_ _ q=>q.unwish) λ_ _ z=>False.elim z
end
section
variable {X:Cx}{st:Stmt}{rest:List Stmt}{t u:TS}{e:Expr}{te:TE}{pos:Pos}
def zfY:TS:=λD σ H=>D.nx σ H
def zi2(t u:TS):TS:=λD σ H=>t { D with nx:=u D } σ H
theorem zv:PSs X [] zfY:=λ_ _ σ H _ I h=>wpAny_execs_nil ⟨σ,H,I,h⟩
theorem zg(h1:PS X st t)(h2:PSs X rest u):PSs X (st::rest) (zi2 t u):=by
 intro pins s σ H D I h
 refine wpAny_execs_cons (thn (h1 pins s σ H { D with nx:=u D } I h) λf s1 q=>?_)
 cases f with
 | next =>
  obtain⟨σ',H',I',q⟩:=q;exact h2 pins s1 σ' H' D I' q
 | ret v=>exact q
 | brk=>exact q
 | cont=>exact q
theorem zh(h1:PS X st t):PSs X [st] t:=by
 intro pins s σ H D I h;refine wpAny_execs_cons (thn (h1 pins s σ H D I h) λf s1 q=>?_)
 cases f with
 | next=>exact wpAny_execs_nil q
 | ret v=>exact q
 | brk=>exact q
 | cont=>exact q
def zjd:TS:=λD σ H=>D.bk σ H
def ziv:TS:=λD σ H=>D.ct σ H
theorem zah:PS X (.Continue pos) ziv:=λ_ _ σ H _ I h=>wpAny_Continue ⟨σ,H,I,h⟩
theorem Inv.quiet{pins:List (Addr×Obj)}{σ:St}{H:Hp}{s:Shared}(I:Inv X pins σ H s):interactive X.env=false:=by simp[interactive,I.ok.kind]
def zit(te:TE):TS:=λD σ H=>te σ H λ_ H1=>D.nx σ H1
theorem Zq(he:PE X e te)(hs:swapsWith e none pos.line X.env=pure false:=by rfl):PS X (.Expr e pos) (zit te):=by
 intro pins s σ H D I h;exact wpAny_Expr_any (thn (he pins s σ H _ I h) λv s1 ⟨x,H1,I1,r1,q1⟩=>⟨σ,H1,I1,q1⟩) I.quiet hs
def zi3(te:TE):TS:=λD σ H=>te σ H D.rt
theorem zy(he:PE X e te):PS X (.Return (some e) pos) (zi3 te):=by
 intro pins s σ H D I h;exact wpAny_Return_some (thn (he pins s σ H _ I h) λv s1 ⟨x,H1,I1,r1,q1⟩=>⟨x,σ,H1,I1,r1,q1⟩)
def zjr:TS:=λD _ H=>D.rt .non H
def zi6(c:TT)(t u:TS):TS:=λD σ H=>c σ H λb H1=>if b=true then t D σ H1 else u D σ H1
theorem zO{c:Expr}{a b:List Stmt}{tc:TT}(hc:PT X c tc)(ha:PSs X a t)(hb:PSs X b u):PS X (.If c a b pos) (zi6 tc t u):=by
 intro pins s σ H D I h;refine wpAny_If (thn (hc pins s σ H _ I h) λd s1 ⟨H1,I1,q1⟩=>?_)
 cases d with
 | true=>exact ha pins s1 σ H1 D I1 q1
 | false=>exact hb pins s1 σ H1 D I1 q1
def zg8:TS:=λ_ _ _=>False
theorem ZI:PS X st zg8:=λ_ _ _ _ _ _ h=>h.elim
end
abbrev TG:=V->St->Hp->(St->Hp->Prop)->Prop
abbrev TGs:=List V->St->Hp->(St->Hp->Prop)->Prop
def PG(X:Cx)(target:Expr)(t:TG):Prop :=
 ∀(pins:List (Addr×Obj)) (s:Shared) (σ:St) (H:Hp) (v:V) (u:Value) (Q:St->Hp->Prop),Inv X pins σ H s->Zo v u->t v σ H Q ->
  wpAny (model X.prog X.w) X.A (assign target X.env u) (λ_ s'=>∃σ' H',Inv X pins σ' H' s'/\Q σ' H') X.xe s
def PGs(X:Cx)(ts:List Expr)(t:TGs):Prop :=
 ∀(pins:List (Addr×Obj)) (s:Shared) (σ:St) (H:Hp) (vs:List V) (us:List Value) (Q:St->Hp->Prop),Inv X pins σ H s->Zg vs us->t vs σ H Q ->
  wpAny (model X.prog X.w) X.A (assignInOrder ((assignEach ts X.env).map (·.2)) us) (λ_ s'=>∃σ' H',Inv X pins σ' H' s'/\Q σ' H') X.xe s
abbrev zif:=V->V->V->Hp->(Hp->Prop)->Prop
def zjo(X:Cx)(t:zif):Prop :=
 ∀(pins:List (Addr×Obj)) (s:Shared) (σ:St) (H:Hp) (o i v:V) (ov iv u:Value) (Q:Hp->Prop),Inv X pins σ H s->Zo o ov->Zo i iv->Zo v u->t o i v H Q ->
  wpAny (model X.prog X.w) X.A (setItem ov iv u) (λ_ s'=>∃H',Inv X pins σ H' s'/\Q H') X.xe s
abbrev TIp:=V->V->Hp->VK->Prop
def PIp(X:Cx)(op:Operator)(t:TIp):Prop :=
 ∀(pins:List (Addr×Obj)) (s:Shared) (σ:St) (H:Hp) (x y:V) (v u:Value) (Q:VK),Inv X pins σ H s->Zo x v->Zo y u->t x y H Q ->
  wpAny (model X.prog X.w) X.A (inplaceOp op v u) (EP X pins σ Q) X.xe s
section
variable {X:Cx}{pos:Pos}
def yX(i:Nat):TG:=λv σ H Q=>Q (σ.set i (some v)) H
theorem zt{i:Nat}{x:Str}(hN:X.N.Nodup)(hi:X.N[i]?=some x)(hx:Loc X.env.scope x)(hf:X.fn x=true\/X.env.scope.names.lookup x=some .local:=by first|exact .inl rfl|exact .inr rfl|assumption):PG X (.Name x pos) (yX i):=by
 intro pins s σ H v u Q I r h;exact wpAny_assign_Name (JU I hN hi hx r (λs' I'=>⟨_,H,I',h⟩) hf)
def zjP:TGs:=λvs σ H Q=>vs=[]/\Q σ H
def ziW(t:TG)(u:TGs):TGs:=λvs σ H Q=>∃v r,vs=v::r/\t v σ H λσ' H'=>u r σ' H' Q
theorem jx:PGs X [] zjP:=by
 intro pins s σ H vs us Q I r h;obtain⟨e,h⟩:=h;subst e;cases r;exact assignInOrder_nil ⟨σ,H,I,h⟩
theorem yf{e:Expr}{es:List Expr}{t:TG}{u:TGs}(h1:PG X e t)(h2:PGs X es u)
  (hs:(assignEach (e::es) X.env).map (·.2)=assign e X.env::(assignEach es X.env).map (·.2):=by rfl):PGs X (e::es) (ziW t u):=by
 intro pins s σ H vs us Q I r h;obtain⟨v,vr,e1,h⟩:=h;subst e1
 cases r with
 | cons r rr =>
  rw[hs];refine assignInOrder_cons (thn (h1 pins s σ H _ _ _ I r h) λ_ s1 ⟨σ1,H1,I1,q1⟩=>?_);exact h2 pins s1 σ1 H1 _ _ Q I1 rr q1
def zjN(K:PySem.W.Frag)(n:Nat)(t:TGs):TG:=λv σ H Q=>∃a xs,v=.ref a/\SqT K H a xs/\xs.length=n/\t xs σ H Q
theorem Wb{es:List Expr}{k:Nat}{t:TGs}{n:Nat}(hc:X.calm=true)(h:PGs X es t)
  (hn:(assignEach es X.env).length=n:=by rfl) (hst:(assignEach es X.env).findIdx? (·.1)=none:=by rfl):PG X (.Tuple es k pos) (zjN X.K n t):=by
 intro pins s σ H v u Q I r hw;obtain⟨a,xs,e1,hq,hl,hw⟩:=hw;subst e1;cases r;obtain⟨its,rv,ht,hz⟩:=I.tuple hq
 refine TX.wH (I.hds hc) ht (by simp[hn,<-hl,rv.length]) hst λh' hx=>?_
 have I1:Inv X pins σ H { s with heap:=h' }:=I.kept (t':=s.toks) λb o e=>hx b o (Nat.ne_of_lt (Heap.lt_size e)) e
 exact h pins _ σ H xs _ Q I1 (by simpa using rv) hw
def zjO(to ti:TE)(t:zif):TG:=λv σ H Q=>to σ H λo H1=>ti σ H1 λi H2=>t o i v H2 λH3=>Q σ H3
theorem Ju{o i:Expr}{to ti:TE}{t:zif}(ho:PE X o to)(hi:PE X i ti)(hs:zjo X t)
  (ha:∀v,assign (.Subscript o i pos) X.env v=(do
   let ov <-holding [v] (eval o X.env)
   let iv <-holding [v,ov] (eval i X.env)
   standAt pos
   holding [v,ov,iv] (setItem ov iv v)
   release [v,ov,iv] []):=by intro _;rfl):PG X (.Subscript o i pos) (zjO to ti t):=by
 intro pins s σ H v u Q I r h;rw[ha];refine wpAny_bind (wpAny_holding (thn (ho pins s σ H _ I h) λov s1 ⟨x,H1,I1,r1,q1⟩=>?_));refine wpAny_bind (wpAny_holding (thn (hi pins s1 σ H1 _ I1 q1) λiv s2 ⟨y,H2,I2,r2,q2⟩=>?_));refine wpAny_bind (wpAny_standAt (wpAny_bind (wpAny_holding (thn (hs pins s2 σ H2 x y v ov iv u _ I2 r1 r2 r q2) λ_ s3 ⟨H3,I3,q3⟩=>?_))));exact wpAny_release ⟨σ,H3,I3,q3⟩
def ziw(te:TE)(g:TG):TS:=λD σ H=>te σ H λx H1=>g x σ H1 D.nx
theorem Jt{tg e:Expr}{te:TE}{g:TG}(he:PE X e te)(hg:PG X tg g)(hs:swapsWithSole [tg] e pos.line X.env=pure false:=by rfl)(hw:swappedStores [tg] e X.env=pure none:=by rfl)
  (h1:(assignEach [tg] X.env).map (·.2)=[assign tg X.env]:=by rfl):PS X (.Assign [tg] e pos) (ziw te g):=by
 intro pins s σ H D I h;refine wpAny_Assign_stores (thn (he pins s σ H _ I h) λv s1 ⟨x,H1,I1,r1,q1⟩=>?_) hs hw;rw[h1];exact thn (hg pins s1 σ H1 x v _ I1 r1 q1) λ_ s2 q=>q
theorem zz{i:Nat}{x:Str}{e:Expr}{te:TE}{pos':Pos}(hN:X.N.Nodup)(hi:X.N[i]?=some x)(hx:Loc X.env.scope x)(he:PE X e te)(hs:swapsWith e (some (.Name x pos')) pos.line X.env=pure false:=by rfl)(hf:X.fn x=true\/X.env.scope.names.lookup x=some .local:=by first|exact .inl rfl|exact .inr rfl|assumption) :
  PS X (.Assign [.Name x pos'] e pos) (ziw te (yX i)):=by
 intro pins s σ H D I h;refine wpAny_Assign_Name (thn (he pins s σ H _ I h) λv s1 ⟨y,H1,I1,r1,q1⟩=>?_) hs;exact JU I1 hN hi hx r1 (λs2 I2=>⟨_,H1,I2,q1⟩) hf
def zjY(i j:Nat)(ta:TA):TS:=λD σ H=>ta σ H λvs H1=>∃v w,vs=[v,w]/\D.nx ((σ.set i (some v)).set j (some w)) H1
def zj3(i:Nat)(te:TE)(ti:TIp):TS:=λD σ H=>∃x,σ[i]?=some (some x)/\te σ H λy H1=>ti x y H1 λz H2=>D.nx (σ.set i (some z)) H2
def zjx(to ti te:TE)(tget:V->V->Hp->VK->Prop)(tip:TIp)(tset:zif):TS:=λD σ H=>to σ H λo H1=>ti σ H1 λi H2=>tget o i H2 λx H3=>te σ H3 λy H4=>tip x y H4 λz H5=>tset o i z H5 λH6=>D.nx σ H6
def zkc(X:Cx)(t:V->V->Hp->VK->Prop):Prop :=
 ∀(pins:List (Addr×Obj)) (s:Shared) (σ:St) (H:Hp) (o i:V) (ov iv:Value) (Q:VK),Inv X pins σ H s->Zo o ov->Zo i iv->t o i H Q ->
  wpAny (model X.prog X.w) X.A (getItem ov iv) (EP X pins σ Q) X.xe s
def ipI(f:Int->Int->Int):TIp:=λx y H Q=>∃i j,x=.int i/\y=.int j/\Q (.int (f i j)) H
end
section
variable {X:Cx}{pos:Pos}
def zg5(c:TT)(tb:TS):TS:=λD σ H=>∃W:Nat->St->Hp->Prop,(∃m,W m σ H)/\∀m σ H,W m σ H ->
 c σ H λb H1=>if b=true then ∃N:St->Hp->Prop,(∀σ' H',N σ' H'->∃m',m'<m/\W m' σ' H')/\tb { D with nx:=N,ct:=N,bk:=D.nx } σ H1 else D.nx σ H1
theorem zew{c:Expr}{body:List Stmt}{tc:TT}{tb:TS}(hp:PassesOwn (model X.prog X.w) X.A X.env X.xe)(hc:PT X c tc)(hb:PSs X body tb):PS X (.While c body [] pos) (zg5 tc tb):=by
 intro pins s σ H D I h;obtain⟨W,⟨m0,w0⟩,turn⟩:=h;refine wpAny_While (codeAny_whileLoop (λn s'=>∃σ' H',Inv X pins σ' H' s'/\W n σ' H') ?_ m0 ⟨σ,H,I,w0⟩);rintro n s1 ⟨σ1,H1,I1,w1⟩;refine wpAny_passesOwn hp (thn (hc pins s1 σ1 H1 _ I1 (turn n σ1 H1 w1)) λb s2 ⟨H2,I2,q2⟩=>?_)
 cases b with
 | true =>
  obtain⟨N,hN,q2⟩:=q2;rw[if_pos rfl];refine wpAny_passesOwn hp (thn (hb pins s2 σ1 H2 _ I2 q2) λf s3 q3=>?_)
  cases f with
  | next =>
   obtain⟨σ3,H3,I3,n3⟩:=q3;obtain⟨m',hm,w3⟩:=hN σ3 H3 n3;exact⟨m',hm,σ3,H3,I3,w3⟩
  | cont =>
   obtain⟨σ3,H3,I3,n3⟩:=q3;obtain⟨m',hm,w3⟩:=hN σ3 H3 n3;exact⟨m',hm,σ3,H3,I3,w3⟩
  | brk=>exact q3
  | ret v=>exact q3
 | false =>
  rw[if_neg Bool.false_ne_true];exact wpAny_execs_nil ⟨σ1,H2,I2,q2⟩
end
structure It where
 go:Nat->Hp->Prop
 yld:Nat->Hp->V->Hp->Prop
 stop:Nat->Hp->Prop
def zfP(X:Cx)(pins:List (Addr×Obj))(H:Hp)(b:Addr):Prop :=
 H b=none/\b≠X.env.locals/\b∉X.fs/\(b∈X.ex\/X.s₀.heap.objs.size<=b)/\(∀x c,X.env.cells.lookup x=some c->c≠b)/\∀p∈X.pn++pins,p.1≠b
theorem Inv.fpOk{X:Cx}{pins:List (Addr×Obj)}{σ:St}{H H':Hp}{s:Shared}{b:Addr}(I:Inv X pins σ H s)(hb:s.heap.objs.size<=b)(hn:H' b=none):zfP X pins H' b:=by
 refine⟨hn,Nat.ne_of_gt (Nat.lt_of_lt_of_le I.lt hb),I.nofs hb,.inr (Nat.le_trans I.sz hb),λx c e z=>?_,λp hp z=>?_⟩
 ·obtain⟨v,q⟩:=I.cell x c e
  exact absurd (Nat.lt_of_lt_of_le q.lt (by rw[z];exact hb)) (Nat.lt_irrefl _)
 ·exact absurd (Nat.lt_of_lt_of_le (Heap.lt_size (I.pin p hp).1) (by rw[z];exact hb)) (Nat.lt_irrefl _)
structure Turn(P:Program)(w:World)(K:PySem.W.Frag)(tg:Expr)(J:It)(fp:List Addr)(it:Addr)(tn:Nat->Heap->Prop):Prop where
 mem:it∈fp
 obj:∀i h,tn i h->∀b∈fp,∃o,h.get? b=some o/\∀v,o.data≠.cell v
 keep:∀i h h',tn i h->(∀b∈fp,∀o,h.get? b=some o->h'.get? b=some o)->tn i h'
 item:∀(X:Cx),X.prog=P->X.w=w->X.K=K->X.calm=true->∀(i:Nat) (pins:List (Addr×Obj)) (s:Shared) (σ:St) (H:Hp) (E:Value->Shared->Prop),Inv X pins σ H s->(∀b∈fp,zfP X pins H b)->tn i s.heap->J.go i H ->
  wpAny (model P w) X.A (pyNext (.ref it)) (λr s1=>∃u,r=some u /\
   wpAny (model P w) X.A (letOwnedTupleGo tg (.ref it) u) (λ_ s2=>∃x H',Inv X pins σ H' s2/\Zo x u/\J.yld i H x H'/\tn (i+1) s2.heap/\∀b∈fp,H' b=none) E s1) E s
 done:∀(X:Cx),X.prog=P->X.w=w->X.K=K->X.calm=true->∀(i:Nat) (pins:List (Addr×Obj)) (s:Shared) (σ:St) (H:Hp) (E:Value->Shared->Prop),Inv X pins σ H s->(∀b∈fp,zfP X pins H b)->tn i s.heap->J.stop i H ->
  wpAny (model P w) X.A (pyNext (.ref it)) (λr s1=>r=none/\Inv X pins σ H s1) E s
 self:∀(A:Around) (i:Nat) (s:Shared) (Q:Value->Shared->Prop) (E:Value->Shared->Prop),tn i s.heap->Q (.ref it) s->wpAny (model P w) A (pyIter (.ref it)) Q E s
abbrev TI:=St->Hp->(It->Hp->Prop)->Prop
def PIE(X:Cx)(pins:List (Addr×Obj))(σ:St)(tg:Expr)(R:It->Hp->Prop)(itv:Value)(s2:Shared):Prop :=
 ∃(it:Addr) (fp:List Addr) (tn:Nat->Heap->Prop) (J:It) (H':Hp),itv=.ref it/\Inv X pins σ H' s2/\Turn X.prog X.w X.K tg J fp it tn/\tn 0 s2.heap/\(∀b∈fp,zfP X pins H' b)/\R J H'
def PI(X:Cx)(tg Zs:Expr)(wi:TI):Prop :=
 ∀(pins:List (Addr×Obj)) (s:Shared) (σ:St) (H:Hp) (R:It->Hp->Prop),Inv X pins σ H s->wi σ H R ->
  wpAny (model X.prog X.w) X.A (eval Zs X.env) (λv s1=>wpAny (model X.prog X.w) X.A (pyIter v) (PIE X pins σ tg R) X.xe s1) X.xe s
theorem zgH{M:Model}{A:Around}{E:Value->Shared->Prop}{s:Shared}{tg:Expr}{it:Addr}{u:Value}{o:Obj}{n:String}{vs:Array Value}{Q:Unit->Shared->Prop}(ho:s.heap.get? it=some o)(hc:o.cls=.type n)(hd:o.data=.fields vs)
  (hn:["enumerate","zip","dict_itemiterator","dict_reverseitemiterator","odict_iterator","itertools.zip_longest","itertools.pairwise"].contains n=false) (hQ:Q () s):wpAny M A (letOwnedTupleGo tg (.ref it) u) Q E s:=by
 unfold letOwnedTupleGo
 cases tg <;> first
  | exact wpAny_pure hQ
  | (cases u <;> first
    | exact wpAny_pure hQ
    | (refine wpAny_bind (wpAny_load ho ?_)
       rw[hc,hd]
       show wpAny M A (if (["enumerate","zip","dict_itemiterator","dict_reverseitemiterator","odict_iterator","itertools.zip_longest","itertools.pairwise"].contains n&&vs[0]?==some (rawInt _))=true then _ else _) Q E s
       rw[if_neg (by intro h;rw[hn,Bool.false_and] at h;cases h)]
       exact wpAny_pure hQ))
def Itl(K:PySem.W.Frag)(a:Addr):It :=
 ⟨λi H=>∃xs x,SqL K H a xs/\xs[i]?=some x,λi H x H'=>H'=H/\∀xs,SqL K H a xs->xs[i]?=some x,λi H=>∃xs,SqL K H a xs/\xs.length<=i⟩
def Itt(K:PySem.W.Frag)(a:Addr):It :=
 ⟨λi H=>∃xs x,SqT K H a xs/\xs[i]?=some x,λi H x H'=>H'=H/\∀xs,SqT K H a xs->xs[i]?=some x,λi H=>∃xs,SqT K H a xs/\xs.length<=i⟩
def Itr(lo:Int)(n:Nat):It:=⟨λi _=>i<n,λi H x H'=>H'=H/\x=.int (lo+i),λi _=>n<=i⟩
theorem zcm{P:Program}{w:World}{K:PySem.W.Frag}{tg:Expr}(a it:Addr):Turn P w K tg (Itl K a) [it] it (λi h=>h.IsListIter it a i) where
 mem:=by simp
 obj:=λi h st b hb=>by
  have e:b=it:=by simpa using hb
  subst e;obtain⟨o,e,c,d⟩:=st
  exact⟨o,e,λv z=>by rw[d] at z;cases z⟩
 keep:=λi h h' st k=>st.at λo e=>k it (by simp) o e
 item:=by
  intro X hP hw hK hc i pins s σ H E I hf st hg;subst hP hw hK;obtain⟨xs,x,hq,hx⟩:=hg;obtain⟨its,rv,p,hz⟩:=I.list hq;obtain⟨u,hu,ru⟩:=rv.get hx
  obtain⟨f0,f1,f2,f3,f4,f5⟩:=hf it (by simp)
  refine wpAny_pyNext_list_item st p.isList (x:=u) (by simpa using hu) λh' st' sb=>?_
  have I1:Inv X pins σ H { s with heap:=h' }:=I.turned (t':=s.toks) (λb o hb e=>(sb.2 b hb).trans e) f0 f1 f3 f4 f5
  obtain⟨o,e,c,d⟩:=id st'
  exact⟨u,rfl,zgH (s:={ s with heap:=h' }) e c d (by decide) ⟨x,H,I1,ru,⟨rfl,λys hy=>by rw[I.list_inj hy hq];exact hx⟩,st',λb hb=>(hf b hb).1⟩⟩
 done:=by
  intro X hP hw hK hc i pins s σ H E I hf st hg;subst hP hw hK;obtain⟨xs,hq,hx⟩:=hg;obtain⟨its,rv,p,hz⟩:=I.list hq
  obtain⟨f0,f1,f2,f3,f4,f5⟩:=hf it (by simp)
  have hl:=rv.length
  exact TX.zdo (I.hds hc) st p.isList (by simp;omega) λh' eb=>⟨rfl,I.turned (t':=s.toks) (λb o hb e=>eb b o hb e) f0 f1 f3 f4 f5⟩
 self:=λ_ _ _ _ _ st h=>wpAny_pyIter_listiter st h
theorem zbu{P:Program}{w:World}{K:PySem.W.Frag}{tg:Expr}(a it:Addr):Turn P w K tg (Itt K a) [it] it (λi h=>h.IsTupleIter it a i) where
 mem:=by simp
 obj:=λi h st b hb=>by
  have e:b=it:=by simpa using hb
  subst e;obtain⟨o,e,c,d⟩:=st
  exact⟨o,e,λv z=>by rw[d] at z;cases z⟩
 keep:=λi h h' st k=>st.at λo e=>k it (by simp) o e
 item:=by
  intro X hP hw hK hc i pins s σ H E I hf st hg;subst hP hw hK;obtain⟨xs,x,hq,hx⟩:=hg;obtain⟨its,rv,p,hz⟩:=I.tuple hq;obtain⟨u,hu,ru⟩:=rv.get hx
  obtain⟨f0,f1,f2,f3,f4,f5⟩:=hf it (by simp)
  refine wpAny_pyNext_tuple_item st (show s.heap.IsTuple a its.toArray from p) (x:=u) (by simpa using hu) λh' st' sb=>?_
  have I1:Inv X pins σ H { s with heap:=h' }:=I.turned (t':=s.toks) (λb o hb e=>(sb.2 b hb).trans e) f0 f1 f3 f4 f5
  obtain⟨o,e,c,d⟩:=id st'
  exact⟨u,rfl,zgH (s:={ s with heap:=h' }) e c d (by decide) ⟨x,H,I1,ru,⟨rfl,λys hy=>by rw[I.tuple_inj hy hq];exact hx⟩,st',λb hb=>(hf b hb).1⟩⟩
 done:=by
  intro X hP hw hK hc i pins s σ H E I hf st hg;subst hP hw hK;obtain⟨xs,hq,hx⟩:=hg;obtain⟨its,rv,p,hz⟩:=I.tuple hq
  obtain⟨f0,f1,f2,f3,f4,f5⟩:=hf it (by simp)
  have hl:=rv.length
  exact TX.zbw (I.hds hc) st (show s.heap.IsTuple a its.toArray from p) (by simp;omega) λh' eb=>⟨rfl,I.turned (t':=s.toks) (λb o hb e=>eb b o hb e) f0 f1 f3 f4 f5⟩
 self:=λ_ _ _ _ _ st h=>wpAny_pyIter_tupleiter st h
theorem zbv{P:Program}{w:World}{K:PySem.W.Frag}{tg:Expr}(it:Addr)(lo:Int)(n:Nat):Turn P w K tg (Itr lo n) [it] it (λi h=>IsRangeIter h it (lo+(i:Nat) * 1) ((n:Int)-(i:Nat)) 1) where
 mem:=by simp
 obj:=λi h st b hb=>by
  have e:b=it:=by simpa using hb
  subst e
  exact⟨_,st,λv z=>by
   have z':Data.fields _=Data.cell v:=z
   cases z'⟩
 keep:=λi h h' st k=>k it (by simp) _ st
 item:=by
  intro X hP hw hK hc i pins s σ H E I hf st hg;subst hP hw hK
  obtain⟨f0,f1,f2,f3,f4,f5⟩:=hf it (by simp)
  refine TX.zae hg st λv h' tk hv st' kk=>?_;obtain⟨t,rfl⟩:=hv
  have I1:Inv X pins σ H { s with heap:=h',toks:=tk }:=I.turned (λb o hb e=>kk b o (by simpa using hb) e) f0 f1 f3 f4 f5
  refine⟨_,rfl,zgH (s:={ s with heap:=h',toks:=tk }) (n:="range_iterator") st' rfl rfl (by decide) ⟨.int (lo+i),H,I1,⟨t,?_⟩,⟨rfl,rfl⟩,st',λb hb=>(hf b hb).1⟩⟩
  rw[Int.mul_one]
 done:=by
  intro X hP hw hK hc i pins s σ H E I hf st hg;subst hP hw hK
  obtain⟨f0,f1,f2,f3,f4,f5⟩:=hf it (by simp)
  exact TX.zbJ (I.hds hc) st (by have:n<=i:=hg;omega) λh' eb=>⟨rfl,I.turned (t':=s.toks) (λb o hb e=>eb b o hb e) f0 f1 f3 f4 f5⟩
 self:=λ_ _ _ _ _ st h=>wpAny_pyIter_rangeiter st h
end L2
namespace L2
open PySem PySem.Spec PyProof.Rows
section
variable {X:Cx}{tg:Expr}
def qM(K:PySem.W.Frag)(tl:TE):TI:=λσ H R=>tl σ H λx H1=>∃a,x=.ref a/\(∃xs,SqL K H1 a xs)/\R (Itl K a) H1
def zjM(K:PySem.W.Frag)(tl:TE):TI:=λσ H R=>tl σ H λx H1=>∃a,x=.ref a/\(∃xs,SqT K H1 a xs)/\R (Itt K a) H1
theorem zE{l:Expr}{tl:TE}(hl:PE X l tl):PI X tg l (qM X.K tl):=by
 intro pins s σ H R I h;refine thn (hl pins s σ H _ I h) λv s1 ⟨x,H1,I1,r1,q1⟩=>?_;obtain⟨a,e,⟨xs,hq⟩,q⟩:=q1;subst e;cases r1;obtain⟨its,rv,p,hz⟩:=I1.list hq;refine wpAny_pyIter_list p.isList ?_;refine⟨s1.heap.objs.size,[s1.heap.objs.size],_,_,H1,rfl,I1.kept (t':=s1.toks) λb o e=>Heap.get?_push_of_some _ e,zcm a _,⟨_,Heap.get?_push_size _ rfl,rfl,rfl⟩,λb hb=>?_,q⟩
 have e:b=s1.heap.objs.size:=by simpa using hb
 subst e;exact I1.fpOk (Nat.le_refl _) (I1.hok.fresh (Nat.le_refl _))
theorem zhy{l:Expr}{tl:TE}(hl:PE X l tl):PI X tg l (zjM X.K tl):=by
 intro pins s σ H R I h;refine thn (hl pins s σ H _ I h) λv s1 ⟨x,H1,I1,r1,q1⟩=>?_;obtain⟨a,e,⟨xs,hq⟩,q⟩:=q1;subst e;cases r1;obtain⟨its,rv,p,hz⟩:=I1.tuple hq
 refine wpAny_pyIter_tuple (show s1.heap.IsTuple a its.toArray from p) ?_
 refine⟨s1.heap.objs.size,[s1.heap.objs.size],_,_,H1,rfl,I1.kept (t':=s1.toks) λb o e=>Heap.get?_push_of_some _ e,zbu a _,⟨_,Heap.get?_push_size _ rfl,rfl,rfl⟩,λb hb=>?_,q⟩
 have e:b=s1.heap.objs.size:=by simpa using hb
 subst e;exact I1.fpOk (Nat.le_refl _) (I1.hok.fresh (Nat.le_refl _))
theorem za0{pins:List (Addr×Obj)}{σ:St}{H:Hp}{s:Shared}{R:It->Hp->Prop}{E:Value->Shared->Prop}{lo hi:Int}{t u v:Tok}{tk:Nat}(I:Inv X pins σ H s)(h1:-(2 ^ 62)<=lo)(h2:lo<2 ^ 62)(h3:-(2 ^ 62)<=hi)(h4:hi<2 ^ 62)
  (q:R (Itr lo (hi-lo).toNat) H):wpAny (model X.prog X.w) X.A (pyIter (.ref s.heap.objs.size)) (PIE X pins σ tg R) E { s with heap:=s.heap.push { cls:=.type "range",data:=.fields #[.int lo t,.int hi u,.int 1 v] },toks:=tk }:=by
 refine wpAny_pyIter_range (IsRange.new ..) (small_one h1 h2 h3 h4) ?_
 have I1:Inv X pins σ H { s with heap:=s.heap.push { cls:=.type "range",data:=.fields #[.int lo t,.int hi u,.int 1 v] },toks:=tk }:=I.kept λb o e=>Heap.get?_push_of_some _ e
 refine⟨(s.heap.push { cls:=.type "range",data:=.fields #[.int lo t,.int hi u,.int 1 v] }).objs.size,[(s.heap.push { cls:=.type "range",data:=.fields #[.int lo t,.int hi u,.int 1 v] }).objs.size],_,_,H,rfl,
  I1.kept (t':=tk) λb o e=>Heap.get?_push_of_some _ e,zbv _ lo (hi-lo).toNat,?_,λb hb=>?_,q⟩
 ·have e1:lo+((0:Nat):Int) * 1=lo:=by simp
  have e2:(((hi-lo).toNat:Nat):Int)-((0:Nat):Int)=Builtin.Range.rangeSize lo hi 1:=by rw[rangeSize_one];split <;> omega
  show IsRangeIter _ _ (lo+((0:Nat):Int) * 1) ((((hi-lo).toNat:Nat):Int)-((0:Nat):Int)) 1;rw[e1,e2];exact Heap.get?_push_size _ rfl
 ·have e:b=(s.heap.push { cls:=.type "range",data:=.fields #[.int lo t,.int hi u,.int 1 v] }).objs.size:=by simpa using hb
  subst e;exact I1.fpOk (Nat.le_refl _) (I1.hok.fresh (Nat.le_refl _))
def ze7(ta:TA):TI:=λσ H R=>ta σ H λvs H1=>∃j:Int,vs=[.int j]/\-(2 ^ 62)<=j/\j<2 ^ 62/\R (Itr 0 j.toNat) H1
def ziU(ta:TA):TI:=λσ H R=>ta σ H λvs H1=>∃i j:Int,vs=[.int i,.int j]/\(-(2 ^ 62)<=i/\i<2 ^ 62/\-(2 ^ 62)<=j/\j<2 ^ 62)/\R (Itr i (j-i).toNat) H1
theorem Zi{a:Expr}{ta:TA}{p pos:Pos}(hg:Gl X "range")(hm:X.mg "range"=none)(ha:PA X [a] ta)(hs:starEach [a] X.env=[(false,eval a X.env)]:=by rfl):PI X tg (.Call (.Name "range" p) [a] [] pos) (ze7 ta):=by
 intro pins s σ H R I h;refine Call_ (jQ I hg hm boot_range (PyProof.Rows.callWith_type1 (thn (ha pos pins s σ H _ I h) λus s1 ⟨vs,H1,I1,r1,q1⟩=>?_) hs rfl));obtain⟨j,e,q1,q2,q⟩:=q1;subst e
 cases r1 with
 | cons r rr =>
  cases rr;obtain⟨t,rfl⟩:=r
  exact call_range_1 (za0 I1 (by omega) (by omega) q1 q2 (by simpa using q))
theorem Wa{a b:Expr}{ta:TA}{p pos:Pos}(hg:Gl X "range")(hm:X.mg "range"=none)(ha:PA X [a,b] ta)(hs:starEach [a,b] X.env=[(false,eval a X.env),(false,eval b X.env)]:=by rfl)(hs2:starEach [b] X.env=[(false,eval b X.env)]:=by rfl) :
  PI X tg (.Call (.Name "range" p) [a,b] [] pos) (ziU ta):=by
 intro pins s σ H R I h
 refine Call_ (jQ I hg hm boot_range (PyProof.Rows.callWith_type1 (thn (ha pos pins s σ H _ I h) λus s1 ⟨vs,H1,I1,r1,q1⟩=>?_) (by rw[hs,hs2]) (by rw[hs2];rfl)))
 obtain⟨i,j,e,⟨q1,q2,q3,q4⟩,q⟩:=q1;subst e
 cases r1 with
 | cons r rr =>
  cases rr with
  | cons r' rr =>
   cases rr;obtain⟨t,rfl⟩:=r;obtain⟨t',rfl⟩:=r';exact call_range_2 (za0 I1 q1 q2 q3 q4 q)
def zju(wi:TI)(g:TG)(tb:TS):TS:=λD σ H=>wi σ H λJ H1=>∃W:Nat->Nat->St->Hp->Prop,(∃m,W 0 m σ H1)/\∀i m σ H,W i m σ H ->
 (J.stop i H/\D.nx σ H)\/(J.go i H/\∃N:St->Hp->Prop,(∀σ' H',N σ' H'->∃m',m'<m/\W (i+1) m' σ' H')/\∀x H',J.yld i H x H'->g x σ H' λσ2 H2=>tb { D with nx:=N,ct:=N,bk:=D.nx } σ2 H2)
def w9(fp:List Addr)(h:Heap):List (Addr×Obj):=fp.filterMap λb=>(h.get? b).map λo=>(b,o)
theorem qe{fp:List Addr}{h:Heap}{b:Addr}{o:Obj}(hb:b∈fp)(e:h.get? b=some o):(b,o)∈w9 fp h:=List.mem_filterMap.mpr ⟨b,hb,by rw[e];rfl⟩
theorem zdf{fp:List Addr}{h:Heap}{p:Addr×Obj}(hp:p∈w9 fp h):p.1∈fp/\h.get? p.1=some p.2:=by
 obtain⟨b,hb,e⟩:=List.mem_filterMap.mp hp
 cases q:h.get? b with
 | none=>rw[q] at e;cases e
 | some o =>
  rw[q] at e;have e':(b,o)=p:=Option.some.inj e;subst e';exact⟨hb,q⟩
theorem Inv.pinned{pins:List (Addr×Obj)}{σ:St}{H:Hp}{s:Shared}{fp:List Addr}(I:Inv X pins σ H s)(hf:∀b∈fp,zfP X pins H b)(ho:∀b∈fp,∃o,s.heap.get? b=some o/\∀v,o.data≠.cell v):Inv X (pins++w9 fp s.heap) σ H s :=
 I.pins_of λp hp=>(List.mem_append.mp hp).elim (λz=>I.pin p (List.mem_append_right _ z)) λz=>by
  obtain⟨hb,e⟩:=zdf z;obtain⟨f0,f1,f2,_⟩:=hf p.1 hb;obtain⟨o,e',d⟩:=ho p.1 hb;rw[e] at e';cases e';exact⟨e,f0,f1,f2,d⟩
theorem Inv.unpinned{pins pl:List (Addr×Obj)}{σ:St}{H:Hp}{s:Shared}(I:Inv X (pins++pl) σ H s):Inv X pins σ H s:=I.pins_of λp hp=>I.pin p (List.mem_append_right _ (List.mem_append_left _ hp))
theorem Zc{Zs:Expr}{body:List Stmt}{wi:TI}{g:TG}{tb:TS}{pos:Pos}(hp:PassesOwn (model X.prog X.w) X.A X.env X.xe)(hc:X.calm=true)(hi:PI X tg Zs wi)(hg:PG X tg g)(hb:PSs X body tb)
  (hs:∀x,foldedSetIterable Zs X.env x=pure x:=by intro _;rfl):PS X (.For tg Zs body [] pos) (zju wi g tb):=by
 intro pins s σ H D I h;refine wpAny_For (thn (hi pins s σ H _ I h) λv s1 h1=>thn h1 λitv s2 h2=>?_) hs;obtain⟨it,fp,tn,J,H2,e,I2,T,st2,f2,W,⟨m0,w0⟩,turn⟩:=h2;subst e;have stat:∀{H':Hp},(∀b∈fp,H' b=none)->∀b∈fp,zfP X pins H' b:=λhn b hb=>⟨hn b hb,(f2 b hb).2⟩;refine codeAny_forLoop_any (λn s'=>∃i σ' H',Inv X pins σ' H' s'/\tn i s'.heap/\(∀b∈fp,H' b=none)/\W i n σ' H') ?_ m0 ⟨0,σ,H2,I2,st2,λb hb=>(f2 b hb).1,w0⟩;rintro n s3 ⟨i,σ3,H3,I3,st3,fr3,w3⟩
 rcases turn i n σ3 H3 w3 with ⟨stop,qn⟩|⟨go,N,hN,step⟩
 ·refine wpAny_passesOwn hp (thn (T.done X rfl rfl rfl hc i pins s3 σ3 H3 X.xe I3 (stat fr3) st3 stop) λr s4 ⟨hr,I4⟩=>?_)
  subst hr;exact wpAny_execs_nil ⟨σ3,H3,I4,qn⟩
 ·refine wpAny_passesOwn hp (thn (T.item X rfl rfl rfl hc i pins s3 σ3 H3 X.xe I3 (stat fr3) st3 go) λr s4 ⟨u,hr,h4⟩=>?_)
  subst hr;refine wpAny_passesOwn hp (thn h4 λ_ s5 ⟨x,H5,I5,r5,y5,st5,fr5⟩=>?_);have I5':=I5.pinned (stat fr5) (T.obj _ _ st5);refine wpAny_passesOwn hp (thn (hg _ s5 σ3 H5 x u _ I5' r5 (step x H5 y5)) λ_ s6 ⟨σ6,H6,I6,q6⟩=>?_);refine wpAny_passesOwn hp (thn (hb _ s6 σ6 H6 _ I6 q6) λf s7 q7=>?_)
  have again:∀{σ7:St} {H7:Hp},Inv X (pins++w9 fp s5.heap) σ7 H7 s7->N σ7 H7->∃m,m<n/\∃i σ' H',Inv X pins σ' H' s7/\tn i s7.heap/\(∀b∈fp,H' b=none)/\W i m σ' H':=λ{σ7 H7} I7 n7=>by
   obtain⟨m',hm,w7⟩:=hN σ7 H7 n7;refine⟨m',hm,i+1,σ7,H7,I7.unpinned,T.keep _ _ _ st5 λb hb o e=>(I7.pin (b,o) (List.mem_append_right _ (List.mem_append_right _ (qe hb e)))).1,λb hb=>?_,w7⟩;obtain⟨o,e,d⟩:=T.obj _ _ st5 b hb;exact(I7.pin (b,o) (List.mem_append_right _ (List.mem_append_right _ (qe hb e)))).2.1
  cases f with
  | next=>obtain⟨σ7,H7,I7,n7⟩:=q7;exact again I7 n7
  | cont=>obtain⟨σ7,H7,I7,n7⟩:=q7;exact again I7 n7
  | brk=>obtain⟨σ7,H7,I7,q7⟩:=q7;exact⟨σ7,H7,I7.unpinned,q7⟩
  | ret v=>obtain⟨x7,σ7,H7,I7,r7,q7⟩:=q7;exact⟨x7,σ7,H7,I7.unpinned,r7,q7⟩
end
theorem Zj{K:PySem.W.Frag}{a:Addr}{xs:List V}{g:TG}{tb:TS}{D:Ends}{σ:St}{H:Hp}(Pv:Nat->St->Hp->Prop)(h0:Pv 0 σ H)(hl:∀i σ H,i<=xs.length->Pv i σ H->SqL K H a xs)
  (hs:∀i x σ H,xs[i]?=some x->Pv i σ H->g x σ H λσ2 H2=>tb { D with nx:=Pv (i+1),ct:=Pv (i+1),bk:=D.nx } σ2 H2) (hd:∀σ H,Pv xs.length σ H->D.nx σ H) :
  ∃W:Nat->Nat->St->Hp->Prop,(∃m,W 0 m σ H)/\∀i m σ H,W i m σ H ->
   ((Itl K a).stop i H/\D.nx σ H)\/((Itl K a).go i H/\∃N:St->Hp->Prop,(∀σ' H',N σ' H'->∃m',m'<m/\W (i+1) m' σ' H')/\∀x H',(Itl K a).yld i H x H'->g x σ H' λσ2 H2=>tb { D with nx:=N,ct:=N,bk:=D.nx } σ2 H2):=by
 refine⟨λi m σ H=>m=xs.length-i/\i<=xs.length/\Pv i σ H,⟨xs.length,by simp,Nat.zero_le _,h0⟩,?_⟩
 rintro i m σ H ⟨rfl,hi,p⟩;have q:=hl i σ H hi p
 by_cases hlt:i<xs.length
 ·refine .inr ⟨⟨xs,xs[i],q,by simp[hlt]⟩,Pv (i+1),λσ' H' p'=>⟨xs.length-(i+1),by omega,rfl,hlt,p'⟩,λx H' y=>?_⟩
  obtain⟨e,y⟩:=y;subst e;exact hs i x σ _ (y xs q) p
 ·have e:i=xs.length:=by omega
  subst e;exact .inl ⟨⟨xs,q,Nat.le_refl _⟩,hd σ H p⟩
theorem zgK{K:PySem.W.Frag}{a:Addr}{xs:List V}{g:TG}{tb:TS}{D:Ends}{σ:St}{H:Hp}(Pv:Nat->St->Hp->Prop)(h0:Pv 0 σ H)(hl:∀i σ H,i<=xs.length->Pv i σ H->SqT K H a xs)
  (hs:∀i x σ H,xs[i]?=some x->Pv i σ H->g x σ H λσ2 H2=>tb { D with nx:=Pv (i+1),ct:=Pv (i+1),bk:=D.nx } σ2 H2) (hd:∀σ H,Pv xs.length σ H->D.nx σ H) :
  ∃W:Nat->Nat->St->Hp->Prop,(∃m,W 0 m σ H)/\∀i m σ H,W i m σ H ->
   ((Itt K a).stop i H/\D.nx σ H)\/((Itt K a).go i H/\∃N:St->Hp->Prop,(∀σ' H',N σ' H'->∃m',m'<m/\W (i+1) m' σ' H')/\∀x H',(Itt K a).yld i H x H'->g x σ H' λσ2 H2=>tb { D with nx:=N,ct:=N,bk:=D.nx } σ2 H2):=by
 refine⟨λi m σ H=>m=xs.length-i/\i<=xs.length/\Pv i σ H,⟨xs.length,by simp,Nat.zero_le _,h0⟩,?_⟩
 rintro i m σ H ⟨rfl,hi,p⟩;have q:=hl i σ H hi p
 by_cases hlt:i<xs.length
 ·refine .inr ⟨⟨xs,xs[i],q,by simp[hlt]⟩,Pv (i+1),λσ' H' p'=>⟨xs.length-(i+1),by omega,rfl,hlt,p'⟩,λx H' y=>?_⟩
  obtain⟨e,y⟩:=y;subst e;exact hs i x σ _ (y xs q) p
 ·have e:i=xs.length:=by omega
  subst e;exact .inl ⟨⟨xs,q,Nat.le_refl _⟩,hd σ H p⟩
theorem ZR{lo:Int}{n:Nat}{g:TG}{tb:TS}{D:Ends}{σ:St}{H:Hp}(Pv:Nat->St->Hp->Prop)(h0:Pv 0 σ H)
  (hs:∀i σ H,i<n->Pv i σ H->g (.int (lo+i)) σ H λσ2 H2=>tb { D with nx:=Pv (i+1),ct:=Pv (i+1),bk:=D.nx } σ2 H2) (hd:∀σ H,Pv n σ H->D.nx σ H) :
  ∃W:Nat->Nat->St->Hp->Prop,(∃m,W 0 m σ H)/\∀i m σ H,W i m σ H ->
   ((Itr lo n).stop i H/\D.nx σ H)\/((Itr lo n).go i H/\∃N:St->Hp->Prop,(∀σ' H',N σ' H'->∃m',m'<m/\W (i+1) m' σ' H')/\∀x H',(Itr lo n).yld i H x H'->g x σ H' λσ2 H2=>tb { D with nx:=N,ct:=N,bk:=D.nx } σ2 H2):=by
 refine⟨λi m σ H=>m=n-i/\i<=n/\Pv i σ H,⟨n,by simp,Nat.zero_le _,h0⟩,?_⟩
 rintro i m σ H ⟨rfl,hi,p⟩
 by_cases hlt:i<n
 ·refine .inr ⟨hlt,Pv (i+1),λσ' H' p'=>⟨n-(i+1),by omega,rfl,hlt,p'⟩,λx H' y=>?_⟩
  obtain⟨e,y⟩:=y;subst e y;exact hs i σ _ hlt p
 ·have e:i=n:=by omega
  subst e;exact .inl ⟨Nat.le_refl _,hd σ H p⟩
end L2
namespace L2
open PySem PySem.Spec PyProof.Rows
abbrev R2:=V->V->Hp->VK->Prop
def OpR(X:Cx)(f:Value->Value->Sem Value)(r:R2):Prop :=
 ∀(pins:List (Addr×Obj)) (s:Shared) (σ:St) (H:Hp) (x y:V) (v u:Value) (Q:VK),Inv X pins σ H s->Zo x v->Zo y u->r x y H Q ->
  wpAny (model X.prog X.w) X.A (f v u) (EP X pins σ Q) X.xe s
def UnR(X:Cx)(f:Value->Sem Value)(r:V->Hp->VK->Prop):Prop :=
 ∀(pins:List (Addr×Obj)) (s:Shared) (σ:St) (H:Hp) (x:V) (v:Value) (Q:VK),Inv X pins σ H s->Zo x v->r x H Q ->
  wpAny (model X.prog X.w) X.A (f v) (EP X pins σ Q) X.xe s
def qo(X:Cx)(f:Value)(r:List V->Hp->VK->Prop):Prop :=
 ∀(pins:List (Addr×Obj)) (s:Shared) (σ:St) (H:Hp) (xs:List V) (us:List Value) (Q:VK),Inv X pins σ H s->Zg xs us->r xs H Q ->
  wpAny (model X.prog X.w) X.A (call f us) (EP X pins σ Q) X.xe s
def zjT(X:Cx)(r:V->Hp->(Bool->Hp->Prop)->Prop):Prop :=
 ∀(pins:List (Addr×Obj)) (s:Shared) (σ:St) (H:Hp) (x:V) (v:Value) (Q:Bool->Hp->Prop),Inv X pins σ H s->Zo x v->r x H Q ->
  wpAny (model X.prog X.w) X.A (truthy v) (TP X pins σ Q) X.xe s
def tOp(r:R2)(ta tb:TE):TE:=λσ H Q=>ta σ H λx H1=>tb σ H1 λy H2=>r x y H2 Q
def tUn(r:V->Hp->VK->Prop)(ta:TE):TE:=λσ H Q=>ta σ H λx H1=>r x H1 Q
def rI(C:Int->Int->Prop)(g:Int->Int->V):R2:=λx y H Q=>∃i j,x=.int i/\y=.int j/\C i j/\Q (g i j) H
def rI0(g:Int->Int->V):R2:=λx y H Q=>∃i j,x=.int i/\y=.int j/\Q (g i j) H
def rU(g:Int->V):V->Hp->VK->Prop:=λx H Q=>∃i,x=.int i/\Q (g i) H
section
variable {X:Cx}{a b c:Expr}{ta tb tc:TE}{pos:Pos}
theorem ziZ(ha:PE X a ta)(hb:PE X b tb){pins:List (Addr×Obj)}{s:Shared}{σ:St}{H:Hp}{R:V->V->Hp->Prop}(I:Inv X pins σ H s)
  (h:ta σ H λx H1=>tb σ H1 λy H2=>R x y H2) {Q:Value->Shared->Prop} {f:Value->Value->Sem Value}
  (hf:∀v u s2 x y H2,Inv X pins σ H2 s2->Zo x v->Zo y u->R x y H2->wpAny (model X.prog X.w) X.A (f v u) Q X.xe s2) :
  wpAny (model X.prog X.w) X.A (eval a X.env) (λv s₁=>wpAny (model X.prog X.w) X.A (eval b X.env) (λu s₂=>wpAny (model X.prog X.w) X.A (f v u) Q X.xe s₂) X.xe s₁) X.xe s:=by
 refine thn (ha pins s σ H _ I h) λv s1 ⟨x,H1,I1,r1,q1⟩=>?_;refine thn (hb pins s1 σ H1 _ I1 q1) λu s2 ⟨y,H2,I2,r2,q2⟩=>?_;exact hf v u s2 x y H2 I2 r1 r2 q2
theorem zR{op:Operator}{r:R2}(ho:OpR X (binaryOp op) r)(ha:PE X a ta)(hb:PE X b tb):PE X (.BinOp a op b pos) (tOp r ta tb):=by
 intro pins s σ H Q I h;exact wpAny_BinOp (ziZ ha hb I h λv u s2 x y H2 I2 rx ry q=>ho pins s2 σ H2 x y v u Q I2 rx ry q)
theorem ziG{op:UnaryOp}{r:V->Hp->VK->Prop}(ho:UnR X (unaryOp op) r)(ha:PE X a ta):PE X (.UnaryOp op a pos) (tUn r ta):=by
 intro pins s σ H Q I h;exact UnaryOp_ (thn (ha pins s σ H _ I h) λv s1 ⟨x,H1,I1,r1,q1⟩=>ho pins s1 σ H1 x v Q I1 r1 q1)
theorem opI{f:Value->Value->Sem Value}{C:Int->Int->Prop}{g:Int->Int->Int}
  (rule:∀(i j:Int) (t u:Tok) (s:Shared) (Q:Value->Shared->Prop) (E:Value->Shared->Prop),C i j->Q (.int (g i j) s.toks) { s with toks:=s.toks+1 }->wpAny (model X.prog X.w) X.A (f (.int i t) (.int j u)) Q E s) :
  OpR X f (rI C λi j=>.int (g i j)):=by
 intro pins s σ H x y v u Q I rx ry h;obtain⟨i,j,rfl,rfl,hc,q⟩:=h;obtain⟨t,rfl⟩:=rx;obtain⟨t',rfl⟩:=ry;exact rule i j t t' s _ _ hc ⟨.int (g i j),H,I.tok _,⟨_,rfl⟩,q⟩
theorem zjh{f:Value->Value->Sem Value}{g:Int->Int->Int}
  (rule:∀(i j:Int) (t u:Tok) (s:Shared) (Q:Value->Shared->Prop) (E:Value->Shared->Prop),Q (.int (g i j) s.toks) { s with toks:=s.toks+1 }->wpAny (model X.prog X.w) X.A (f (.int i t) (.int j u)) Q E s) :
  OpR X f (rI0 λi j=>.int (g i j)):=by
 intro pins s σ H x y v u Q I rx ry h;obtain⟨i,j,rfl,rfl,q⟩:=h;obtain⟨t,rfl⟩:=rx;obtain⟨t',rfl⟩:=ry;exact rule i j t t' s _ _ ⟨.int (g i j),H,I.tok _,⟨_,rfl⟩,q⟩
theorem ziI{f:Value->Value->Sem Value}{g:Int->Int->Bool}
  (rule:∀(i j:Int) (t u:Tok) (s:Shared) (Q:Value->Shared->Prop) (E:Value->Shared->Prop),Q (.bool (g i j)) s->wpAny (model X.prog X.w) X.A (f (.int i t) (.int j u)) Q E s) :
  OpR X f (rI0 λi j=>.bl (g i j)):=by
 intro pins s σ H x y v u Q I rx ry h;obtain⟨i,j,rfl,rfl,q⟩:=h;obtain⟨t,rfl⟩:=rx;obtain⟨t',rfl⟩:=ry;exact rule i j t t' s _ _ ⟨.bl (g i j),H,I,rfl,q⟩
def zjW(i j:Int):Prop:=0<j/\j<1073741824
def zjV(i j:Int):Prop:=j≠0/\j.natAbs<1073741824
def zkh(i j:Int):Prop:=0<=j/\j<=1000000/\i.natAbs<2 ^ 64
def zi1(i j:Int):Prop:=(-(2 ^ 64)<i/\i<2 ^ 64)\/(-(2 ^ 64)<j/\j<2 ^ 64)
theorem zi1.ok{i j:Int}(h:zi1 i j):IntMulOk i j:=by
 rcases h with ⟨h1,h2⟩|⟨h1,h2⟩
 ·exact .of_left (intBits_le_64 h1 h2)
 ·exact .of_right (intBits_le_64 h1 h2)
theorem Yc:OpR X (binaryOp .Add) (rI0 λi j=>.int (i+j)):=zjh λ_ _ _ _ _ _ _ q=>add_int q
theorem QM:OpR X (binaryOp .Sub) (rI0 λi j=>.int (i-j)):=zjh λ_ _ _ _ _ _ _ q=>sub_int q
theorem Jw:OpR X (binaryOp .Mult) (rI zi1 λi j=>.int (i * j)):=opI λ_ _ _ _ _ _ _ hc q=>mul_int q hc.ok
theorem YU:OpR X (binaryOp .FloorDiv) (rI zjW λi j=>.int (i / j)):=opI λi j _ _ _ _ _ hc q=>by
 have h1:(0:Int)<j:=hc.1;have h2:j<1073741824:=hc.2
 exact floordiv_int (by omega) (by rw[Int.fdiv_eq_ediv_of_nonneg i (by omega)];exact q) (.inl (PyProof.noPylong_small (by omega)))
theorem yK:OpR X (binaryOp .Mod) (rI (λ_ j=>0<j) λi j=>.int (i % j)):=opI λi j _ _ _ _ _ hc q=>by
 have h1:(0:Int)<j:=hc
 exact mod_int' (by omega) (by rw[Int.fmod_eq_emod_of_nonneg i (by omega)];exact q)
theorem unI{f:Value->Sem Value}{g:Int->Int}
  (rule:∀(i:Int) (t:Tok) (s:Shared) (Q:Value->Shared->Prop) (E:Value->Shared->Prop),Q (.int (g i) s.toks) { s with toks:=s.toks+1 }->wpAny (model X.prog X.w) X.A (f (.int i t)) Q E s) :
  UnR X f (rU λi=>.int (g i)):=by
 intro pins s σ H x v Q I rx h;obtain⟨i,rfl,q⟩:=h;obtain⟨t,rfl⟩:=rx;exact rule i t s _ _ ⟨.int (g i),H,I.tok _,⟨_,rfl⟩,q⟩
theorem zg2:UnR X (unaryOp .USub) (rU λi=>.int (-i)):=unI λ_ _ _ _ _ q=>neg_int q
end
def zjf:V->V->Bool
 | .non,.non=>true|.non,.int _=>true|.int _,.non=>true|.non,.bl _=>true|.bl _,.non=>true|.non,.str _=>true|.str _,.non=>true
 | .int _,.int _=>true|.bl _,.bl _=>true|.str _,.str _=>true|.byt _,.byt _=>true
 | .int _,.str _=>true|.str _,.int _=>true|.bl _,.str _=>true|.str _,.bl _=>true
 | _,_=>false
def rEq:R2:=λx y H Q=>zjf x y=true/\Q (.bl (decide (x=y))) H
def rNe:R2:=λx y H Q=>zjf x y=true/\Q (.bl (!decide (x=y))) H
theorem zdO{i j:Int}:decide (V.int i=V.int j)=(i==j):=by
 rw[Bool.eq_iff_iff];simp
theorem zfH{i j:Bool}:decide (V.bl i=V.bl j)=(i==j):=by
 rw[Bool.eq_iff_iff];simp
theorem zdM{i j:Str}:decide (V.str i=V.str j)=(i==j):=by
 rw[Bool.eq_iff_iff];simp
theorem zdP{i j:Array UInt8}:decide (V.byt i=V.byt j)=(i.toList==j.toList):=by
 rw[Bool.eq_iff_iff];cases i;cases j;simp
section
variable {X:Cx}{a b c:Expr}{ta tb tc:TE}{pos:Pos}
theorem Ze{pins:List (Addr×Obj)}{σ:St}{H:Hp}{s:Shared}{Q:VK}{k k':Bool}(I:Inv X pins σ H s)(q:Q (.bl k) H)(e:k=k'):EP X pins σ Q (.bool k') s:=by
 subst e;exact⟨.bl k,H,I,rfl,q⟩
theorem Qg:OpR X (compareOp .Eq) rEq:=by
 intro pins s σ H x y v u Q I rx ry h;obtain⟨hs,q⟩:=h
 cases x with
 | non =>
  cases rx
  cases y with
  | non=>cases ry;exact PySem.EqNone.eq_none_none (Ze I q (by simp))
  | bl j=>cases ry;exact PySem.EqNone.eq_none_bool (Ze I q (by simp))
  | int j=>obtain⟨t',rfl⟩:=ry;exact PySem.EqNone.eq_none_int (Ze I q (by simp))
  | str j=>obtain⟨t',rfl⟩:=ry;exact PySem.EqNone.eq_none_str (Ze I q (by simp))
  | _=>exact absurd (show false=true from hs) Bool.false_ne_true
 | bl i =>
  cases rx
  cases y with
  | non=>cases ry;exact PySem.EqNone.eq_bool_none (Ze I q (by simp))
  | bl j=>cases ry;exact eq_bool (Ze I q zfH)
  | str j=>obtain⟨t',rfl⟩:=ry;exact PySem.EqMixed.eq_bool_str (Ze I q (by simp))
  | _=>exact absurd (show false=true from hs) Bool.false_ne_true
 | int i =>
  obtain⟨t,rfl⟩:=rx
  cases y with
  | non=>cases ry;exact PySem.EqNone.eq_int_none (Ze I q (by simp))
  | int j=>obtain⟨t',rfl⟩:=ry;exact eq_int (Ze I q zdO)
  | str j=>obtain⟨t',rfl⟩:=ry;exact PySem.EqMixed.eq_int_str (Ze I q (by simp))
  | _=>exact absurd (show false=true from hs) Bool.false_ne_true
 | str i =>
  obtain⟨t,rfl⟩:=rx
  cases y with
  | non=>cases ry;exact PySem.EqNone.eq_str_none (Ze I q (by simp))
  | bl j=>cases ry;exact PySem.EqMixed.eq_str_bool (Ze I q (by simp))
  | int j=>obtain⟨t',rfl⟩:=ry;exact PySem.EqMixed.eq_str_int (Ze I q (by simp))
  | str j=>obtain⟨t',rfl⟩:=ry;exact eq_str (Ze I q zdM)
  | _=>exact absurd (show false=true from hs) Bool.false_ne_true
 | byt i =>
  obtain⟨t,rfl⟩:=rx
  cases y with
  | byt j=>obtain⟨t',rfl⟩:=ry;exact PySem.W.eq_bytes (Ze I q zdP)
  | _=>exact absurd (show false=true from hs) Bool.false_ne_true
 | _=>cases y <;> exact absurd (show false=true from hs) Bool.false_ne_true
theorem zc7:OpR X (compareOp .NotEq) rNe:=by
 intro pins s σ H x y v u Q I rx ry h;obtain⟨hs,q⟩:=h
 cases x with
 | non =>
  cases rx
  cases y with
  | non=>cases ry;exact PySem.EqNone.ne_none_none (Ze I q (by simp))
  | bl j=>cases ry;exact PySem.EqNone.ne_none_bool (Ze I q (by simp))
  | int j=>obtain⟨t',rfl⟩:=ry;exact PySem.EqNone.ne_none_int (Ze I q (by simp))
  | str j=>obtain⟨t',rfl⟩:=ry;exact PySem.EqNone.ne_none_str (Ze I q (by simp))
  | _=>exact absurd (show false=true from hs) Bool.false_ne_true
 | bl i =>
  cases rx
  cases y with
  | non=>cases ry;exact PySem.EqNone.ne_bool_none (Ze I q (by simp))
  | bl j=>cases ry;exact ne_bool (Ze I q (congrArg not zfH))
  | str j=>obtain⟨t',rfl⟩:=ry;exact PySem.EqMixed.ne_bool_str (Ze I q (by simp))
  | _=>exact absurd (show false=true from hs) Bool.false_ne_true
 | int i =>
  obtain⟨t,rfl⟩:=rx
  cases y with
  | non=>cases ry;exact PySem.EqNone.ne_int_none (Ze I q (by simp))
  | int j=>obtain⟨t',rfl⟩:=ry;exact ne_int (Ze I q (congrArg not zdO))
  | str j=>obtain⟨t',rfl⟩:=ry;exact PySem.EqMixed.ne_int_str (Ze I q (by simp))
  | _=>exact absurd (show false=true from hs) Bool.false_ne_true
 | str i =>
  obtain⟨t,rfl⟩:=rx
  cases y with
  | non=>cases ry;exact PySem.EqNone.ne_str_none (Ze I q (by simp))
  | bl j=>cases ry;exact PySem.EqMixed.ne_str_bool (Ze I q (by simp))
  | int j=>obtain⟨t',rfl⟩:=ry;exact PySem.EqMixed.ne_str_int (Ze I q (by simp))
  | str j=>obtain⟨t',rfl⟩:=ry;exact ne_str (Ze I q (congrArg not zdM))
  | _=>exact absurd (show false=true from hs) Bool.false_ne_true
 | byt i =>
  obtain⟨t,rfl⟩:=rx
  cases y with
  | byt j=>obtain⟨t',rfl⟩:=ry;exact PySem.W.ne_bytes (Ze I q (congrArg not zdP))
  | _=>exact absurd (show false=true from hs) Bool.false_ne_true
 | _=>cases y <;> exact absurd (show false=true from hs) Bool.false_ne_true
theorem Wh:OpR X (compareOp .Lt) (rI0 λi j=>.bl (decide (i<j))):=ziI λ_ _ _ _ _ _ _ q=>lt_int q
theorem zgo:OpR X (compareOp .LtE) (rI0 λi j=>.bl (decide (i<=j))):=ziI λ_ _ _ _ _ _ _ q=>le_int q
theorem zeN:OpR X (compareOp .Gt) (rI0 λi j=>.bl (decide (j<i))):=ziI λ_ _ _ _ _ _ _ q=>gt_int q
def zjL:HO->Bool
 | .lst _=>true
 | .ins _ _ _=>true
 | _=>false
theorem zJ(b:Expr){op:CmpOp}(h:op≠.In:=by decide)(h2:op≠.NotIn:=by decide):behindInMarks op b=false:=by
 have e1:(op==CmpOp.In)=false:=by cases op <;> first|rfl|exact absurd rfl h
 have e2:(op==CmpOp.NotIn)=false:=by cases op <;> first|rfl|exact absurd rfl h2
 cases b <;> simp[behindInMarks,e1,e2]
theorem Zr{op:CmpOp}{r:R2}(ho:OpR X (compareOp op) r)(ha:PE X a ta)(hb:PE X b tb)(hm:behindInMarks op b=false):PE X (.Compare a [op] [b] pos) (tOp r ta tb):=by
 intro pins s σ H Q I h;exact wpAny_Compare1 (ziZ ha hb I h λv u s2 x y H2 I2 rx ry q=>ho pins s2 σ H2 x y v u Q I2 rx ry q) hm
def Yj(t:TE):TT:=λσ H Q=>t σ H λx H'=>∃k,x=.bl k/\Q k H'
theorem zF{op:CmpOp}{r:R2}(ho:OpR X (compareOp op) r)(ha:PE X a ta)(hb:PE X b tb)(hm:behindInMarks op b=false):PT X (.Compare a [op] [b] pos) (Yj (tOp r ta tb)):=by
 intro pins s σ H Q I h
 refine wpAny_isTrue_Compare1 (thn (ha pins s σ H _ I h) λv s1 ⟨x,H1,I1,r1,q1⟩=>thn (hb pins s1 σ H1 _ I1 q1) λu s2 ⟨y,H2,I2,r2,q2⟩ =>
  thn (ho pins s2 σ H2 x y v u _ I2 r1 r2 q2) λc s3 ⟨z,H3,I3,r3,k,e,q3⟩=>?_) hm
 subst e;cases r3;exact wpAny_truthy_bool ⟨H3,I3,q3⟩
def zfp(r r':R2)(ta tb tc:TE):TE:=λσ H Q=>ta σ H λx H1=>tb σ H1 λy H2=>r x y H2 λz H3=>∃k,z=.bl k /\
 (if k=true then tc σ H3 λw' H4=>r' y w' H4 Q else Q (.bl false) H3)
theorem zeD{op op':CmpOp}{r r':R2}(ho:OpR X (compareOp op) r)(ho':OpR X (compareOp op') r')(ha:PE X a ta)(hb:PE X b tb)(hc:PE X c tc)
  (hm:lastMarks [op,op'] [b,c]=false:=by with_unfolding_all rfl):PE X (.Compare a [op,op'] [b,c] pos) (zfp r r' ta tb tc):=by
 intro pins s σ H Q I h
 refine Compare_chain (thn (ha pins s σ H _ I h) λv s1 ⟨x,H1,I1,r1,q1⟩=>chain_link (thn (hb pins s1 σ H1 _ I1 q1) λu s2 ⟨y,H2,I2,r2,q2⟩ =>
  thn (ho pins s2 σ H2 x y v u _ I2 r1 r2 q2) λd s3 ⟨z,H3,I3,r3,k,e,q3⟩=>?_)) hm
 subst e;cases r3;refine wpAny_truthy_bool ?_
 cases k with
 | false=>exact ite_ff ⟨.bl false,H3,I3,rfl,q3⟩
 | true=>exact ite_tt (chain_last (thn (hc pins s3 σ H3 _ I3 q3) λw' s4 ⟨z',H4,I4,r4,q4⟩=>ho' pins s4 σ H4 y z' u w' Q I4 r2 r4 q4))
theorem zev{op op':CmpOp}{r r':R2}(ho:OpR X (compareOp op) r)(ho':OpR X (compareOp op') r')(ha:PE X a ta)(hb:PE X b tb)(hc:PE X c tc)
  (hm:lastMarks [op,op'] [b,c]=false:=by with_unfolding_all rfl):PT X (.Compare a [op,op'] [b,c] pos) (Yj (zfp r r' ta tb tc)):=by
 intro pins s σ H Q I h
 refine isTrue_chain (thn (ha pins s σ H _ I h) λv s1 ⟨x,H1,I1,r1,q1⟩=>test_link (thn (hb pins s1 σ H1 _ I1 q1) λu s2 ⟨y,H2,I2,r2,q2⟩ =>
  thn (ho pins s2 σ H2 x y v u _ I2 r1 r2 q2) λd s3 ⟨z,H3,I3,r3,k,e,q3⟩=>?_)) hm
 subst e;cases r3;refine wpAny_truthy_bool ?_
 cases k with
 | false =>
  obtain⟨k',e',q'⟩:=q3;cases e';exact ite_ff ⟨H3,I3,q'⟩
 | true =>
  refine ite_tt (test_last (thn (hc pins s3 σ H3 _ I3 q3) λw' s4 ⟨z',H4,I4,r4,q4⟩=>thn (ho' pins s4 σ H4 y z' u w' _ I4 r2 r4 q4) λd' s5 ⟨z2,H5,I5,r5,k2,e2,q5⟩=>?_));subst e2;cases r5;exact wpAny_truthy_bool ⟨H5,I5,q5⟩
def zjm(K:PySem.W.Frag)(x:V)(H:Hp)(k:Bool):Prop :=
 match x with
 | .non=>k=false
 | .bl b=>k=b
 | .int i=>k=(i != 0)
 | .str y=>y.length<=sizeLine/\k=((y.length:Int) != 0)
 | .byt y=>y.size<=sizeLine/\k=((y.size:Int) != 0)
 | .ref p=>(∃xs,SqL K H p xs/\k=!xs.isEmpty)\/(∃xs,SqT K H p xs/\k=!xs.isEmpty)\/∃kvs,H p=some (.dK kvs)/\k=!kvs.isEmpty
 | _=>False
theorem zbW{κ:Type}{kvs:List (κ×V)}{vs:List (κ×Value)}(r:KV kvs vs):(!vs.isEmpty)=!kvs.isEmpty:=by
 cases r <;> rfl
theorem JG{xs:List V}{its:List Value}(r:Zg xs its):(!its.toArray.isEmpty)=!xs.isEmpty:=by
 cases r <;> simp
theorem Wo:(sizeLine:Nat)<2 ^ 63:=by rw[sizeLine_eq];decide
theorem zg3:zjT X (λx H Q=>∃k,zjm X.K x H k/\Q k H):=by
 intro pins s σ H x v Q I rx h;obtain⟨k,e,q⟩:=h;have hl:=Wo;have hs:sizeLine=16777216:=sizeLine_eq
 cases x with
 | non =>
  cases rx;have e':k=false:=e;subst e';exact truthy_none ⟨H,I,q⟩
 | bl b =>
  cases rx;have e':k=b:=e;subst e';exact wpAny_truthy_bool ⟨H,I,q⟩
 | int i =>
  obtain⟨t,rfl⟩:=rx;have e':k=(i != 0):=e;subst e';exact PySem.P.truthy_int ⟨H,I,q⟩
 | str y =>
  obtain⟨t,rfl⟩:=rx;obtain⟨hy,e'⟩:y.length<=sizeLine/\k=((y.length:Int) != 0):=e;subst e'
  exact PySem.P.truthy_str (by omega) ⟨H,I.tok _,q⟩
 | byt y =>
  obtain⟨t,rfl⟩:=rx;obtain⟨hy,e'⟩:y.size<=sizeLine/\k=((y.size:Int) != 0):=e;subst e'
  exact PySem.W.truthy_bytes (by omega) ⟨H,I.tok _,q⟩
 | ref p =>
  cases rx;have e':(∃xs,SqL X.K H p xs/\k=!xs.isEmpty)\/(∃xs,SqT X.K H p xs/\k=!xs.isEmpty)\/∃kvs,H p=some (.dK kvs)/\k=!kvs.isEmpty:=e
  rcases e' with ⟨xs,hx,e'⟩|⟨xs,hx,e'⟩|⟨kvs,hx,e'⟩
  ·subst e'
   obtain⟨its,r,pl,hz⟩:=I.list hx;have hlen:=r.length
   exact wpAny_truthy_list pl.isList (by simp only[List.size_toArray];omega) ⟨H,I.tok _,by rw[JG r];exact q⟩
  ·subst e'
   obtain⟨its,r,pl,hz⟩:=I.tuple hx;have hlen:=r.length
   exact truthy_tuple pl (by simp only[List.size_toArray];omega) ⟨H,I.tok _,by rw[JG r];exact q⟩
  ·subst e'
   obtain⟨hz,hS,vs,r,m⟩:kvs.length<=sizeLine/\(p==sysModules)=false/\∃vs,KV kvs vs/\s.heap.DictOf (ZE X.prog X.w) p vs:=I.hok p _ hx;have hlen:kvs.length=vs.length:=Paired.length r
   exact wpAny_truthy_dict hS m (by omega) ⟨H,I.tok _,by rw[zbW r];exact q⟩
 | _=>exact(show False from e).elim
theorem Q6(ha:PE X a ta)(he:∀whole,isTrue a X.env whole=(do let v <-whole;standAt a.pos;holding [v] (truthy v))) :
  PT X a (λσ H Q=>ta σ H λx H'=>∃k,zjm X.K x H' k/\Q k H'):=by
 intro pins s σ H Q I h;exact isTrue_plain (thn (ha pins s σ H _ I h) λv s1 ⟨x,H1,I1,r1,q1⟩=>zg3 pins s1 σ H1 x v Q I1 r1 q1) (he _)
def zih(b:Expr):Prop:=∀o i,subscripted b false o i=operate [o,i] (getItem o i)
theorem JQ{x:V}{us:List Value}(r:Zg [x] us):∃u,us=[u]/\Zo x u:=by
 cases r with
 | cons r1 r2=>cases r2;exact⟨_,rfl,r1⟩
theorem zfR{x y:V}{us:List Value}(r:Zg [x,y] us):∃u w',us=[u,w']/\Zo x u/\Zo y w':=by
 cases r with
 | cons r1 r2 =>
  cases r2 with
  | cons r3 r4=>cases r4;exact⟨_,_,rfl,r1,r3⟩
theorem zdW(hc:X.calm=true)(hz:X.A.handled=none):qo X (.builtin "min") (λxs H Q=>∃i j,xs=[.int i,.int j]/\Q (.int (if j<i then j else i)) H):=by
 intro pins s σ H xs us Q I r h;obtain⟨i,j,rfl,q⟩:=h;obtain⟨u,w',rfl,⟨t,rfl⟩,⟨t',rfl⟩⟩:=zfR r;refine min_two_ints hz λh' tk k=>⟨_,H,I.kept k,?_,q⟩
 by_cases hj:j<i
 ·rw[if_pos hj,if_pos hj];exact⟨_,rfl⟩
 ·rw[if_neg hj,if_neg hj];exact⟨_,rfl⟩
def zkf(K:PySem.W.Frag)(x:V)(H:Hp)(n:Nat):Prop :=
 match x with
 | .str y=>y.length<=sizeLine/\n=y.length
 | .byt y=>y.size<=sizeLine/\n=y.size
 | .ref p=>(∃xs,SqL K H p xs/\n=xs.length)\/∃xs,SqT K H p xs/\n=xs.length
 | _=>False
end
end L2
namespace L2
open PySem PySem.Spec PyProof.Rows
structure ObjM(h:Heap)(x dx C:Addr)(mA:Str->Option Value):Prop where
 obj:h.get? x=some (PySem.W.instObj C dx)
 ns:h.Ns1 dx mA
 ne:dx≠x
theorem zdm{h:Heap}{dx:Addr}{mA:Str->Option Value}(n:h.Ns1 dx mA):∃od,h.get? dx=some od/\∀name,PySem.W.lookIn name od=some (mA name):=by
 obtain⟨o,es,ep,ho,hd,hk,_,hm⟩:=n;refine⟨o,ho,λname=>?_⟩;have e:=hm name;unfold nsFind findBy at e;rw[<-Array.find?_toList] at e;unfold PySem.W.lookIn;rw[hd];dsimp only;split
 ·rename_i y q
  rw[q] at e;exact congrArg some e
 ·rename_i q
  rw[q] at e
  have a:es.toList.any (·.refKey)=false:=by
   rw[List.any_eq_false];intro y hy;obtain⟨z,t,hkey⟩:=hk y (Array.mem_toList_iff.mp hy);simp[DictEntry.refKey,hkey]
  have a':¬es.toList.any (·.refKey)=true:=by rw[a];exact Bool.false_ne_true
  rw[if_neg a'];exact congrArg some e
theorem ObjM.look{h:Heap}{x dx C:Addr}{mA:Str->Option Value}(I:ObjM h x dx C mA):∃od,PySem.W.InstAt h x (PySem.W.instObj C dx) C (some od)/\∀name,PySem.W.lookIn name od=some (mA name) :=
 let ⟨od,ho,hl⟩:=zdm I.ns
 ⟨od,⟨I.obj,rfl,rfl,ho⟩,hl⟩
section
variable {prog:Program}{w:World}{A:Around}{E:Value->Shared->Prop}{s:Shared}{K:PySem.W.Frag}{x dx C f:Addr}{mA:Str->Option Value}{name:Str}{v:Value}
theorem zgI{expr:Bool}{Q:Value->Shared->Prop}(X:K.In s.heap)(I:ObjM s.heap x dx C mA)(hg:PySem.W.plainGet K C name=true)(hh:PySem.W.hasDictIn K C=true)
  (ha:PySem.W.findIn K (.ref C) name=some none) (hv:mA name=some v) (hv':PySem.W.handedIn v=true) (h:Q v { s with toks:=s.toks+1 }) :
  wpAny (model prog w) A (getAttr (.ref x) name expr) Q E s:=by
 obtain⟨od,J,hl⟩:=I.look
 exact PySem.W.get_value X J (PySem.W.plainGet_of hg).1 (PySem.W.findObj_own hh ha rfl (by rw[hl,hv])) hv' h
theorem ze9{pl:Sem Bool}{Q:Value×List Value->Shared->Prop}(X:K.In s.heap)(I:ObjM s.heap x dx C mA)(hg:PySem.W.plainGet K C name=true)
  (hf:PySem.W.findIn K (.ref C) name=some (some (.ref f))) (ht:PySem.W.isFn K (.ref f)=true) (hv:mA name=none) (h:Q (.ref f,[.ref x]) s) :
  wpAny (model prog w) A (getMethod (.ref x) name pl) Q E s:=by
 obtain⟨od,J,hl⟩:=I.look
 exact PySem.W.method_fn X J (PySem.W.plainGet_of hg).1 (PySem.W.plainGet_of hg).2 hf (beq_iff_eq.mp ht) (by show (PySem.W.lookIn name od).map (·.isSome)=some false;rw[hl,hv];rfl) h
theorem zf7{ns:List Str}{Q:Unit->Shared->Prop}(X:K.In s.heap)(I:ObjM s.heap x dx C mA)
  (hs:PySem.W.findIn K (.ref C) "__setattr__"=some (some (.builtin "object.__setattr__"))) (hp:PySem.W.plainOver K C=true) (ht:PySem.W.takerIn K C name=some none) (hh:PySem.W.hasDictIn K C=true)
  (hw:PySem.Within mA ns) (hsz:ns.length<=sizeLine)
  (h:∀h',ObjM h' x dx C (λy=>if y=name then some v else mA y)->Heap.SameBut dx s.heap h'->Q () { s with heap:=h',toks:=s.toks+2 }) :
  wpAny (model prog w) A (setAttr (.ref x) name v) Q E s:=by
 obtain⟨od,J,hl⟩:=I.look
 refine PySem.W.set_plain X J hs (PySem.W.osa_open (s:={ s with toks:=s.toks+1 }) (r:=none) X J hp ht λb=>?_)
 obtain⟨cd,hc,hd'⟩:=PySem.W.any_some hh;have hx:s.heap.get? x=some ⟨.ref C,some dx,.plain,#[]⟩:=I.obj
 refine wpAny_bind (wpAny_pure (wpAny_bind (wpAny_bind (wpAny_loadPart hx (wpAny_bind (PySem.W.Looks.here (s:={ s with toks:=s.toks+1 }) (PySem.W.looks_clsIn X hc) ?_))))))
 rw[hd'];refine wpAny_pure (a:=some dx) (wpAny_bind (wpAny_pure (wpAny_bind ?_)))
 refine wpAny_nsSet1 (s:={ s with toks:=s.toks+1 }) I.ns λh' hn2 hs2=>?_
 obtain⟨oD,esD,epD,hoD,hdD,hcD⟩:=hn2.count (PySem.Within.cons name v hw)
 refine wpAny_bind (wpAny_lookBehind hoD (by rw[hdD];exact pastItsLine_dict (Nat.le_trans hcD (by rw[List.length_cons];omega))) ?_)
 exact wpAny_pure (h _ ⟨(hs2.2 _ (Ne.symm I.ne)).trans I.obj,hn2,I.ne⟩ hs2)
theorem zeZ{R:Result->Shared->Prop}{vs:List Value}{kw:List (Str×Value)}(X:K.In s.heap)(hm:PySem.W.makesIn K C=true)
  (hi:PySem.W.findIn K (.ref C) "__init__"=some (some (.ref f))) (hf:PySem.W.typeIn K (.ref f)=some (.type "function"))
  (h:codeAny (model prog w) (A.under (.builtin "type.__call__" ⟨.ref C::vs,kw⟩)) (.call (.ref f) ⟨.ref (s.heap.objs.size+1)::vs,kw⟩) (PySem.W.InitBack (s.heap.objs.size+1) R)
   { s with heap:=(s.heap.push PySem.W.emptyDict).push (PySem.W.instObj C s.heap.objs.size) }) :
  codeAny (model prog w) A (.call (.ref C) ⟨vs,kw⟩) R s:=by
 obtain⟨hh,g,d,t,os⟩:=s;exact PySem.W.make_core (PySem.W.makes_of X hm) (PySem.W.looks_findIn X hi) (λself=>PySem.W.bind_fn X self hf) (.inl rfl) h
end
def Q5(f:Str)(v:V):List (Str×V)->List (Str×V)
 | []=>[(f,v)]
 | (g,x)::r=>if g=f then (g,v)::r else (g,x)::Q5 f v r
theorem ZU(f g:Str)(v:V):∀fs:List (Str×V),(Q5 f v fs).lookup g=if g=f then some v else fs.lookup g
 | []=>by
  show List.lookup g [(f,v)]=_
  by_cases h:g=f
  ·have hb:(g==f)=true:=beq_iff_eq.mpr h
   simp only[List.lookup,hb,if_pos h]
  ·have hb:(g==f)=false:=beq_eq_false_iff_ne.mpr h
   simp only[List.lookup,hb,if_neg h]
 | (k,x)::r=>by
  have ih:=ZU f g v r
  rw[show Q5 f v ((k,x)::r)=(if k=f then (k,v)::r else (k,x)::Q5 f v r) from rfl]
  by_cases hk:k=f
  ·rw[if_pos hk]
   by_cases h:g=k
   ·have hb:(g==k)=true:=beq_iff_eq.mpr h
    simp only[List.lookup,hb,if_pos (h.trans hk)]
   ·have hb:(g==k)=false:=beq_eq_false_iff_ne.mpr h
    simp only[List.lookup,hb,if_neg (λe:g=f=>h (e.trans hk.symm))]
  ·rw[if_neg hk]
   by_cases h:g=k
   ·have hb:(g==k)=true:=beq_iff_eq.mpr h
    simp only[List.lookup,hb,if_neg (λe:g=f=>hk (h.symm.trans e))]
   ·have hb:(g==k)=false:=beq_eq_false_iff_ne.mpr h
    simp only[List.lookup,hb];exact ih
theorem jT(f:Str)(v:V):∀fs:List (Str×V),f∈(Q5 f v fs).map (·.1)/\∀g,g∈fs.map (·.1)->g∈(Q5 f v fs).map (·.1)
 | []=>⟨by simp[Q5],λg h=>by simp at h⟩
 | (k,x)::r=>by
  obtain⟨i1,i2⟩:=jT f v r
  rw[show Q5 f v ((k,x)::r)=(if k=f then (k,v)::r else (k,x)::Q5 f v r) from rfl]
  by_cases hk:k=f
  ·rw[if_pos hk]
   subst hk
   exact⟨by simp,λg h=>by simpa using h⟩
  ·rw[if_neg hk]
   refine⟨?_,λg h=>?_⟩
   ·rw[List.map_cons]
    exact List.mem_cons_of_mem _ i1
   ·rw[List.map_cons] at h ⊢
    rcases List.mem_cons.mp h with e|e
    ·exact List.mem_cons.mpr (.inl e)
    ·exact List.mem_cons_of_mem _ (i2 g e)
theorem jP(f:Str)(v:V):∀fs:List (Str×V),(Q5 f v fs).length<=fs.length+1
 | []=>by simp[Q5]
 | (k,x)::r=>by
  have ih:=jP f v r
  rw[show Q5 f v ((k,x)::r)=(if k=f then (k,v)::r else (k,x)::Q5 f v r) from rfl]
  by_cases hk:k=f
  ·rw[if_pos hk,List.length_cons,List.length_cons];omega
  ·rw[if_neg hk,List.length_cons,List.length_cons];omega
theorem WS.some_of{v:V}{o:Option Value}(r:WS (some v) o):∃u,o=some u/\Zo v u:=by
 cases o with
 | none=>exact(show False from r).elim
 | some u=>exact⟨u,rfl,r⟩
theorem WS.none_of{o:Option Value}(r:WS none o):o=none:=by
 cases o with
 | none=>rfl
 | some u=>exact(show False from r).elim
theorem Wz{v:V}{u:Value}(r:Zo v u):PySem.W.handedIn u=true:=by
 cases v with
 | non=>cases (show u=Value.none from r);rfl
 | bl b=>cases (show u=Value.bool b from r);rfl
 | int i=>obtain⟨t,e⟩:=(show ∃t,u=Value.int i t from r);cases e;rfl
 | str x=>obtain⟨t,e⟩:=(show ∃t,u=Value.str x t from r);cases e;rfl
 | byt b=>obtain⟨t,e⟩:=(show ∃t,u=Value.bytes b t from r);cases e;rfl
 | flt b=>obtain⟨t,e⟩:=(show ∃t,u=Value.float b t from r);cases e;rfl
 | ref a=>cases (show u=Value.ref a from r);rfl
 | ty n=>cases (show u=Value.type n from r);rfl
section
variable {P:Program}{w:World}{H H':Hp}{h h':Heap}{a C dx:Addr}{fs fs':List (Str×V)}
theorem wv(hok:HOk P w H h)(e:H a=some (.ins C dx fs)):∃mA,ObjM h a dx C mA/\(∀f,WS (fs.lookup f) (mA f))/\PySem.Within mA (fs.map (·.1))/\fs.length<=1000/\H dx=some (.own a):=by
 obtain⟨d,z,ne,ob,mA,n,r,q⟩:=(show Zt P w H h a (.ins C dx fs) from hok a _ e)
 exact⟨mA,⟨ob,n,ne⟩,r,q,z,d⟩
end
structure Cls(K:PySem.W.Frag)(C:Addr):Prop where
 pg:PySem.W.plainGet K C Str.empty=true
 hd:PySem.W.hasDictIn K C=true
 po:PySem.W.plainOver K C=true
 sa:PySem.W.findIn K (.ref C) "__setattr__"=some (some (.builtin "object.__setattr__"))
theorem Cls.get{K:PySem.W.Frag}{C:Addr}(c:Cls K C)(f:Str):PySem.W.plainGet K C f=true:=c.pg
def qw(K:PySem.W.Frag)(C:Addr)(f:Str):Prop:=PySem.W.findIn K (.ref C) f=some none
theorem qw.taker{K:PySem.W.Frag}{C:Addr}{f:Str}(n:qw K C f):PySem.W.takerIn K C f=some none:=by
 unfold PySem.W.takerIn
 rw[show PySem.W.findIn K (.ref C) f=some none from n]
 rfl
structure Con(K:PySem.W.Frag)(C:Addr)(f:Str)(v:V)(u:Value):Prop where
 at_:PySem.W.findIn K (.ref C) f=some (some u)
 rel:Zo v u
 get:PySem.W.specialIn K u "__get__"=some none
 cp:PySem.W.copiedNames.contains f=false
structure Meth(K:PySem.W.Frag)(C:Addr)(m:Str)(f:Addr):Prop where
 at_:PySem.W.findIn K (.ref C) m=some (some (.ref f))
 fn:PySem.W.isFn K (.ref f)=true
 kp:PySem.W.keepIn K (.ref f)=true
section
variable {X:Cx}{pins:List (Addr×Obj)}{σ:St}{H:Hp}{s:Shared}{a C dx:Addr}{fs:List (Str×V)}{f:Str}{v:V}{A:Around}{E:Value->Shared->Prop}
theorem zb1{b:Bool}{Q:Value->Shared->Prop}(I:Inv X pins σ H s)(e:H a=some (.ins C dx fs))(c:Cls X.K C)(n:qw X.K C f)(l:fs.lookup f=some v)
  (h:∀u s',Inv X pins σ H s'->Zo v u->Q u s'):wpAny (model X.prog X.w) A (getAttr (.ref a) f b) Q E s:=by
 obtain⟨mA,O,r,_,_,_⟩:=wv I.hok e
 obtain⟨u,hu,ru⟩:=WS.some_of (v:=v) (o:=mA f) (by rw[<-l];exact r f)
 exact zgI I.kIn O (c.get f) c.hd n hu (Wz ru) (h u _ (I.tok _) ru)
theorem zb0{m:Str}{g:Addr}{pl:Sem Bool}{Q:Value×List Value->Shared->Prop}(I:Inv X pins σ H s)(e:H a=some (.ins C dx fs))(c:Cls X.K C)(k:Meth X.K C m g)(l:fs.lookup m=none)
  (h:Q (.ref g,[.ref a]) s):wpAny (model X.prog X.w) A (getMethod (.ref a) m pl) Q E s:=by
 obtain⟨mA,O,r,_,_,_⟩:=wv I.hok e
 have hn:mA m=none:=WS.none_of (by rw[<-l];exact r m)
 exact ze9 I.kIn O (c.get m) k.at_ k.fn hn h
theorem zbG{y:V}{u:Value}{Q:Unit->Shared->Prop}(I:Inv X pins σ H s)(e:H a=some (.ins C dx fs))(c:Cls X.K C)(n:qw X.K C f)(hl:fs.length<1000)(ry:Zo y u)
  (h:∀s',Inv X pins σ (upd H a (.ins C dx (Q5 f y fs))) s'->Q () s'):wpAny (model X.prog X.w) A (setAttr (.ref a) f u) Q E s:=by
 obtain⟨mA,O,r,wi,_,ho⟩:=wv I.hok e
 have hz:(fs.map (·.1)).length<=sizeLine:=by rw[List.length_map,sizeLine_eq];omega
 refine zf7 I.kIn O c.sa c.po n.taker c.hd wi hz λh' O' sb=>h _ ?_
 have hd:∃o,h'.get? dx=some o:=let ⟨o,_,_,e',_⟩:=O'.ns;⟨o,e'⟩
 refine I.write (x:=a) (e:=dx) (by rw[e];exact True.intro) (.inr ho) (λb q hb z=>(sb.2 b hb).trans z) hd ?_
 refine⟨by rw[zq O.ne];exact ho,?_,O.ne,O'.obj,_,O'.ns,λg=>?_,λg hg=>?_⟩
 ·have:=jP f y fs;omega
 ·show WS ((Q5 f y fs).lookup g) (if g=f then some u else mA g)
  rw[ZU]
  by_cases q:g=f
  ·rw[if_pos q,if_pos q];exact ry
  ·rw[if_neg q,if_neg q];exact r g
 ·by_cases q:g=f
  ·rw[q];exact(jT f y fs).1
  ·refine(jT f y fs).2 g (wi g λz=>hg ?_)
   show (if g=f then some u else mA g)=none
   rw[if_neg q];exact z
theorem Inv.made(I:Inv X pins σ H s):Inv X pins σ (upd (upd H s.heap.objs.size (.own (s.heap.objs.size+1))) (s.heap.objs.size+1) (.ins C s.heap.objs.size []))
  { s with heap:=(s.heap.push PySem.W.emptyDict).push (PySem.W.instObj C s.heap.objs.size) }:=by
 have e1:(s.heap.push PySem.W.emptyDict).get? s.heap.objs.size=some PySem.W.emptyDict:=Heap.get?_push_size s.heap rfl
 have e2:((s.heap.push PySem.W.emptyDict).push (PySem.W.instObj C s.heap.objs.size)).get? (s.heap.objs.size+1)=some (PySem.W.instObj C s.heap.objs.size):=by
  have:=Heap.get?_push_size (s.heap.push PySem.W.emptyDict) (o:=PySem.W.instObj C s.heap.objs.size) rfl
  rwa [Heap.size_push] at this
 have e3:(s.heap.push PySem.W.emptyDict).Ns s.heap.objs.size (λ_=>none):=⟨PySem.W.emptyDict,#[],_,e1,rfl,(λe he=>absurd he (by simp)),λ_=>rfl⟩
 have I1:=I.laid (a:=s.heap.objs.size) (o:=.own (s.heap.objs.size+1)) (h':=s.heap.push PySem.W.emptyDict) (t':=s.toks) (λb u q=>Heap.get?_push_of_some _ q) (Nat.le_refl _) ⟨_,e1⟩;refine I1.laid (a:=s.heap.objs.size+1) (o:=.ins C s.heap.objs.size []) (t':=s.toks) (λb u q=>Heap.get?_push_of_some _ q) (Nat.le_of_eq (Heap.size_push _ _)) ?_;have ne:s.heap.objs.size≠s.heap.objs.size+1:=Nat.ne_of_lt (Nat.lt_succ_self _)
 refine⟨by rw[zq ne,ze],Nat.zero_le _,ne,e2,λ_=>none,(Heap.Ns1.of_empty e3).at λo q=>Heap.get?_push_of_some _ q,λ_=>True.intro,λy hy=>absurd rfl hy⟩
theorem zdY{prog:Program}{w:World}{env:Env}{e:Expr}{f:Str}{pos:Pos}{s:Shared}{Q:Value->Shared->Prop}(hb:attributeBase e f env (eval e env)=eval e env)
  (h:wpAny (model prog w) A (eval e env) (λo s₁=>wpAny (model prog w) A (getAttr o f true) Q E s₁) E s):wpAny (model prog w) A (eval (.Attribute e f pos) env) Q E s :=
 Attribute_any_ h (by rw[arm_eval_Attribute,hb])
end
def zjv(K:PySem.W.Frag)(ta:TE)(f:Str):TE:=λσ H Q=>ta σ H λx H1=>∃a C dx fs v,x=.ref a/\H1 a=some (.ins C dx fs)/\Cls K C/\qw K C f/\fs.lookup f=some v/\Q v H1
def zj2(K:PySem.W.Frag)(ta:TE)(f:Str):TE:=λσ H Q=>ta σ H λx H1=>∃a C dx fs v u,x=.ref a/\H1 a=some (.ins C dx fs)/\Cls K C/\Con K C f v u/\fs.lookup f=none/\Q v H1
def zjg(K:PySem.W.Frag)(ta tv:TE)(f:Str):TS:=λD σ H=>tv σ H λy H1=>ta σ H1 λx H2=>∃a C dx fs,x=.ref a/\H2 a=some (.ins C dx fs)/\Cls K C/\qw K C f/\fs.length<1000 /\
 D.nx σ (upd H2 a (.ins C dx (Q5 f y fs)))
def zkg(X:Cx)(op:Operator)(rd:V->V->Hp->VK->Prop):Prop :=
 ∀(pins:List (Addr×Obj)) (s:Shared) (σ:St) (H:Hp) (x y:V) (u v:Value) (Q:VK),Inv X pins σ H s->Zo x u->Zo y v->rd x y H Q->wpAny (model X.prog X.w) X.A (inplaceOp op u v) (EP X pins σ Q) X.xe s
def ziz(K:PySem.W.Frag)(ta tv:TE)(rd:V->V->Hp->VK->Prop)(f:Str):TS:=λD σ H=>ta σ H λx H1=>∃a C dx fs v,x=.ref a/\H1 a=some (.ins C dx fs)/\Cls K C/\qw K C f/\fs.lookup f=some v /\
 tv σ H1 λy H2=>rd v y H2 λz H3=>∃dx' fs',H3 a=some (.ins C dx' fs')/\fs'.length<1000/\D.nx σ (upd H3 a (.ins C dx' (Q5 f z fs')))
section
variable {X:Cx}{o e value:Expr}{f:Str}{pos pos' tpos:Pos}{ta tv:TE}
theorem Yb(he:PE X e ta)(hb:attributeBase e f X.env (eval e X.env)=eval e X.env):PE X (.Attribute e f pos) (zjv X.K ta f):=by
 intro pins s σ H Q I h;refine zdY hb (thn (he pins s σ H _ I h) λu s1 ⟨x,H1,I1,rx,a,C,dx,fs,v,ex,ea,c,n,l,q⟩=>?_);subst ex;obtain rfl:u=Value.ref a:=rx;exact zb1 I1 ea c n l λu' s2 I2 ru=>⟨v,H1,I2,ru,q⟩
theorem zfv(ha:PE X o ta)(hv:PE X value tv)(hs:swapsWith value (some (.Attribute o f pos')) pos.line X.env=pure false):PS X (.Assign [.Attribute o f pos'] value pos) (zjg X.K ta tv f):=by
 intro pins s σ H D I h;refine plainObj_wpAny_Assign_Attribute (thn (hv pins s σ H _ I h) λu s1 ⟨y,H1,I1,ry,q⟩=>thn (ha pins s1 σ H1 _ I1 q) λov s2 ⟨x,H2,I2,rx,a,C,dx,fs,ex,ea,c,n,l,q2⟩=>?_) hs;subst ex;obtain rfl:ov=Value.ref a:=rx;exact zbG I2 ea c n l ry λs3 I3=>⟨σ,_,I3,q2⟩
def zkb:V->V->Hp->VK->Prop:=λx y H Q=>∃i j,x=.int i/\y=.int j/\Q (.int (i+j)) H
def zj5:V->V->Hp->VK->Prop:=λx y H Q=>∃i j,x=.int i/\y=.int j/\Q (.int (i-j)) H
end
section
variable {X:Cx}{pins:List (Addr×Obj)}{σ:St}{H:Hp}{s:Shared}{A:Around}{E:Value->Shared->Prop}{Q:Value->Shared->Prop}{c:Value}{b:Bool}
inductive TyOf (K:PySem.W.Frag) (H:Hp):V->Value->Prop where
 | non:TyOf K H .non (.type "NoneType")
 | bl (x:Bool):TyOf K H (.bl x) (.type "bool")
 | int (i:Int):TyOf K H (.int i) (.type "int")
 | str (x:Str):TyOf K H (.str x) (.type "str")
 | flt (x:UInt64):TyOf K H (.flt x) (.type "float")
 | lst {a:Addr} {xs:List V} (e:H a=some (.lst xs)):TyOf K H (.ref a) (.type "list")
 | frz {a:Addr} {o:Obj} {xs:List V} (e:H a=some (.frz o (.lst xs))):TyOf K H (.ref a) (.type "list")
 | tup {a:Addr} {xs:List V} (e:H a=some (.tup xs)):TyOf K H (.ref a) (.type "tuple")
 | dK {a:Addr} {kvs:List (Key×V)} (e:H a=some (.dK kvs)):TyOf K H (.ref a) (.type "dict")
 | dT {a:Addr} {kvs:List (List Key×V)} (e:H a=some (.dT kvs)):TyOf K H (.ref a) (.type "dict")
 | ins {a C dx:Addr} {fs:List (Str×V)} (e:H a=some (.ins C dx fs)) (cl:Cls K C) (ha:PySem.W.findIn K (.ref C) "__class__"=some (some (.builtin "object.__class__")))
   (hn:PySem.W.specialIn K (.builtin "object.__class__") "__get__"=some (some (.builtin "getset_descriptor.__get__"))) (htk:PySem.W.takesIn K (.builtin "object.__class__")=some true)
   (hm:PySem.W.mroIn K C (.type "object")=some true):TyOf K H (.ref a) (.ref C)
theorem zdB{x:V}{u t:Value}(I:Inv X pins σ H s)(rx:Zo x u)(ty:TyOf X.K H x t)(e:PySem.W.kitOne X.K t c=some b)(h:∀tk,Q (.bool b) { s with toks:=tk }) :
  wpAny (model X.prog X.w) A (call (.builtin "isinstance") [u,c]) Q E s:=by
 cases ty with
 | non=>cases (show u=Value.none from rx);exact PySem.W.kia_one PySem.W.kitx_none I.kIn True.intro e (λz=>nomatch z) h
 | bl y=>cases (show u=Value.bool y from rx);exact PySem.W.kia_one PySem.W.kitx_bool I.kIn True.intro e (λz=>nomatch z) h
 | int i=>obtain⟨t,q⟩:=(show ∃t,u=Value.int i t from rx);cases q;exact PySem.W.kia_one PySem.W.kitx_int I.kIn True.intro e (λz=>nomatch z) h
 | str y=>obtain⟨t,q⟩:=(show ∃t,u=Value.str y t from rx);cases q;exact PySem.W.kia_one PySem.W.kitx_str I.kIn True.intro e (λz=>nomatch z) h
 | flt y=>obtain⟨t,q⟩:=(show ∃t,u=Value.float y t from rx);cases q;exact PySem.W.kia_one PySem.W.kitx_float I.kIn True.intro e (λz=>nomatch z) h
 | @lst a xs ea =>
  cases (show u=Value.ref a from rx)
  obtain⟨_,_,n,_,h1⟩:=(show Zt X.prog X.w H s.heap a (.lst xs) from I.hok a _ ea)
  exact PySem.W.kia_one PySem.W.kitx_list I.kIn ⟨_,h1,rfl⟩ e (λz=>nomatch z) h
 | @frz a ob xs ea =>
  cases (show u=Value.ref a from rx)
  obtain⟨_,_,_,n,_,h1⟩:=(show Zt X.prog X.w H s.heap a (.frz ob (.lst xs)) from I.hok a _ ea)
  exact PySem.W.kia_one PySem.W.kitx_list I.kIn ⟨_,h1,rfl⟩ e (λz=>nomatch z) h
 | @tup a xs ea =>
  cases (show u=Value.ref a from rx)
  obtain⟨_,_,_,p⟩:=(show Zt X.prog X.w H s.heap a (.tup xs) from I.hok a _ ea)
  obtain⟨o,h1,h2,_⟩:=p;exact PySem.W.kia_one PySem.W.kitx_tuple I.kIn ⟨o,h1,h2⟩ e (λz=>nomatch z) h
 | @dK a kvs ea =>
  cases (show u=Value.ref a from rx)
  obtain⟨_,_,vs,_,p⟩:=(show Zt X.prog X.w H s.heap a (.dK kvs) from I.hok a _ ea)
  obtain⟨o,es,ep,h1,h2,_⟩:=p;exact PySem.W.kia_one PySem.W.kitx_dict I.kIn ⟨o,h1,h2.1⟩ e (λz=>nomatch z) h
 | @dT a kvs ea =>
  cases (show u=Value.ref a from rx)
  obtain⟨_,_,xs,_,o,es,ep,h1,h2,_⟩:=(show Zt X.prog X.w H s.heap a (.dT kvs) from I.hok a _ ea)
  exact PySem.W.kia_one PySem.W.kitx_dict I.kIn ⟨o,h1,h2.1⟩ e (λz=>nomatch z) h
 | @ins a C dx fs ea cl ha hn htk hm =>
  cases (show u=Value.ref a from rx)
  obtain⟨mA,O,_⟩:=wv I.hok ea;obtain⟨od,J,_⟩:=O.look;exact PySem.W.kia_one (PySem.W.kitx_own (cl.get _) cl.hd ha hn htk hm) I.kIn J e (λz=>nomatch z) h
end
end L2
namespace L2
open PySem PySem.Spec PyProof.Rows
structure Room(k:Nat)(A:Around):Prop where
 hd:A.handled=none
 dp:A.depth+3 * k+5<recursionLimit
 un:A.units+16 * k+200<cLine
theorem Room.mono{j k:Nat}{A:Around}(r:Room k A)(h:j<=k):Room j A:=⟨r.hd,by have:=r.dp;omega,by have:=r.un;omega⟩
theorem Room.deeper{k:Nat}{A:Around}(r:Room (k+1) A)(env:Env):Room k (A.deeper env) :=
 ⟨r.hd,by have:=r.dp;show A.depth+1+3 * k+5<_;omega,by have:=r.un;show A.units+3+16 * k+200<_;omega⟩
theorem zbQ{A:Around}{C:Addr}{us:List Value}{kw:List (Str×Value)}:(A.under (.builtin "type.__call__" ⟨.ref C::us,kw⟩)).depth=A.depth+1:=by
 first|rfl|simp[Around.under,Code.weight,Code.isCreation,Code.isGuard,Code.isCaller,Code.frames,Code.isFrame,guardIds]
theorem zbP{A:Around}{C:Addr}{us:List Value}{kw:List (Str×Value)}:(A.under (.builtin "type.__call__" ⟨.ref C::us,kw⟩)).units=A.units+1:=by
 first|rfl|simp[Around.under,Code.cUnits,Code.frames,Code.isFrame]
theorem Room.make{k:Nat}{A:Around}(r:Room (k+1) A)(C:Addr)(us:List Value)(kw:List (Str×Value)):Room k (A.under (.builtin "type.__call__" ⟨.ref C::us,kw⟩)) :=
 ⟨r.hd,by have:=r.dp;rw[zbQ];omega,by have:=r.un;rw[zbP];omega⟩
theorem Room.depth{k:Nat}{A:Around}(r:Room k A):A.depth<recursionLimit:=by have:=r.dp;omega
theorem Room.units{k:Nat}{A:Around}(r:Room k A):A.units+64<cLine:=by have:=r.un;omega
def YL:TA:=λ_ H Q=>Q [] H
def zS(ta:TE)(tr:TA):TA:=λσ H Q=>ta σ H λx H1=>tr σ H1 λxs H2=>Q (x::xs) H2
section
variable {X:Cx}{e:Expr}{es:List Expr}{te:TE}{t:TA}{pos:Pos}
theorem zf:PA X [] YL:=λ_ _ _ _ H Q I h=>Calls.spliced_nil ⟨[],H,I,.nil,h⟩
theorem zd(ha:PE X e te)(hr:PA X es t)(hs:starEach (e::es) X.env=(false,eval e X.env)::starEach es X.env:=by rfl):PA X (e::es) (zS te t):=by
 intro pos pins s σ H Q I h;rw[hs];show wpAny _ _ (spliced ((false,eval e X.env)::backTo pos (starEach es X.env))) _ _ s;refine Calls.spliced_cons (thn (ha pins s σ H _ I h) λu s1 ⟨x,H1,I1,r1,q1⟩=>?_);exact thn (hr pos pins s1 σ H1 _ I1 q1) λus s2 ⟨xs,H2,I2,r2,q2⟩=>⟨x::xs,H2,I2,.cons r1 r2,q2⟩
def zgW(t:TA):TE:=λσ H Q=>t σ H λxs H1=>xs.length<=sizeLine/\∀p,H1 p=none->Q (.ref p) (upd H1 p (.tup xs))
def zf0(t:TA):TE:=λσ H Q=>t σ H λxs H1=>xs.length<=sizeLine/\∀p,H1 p=none->Q (.ref p) (upd H1 p (.lst xs))
theorem Qe{x1}(h:PA X es t):PE X (.Tuple es x1 pos) (zgW t):=by
 intro pins s σ H Q I hq
 refine wpAny_Tuple_spliced (thn (h pos pins s σ H _ I hq) λus s1 ⟨xs,H1,I1,r,z,q⟩=>⟨by rw[<-r.length];exact z,?_⟩)
 have hf:H1 s1.heap.objs.size=none:=I1.hok.fresh (Nat.le_refl _);refine⟨.ref s1.heap.objs.size,upd H1 s1.heap.objs.size (.tup xs),I1.laid (t':=s1.toks) (λb u e=>Heap.get?_push_of_some _ e) (Nat.le_refl _) ?_,rfl,q _ hf⟩;exact⟨z,us,r,⟨_,Heap.get?_push_size _ rfl,rfl,_,rfl⟩⟩
theorem z4(h:PA X es t):PE X (.List es pos) (zf0 t):=by
 intro pins s σ H Q I hq
 refine wpAny_List_spliced (thn (h pos pins s σ H _ I hq) λus s1 ⟨xs,H1,I1,r,z,q⟩=>⟨by rw[<-r.length];exact z,?_⟩)
 have hf:H1 s1.heap.objs.size=none:=I1.hok.fresh (Nat.le_refl _);refine⟨.ref s1.heap.objs.size,upd H1 s1.heap.objs.size (.lst xs),I1.laid (t':=s1.toks) (λb u e=>Heap.get?_push_of_some _ e) (Nat.le_refl _) ?_,rfl,q _ hf⟩;exact⟨z,us,0,r,Heap.get?_push_size _ rfl⟩
end
abbrev Sp:=List V->Hp->VK->XK->Prop
abbrev CXT:=List Env->Hp->Shared->XK->Value->Shared->Prop
structure Env0(P:Program)(w:World)(K:PySem.W.Frag)(mg:Str->Option Value)(base:Heap)(A:Around)(outer:List Env)(s:Shared)(H:Hp):Prop where
 frames:A.frames=some outer
 mod:Mod K mg base
 bs:∀b o,base.get? b=some o->s.heap.get? b=some o/\H b=none
 bsz:base.objs.size<=s.heap.objs.size
 funs:s.heap.FunFrames base outer
 frf:∀b∈frs outer,H b=none
 hok:HOk P w H s.heap
 bare:AllBare s.gens
def CE(outer:List Env)(P:Program)(w:World)(H:Hp)(s:Shared)(Q:VK)(u:Value)(s':Shared):Prop :=
 ∃v H',s'.os=s.os/\AllBare s'.gens/\Un (frs outer) [] H H' s.heap s'.heap/\HOk P w H' s'.heap/\Zo v u/\Q v H'
def CR(CX:CXT)(outer:List Env)(P:Program)(w:World)(H:Hp)(s:Shared)(Q:VK)(E:XK)(r:Result)(s':Shared):Prop :=
 match r with
 | .ok (.ret u)=>CE outer P w H s Q u s'
 | .ok _=>False
 | .error e=>CX outer H s E e s'
structure FnOk(P:Program)(w:World)(K:PySem.W.Frag)(mg:Str->Option Value)(base:Heap)(CX:CXT)(k:Nat)(f:Addr)(fd:FuncData)(ps:List Str)(sp:Sp):Prop where
 len:∀vs H Q E,sp vs H Q E->vs.length=ps.length
 run:∀(A:Around) (outer:List Env) (s:Shared) (H:Hp) (args:Args) (us:List Value) (vs:List V) (Q:VK) (E:XK),Room k A->Env0 P w K mg base A outer s H->BindsTo s fd args (ps.zip us)->Zg vs us->sp vs H Q E ->
  codeAny (model P w) A (.call (.ref f) args) (CR CX outer P w H s Q E) s
theorem FnOk.mono{P:Program}{w:World}{K:PySem.W.Frag}{mg:Str->Option Value}{base:Heap}{CX:CXT}{j k:Nat}{f:Addr}{fd:FuncData}{ps:List Str}{sp:Sp}(F:FnOk P w K mg base CX j f fd ps sp)(h:j<=k) :
  FnOk P w K mg base CX k f fd ps sp:=⟨F.len,λA outer s H args us vs Q E hr=>F.run A outer s H args us vs Q E (hr.mono h)⟩
theorem FnOk.imp{P:Program}{w:World}{K:PySem.W.Frag}{mg:Str->Option Value}{base:Heap}{CX:CXT}{k:Nat}{f:Addr}{fd:FuncData}{ps:List Str}{sp sp':Sp}(F:FnOk P w K mg base CX k f fd ps sp)
  (h:∀vs H Q E,sp' vs H Q E->sp vs H Q E):FnOk P w K mg base CX k f fd ps sp' :=
 ⟨λvs H Q E q=>F.len vs H Q E (h _ _ _ _ q),λA outer s H args us vs Q E hr he hb hv hs=>F.run A outer s H args us vs Q E hr he hb hv (h _ _ _ _ hs)⟩
theorem Env0.make{P:Program}{w:World}{K:PySem.W.Frag}{mg:Str->Option Value}{base:Heap}{A:Around}{outer:List Env}{s:Shared}{H:Hp}(e:Env0 P w K mg base A outer s H)(C:Addr)(us:List Value)(kw:List (Str×Value)) :
  Env0 P w K mg base (A.under (.builtin "type.__call__" ⟨.ref C::us,kw⟩)) outer s H:=⟨by first|exact e.frames|(simpa [Around.under,Code.envs,Code.isFrame,pushEnvs] using e.frames),e.mod,e.bs,e.bsz,e.funs,e.frf,e.hok,e.bare⟩
section
variable {X:Cx}{pins:List (Addr×Obj)}{σ:St}{H:Hp}{s s':Shared}
theorem Inv.env0(I:Inv X pins σ H s):Env0 X.prog X.w X.K X.mg X.base X.A X.stack s H :=
 ⟨I.ok.frames,I.ok.mod,I.bs,Nat.le_trans I.ok.bsz I.sz,I.stack,I.stkFree,I.hok,I.bare⟩
theorem Inv.after{Q:VK}{u:Value}(I:Inv X pins σ H s)(h:CE X.stack X.prog X.w H s Q u s'):EP X pins σ Q u s':=by
 obtain⟨v,H',os,bare,un,hok,r,q⟩:=h;obtain⟨hh,g,d,t,os'⟩:=s';obtain rfl:os'=s.os:=os
 exact⟨v,H',I.call (h':=hh) (g':=g) (d':=d) (t':=t) (ch:=[]) un hok bare (λb z=>absurd z (by simp)),r,q⟩
end
def Qu(sp:Sp)(dvs:List V)(E:XK)(t:TA):TE:=λσ H Q=>t σ H λvs H1=>sp (vs++dvs) H1 Q E
def zfZ(C:Addr)(m:Str)(sp:Sp)(dvs:List V)(E:XK)(ta:TE)(t:TA):TE:=λσ H Q=>ta σ H λx H1=>∃a dx fs,x=.ref a/\H1 a=some (.ins C dx fs)/\fs.lookup m=none /\
 t σ H1 λvs H2=>sp (x::(vs++dvs)) H2 Q E
def zg9(C:Addr)(sp:Sp)(dvs:List V)(E:XK)(t:TA):TE:=λσ H Q=>t σ H λvs H1=>∀x dx,H1 x=none->H1 dx=none->dx≠x ->
 sp (.ref x::(vs++dvs)) (upd (upd H1 dx (.own x)) x (.ins C dx [])) (λv H2=>v=.non/\Q (.ref x) H2) E
def qp(K:PySem.W.Frag)(fd:FuncData)(ps:List Str)(ds:List Value):Prop :=
 ∀(s:Shared) (us:List Value),K.In s.heap->(us++ds).length=ps.length->BindsTo s fd ⟨us,[]⟩ (ps.zip (us++ds))
theorem qp.all{K:PySem.W.Frag}{fd:FuncData}{ps:List Str}(h:∀us:List Value,us.length=ps.length->bindArgs fd ⟨us,[]⟩=pure (ps.zip us)):qp K fd ps []:=λs us _ hl=>by
 rw[List.append_nil] at hl ⊢;exact .of_eq (h us hl)
def QT(CX:CXT)(X:Cx)(E:XK):Prop:=∀(pins:List (Addr×Obj)) (σ:St) (H:Hp) (s:Shared) (e:Value) (s':Shared),Inv X pins σ H s->CX X.stack H s E e s'->X.xe e s'
section
variable {X:Cx}{CX:CXT}{k:Nat}{f C:Addr}{fd:FuncData}{ps:List Str}{sp:Sp}{dvs:List V}{ds:List Value}{E:XK}{x m:Str}{p pos apos:Pos}{e o:Expr}{es:List Expr}{ta:TE}{t:TA}
theorem zfs{pins:List (Addr×Obj)}{σ:St}{H:Hp}{s:Shared}{Q:VK}{us:List Value}{vs:List V}(F:FnOk X.prog X.w X.K X.mg X.base CX k f fd ps sp)(hr:Room k X.A)(hb:qp X.K fd ps ds)(hd:Zg dvs ds)(hx:QT CX X E)
  (I:Inv X pins σ H s) (r:Zg vs us) (h:sp (vs++dvs) H Q E):wpAny (model X.prog X.w) X.A (call (.ref f) us) (EP X pins σ Q) X.xe s:=by
 have r2:Zg (vs++dvs) (us++ds):=r.append hd
 have hl:(us++ds).length=ps.length:=by rw[<-r2.length];exact F.len _ _ _ _ h
 refine wpAny_call (codeAny_mono (F.run X.A X.stack s H ⟨us,[]⟩ (us++ds) (vs++dvs) Q E hr I.env0 (hb s us I.kIn hl) r2 h) λr s' hq=>?_)
 cases r with
 | error e=>exact hx pins σ H s e s' I hq
 | ok fl =>
  cases fl with
  | ret u=>exact I.after hq
  | next=>exact False.elim hq
  | brk=>exact False.elim hq
  | cont=>exact False.elim hq
theorem zp(F:FnOk X.prog X.w X.K X.mg X.base CX k f fd ps sp)(hr:Room k X.A)(hg:Gl X x)(hm:X.mg x=some (.ref f))(hk:PySem.W.keepIn X.K (.ref f)=true)(hb:qp X.K fd ps ds)(hd:Zg dvs ds)(hx:QT CX X E)
  (ha:PA X (e::es) t) (hdb:(x==("__debug__":Str))=false:=by decide) (he:starEach (e::es) X.env=(false,eval e X.env)::starEach es X.env:=by rfl) (hpl:(backTo pos (starEach es X.env)).any (·.1)=false:=by rfl) :
  PE X (.Call (.Name x p) (e::es) [] pos) (Qu sp dvs E t):=by
 intro pins s σ H Q I h;refine wpAny_Call_Name_kw (YY I hg hm ?_ hdb);refine PySem.W.callWith_K (h₀:=X.base) I.ok.mod.kin hk (thn (ha pos pins s σ H _ I h) λus s1 ⟨vs,H1,I1,r,q⟩=>⟨I1.kIn,?_⟩) he hpl;exact zfs F hr hb hd hx I1 r q
theorem YR{pl:Sem Bool}(he:PE X o ta)(c:Cls X.K C)(hm:Meth X.K C m f)(F:FnOk X.prog X.w X.K X.mg X.base CX k f fd ps sp)(hr:Room k X.A)(hb:qp X.K fd ps ds)(hd:Zg dvs ds)(hx:QT CX X E)(ha:PA X (e::es) t)
  (hst:starEach (e::es) X.env=(false,eval e X.env)::starEach es X.env:=by rfl) (hpl:(backTo pos (starEach es X.env)).any (·.1)=false:=by rfl)
  (ht:eval (.Call (.Attribute o m apos) (e::es) [] pos) X.env=(do
   let ov <-eval o X.env
   standAt apos.atName
   let (f,first) <-holding [ov] (getMethod ov m pl)
   callWith pos f first (backTo pos (starEach (e::es) X.env)) (backToKw pos (keywordEach [] X.env))):=by rfl) :
  PE X (.Call (.Attribute o m apos) (e::es) [] pos) (zfZ C m sp dvs E ta t):=by
 intro pins s σ H Q I h;refine PySem.W.methodCall_KW (pl:=pl) (thn (he pins s σ H _ I h) λu s1 ⟨x,H1,I1,rx,a,dx,fs,ex,ea,l,q⟩=>?_) ht;subst ex;obtain rfl:u=Value.ref a:=rx;refine zb0 I1 ea c hm l ?_
 refine PySem.W.callWith_K (first:=[.ref a]) (h₀:=X.base) I.ok.mod.kin hm.kp (thn (ha pos pins s1 σ H1 _ I1 q) λus s2 ⟨vs,H2,I2,r,q2⟩=>⟨I2.kIn,?_⟩) hst hpl
 exact zfs (us:=.ref a::us) (vs:=.ref a::vs) F hr hb hd hx I2 (.cons rfl r) q2
structure Mk(K:PySem.W.Frag)(C f:Addr):Prop where
 makes:PySem.W.makesIn K C=true
 init:PySem.W.findIn K (.ref C) "__init__"=some (some (.ref f))
 fn:PySem.W.isFn K (.ref f)=true
 kp:PySem.W.keepIn K (.ref C)=true
theorem zeq{pins:List (Addr×Obj)}{σ:St}{H:Hp}{s:Shared}{Q:VK}{us:List Value}{vs:List V}(M:Mk X.K C f)(F:FnOk X.prog X.w X.K X.mg X.base CX k f fd ps sp)(hr:Room (k+1) X.A)(hb:qp X.K fd ps ds)(hd:Zg dvs ds)
  (hx:QT CX X E) (I:Inv X pins σ H s) (r:Zg vs us)
  (h:∀x dx,H x=none->H dx=none->dx≠x->sp (.ref x::(vs++dvs)) (upd (upd H dx (.own x)) x (.ins C dx [])) (λv H2=>v=.non/\Q (.ref x) H2) E) :
  wpAny (model X.prog X.w) X.A (call (.ref C) us) (EP X pins σ Q) X.xe s:=by
 have hq:=h (s.heap.objs.size+1) s.heap.objs.size (I.hok.fresh (Nat.le_succ _)) (I.hok.fresh (Nat.le_refl _)) (Nat.ne_of_lt (Nat.lt_succ_self _));have I2:=Inv.made (C:=C) I;have r2:Zg (V.ref (s.heap.objs.size+1)::(vs++dvs)) (Value.ref (s.heap.objs.size+1)::(us++ds)):=.cons rfl (r.append hd)
 have hl:(Value.ref (s.heap.objs.size+1)::us++ds).length=ps.length:=by
  have e:=r2.length;rw[F.len _ _ _ _ hq] at e;exact e.symm
 refine wpAny_call (zeZ (f:=f) I.kIn M.makes M.init (beq_iff_eq.mp M.fn) (codeAny_mono (F.run _ X.stack _ _ ⟨Value.ref (s.heap.objs.size+1)::us,[]⟩ (Value.ref (s.heap.objs.size+1)::(us++ds)) _ _ E (hr.make C us [])
  (I2.env0.make C us []) (hb _ (Value.ref (s.heap.objs.size+1)::us) I2.kIn hl) r2 hq) λr s' hq'=>?_))
 cases r with
 | error e=>exact hx pins σ _ _ e s' I2 hq'
 | ok fl =>
  cases fl with
  | ret u =>
   obtain⟨v,H',I3,rv,ev,q3⟩:=I2.after hq';subst ev;exact⟨rv,⟨V.ref (s.heap.objs.size+1),H',I3,rfl,q3⟩⟩
  | next=>exact False.elim hq'
  | brk=>exact False.elim hq'
  | cont=>exact False.elim hq'
theorem zgm(M:Mk X.K C f)(F:FnOk X.prog X.w X.K X.mg X.base CX k f fd ps sp)(hr:Room (k+1) X.A)(hg:Gl X x)(hm:X.mg x=some (.ref C))(hb:qp X.K fd ps ds)(hd:Zg dvs ds)(hx:QT CX X E)
  (ha:PA X (e::es) t) (hdb:(x==("__debug__":Str))=false:=by decide) (he:starEach (e::es) X.env=(false,eval e X.env)::starEach es X.env:=by rfl) (hpl:(backTo pos (starEach es X.env)).any (·.1)=false:=by rfl) :
  PE X (.Call (.Name x p) (e::es) [] pos) (zg9 C sp dvs E t):=by
 intro pins s σ H Q I h;refine wpAny_Call_Name_kw (YY I hg hm ?_ hdb);refine PySem.W.callWith_K (h₀:=X.base) I.ok.mod.kin M.kp (thn (ha pos pins s σ H _ I h) λus s1 ⟨vs,H1,I1,r,q⟩=>⟨I1.kIn,?_⟩) he hpl;exact zeq M F hr hb hd hx I1 r q
end
def PK(X:Cx)(kws:List Keyword)(t:TA):Prop :=
 ∀(pos:Pos) (pins:List (Addr×Obj)) (s:Shared) (σ:St) (H:Hp) (Q:List V->Hp->Prop),Inv X pins σ H s->t σ H Q->wpAny (model X.prog X.w) X.A (evalAll ((backToKw pos (keywordEach kws X.env)).map (·.2))) (AP X pins σ Q) X.xe s
section
variable {X:Cx}{CX:CXT}{k:Nat}{f C:Addr}{fd:FuncData}{ps ks:List Str}{sp:Sp}{E:XK}{x m:Str}{p pos apos kpos:Pos}{e o:Expr}{es:List Expr}{kws:List Keyword}{te ta:TE}{t tk:TA}{nm:Option Str}
structure KBinds(K:PySem.W.Frag)(fd:FuncData)(ps ks:List Str)(g:List Value->List Value->List Value)(gV:List V->List V->List V):Prop where
 to:∀(s:Shared) (us ws:List Value),K.In s.heap->(g us ws).length=ps.length->BindsTo s fd ⟨us,ks.zip ws⟩ (ps.zip (g us ws))
 rel:∀{vs:List V} {us:List Value} {zs:List V} {ws:List Value},Zg vs us->Zg zs ws->Zg (gV vs zs) (g us ws)
def zjc(sp:Sp)(gV:List V->List V->List V)(E:XK)(t tk:TA):TE:=λσ H Q=>t σ H λvs H1=>tk σ H1 λzs H2=>sp (gV vs zs) H2 Q E
variable {g:List Value->List Value->List Value}{gV:List V->List V->List V}
end
structure FnScope(N P:List Str)(sc:Scope):Prop where
 kind:sc.kind=.function
 co:sc.isCoroutine=false
 gen:sc.isGenerator=false
 nd:N.Nodup
 pre:N.take P.length=P
 par:∀x∈P,sc.names.lookup x=some .local\/sc.names.lookup x=some .cell
 nofree:∀y∈sc.names,y.2≠.free
theorem WM{kindOf:Str->Option NameKind}{x:Str}:∀{binds:List (Str×Value)} {m:Str->Option Value},(∀v,(x,v)∉binds)->bindL kindOf binds m x=m x
 | [],_,_=>rfl
 | (n,v)::r,m,h=>by
  unfold bindL;rw[WM λw hw=>h w (List.mem_cons_of_mem _ hw)];split
  ·have:x≠n:=by rintro rfl;exact h v List.mem_cons_self
   simp[this]
  ·rfl
theorem WO{kindOf:Str->Option NameKind}{x:Str}:∀{binds:List (Str×Value)} {m:Str->Option Value},(∀v,(x,v)∉binds)->bindC kindOf binds m x=m x
 | [],_,_=>rfl
 | (n,v)::r,m,h=>by
  unfold bindC;rw[WO λw hw=>h w (List.mem_cons_of_mem _ hw)];split
  ·rfl
  ·have:x≠n:=by rintro rfl;exact h v List.mem_cons_self
   simp[this]
theorem WN{kindOf:Str->Option NameKind}{x:Str}{v:Value}:∀{P:List Str} {vs:List Value} {i:Nat} {m:Str->Option Value},P.Nodup->P[i]?=some x->vs[i]?=some v->kindOf x=some .local ->
  bindL kindOf (P.zip vs) m x=some v
 | [],_,_,_,_,h,_,_=>by simp at h
 | _::_,[],_,_,_,_,h,_=>by simp at h
 | p::P,w::vs,0,m,nd,h1,h2,hk=>by
  simp at h1 h2;subst h1;subst h2;show bindL kindOf ((p,w)::P.zip vs) m p=_;unfold bindL;rw[WM λv hv=>(List.nodup_cons.mp nd).1 (List.of_mem_zip hv).1,if_pos hk];simp
 | p::P,w::vs,i+1,m,nd,h1,h2,hk=>by
  show bindL kindOf ((p,w)::P.zip vs) m x=_;unfold bindL
  exact WN (i:=i) (List.nodup_cons.mp nd).2 (by simpa using h1) (by simpa using h2) hk
theorem WP{kindOf:Str->Option NameKind}{x:Str}{v:Value}:∀{P:List Str} {vs:List Value} {i:Nat} {m:Str->Option Value},P.Nodup->P[i]?=some x->vs[i]?=some v->kindOf x≠some .local ->
  bindC kindOf (P.zip vs) m x=some v
 | [],_,_,_,_,h,_,_=>by simp at h
 | _::_,[],_,_,_,_,h,_=>by simp at h
 | p::P,w::vs,0,m,nd,h1,h2,hk=>by
  simp at h1 h2;subst h1;subst h2;show bindC kindOf ((p,w)::P.zip vs) m p=_;unfold bindC;rw[WO λv hv=>(List.nodup_cons.mp nd).1 (List.of_mem_zip hv).1,if_neg hk];simp
 | p::P,w::vs,i+1,m,nd,h1,h2,hk=>by
  show bindC kindOf ((p,w)::P.zip vs) m x=_;unfold bindC
  exact WP (i:=i) (List.nodup_cons.mp nd).2 (by simpa using h1) (by simpa using h2) hk
def qY(N:List Str)(vs:List V):St:=vs.map some++List.replicate (N.length-vs.length) none
def zbn(CX:CXT)(P:Program)(w:World)(K:PySem.W.Frag)(mg:Str->Option Value)(base:Heap)(N:List Str)(qual:Str)(scope:Scope)(f:Addr)(cd:Value)(A:Around)(outer:List Env)(s:Shared)(H:Hp)(E:XK):Cx where
 prog:=P
 w:=w
 K:=K
 mg:=mg
 base:=base
 A:=A.deeper (envOfC qual scope s.heap.objs.size f cd)
 N:=N
 s₀:=s
 H₀:=H
 env:=envOfC qual scope s.heap.objs.size f cd
 outer:=outer
 stack:=envOfC qual scope s.heap.objs.size f cd::outer
 ex:=[]
 calm:=true
 fn:=λ_=>true
 pn:=[]
 xe:=λe s'=>wpAny (model P w) (A.deeper (envOfC qual scope s.heap.objs.size f cd)) (leaving (envOfC qual scope s.heap.objs.size f cd) e) (λ_ s''=>CX outer H s E e s'') (λe' s''=>CX outer H s E e' s'') s'
theorem zbp{sc:Scope}{n:Nat}{x:Str}(h:sc.names.lookup x=some .cell):∃c,(cellsFrom n sc.names []).lookup x=some c:=by
 have q:=PySem.W.cellsFrom_some sc.names n [] (.inl h);exact Option.isSome_iff_exists.mp q
theorem Wx{CX:CXT}{P:Program}{w:World}{K:PySem.W.Frag}{mg:Str->Option Value}{base:Heap}{N ps:List Str}{qual:Str}{scope:Scope}{f:Addr}{cd:Value}{A:Around}{outer:List Env}{s s1:Shared}{H:Hp}{E:XK}{us:List Value}{vs:List V}
  (S:FnScope N ps scope) (hd:HdH A H) (e0:Env0 P w K mg base A outer s H) (hl:vs.length=ps.length) (r:Zg vs us)
  (x:InCallC s s.heap.objs.size (bindL (envOfC qual scope s.heap.objs.size f cd).kindOf (ps.zip us) λ_=>none) (cellsFrom (s.heap.objs.size+1) scope.names []) (bindC (envOfC qual scope s.heap.objs.size f cd).kindOf (ps.zip us) λ_=>none) s1) :
  Inv (zbn CX P w K mg base N qual scope f cd A outer s H E) [] (qY N vs) H s1:=by
 have hpl:ps.length<=N.length:=by have:=congrArg List.length S.pre;rw[List.length_take] at this;omega
 obtain⟨h1,tk,rfl,hk⟩:=x.done
 have noA:∀b:Addr,b∉(zbn CX P w K mg base N qual scope f cd A outer s H E).ex:=λb z=>absurd (show b∈([]:List Addr) from z) (by simp)
 refine⟨⟨e0.mod,S.kind,rfl,rfl,Nat.le_refl _,λy z c h1 h2=>?_,λy hy=>?_,λy c _ h=>?_,λ_=>hd,Around.frames_deeper e0.frames,.inr ⟨rfl,rfl⟩,λb z=>absurd z (noA b),e0.bs,e0.bsz,λb _ _=>noA b,λb z=>absurd z (noA b),e0.funs,e0.frf⟩,
  rfl,e0.bare,Un.kept hk,⟨_,x.toInCall.ns,λi y v h1 h2 h3=>?_⟩,λy c h=>⟨_,x.cell y c h⟩,e0.hok.fresh (Nat.le_refl _),λy c h=>?_,λp hp=>absurd (show p∈([]:List (Addr×Obj)) from hp) (by simp),e0.hok.kept hk,?_⟩
 ·exact name_of_addr x.apart (PySem.mem_of_lookup h1) (PySem.mem_of_lookup h2)
 ·have hy:scope.names.lookup y=some .cell\/scope.names.lookup y=some .free:=hy
  rcases hy with hy|hy
  ·exact zbp hy
  ·exact absurd rfl (S.nofree _ (PySem.mem_of_lookup hy))
 ·exact Nat.le_of_lt (x.above y c (PySem.mem_of_lookup h))
 ·have hi:i<vs.length:=by
   unfold qY at h2
   by_cases hi:i<vs.length
   ·exact hi
   ·rw[List.getElem?_append_right (by simpa using hi)] at h2
    rw[List.getElem?_replicate] at h2
    split at h2 <;> cases h2
  have ha:vs[i]?=some v:=by
   unfold qY at h2
   rw[List.getElem?_append_left (by simpa using hi),List.getElem?_map] at h2
   cases e:vs[i]? with
   | none=>rw[e] at h2;cases h2
   | some a=>rw[e] at h2;cases h2;rfl
  obtain⟨u,hu,rv⟩:=r.get ha
  have hp:ps[i]?=some y:=by
   rw[<-S.pre,List.getElem?_take_of_lt (by omega)];exact h1
  have ndP:ps.Nodup:=by rw[<-S.pre];exact S.nd.sublist (List.take_sublist _ _)
  refine⟨u,rv,?_⟩
  rcases S.par y (List.mem_of_getElem? hp) with k|k
  ·exact .inl ⟨k,WN ndP hp hu k⟩
  ·obtain⟨c,e⟩:=zbp (n:=s.heap.objs.size+1) k
   refine .inr ⟨.inl k,c,e,?_⟩;have q:=x.cell y c e
   rw[WP ndP hp hu (by show scope.names.lookup y≠_;rw[k];decide)] at q
   exact q
 ·exact e0.hok.fresh (Nat.le_of_lt (x.above y c (PySem.mem_of_lookup h)))
 ·unfold qY
  show _=N.length;rw[List.length_append,List.length_map,List.length_replicate];omega
theorem zgM{CX:CXT}{P:Program}{w:World}{K:PySem.W.Frag}{mg:Str->Option Value}{base:Heap}{k:Nat}{f:Addr}{name qual:Str}{params:Arguments}{body:List Stmt}{scope:Scope}{dV kV doc pm cdv ct oc:Value}{an od:Option Addr}
  {osl:Array (Option Value)} {N ps:List Str} {sp:Sp} (lk:K.lookup f=some ⟨oc,od,.func (PySem.W.fnOf name qual params body scope dV kV doc pm an cdv ct),osl⟩) (hcd:PySem.W.codeIn K cdv qual=true) (S:FnScope N ps scope)
  (len:∀vs H Q E,sp vs H Q E->vs.length=ps.length)
  (hbody:∀(A:Around) (outer:List Env) (s:Shared) (H:Hp) (vs:List V) (Q:VK) (E:XK),Room k (A.deeper (envOfC qual scope s.heap.objs.size f cdv))->sp vs H Q E ->
   ∃t,PSs (zbn CX P w K mg base N qual scope f cdv A outer s H E) body t/\t { nx:=λ_ H'=>Q .non H',rt:=Q } (qY N vs) H) :
  FnOk P w K mg base CX (k+1) f (PySem.W.fnOf name qual params body scope dV kV doc pm an cdv ct) ps sp:=by
 refine⟨len,λA outer s H args us vs Q E hr e0 hb r hsp=>?_⟩;have hl:=len _ _ _ _ hsp;have KX:K.In s.heap:=e0.mod.kin.keeps λb o e=>(e0.bs b o e).1;have lim:s.heap.NoLimit:=e0.mod.nolimit.keeps λb o e=>(e0.bs b o e).1
 have hkind:∀y∈ps.zip us,scope.names.lookup y.1=some .local\/(scope.names.lookup y.1=some .cell/\((cellsFrom (s.heap.objs.size+1) scope.names []).lookup y.1).isSome=true):=λ⟨n,v⟩ hy=>by
  rcases S.par n (List.of_mem_zip hy).1 with q|q
  ·exact .inl q
  ·exact .inr ⟨q,PySem.W.cellsFrom_some _ _ _ (.inl q)⟩
 refine codeAny_call_function hr.depth (KX _ _ lk) rfl S.co S.gen rfl (PySem.W.codeRec_of KX hcd) (hb _ _ _ _ ?_);refine wpAny_newFunctionEnv_cells S.kind hkind λenv he s1 x=>?_;subst he;refine⟨lim.keeps x.toInCall.keep,codeAny_func ?_⟩;obtain⟨t,ht,hq⟩:=hbody A outer s H vs Q E (hr.deeper _) hsp;have I:Inv (zbn CX P w K mg base N qual scope f cdv A outer s H E) [] (qY N vs) H s1:=Wx S (.inl hr.hd) e0 hl r x;refine wpAny_mono (ht [] s1 (qY N vs) H _ I hq) (λfl s' hs=>?_) λe s' hs=>hs
 have fin:∀{σ':St} {H':Hp} {v:V} {u:Value},Inv (zbn CX P w K mg base N qual scope f cdv A outer s H E) [] σ' H' s'->Zo v u->Q v H'->CE outer P w H s Q u s' :=
  λ{σ' H' v u} J rv q=>⟨v,H',J.os,J.bare,J.base,J.hok,rv,q⟩
 cases fl with
 | ret u =>
  obtain⟨v,σ',H',J,rv,q⟩:=hs;exact fin J rv q
 | next =>
  obtain⟨σ',H',J,q⟩:=hs;exact fin (v:=V.non) (u:=Value.none) J rfl q
 | brk =>
  obtain⟨_,_,_,q⟩:=hs;exact False.elim q
 | cont =>
  obtain⟨_,_,_,q⟩:=hs;exact False.elim q
end L2
namespace L2
open PySem PySem.Spec PyProof.Rows
section
variable {X:Cx}{x:Str}{p pos:Pos}{e:Expr}{es:List Expr}{t:TA}{id T:String}{r:List V->Hp->VK->Prop}
def tCB(r:List V->Hp->VK->Prop)(t:TA):TE:=λσ H Q=>t σ H λvs H1=>r vs H1 Q
theorem zn(hc:qo X (.builtin id) r)(hg:Gl X x)(hm:X.mg x=none)(hv:bootBuiltins x=some (.builtin id))(ha:PA X (e::es) t)(hn:x≠"__name__":=by decide)(hdb:(x==("__debug__":Str))=false:=by decide)
  (he:starEach (e::es) X.env=(false,eval e X.env)::starEach es X.env:=by rfl) (hpl:(backTo pos (starEach es X.env)).any (·.1)=false:=by rfl):PE X (.Call (.Name x p) (e::es) [] pos) (tCB r t):=by
 intro pins s σ H Q I h;refine wpAny_Call_Name_kw (jQ I hg hm hv ?_ hn hdb);exact PyProof.Rows.callWith_builtin1 (thn (ha pos pins s σ H _ I h) λus s1 ⟨vs,H1,I1,r1,q1⟩=>hc pins s1 σ H1 vs us Q I1 r1 q1) he hpl
theorem ZG(hc:qo X (.type T) r)(hg:Gl X x)(hm:X.mg x=none)(hv:bootBuiltins x=some (.type T))(ha:PA X (e::es) t)(hn:x≠"__name__":=by decide)(hdb:(x==("__debug__":Str))=false:=by decide)
  (he:starEach (e::es) X.env=(false,eval e X.env)::starEach es X.env:=by rfl) (hpl:(backTo pos (starEach es X.env)).any (·.1)=false:=by rfl):PE X (.Call (.Name x p) (e::es) [] pos) (tCB r t):=by
 intro pins s σ H Q I h;refine wpAny_Call_Name_kw (jQ I hg hm hv ?_ hn hdb);exact PyProof.Rows.callWith_type1 (thn (ha pos pins s σ H _ I h) λus s1 ⟨vs,H1,I1,r1,q1⟩=>hc pins s1 σ H1 vs us Q I1 r1 q1) he hpl
end
end L2
namespace HT
open PySem PyProof.Rows
def yn:List Int->List Int->Bool
 | [],[]=>false
 | [],_::_=>true
 | _::_,[]=>false
 | x::xs,y::ys=>if x=y then yn xs ys else decide (x<y)
theorem ZY(x y:Int)(xs ys:List Int):yn (x::xs) (y::ys)=if x=y then yn xs ys else decide (x<y):=rfl
theorem Yu:yn [] []=false:=rfl
theorem yU(y:Int)(ys:List Int):yn [] (y::ys)=true:=rfl
theorem yg(x:Int)(xs:List Int):yn (x::xs) []=false:=rfl
theorem zfb(A:Around)(s:Shared)(a:Int)(t:Tok)(c:Int)(u:Tok):∃e,SeqAt.EqAt A s (.int a t) (.int c u) e/\(e=true↔a=c) :=
 ⟨(a==c),SeqAt.EqAt.int_int a t c u,by simp⟩
theorem zet(A:Around)(s:Shared)(a:Int)(t:Tok)(c:Int)(u:Tok)(prog:Program)(w:World)(E:Value->Shared->Prop)(Q:Value->Shared->Prop)(h:Q (.bool (decide (a<c))) s) :
  wpAny (model prog w) A (richCompare .Lt (.int a t) (.int c u)) Q E s :=
 (PyProof.Rows.lt_int h:wpAny (model prog w) A (compareOp .Lt (.int a t) (.int c u)) Q E s)
section
open PySem.SeqAt
open PySem.AutoSeq1 (wpAny_loadPart')
open PySem.MeetsSeq PySem.MeetsSeq2 PySem.MeetsSeq3
theorem JR(l b:Addr)(items items2:Array Value)(n n2:Nat)(dd dd2:Option Addr)(sl sl2:Array (Option Value))(ns ms:List Int)(hi:IntsAre items.toList ns)(hj:IntsAre items2.toList ms) :
  Meets (Builtin.«tuple.__lt__» ⟨[.ref l,.ref b],[]⟩)
   (λ_ R s=>s.heap.get? l=some { cls:=.type "tuple",dict:=dd,data:=.seq items n,slots:=sl }/\s.heap.get? b=some { cls:=.type "tuple",dict:=dd2,data:=.seq items2 n2,slots:=sl2 } /\
    R (.ok (.ret (.bool (yn ns ms)))) s) :=
 .of_wp λprog w A R s h=>by
  obtain⟨hp,g,d,tk,os⟩:=s;obtain⟨hl,hb,h⟩:=h;have f2:=AutoSeq1.sub_tuple_tuple
  have z1:items.size=ns.length:=by rw[<-hi.length];simp
  have z2:items2.size=ms.length:=by rw[<-hj.length];simp
  wp_walk using wpAny_loadPart' hl,wpAny_loadPart' hb,wpAny_forIn_list _ (λrest b s'=>b.1=none/\s'=⟨hp,g,d,tk,os⟩/\∃(vs ws:List Value) (ns' ms':List Int),rest=vs.zip ws /\
   IntsAre vs ns'/\IntsAre ws ms'/\ns'.length+items2.size=ms'.length+items.size/\R (.ok (.ret (.bool (yn ns' ms')))) ⟨hp,g,d,tk,os⟩) _
  case turn =>
   rintro⟨y,x⟩ rest b s' ⟨hb',rfl,vs,ws,ns',ms',hz,hvi,hwi,hlen,hR⟩
   cases hvi with
   | nil=>rw[List.zip_nil_left] at hz;cases hz
   | cons a t hvi' =>
    cases hwi with
    | nil=>rw[List.zip_nil_right] at hz;cases hz
    | cons c u hwi' =>
     rw[List.zip_cons_cons] at hz
     injection hz with hyx hrest
     injection hyx with hy hx
     subst hy hx;rw[ZY] at hR;simp only[List.length_cons] at hlen;obtain⟨e,he,hiff⟩:=zfb A.in1 ⟨hp,g,d,tk,os⟩ a t c u;refine wpAny_bind (he prog w _ _ ?_)
     cases e with
     | true =>
      rw[if_pos (hiff.mp rfl)] at hR
      wp_walk
      exact⟨rfl,rfl,_,_,_,_,hrest,hvi',hwi',by omega,hR⟩
     | false =>
      rw[if_neg (λq=>absurd (hiff.mpr q) Bool.false_ne_true)] at hR;have hri:=zet A.in1 ⟨hp,g,d,tk,os⟩ a t c u prog w
      wp_walk using hri
      exact⟨_,rfl,by simpa using hR⟩
  case fin =>
   rintro⟨b1,b2⟩ s' ⟨hb',rfl,vs,ws,ns',ms',hz,hvi,hwi,hlen,hR⟩;simp only at hb';subst hb'
   have hv:yn ns' ms'=decide (items.size<items2.size):=by
    cases hvi with
    | nil =>
     cases hwi with
     | nil =>
      simp only[List.length_nil] at hlen;rw[Yu]
      exact(decide_eq_false (by omega)).symm
     | cons c u hw =>
      simp only[List.length_nil,List.length_cons] at hlen;rw[yU]
      exact(decide_eq_true (by omega)).symm
    | cons a t hv =>
     cases hwi with
     | nil =>
      simp only[List.length_nil,List.length_cons] at hlen;rw[yg]
      exact(decide_eq_false (by omega)).symm
     | cons c u hw =>
      rw[List.zip_cons_cons] at hz;cases hz
   rw[hv] at hR
   wp_walk
   exact⟨_,rfl,by simpa [Builtin.Tuple.tupleCompareSizes] using hR⟩
  case h =>
   exact⟨rfl,rfl,items.toList,items2.toList,ns,ms,rfl,hi,hj,by omega,h⟩
end
section
variable {prog:Program}{w:World}{A:Around}{E:Value->Shared->Prop}{s:Shared}
theorem zbS{l b:Addr}{items items2:Array Value}{ns ms:List Int}{Q:Value->Shared->Prop}(hl:IsTup s.heap l items)(hb:IsTup s.heap b items2)(hi:IntsAre items.toList ns)(hj:IntsAre items2.toList ms)
  (hu:A.units<cLine) (h:Q (.bool (yn ns ms)) s):wpAny (model prog w) A (compareOp .Lt (.ref l) (.ref b)) Q E s:=by
 obtain⟨⟨cls,dd,data,sl⟩,ho,hc,n,hd⟩:=id hl;obtain⟨⟨cls2,dd2,data2,sl2⟩,ho2,hc2,n2,hd2⟩:=id hb;simp only at hc hd hc2 hd2;subst hc hd hc2 hd2
 exact richCompare_meets_room (op:=.Lt) ⟨_,ho,rfl⟩ ⟨_,ho2,rfl⟩ PySem.F.slot_tuple_lt PySem.F.entry_tuple_lt (PySem.F.args_tuple_lt_2 _ _) (JR l b items items2 n n2 dd dd2 sl sl2 ns ms hi hj)
  ⟨ho,ho2,show Value.bool (yn ns ms)≠Value.notImplemented/\Q (.bool (yn ns ms)) s from ⟨(λx=>nomatch x),h⟩⟩ hu
def sIx(n d:Nat):Option Int->Nat
 | none=>d
 | some v=>if v<0 then (v+(n:Int)).toNat else min v.toNat n
theorem zaV(n d:Nat):sIx n d none=d:=rfl
theorem zcL(n d k:Nat):sIx n d (some (k:Int))=min k n:=by
 show (if (k:Int)<0 then ((k:Int)+(n:Int)).toNat else min (k:Int).toNat n)=min k n
 rw[if_neg (by omega),Int.toNat_natCast]
end
end HT
namespace L2
open PySem PySem.Spec PyProof.Rows
abbrev TO:=St->Hp->(Option Int->Hp->Prop)->Prop
def PO(X:Cx)(e:Option Expr)(t:TO):Prop :=
 ∀(pins:List (Addr×Obj)) (s:Shared) (σ:St) (H:Hp) (Q:Option Int->Hp->Prop),Inv X pins σ H s->t σ H Q ->
  wpAny (model X.prog X.w) X.A (evalPart e X.env) (λu s'=>∃o H',Inv X pins σ H' s'/\IsPart u o/\Q o H') X.xe s
def zfX:TO:=λ_ H Q=>Q none H
def zin(t:TE):TO:=λσ H Q=>t σ H λx H1=>∃i,x=.int i/\Q (some i) H1
theorem QD{ns:List Int}:∀{us:List Value},Zg (ns.map V.int) us->IntsAre us ns:=by
 induction ns with
 | nil=>intro us r;rw[List.map_nil] at r;cases r;exact .nil
 | cons n ns ih =>
  intro us r;rw[List.map_cons] at r
  cases r with
  | cons r1 r2 =>
   obtain⟨t,e⟩:=r1;subst e;exact .cons n t (ih r2)
section
variable {X:Cx}{e:Expr}{te:TE}{lo hi:Option Expr}{tl th:TO}{pos p2:Pos}
theorem J9:PO X none zfX:=by
 intro pins s σ H Q I h;rw[evalPart_none];exact wpAny_pure ⟨none,H,I,.none,h⟩
theorem J8(h:PE X e te):PO X (some e) (zin te):=by
 intro pins s σ H Q I hw;rw[evalPart_some];refine thn (h pins s σ H _ I hw) λu s1 ⟨x,H1,I1,r1,q1⟩=>?_;obtain⟨i,rfl,q⟩:=q1;obtain⟨t,rfl⟩:=r1;exact⟨some i,H1,I1,.int i t,q⟩
def SlR(X:Cx)(r:V->Option Int->Option Int->Hp->VK->Prop):Prop :=
 ∀(pins:List (Addr×Obj)) (s:Shared) (σ:St) (H:Hp) (x:V) (v vl vu:Value) (lo hi:Option Int) (sl:Addr) (Q:VK),Inv X pins σ H s->Zo x v->s.heap.IsSliceOf sl vl vu .none->IsPart vl lo->IsPart vu hi->r x lo hi H Q ->
  ∃T id,typeLookup (.type T) "__getitem__"=pure (some (.builtin id))/\s.TypeIs v T/\wpAny (model X.prog X.w) X.A (getItem v (.ref sl)) (EP X pins σ Q) X.xe s
def tSl(r:V->Option Int->Option Int->Hp->VK->Prop)(te:TE)(tl th:TO):TE:=λσ H Q=>te σ H λx H1=>tl σ H1 λl H2=>th σ H2 λu H3=>r x l u H3 Q
theorem Q7{r:V->Option Int->Option Int->Hp->VK->Prop}(hr:SlR X r)(he:PE X e te)(hl:PO X lo tl)(hu:PO X hi th):PE X (.Subscript e (.Slice lo hi none p2) pos) (tSl r te tl th):=by
 intro pins s σ H Q I h;refine Subscript_ (thn (he pins s σ H _ I h) λv s1 ⟨x,H1,I1,r1,q1⟩=>?_);refine wpAny_Slice (thn (hl pins s1 σ H1 _ I1 q1) λvl s2 ⟨l,H2,I2,pl,q2⟩=>thn (hu pins s2 σ H2 _ I2 q2) λvu s3 ⟨u,H3,I3,pu,q3⟩=>?_);rw[evalPart_none];refine wpAny_pure ?_
 have I4:Inv X pins σ H3 { s3 with heap:=s3.heap.push { cls:=.type "slice",data:=.fields #[vl,vu,.none] } }:=I3.kept (t':=s3.toks) λb ob q=>Heap.get?_push_of_some _ q
 obtain⟨T,id,hT,ht,hg⟩:=hr pins { s3 with heap:=s3.heap.push { cls:=.type "slice",data:=.fields #[vl,vu,.none] } } σ H3 x v vl vu l u s3.heap.objs.size Q I4 r1 (Heap.IsSliceOf.new ..) pl pu q3
 show wpAny (model X.prog X.w) X.A (subscriptTail e (.Slice lo hi none p2) v (.ref s3.heap.objs.size)) (EP X pins σ Q) X.xe { s3 with heap:=s3.heap.push { cls:=.type "slice",data:=.fields #[vl,vu,.none] } }
 exact tail_any (ops:=[.ref s3.heap.objs.size,v]) ht hT hg (by with_unfolding_all rfl)
def zdT(xs:List V)(lo hi:Option Int):List V:=(xs.drop (HT.sIx xs.length 0 lo)).take (HT.sIx xs.length xs.length hi-HT.sIx xs.length 0 lo)
theorem zaC(xs:List V)(lo hi:Option Int):(zdT xs lo hi).length<=xs.length:=by
 unfold zdT;rw[List.length_take,List.length_drop];omega
def zj6(K:PySem.W.Frag):V->Option Int->Option Int->Hp->VK->Prop:=λx lo hi H Q=>∃a xs,x=.ref a/\SqT K H a xs /\
 ¬(HT.sIx xs.length 0 lo=0/\HT.sIx xs.length xs.length hi=xs.length)/\∀p,H p=none->Q (.ref p) (upd H p (.tup (zdT xs lo hi)))
def zj9(K:PySem.W.Frag):R2:=λx y H Q=>∃a b ns ms,x=.ref a/\y=.ref b/\SqT K H a (ns.map V.int)/\SqT K H b (ms.map V.int)/\Q (.bl (HT.yn ns ms)) H
def zjH(K:PySem.W.Frag):R2:=λx y H Q=>∃a b xs ys,x=.ref a/\y=.ref b/\SqT K H a xs/\SqT K H b ys/\xs≠[]/\xs.length+ys.length<=sizeLine /\
 (ys=[]->Q (.ref a) H)/\(ys≠[]->∀p,H p=none->Q (.ref p) (upd H p (.tup (xs++ys))))
end
end L2
namespace L2
open PySem PySem.Spec PyProof.Rows
def ixN(n:Nat)(i:Int):Option Nat:=if 0<=i then (if i<n then some i.toNat else none) else if -(n:Int)<=i then some (i+n).toNat else none
def atI{α:Type}(xs:List α)(i:Int):Option α:=(ixN xs.length i).bind λj=>xs[j]?
theorem zat{n:Nat}{i:Int}{j:Nat}(h:ixN n i=some j):seqIndex? i n=some j/\j<n/\-(n:Int)<=i/\i<n:=by
 unfold ixN at h
 by_cases h0:0<=i
 ·rw[if_pos h0] at h
  by_cases h1:i<n
  ·rw[if_pos h1] at h
   have e:i.toNat=j:=Option.some.inj h
   exact⟨by rw[seqIndex_of h0 h1,e],by omega,by omega,h1⟩
  ·rw[if_neg h1] at h;cases h
 ·rw[if_neg h0] at h
  by_cases h1:-(n:Int)<=i
  ·rw[if_pos h1] at h
   have e:(i+n).toNat=j:=Option.some.inj h
   exact⟨by rw[seqIndex_neg (by omega) h1,e],by omega,h1,by omega⟩
  ·rw[if_neg h1] at h;cases h
theorem zdZ{α:Type}{xs:List α}{i:Int}{v:α}(h:atI xs i=some v):∃j,seqIndex? i xs.length=some j/\xs[j]?=some v/\j<xs.length/\-(xs.length:Int)<=i/\i<xs.length:=by
 unfold atI at h
 cases e:ixN xs.length i with
 | none=>rw[e] at h;cases h
 | some j =>
  rw[e] at h;obtain⟨h1,h2,h3,h4⟩:=zat e;exact⟨j,h1,h,h2,h3,h4⟩
theorem wF{α:Type}{xs:List α}{j:Nat}{v:α}(h:xs[j]?=some v):atI xs (j:Int)=some v:=by
 have hj:j<xs.length:=(List.getElem?_eq_some_iff.mp h).1
 have e:ixN xs.length (j:Int)=some j:=by
  unfold ixN
  rw[if_pos (by omega),if_pos (by omega)];simp
 unfold atI;rw[e];exact h
def zgU(b:Expr):Prop:=∀o i,subscripted b false o i=operate [o,i] (getItem o i)
def IxR(X:Cx)(r:R2):Prop :=
 ∀(value slice:Expr) (pins:List (Addr×Obj)) (s:Shared) (σ:St) (H:Hp) (x y:V) (v u:Value) (Q:VK),Inv X pins σ H s->Zo x v->Zo y u->r x y H Q ->
  subscripted slice false v u=operate [v,u] (getItem v u)->wpAny (model X.prog X.w) X.A (subscriptTail value slice v u) (EP X pins σ Q) X.xe s
def MtR(X:Cx)(id:String)(r:V->List V->Hp->VK->Prop):Prop :=
 ∀(pins:List (Addr×Obj)) (s:Shared) (σ:St) (H:Hp) (x:V) (xs:List V) (v:Value) (us:List Value) (Q:VK),Inv X pins σ H s->Zo x v->Zg xs us->r x xs H Q ->
  wpAny (model X.prog X.w) X.A (call (.builtin id) (v::us)) (EP X pins σ Q) X.xe s
section
variable {X:Cx}{a b:Expr}{ta tb:TE}{pos:Pos}
theorem zU{r:R2}(hr:IxR X r)(ha:PE X a ta)(hb:PE X b tb)(hs:zgU b):PE X (.Subscript a b pos) (tOp r ta tb):=by
 intro pins s σ H Q I h;exact Subscript_ (ziZ ha hb I h λv u s2 x y H2 I2 rx ry q=>hr a b pins s2 σ H2 x y v u Q I2 rx ry q (hs _ _))
def zcc(K:PySem.W.Frag):R2:=λx y H Q=>∃p xs i v,x=.ref p/\y=.int i/\SqL K H p xs/\atI xs i=some v/\Q v H
def zia(K:PySem.W.Frag):R2:=λx y H Q=>∃p xs i v,x=.ref p/\y=.int i/\SqT K H p xs/\atI xs i=some v/\Q v H
def zjE:R2:=λx y H Q=>∃z i c,x=.str z/\y=.int i/\z.length<=sizeLine/\atI z.cps.toList i=some c/\Q (.str ⟨#[c]⟩) H
theorem zA:IxR X (zcc X.K):=by
 intro value slice pins s σ H x y v u Q I rx ry h hs;obtain⟨p,xs,i,z,rfl,rfl,hq,he,q⟩:=h;cases rx;obtain⟨t,rfl⟩:=ry;obtain⟨its,r,pl,hz⟩:=I.list hq;obtain⟨j,h1,h2,h3,h4,h5⟩:=zdZ he;obtain⟨w,ew,rw'⟩:=r.get h2;have hl:=r.length;have hn:=Wo;have fin:EP X pins σ Q w s:=⟨z,H,I,rw',q⟩
 by_cases h0:0<=i
 ·have hj:i.toNat=j:=by
   rw[seqIndex_of h0 h5] at h1;exact Option.some.inj h1
  exact item_listR pl.isList h0 (by omega) (by rw[hj];simpa using ew) fin hs
 ·have hj:(i+(its.toArray.size:Int)).toNat=j:=by
   rw[seqIndex_neg (by omega) h4] at h1
   rw[List.size_toArray,<-hl];exact Option.some.inj h1
  exact subscriptTail_builtinR (x:=w) pl.isList.typeIs slot_list_getitem.lookup
   (wpAny_getItem_list_neg (Q:=λr s'=>r=w/\EP X pins σ Q r s') pl.isList (by omega) (by rw[List.size_toArray] <;> omega) (by omega) (by rw[hj];simpa using ew) ⟨rfl,fin⟩) hs
theorem Ye:IxR X (zia X.K):=by
 intro value slice pins s σ H x y v u Q I rx ry h hs;obtain⟨p,xs,i,z,rfl,rfl,hq,he,q⟩:=h;cases rx;obtain⟨t,rfl⟩:=ry;obtain⟨its,r,pl,hz⟩:=I.tuple hq;obtain⟨j,h1,h2,h3,h4,h5⟩:=zdZ he;obtain⟨w,ew,rw'⟩:=r.get h2;have hl:=r.length;have hn:=Wo;have fin:EP X pins σ Q w s:=⟨z,H,I,rw',q⟩
 exact subscriptTail_builtinR (x:=w) pl.typeIs slot_tuple_getitem.lookup
  (getItem_tuple (j:=j) (Q:=λr s'=>r=w/\EP X pins σ Q r s') pl (by omega) (by omega) (by rw[List.size_toArray,<-hl];exact h1) (by simpa using ew) ⟨rfl,fin⟩) hs
def rIx(K:PySem.W.Frag):R2:=λx y H Q=>zcc K x y H Q\/zia K x y H Q\/zjE x y H Q
theorem zbO(its:List Value)(n j:Nat)(u:Value):Obj.mapSeq (·.setIfInBounds j u) { cls:=.type "list",data:=.seq its.toArray n }={ cls:=.type "list",data:=.seq (its.set j u).toArray n }:=by
 simp[Obj.mapSeq]
theorem Inv.lst{pins:List (Addr×Obj)}{σ:St}{H:Hp}{s:Shared}{p:Addr}{xs:List V}(I:Inv X pins σ H s)(h:H p=some (.lst xs)) :
  ∃(its:List Value) (n:Nat),Zg xs its/\s.heap.get? p=some { cls:=.type "list",data:=.seq its.toArray n }/\xs.length<=sizeLine:=by
 obtain⟨z,its,n,r,e⟩:=I.hok p _ h;exact⟨its,n,r,e,z⟩
theorem Inv.lstUpd{pins:List (Addr×Obj)}{σ:St}{H:Hp}{s:Shared}{p:Addr}{xs ys:List V}{its its':List Value}{n n':Nat}{f:Obj->Obj}(I:Inv X pins σ H s)(h:H p=some (.lst xs))
  (ho:s.heap.get? p=some { cls:=.type "list",data:=.seq its.toArray n }) (hf:f { cls:=.type "list",data:=.seq its.toArray n }={ cls:=.type "list",data:=.seq its'.toArray n' }) (r:Zg ys its') (hz:ys.length<=sizeLine) (t:Nat) :
  Inv X pins σ (upd H p (.lst ys)) { s with heap:=s.heap.update p f,toks:=t }:=by
 have e:(s.heap.update p f).get? p=some { cls:=.type "list",data:=.seq its'.toArray n' }:=by
  rw[Heap.get?_update_self f ho (by rw[hf] <;> rfl),hf]
 refine I.write (x:=p) (e:=p) (by rw[h];trivial) (.inl rfl) (λb u hb q=>(Heap.get?_update_other _ _ (Ne.symm hb)).trans q) ⟨_,e⟩ ?_
 exact⟨hz,its',n',r,e⟩
def ziB:V->V->V->Hp->(Hp->Prop)->Prop:=λo i v H Q=>∃p xs k j,o=.ref p/\i=.int k/\H p=some (.lst xs)/\ixN xs.length k=some j/\Q (upd H p (.lst (xs.set j v)))
theorem Y9:zjo X ziB:=by
 intro pins s σ H o i v ov iv u Q I ro ri rv h;obtain⟨p,xs,k,j,rfl,rfl,hp,hj,q⟩:=h;cases ro;obtain⟨t,rfl⟩:=ri;obtain⟨its,n,r,ho,hz⟩:=I.lst hp;obtain⟨h1,h2,h3,h4⟩:=zat hj;have hl:=r.length;have hn:=Wo
 have I':Inv X pins σ (upd H p (.lst (xs.set j v))) { s with heap:=s.heap.update p (Obj.mapSeq (·.setIfInBounds j u)) } :=
  I.lstUpd hp ho (zbO its n j u) (r.set rv j) (by rw[List.length_set];exact hz) s.toks
 by_cases h0:0<=k
 ·have hk:k.toNat=j:=by
   rw[seqIndex_of h0 h4] at h1;exact Option.some.inj h1
  exact PySem.W.ki_setAt ho h0 (by omega) (by rw[List.size_toArray,<-hl];exact h4) (by rw[hk];exact⟨_,I',q⟩)
 ·have hk:(k+(its.toArray.size:Int)).toNat=j:=by
   rw[seqIndex_neg (by omega) h3] at h1
   rw[List.size_toArray,<-hl];exact Option.some.inj h1
  exact PySem.W.ki_setBack ho (by omega) (by rw[List.size_toArray,<-hl];exact h3) (by omega) (by rw[hk];exact⟨_,I',q⟩)
theorem wS(lo hi:Option Int)(n:Nat):(sliceBounds lo hi none n).1=((HT.sIx n 0 lo:Nat):Int)/\(sliceBounds lo hi none n).2.1=((HT.sIx n n hi:Nat):Int)/\(sliceBounds lo hi none n).2.2=1:=by
 refine⟨?_,?_,rfl⟩
 ·cases lo with
  | none=>simp[sliceBounds,HT.sIx]
  | some i =>
   simp only[sliceBounds,HT.sIx,Option.getD_none,show (1:Int) > 0 by decide,if_true]
   by_cases h:i<0
   ·simp only[h,if_true] <;> omega
   ·simp only[h,if_false] <;> omega
 ·cases hi with
  | none=>simp[sliceBounds,HT.sIx]
  | some i =>
   simp only[sliceBounds,HT.sIx,Option.getD_none,show (1:Int) > 0 by decide,if_true]
   by_cases h:i<0
   ·simp only[h,if_true] <;> omega
   ·simp only[h,if_false] <;> omega
theorem JW(its:List Value)(lo hi:Option Int):slicePick its.toArray lo hi none=((its.drop (HT.sIx its.length 0 lo)).take (HT.sIx its.length its.length hi-HT.sIx its.length 0 lo)).toArray:=by
 obtain⟨h1,h2,h3⟩:=wS lo hi its.toArray.size;unfold slicePick;rw[h1,h2,h3]
 simp only[sliceRange_one,pick_run,List.size_toArray] <;> rfl
def zjC(K:PySem.W.Frag):V->Option Int->Option Int->Hp->VK->Prop:=λx lo hi H Q=>∃a xs,x=.ref a/\SqL K H a xs/\∀p,H p=none->Q (.ref p) (upd H p (.lst (zdT xs lo hi)))
theorem JX:SlR X (zjC X.K):=by
 intro pins s σ H x v vl vu lo hi sl Q I rx hs pl pu h;obtain⟨a,xs,rfl,hx,q⟩:=h;cases rx;obtain⟨its,r,ht,hz⟩:=I.list hx;have hlen:=r.length;refine⟨"list",_,slot_list_getitem.lookup,ht.isList.typeIs,?_⟩
 refine wpAny_getItem_list_slice ht.isList hs pl pu .none (by simp) ?_ (by rw[List.size_toArray] <;> omega)
 rw[JW,<-hlen];refine⟨.ref s.heap.objs.size,_,I.laid (t':=s.toks) (o:=.lst (zdT xs lo hi)) (λb ob q=>Heap.get?_push_of_some _ q) (Nat.le_refl _) ?_,rfl,q _ (I.hok.fresh (Nat.le_refl _))⟩;exact⟨Nat.le_trans (zaC xs lo hi) hz,_,0,(r.drop (HT.sIx xs.length 0 lo)).take (HT.sIx xs.length xs.length hi-HT.sIx xs.length 0 lo),Heap.get?_push_size _ rfl⟩
def wA:V->Bool
 | .non=>true
 | .bl _=>true
 | .int _=>true
 | .str _=>true
 | _=>false
def eqV:V->V->Bool
 | .non,.non=>true
 | .bl a,.bl b=>a==b
 | .bl a,.int b=>(if a then 1 else 0)==b
 | .int a,.bl b=>a==(if b then 1 else 0)
 | .int a,.int b=>a==b
 | .str a,.str b=>a==b
 | _,_=>false
theorem zh0{A:Around}{s:Shared}{y x:V}{u v:Value}(ry:Zo y u)(rx:Zo x v)(fy:wA y=true)(fx:wA x=true):SeqAt.EqAt A s u v (eqV y x):=by
 cases y with
 | non =>
  cases ry
  cases x with
  | non=>cases rx;exact SeqAt.EqAt.same _
  | bl b=>cases rx;exact SeqAt.EqAt.none_bool b
  | int b=>obtain⟨t,rfl⟩:=rx;exact SeqAt.EqAt.none_int b t
  | str b=>obtain⟨t,rfl⟩:=rx;exact SeqAt.EqAt.none_str b t
  | _=>exact absurd (show false=true from fx) Bool.false_ne_true
 | bl a =>
  cases ry
  cases x with
  | non=>cases rx;exact SeqAt.EqAt.bool_none a
  | bl b=>cases rx;exact SeqAt.EqAt.bool_bool a b
  | int b=>obtain⟨t,rfl⟩:=rx;exact SeqAt.EqAt.bool_int a b t
  | str b=>obtain⟨t,rfl⟩:=rx;exact SeqAt.EqAt.bool_str a b t
  | _=>exact absurd (show false=true from fx) Bool.false_ne_true
 | int a =>
  obtain⟨t',rfl⟩:=ry
  cases x with
  | non=>cases rx;exact SeqAt.EqAt.int_none a t'
  | bl b=>cases rx;exact SeqAt.EqAt.int_bool a t' b
  | int b=>obtain⟨t,rfl⟩:=rx;exact SeqAt.EqAt.int_int a t' b t
  | str b=>obtain⟨t,rfl⟩:=rx;exact SeqAt.EqAt.int_str a t' b t
  | _=>exact absurd (show false=true from fx) Bool.false_ne_true
 | str a =>
  obtain⟨t',rfl⟩:=ry
  cases x with
  | non=>cases rx;exact SeqAt.EqAt.str_none a t'
  | bl b=>cases rx;exact SeqAt.EqAt.str_bool a t' b
  | int b=>obtain⟨t,rfl⟩:=rx;exact SeqAt.EqAt.str_int a t' b t
  | str b=>obtain⟨t,rfl⟩:=rx;exact SeqAt.EqAt.str_str a t' b t
  | _=>exact absurd (show false=true from fx) Bool.false_ne_true
 | _=>exact absurd (show false=true from fy) Bool.false_ne_true
def eqU(x:V)(u:Value):Bool:=match u with
 | .none=>eqV .non x
 | .bool b=>eqV (.bl b) x
 | .int i _=>eqV (.int i) x
 | .str z _=>eqV (.str z) x
 | _=>false
theorem zfE{x y:V}{u:Value}(r:Zo y u)(f:wA y=true):eqU x u=eqV y x:=by
 cases y with
 | non=>cases r;rfl
 | bl b=>cases r;rfl
 | int i=>obtain⟨t,rfl⟩:=r;rfl
 | str z=>obtain⟨t,rfl⟩:=r;rfl
 | _=>exact absurd (show false=true from f) Bool.false_ne_true
theorem Ja{x:V}:∀{xs:List V} {us:List Value},Zg xs us->xs.all wA=true->us.any (eqU x)=xs.any λy=>eqV y x
 | _,_,.nil,_=>rfl
 | y::xs,u::us,.cons r t,f=>by
  rw[List.all_cons,Bool.and_eq_true] at f;rw[List.any_cons,List.any_cons,zfE r f.1,Ja t f.2]
theorem Qj{A:Around}{s:Shared}{x:V}{v:Value}(rx:Zo x v)(fx:wA x=true):∀{xs:List V} {us:List Value},Zg xs us->xs.all wA=true->∀u∈us,SeqAt.EqAt A s u v (eqU x u)
 | _,_,.nil,_=>λu hu=>by cases hu
 | y::xs,u::us,.cons r t,f=>λu' hu=>by
  rw[List.all_cons,Bool.and_eq_true] at f
  rcases List.mem_cons.mp hu with rfl|hu
  ·rw[zfE r f.1];exact zh0 r rx f.1 fx
  ·exact Qj rx fx t f.2 u' hu
def inV(x:V)(xs:List V):Bool:=xs.any λy=>eqV y x
def rIn(K:PySem.W.Frag)(neg:Bool):R2:=λx y H Q=>∃p xs,y=.ref p/\(SqL K H p xs\/SqT K H p xs)/\wA x=true/\xs.all wA=true/\Q (.bl (if neg then !inV x xs else inV x xs)) H
theorem Z6:OpR X (compareOp .In) (rIn X.K false):=by
 intro pins s σ H x y v u Q I rx ry h;obtain⟨p,xs,rfl,hq,fx,fs,q⟩:=h;cases ry
 rcases hq with hq|hq
 ·obtain⟨its,r,pl,hz⟩:=I.list hq
  refine SeqAt.in_listAt (eqU x) pl.isList (λw hw=>Qj rx fx r fs w (by simpa using hw)) ⟨.bl _,H,I,rfl,?_⟩
  rw[show its.toArray.any (eqU x)=its.any (eqU x) by simp,Ja r fs]
  exact q
 ·obtain⟨its,r,pl,hz⟩:=I.tuple hq
  refine SeqAt.in_tupleAt (eqU x) pl (λw hw=>Qj rx fx r fs w (by simpa using hw)) ⟨.bl _,H,I,rfl,?_⟩
  rw[show its.toArray.any (eqU x)=its.any (eqU x) by simp,Ja r fs]
  exact q
theorem Wg:OpR X (compareOp .NotIn) (rIn X.K true):=by
 intro pins s σ H x y v u Q I rx ry h;obtain⟨p,xs,rfl,hq,fx,fs,q⟩:=h;cases ry
 rcases hq with hq|hq
 ·obtain⟨its,r,pl,hz⟩:=I.list hq
  refine SeqAt.notIn_listAt (eqU x) pl.isList (λw hw=>Qj rx fx r fs w (by simpa using hw)) ⟨.bl _,H,I,rfl,?_⟩
  rw[show its.toArray.any (eqU x)=its.any (eqU x) by simp,Ja r fs]
  exact q
 ·obtain⟨its,r,pl,hz⟩:=I.tuple hq
  refine SeqAt.notIn_tupleAt (eqU x) pl (λw hw=>Qj rx fx r fs w (by simpa using hw)) ⟨.bl _,H,I,rfl,?_⟩
  rw[show its.toArray.any (eqU x)=its.any (eqU x) by simp,Ja r fs]
  exact q
theorem zu:qo X (.builtin "len") (λxs H Q=>∃p ys,xs=[.ref p]/\(SqL X.K H p ys\/SqT X.K H p ys)/\Q (.int ys.length) H):=by
 intro pins s σ H xs us Q I r h;obtain⟨p,ys,rfl,hq,q⟩:=h;obtain⟨u,rfl,rx⟩:=JQ r;cases rx;have hn:=Wo
 rcases hq with hq|hq
 ·obtain⟨its,r',pl,hz⟩:=I.list hq
  have hlen:=r'.length
  exact Calls.call_len_list pl.isList (by simp only[List.size_toArray] <;> omega) ⟨.int ys.length,H,I.tok _,⟨s.toks+1,by rw[List.size_toArray,hlen]⟩,q⟩
 ·obtain⟨its,r',pl,hz⟩:=I.tuple hq
  have hlen:=r'.length
  exact len_tuple pl (by simp only[List.size_toArray] <;> omega) ⟨.int ys.length,H,I.tok _,⟨s.toks+1,by rw[List.size_toArray,hlen]⟩,q⟩
theorem WJ:qo X (.type "list") (λxs H Q=>∃p ys,xs=[.ref p]/\(SqL X.K H p ys\/SqT X.K H p ys)/\∀l,H l=none->Q (.ref l) (upd H l (.lst ys))):=by
 intro pins s σ H xs us Q I r h;obtain⟨p,ys,rfl,hq,q⟩:=h;obtain⟨u,rfl,rx⟩:=JQ r;cases rx
 have fin:∀(its:List Value),Zg ys its->ys.length<=sizeLine->∀(h':Heap) (c':Nat),(∀b o',s.heap.get? b=some o'->h'.get? b=some o') ->
   h'.get? s.heap.objs.size=some { cls:=.type "list",dict:=none,data:=.seq its.toArray c',slots:=#[] }->EP X pins σ Q (.ref s.heap.objs.size) { s with heap:=h' }:=λits r' hz h' c' kp e =>
  ⟨.ref s.heap.objs.size,_,I.laid (t':=s.toks) kp (Nat.le_refl _) (show Zt X.prog X.w _ h' _ (.lst ys) from ⟨hz,its,c',r',e⟩),rfl,q _ (I.hok.fresh (Nat.le_refl _))⟩
 rcases hq with hq|hq
 ·obtain⟨its,r',pl,hz⟩:=I.list hq
  have hlen:=r'.length;obtain⟨o,ho,hc,n,hd⟩:=pl.isList
  exact call_list_seq p (.inl rfl) ho hc hd (λh' c' kp e=>fin its r' hz h' c' kp e) (by simp only[List.size_toArray] <;> omega)
 ·obtain⟨its,r',pl,hz⟩:=I.tuple hq
  have hlen:=r'.length;obtain⟨o,ho,hc,n,hd⟩:=pl
  exact call_list_seq p (.inr rfl) ho hc hd (λh' c' kp e=>fin its r' hz h' c' kp e) (by simp only[List.size_toArray] <;> omega)
def tyV(K:PySem.W.Frag)(T:String)(x:V)(H:Hp):Prop:=match x with
 | .str _=>T="str"
 | .int _=>T="int"
 | .ref p=>(T="list"/\∃xs,SqL K H p xs)\/(T="tuple"/\∃o,K.lookup p=some o/\o.cls=.type "tuple"/\o.dict=none) \/
   (T="dict"/\((∃kvs,H p=some (.dK kvs))\/∃kvs,H p=some (.dT kvs)))\/(T="set"/\∃S n,H p=some (.set S n))
 | _=>False
theorem zfm{pins:List (Addr×Obj)}{σ:St}{H:Hp}{s:Shared}{T:String}{x:V}{v:Value}(I:Inv X pins σ H s)(r:Zo x v)(ty:tyV X.K T x H) :
  s.TypeIs v T/\∀a,v=.ref a->∃ob,s.heap.get? a=some ob/\ob.dict=none:=by
 cases x with
 | str z =>
  obtain⟨t,rfl⟩:=r
  cases (show T="str" from ty)
  exact⟨typeIs_str s z t,λ_ e=>nomatch e⟩
 | int i =>
  obtain⟨t,rfl⟩:=r
  cases (show T="int" from ty)
  exact⟨typeIs_int s i t,λ_ e=>nomatch e⟩
 | ref p =>
  cases r
  rcases ty with ⟨rfl,xs,hq⟩|⟨rfl,o,hk,hc,hd⟩|⟨rfl,hk⟩|⟨rfl,S,n,hk⟩
  ·obtain⟨its,_,pl,_⟩:=I.list hq
   refine⟨pl.isList.typeIs,λa e=>?_⟩;cases e;obtain⟨o,n,e,c,hd,_⟩:=pl;exact⟨o,e,hd⟩
  ·refine⟨⟨o,I.kIn p o hk,hc⟩,λa e=>?_⟩
   cases e;exact⟨o,I.kIn _ o hk,hd⟩
  ·have z:∃o,s.heap.get? p=some o/\o.ExactDict:=by
    rcases hk with ⟨kvs,hk⟩|⟨kvs,hk⟩
    ·obtain⟨_,_,_,_,o,_,_,e,ex,_⟩:=I.hok p _ hk
     exact⟨o,e,ex⟩
    ·obtain⟨_,_,_,_,o,_,_,e,ex,_⟩:=I.hok p _ hk
     exact⟨o,e,ex⟩
   obtain⟨o,e,ex⟩:=z;refine⟨⟨o,e,ex.1⟩,λa e2=>?_⟩;cases e2;exact⟨o,e,ex.2.1⟩
  ·obtain⟨o,_,_,_,e,ex,_⟩:=I.hok p _ hk
   refine⟨⟨o,e,ex.1⟩,λa e2=>?_⟩;cases e2;exact⟨o,e,ex.2.1⟩
 | _=>exact False.elim ty
def zje(K:PySem.W.Frag)(T:String)(r:V->List V->Hp->VK->Prop)(to:TE):TE:=λσ H Q=>to σ H λx H1=>tyV K T x H1/\r x [] H1 Q
def tBM(K:PySem.W.Frag)(T:String)(r:V->List V->Hp->VK->Prop)(to:TE)(t:TA):TE:=λσ H Q=>to σ H λx H1=>tyV K T x H1/\t σ H1 λxs H2=>r x xs H2 Q
variable {o e:Expr}{es:List Expr}{to:TE}{t:TA}{name:Str}{apos cpos:Pos}{T id:String}{r:V->List V->Hp->VK->Prop}
theorem zhA(pa:PlainAttrs T)(slot:Slot T name id)(hty:typeOf (.builtin id)=pure (.type "method_descriptor"))(hm:MtR X id r)(ho:PE X o to)
  (hbase:attributeBase o name X.env (eval o X.env)=eval o X.env:=by rfl) (hline:(apos.endLine==cpos.line)=true:=by rfl):PE X (.Call (.Attribute o name apos) [] [] cpos) (zje X.K T r to):=by
 intro pins s σ H Q I h;refine wpAny_Call_method0_late hbase hline (thn (ho pins s σ H _ I h) λv s1 ⟨x,H1,I1,r1,ty,q1⟩=>?_);obtain⟨h1,h2⟩:=zfm I1 r1 ty;exact⟨T,id,pa,slot,hty,h1,h2,Calls.callWith_builtin rfl (PySem.evalArgs_none (hm pins s1 σ H1 x [] v [] Q I1 r1 .nil q1))⟩
theorem YI(pa:PlainAttrs T)(slot:Slot T name id)(hty:typeOf (.builtin id)=pure (.type "method_descriptor"))(hm:MtR X id r)(ho:PE X o to)(ha:PA X (e::es) t)
  (hbase:attributeBase o name X.env (eval o X.env)=eval o X.env:=by rfl)
  (hfew:((backTo cpos (starEach (e::es) X.env)).all (λx=>!x.1)&&(backToKw cpos (keywordEach [] X.env)).all (λx=>x.1.isSome)
   && decide ((e::es).length+([]:List Keyword).length+(if ([]:List Keyword).isEmpty then 0 else 1)<30))=true:=by rfl)
  (hline:(apos.endLine==cpos.line)=true:=by rfl) (hs:starEach (e::es) X.env=(false,eval e X.env)::starEach es X.env:=by rfl) (hplain:(backTo cpos (starEach es X.env)).any (·.1)=false:=by rfl) :
  PE X (.Call (.Attribute o name apos) (e::es) [] cpos) (tBM X.K T r to t):=by
 intro pins s σ H Q I h;refine wpAny_Call_method_late hbase hfew hline rfl (thn (ho pins s σ H _ I h) λv s1 ⟨x,H1,I1,r1,ty,q1⟩=>?_);obtain⟨h1,h2⟩:=zfm I1 r1 ty;refine⟨T,id,pa,slot,hty,h1,h2,?_⟩;have hA:=ha cpos pins s1 σ H1 _ I1 q1;rw[hs] at hA ⊢
 refine Calls.callWith_builtin (by show (false||(backTo cpos (starEach es X.env)).any (·.1))=false;rw[hplain] <;> rfl) (Calls.evalArgs_plain ?_)
 exact thn hA λus s2 ⟨vs,H2,I2,r2,q2⟩=>hm pins s2 σ H2 x vs v us Q I2 r1 r2 q2
end
end L2
namespace L2
open PySem PySem.Spec PyProof.Rows
def MtM(X:Cx)(id:String)(r:V->List V->Hp->VK->Prop):Prop :=
 ∀(pins:List (Addr×Obj)) (s:Shared) (σ:St) (H:Hp) (x:V) (xs:List V) (v:Value) (us:List Value) (Q:VK),Inv X pins σ H s->Zo x v->Zg xs us->r x xs H Q ->
  wpAny (model X.prog X.w) X.A (call (.builtin id) (v::us)) (EP X pins σ Q) X.xe s
theorem Zg.one:∀{x:V} {us:List Value},Zg [x] us->∃u,us=[u]/\Zo x u
 | _,_,.cons r .nil=>⟨_,rfl,r⟩
theorem Zg.zero:∀{us:List Value},Zg [] us->us=[]
 | _,.nil=>rfl
theorem Zg.dropLast{xs:List V}{us:List Value}(h:Zg xs us):Zg xs.dropLast us.dropLast:=by
 induction h with
 | nil=>exact .nil
 | cons r t ih =>
  cases t with
  | nil=>exact .nil
  | cons q t'=>exact .cons r ih
theorem Zg.eraseIdx:∀{xs:List V} {us:List Value} (i:Nat),Zg xs us->Zg (xs.eraseIdx i) (us.eraseIdx i)
 | _,_,_,.nil=>.nil
 | _,_,0,.cons _ t=>t
 | _,_,i+1,.cons r t=>.cons r (Zg.eraseIdx i t)
theorem zgY{α:Type}(l:List α):l.eraseIdx (l.length-1)=l.dropLast:=by
 induction l with
 | nil=>rfl
 | cons a r ih =>
  cases r with
  | nil=>rfl
  | cons b r =>
   have e:(a::b::r).length-1=((b::r).length-1)+1:=by
    have h1:(a::b::r).length=r.length+2:=rfl;have h2:(b::r).length=r.length+1:=rfl;omega
   rw[e,List.eraseIdx_cons_succ,ih]
   all_goals rfl
theorem Wr{α:Type}:∀(l:List α) (i:Nat),(l.eraseIdx i).length<=l.length
 | [],_=>Nat.le_refl _
 | _::_,0=>Nat.le_succ _
 | _::r,i+1=>Nat.succ_le_succ (Wr r i)
section
variable {X:Cx}{pins:List (Addr×Obj)}{σ:St}{H:Hp}{s:Shared}{l b:Addr}{xs ys zs:List V}
theorem Inv.lset{its its':List Value}{n:Nat}{f:Array Value->Array Value}{t':Nat}(I:Inv X pins σ H s)(hH:H l=some (.lst xs))
  (e:s.heap.get? l=some { cls:=.type "list",data:=.seq its.toArray n }) (hf:f its.toArray=its'.toArray) (hv:Zg ys its') (hz:ys.length<=sizeLine) :
  Inv X pins σ (upd H l (.lst ys)) { s with heap:=s.heap.update l (Obj.mapSeq f),toks:=t' }:=by
 have q:=PySem.IsL.update e f;rw[hf] at q
 refine I.write (x:=l) (e:=l) (by rw[hH];exact trivial) (.inl rfl) (λb' u hb hu=>(Heap.get?_update_other s.heap (Obj.mapSeq f) (Ne.symm hb)).trans hu) ⟨_,q⟩ ?_
 exact⟨hz,its',_,hv,q⟩
theorem Inv.lnew{its:List Value}{t':Nat}(I:Inv X pins σ H s)(hv:Zg ys its)(hz:ys.length<=sizeLine) :
  Inv X pins σ (upd H s.heap.objs.size (.lst ys)) { s with heap:=s.heap.push { cls:=.type "list",data:=.seq its.toArray },toks:=t' } :=
 I.laid (λ_ _ q=>Heap.get?_push_of_some _ q) (Nat.le_refl _) ⟨hz,its,0,hv,Heap.get?_push_size _ rfl⟩
theorem Inv.fresh(I:Inv X pins σ H s):H s.heap.objs.size=none:=I.hok.fresh (Nat.le_refl _)
theorem Inv.lstM(I:Inv X pins σ H s)(hH:H l=some (.lst xs)):xs.length<=sizeLine/\∃(its:List Value) (n:Nat),Zg xs its/\xs.length=its.length/\s.heap.get? l=some { cls:=.type "list",data:=.seq its.toArray n }:=by
 obtain⟨z,its,n,r,e⟩:=I.hok l _ hH;exact⟨z,its,n,r,r.length,e⟩
theorem zeU{n:Nat}(h:n<=sizeLine):Builtin.List.listTooLong n=false:=by
 unfold Builtin.List.listTooLong
 exact decide_eq_false (by omega)
end
section
variable {X:Cx}
def zgg:V->List V->Hp->VK->Prop:=λx vs H Q=>∃l xs y,x=.ref l/\vs=[y]/\H l=some (.lst xs)/\xs.length<sizeLine/\Q .non (upd H l (.lst (xs++[y])))
theorem ZQ:MtM X "list.append" zgg:=by
 intro pins s σ H x vs v us Q I rx rv h;obtain⟨l,xs,y,rfl,rfl,hH,hz,q⟩:=h;cases rx;obtain⟨u,rfl,ru⟩:=rv.one;obtain⟨z,its,n,r,hl,e⟩:=I.lstM hH
 refine call_meets F.slot_list_append ⟨_,e,rfl⟩ F.entry_list_append (F.args_list_append_2 _ _) (PySem.list_append l its.toArray n u (by rw[List.size_toArray];omega)) ⟨e,?_⟩
 refine⟨.non,_,I.lset (its':=its++[u]) hH e (by simp) (r.append (.cons ru .nil)) ?_,rfl,q⟩
 rw[List.length_append,List.length_singleton];omega
def zgf:V->List V->Hp->VK->Prop:=λx vs H Q=>∃l b xs zs,x=.ref l/\vs=[.ref b]/\H l=some (.lst xs)/\H b=some (.lst zs)/\xs.length+zs.length<=sizeLine/\Q .non (upd H l (.lst (xs++zs)))
theorem jH:MtM X "list.extend" zgf:=by
 intro pins s σ H x vs v us Q I rx rv h;obtain⟨l,b,xs,zs,rfl,rfl,hH,hB,hz,q⟩:=h;cases rx;obtain⟨u,rfl,ru⟩:=rv.one;cases ru;obtain⟨z,its,n,r,hl,e⟩:=I.lstM hH;obtain⟨z2,its2,n2,r2,hl2,e2⟩:=I.lstM hB
 have hsz:its.toArray.size+its2.toArray.size<=sizeLine:=by rw[List.size_toArray,List.size_toArray];omega
 have hlong:¬(!its.toArray.isEmpty&&Builtin.List.listTooLong (its.toArray.size+its2.toArray.size))=true:=by
  rw[zeU hsz,Bool.and_false];exact Bool.false_ne_true
 refine call_meets F.slot_list_extend ⟨_,e,rfl⟩ F.entry_list_extend (F.args_list_extend_2 _ _)
  (AutoSeq1.list_extend_list_list_0 l its.toArray n b its2.toArray n2 hlong (by rw[List.size_toArray];omega) (by omega)) ⟨e,e2,?_⟩
 refine⟨.non,_,I.lset (its':=its++its2) hH e (by simp) (r.append r2) ?_,rfl,q⟩
 rw[List.length_append];omega
def zj8:V->List V->Hp->VK->Prop:=λx vs H Q=>∃l xs y,x=.ref l/\vs=[]/\H l=some (.lst xs)/\xs[xs.length-1]?=some y/\Q y (upd H l (.lst xs.dropLast))
def zhs:V->List V->Hp->VK->Prop:=λx vs H Q=>∃l xs i k y,x=.ref l/\vs=[.int i]/\H l=some (.lst xs)/\-(2 ^ 63)<=i/\i<2 ^ 63/\seqIndex? i xs.length=some k/\xs[k]?=some y/\Q y (upd H l (.lst (xs.eraseIdx k)))
theorem zeY:MtM X "list.pop" zhs:=by
 intro pins s σ H x vs v us Q I rx rv h;obtain⟨l,xs,i,k,y,rfl,rfl,hH,h1,h2,hk,hy,q⟩:=h;cases rx;obtain⟨u,rfl,ru⟩:=rv.one;obtain⟨t,rfl⟩:=ru;obtain⟨z,its,n,r,hl,e⟩:=I.lstM hH;obtain⟨w,hw,rw'⟩:=r.get hy
 refine call_meets F.slot_list_pop ⟨_,e,rfl⟩ F.entry_list_pop (F.args_list_pop_2 _ _)
  (MeetsSeq.list_pop_at l its.toArray n i t k w (fitsIndex_both h1 h2) (by rw[List.size_toArray,<-hl];exact hk) (by rw[<-Array.getElem?_toList];exact hw) (by rw[List.size_toArray];omega)) ⟨e,?_⟩
 refine⟨y,_,I.lset (its':=its.eraseIdx k) hH e ?_ (r.eraseIdx k) ?_,rw',q⟩
 ·show its.toArray.eraseIdxIfInBounds k=(its.eraseIdx k).toArray
  rw[List.eraseIdxIfInBounds_toArray]
 ·have:=Wr xs k
  omega
def zh8:V->List V->Hp->VK->Prop:=λx vs H Q=>∃l xs,x=.ref l/\vs=[]/\H l=some (.lst xs)/\Q .non (upd H l (.lst xs.reverse))
def zhv:V->List V->Hp->VK->Prop:=λx vs H Q=>∃l xs,x=.ref l/\vs=[]/\H l=some (.lst xs)/\Q .non (upd H l (.lst []))
theorem zbe:MtM X "list.clear" zhv:=by
 intro pins s σ H x vs v us Q I rx rv h;obtain⟨l,xs,rfl,rfl,hH,q⟩:=h;cases rx;have hus:=rv.zero;subst hus;obtain⟨z,its,n,r,hl,e⟩:=I.lstM hH
 refine call_meets F.slot_list_clear ⟨_,e,rfl⟩ F.entry_list_clear (F.args_list_clear_1 _) (AutoSeq1.list_clear_list_0 l its.toArray n (by rw[List.size_toArray];omega)) ⟨e,?_⟩
 exact⟨.non,_,I.lset (its':=[]) (ys:=[]) hH e rfl .nil (Nat.zero_le _),rfl,q⟩
def zib:R2:=λx y H Q=>∃l b xs zs,x=.ref l/\y=.ref b/\H l=some (.lst xs)/\H b=some (.lst zs)/\xs.length+zs.length<=sizeLine/\∀p,H p=none->Q (.ref p) (upd H p (.lst (xs++zs)))
theorem Jx:OpR X (binaryOp .Add) zib:=by
 intro pins s σ H x y v u Q I rx ry h;obtain⟨l,b,xs,zs,rfl,rfl,hH,hB,hz,q⟩:=h;cases rx;cases ry;obtain⟨z,its,n,r,hl,e⟩:=I.lstM hH;obtain⟨z2,its2,n2,r2,hl2,e2⟩:=I.lstM hB
 refine PySem.P.add_list e e2 ?_ (by rw[List.size_toArray,List.size_toArray];omega)
 have ea:its.toArray++its2.toArray=(its++its2).toArray:=by simp
 rw[ea]
 exact⟨.ref _,_,I.lnew (t':=s.toks) (r.append r2) (by rw[List.length_append];omega),rfl,q _ I.fresh⟩
def zj7:R2:=λx y H Q=>∃l k xs,x=.ref l/\y=.int k/\H l=some (.lst xs)/\-(2 ^ 63)<=k/\k<2 ^ 63/\xs.length * k.toNat<=sizeLine /\
 ∀p,H p=none->Q (.ref p) (upd H p (.lst (List.replicate k.toNat xs).flatten))
end
section
variable {prog:Program}{w:World}{A:Around}{E:Value->Shared->Prop}{s:Shared}
end
section
variable {X:Cx}
end
end L2
namespace L2
open PySem PySem.Spec PyProof.Rows
section
variable {κ:Type}[DecidableEq κ]
def YD(kvs:List (κ×V))(k:κ):Option V:=(kvs.find? λkv=>decide (kv.1=k)).map (·.2)
def Jd(kvs:List (κ×V))(k:κ)(v:V):List (κ×V) :=
 if (kvs.any λkv=>decide (kv.1=k))=true then kvs.map (λkv=>if kv.1=k then (kv.1,v) else kv) else kvs++[(k,v)]
def zgQ(kvs:List (κ×V))(k:κ):List (κ×V):=kvs.filter λkv=>decide (kv.1≠k)
theorem zeg{k:κ}:YD ([]:List (κ×V)) k=none:=rfl
theorem Z0{p:κ×V}{r:List (κ×V)}{k:κ}(e:p.1=k):YD (p::r) k=some p.2:=by simp[YD,List.find?_cons,e]
theorem Z1{p:κ×V}{r:List (κ×V)}{k:κ}(e:¬p.1=k):YD (p::r) k=YD r k:=by simp[YD,List.find?_cons,e]
theorem Q0(k:κ):∀kvs:List (κ×V),(kvs.any λkv=>decide (kv.1=k))=(YD kvs k).isSome
 | []=>rfl
 | p::r=>by
  rw[List.any_cons]
  by_cases e:p.1=k
  ·simp only[Z0 e,decide_eq_true e,Bool.true_or,Option.isSome_some]
  ·rw[Z1 e,decide_eq_false e,Bool.false_or];exact Q0 k r
theorem zaL(k j:κ)(y:V):∀kvs:List (κ×V),YD (kvs.map λkv=>if kv.1=k then (kv.1,y) else kv) j=(YD kvs j).map λx=>if j=k then y else x
 | []=>rfl
 | p::r=>by
  have ih:=zaL k j y r;rw[List.map_cons]
  by_cases h:p.1=k
  ·rw[if_pos h]
   by_cases e:p.1=j
   ·rw[Z0 (p:=(p.1,y)) e,Z0 e,Option.map_some,if_pos (e.symm.trans h)]
   ·rw[Z1 (p:=(p.1,y)) e,Z1 e,ih]
  ·rw[if_neg h]
   by_cases e:p.1=j
   ·rw[Z0 (p:=p) e,Z0 e,Option.map_some,if_neg (λz=>h (e.trans z))]
   ·rw[Z1 (p:=p) e,Z1 e,ih]
theorem wN(k j:κ)(y:V):∀kvs:List (κ×V),YD kvs k=none->YD (kvs++[(k,y)]) j=if j=k then some y else YD kvs j
 | [],_=>by
  by_cases e:k=j
  ·rw[if_pos e.symm];exact Z0 (p:=(k,y)) e
  ·rw[if_neg (λz=>e z.symm)];exact Z1 (p:=(k,y)) e
 | p::r,hn=>by
  rw[List.cons_append]
  have hk:¬p.1=k:=λz=>by rw[Z0 z] at hn;cases hn
  rw[Z1 hk] at hn;have ih:=wN k j y r hn
  by_cases e:p.1=j
  ·rw[Z0 e,Z0 e,if_neg (λz=>hk (e.trans z))]
  ·rw[Z1 e,Z1 e,ih]
theorem Y7(kvs:List (κ×V))(k j:κ)(y:V):YD (Jd kvs k y) j=if j=k then some y else YD kvs j:=by
 unfold Jd
 by_cases a:(kvs.any λkv=>decide (kv.1=k))=true
 ·rw[if_pos a,zaL]
  rw[Q0] at a
  by_cases e:j=k
  ·obtain⟨x,hx⟩:=Option.isSome_iff_exists.mp a
   rw[if_pos e,e,hx,Option.map_some,if_pos rfl]
  ·rw[if_neg e]
   cases YD kvs j with
   | none=>rfl
   | some x=>rw[Option.map_some,if_neg e]
 ·rw[if_neg a]
  refine wN k j y kvs ?_;rw[Q0] at a
  cases q:YD kvs k with
  | none=>rfl
  | some x=>rw[q] at a;exact(a rfl).elim
theorem ZH(kvs:List (κ×V))(k:κ)(v:V):(Jd kvs k v).length<=kvs.length+1:=by
 unfold Jd;split
 ·rw[List.length_map];omega
 ·rw[List.length_append,List.length_cons,List.length_nil];omega
theorem WS.isSome_eq{o:Option V}{u:Option Value}(r:WS o u):o.isSome=u.isSome:=by
 cases o with
 | none=>cases u with
  | none=>rfl
  | some _=>exact(show False from r).elim
 | some _=>cases u with
  | none=>exact(show False from r).elim
  | some _=>rfl
theorem WS.getD{o:Option V}{u:Option Value}{d:V}{d':Value}(r:WS o u)(rd:Zo d d'):Zo (o.getD d) (u.getD d'):=by
 cases o with
 | none=>cases u with
  | none=>exact rd
  | some _=>exact(show False from r).elim
 | some _=>cases u with
  | none=>exact(show False from r).elim
  | some _=>exact r
theorem KV.val{kvs:List (κ×V)}{vs:List (κ×Value)}(r:KV kvs vs)(k:κ):WS (YD kvs k) (valueAt vs k):=by
 unfold KV at r
 induction r with
 | nil=>exact True.intro
 | @cons p q ps qs h t ih =>
  obtain⟨h1,h2⟩:=h
  by_cases e:p.1=k
  ·have e':q.1=k:=h1.symm.trans e
   have b:valueAt (q::qs) k=some q.2:=by simp[valueAt,List.find?_cons,e']
   rw[Z0 e,b];exact h2
  ·have e':¬q.1=k:=λz=>e (h1.trans z)
   have b:valueAt (q::qs) k=valueAt qs k:=by simp[valueAt,List.find?_cons,e']
   rw[Z1 e,b];exact ih
theorem KV.any{kvs:List (κ×V)}{vs:List (κ×Value)}(r:KV kvs vs)(k:κ):(kvs.any λkv=>decide (kv.1=k))=vs.any λkv=>decide (kv.1=k):=by
 unfold KV at r
 induction r with
 | nil=>rfl
 | cons h t ih=>rw[List.any_cons,List.any_cons,ih,h.1]
theorem KV.repl{kvs:List (κ×V)}{vs:List (κ×Value)}(r:KV kvs vs)(k:κ){y:V}{u:Value}(ry:Zo y u) :
  KV (kvs.map λkv=>if kv.1=k then (kv.1,y) else kv) (vs.map λkv=>if kv.1=k then (kv.1,u) else kv):=by
 unfold KV at r ⊢
 induction r with
 | nil=>exact .nil
 | @cons p q ps qs h t ih =>
  rw[List.map_cons,List.map_cons];refine .cons ?_ ih;obtain⟨h1,h2⟩:=h
  by_cases e:p.1=k
  ·rw[if_pos e,if_pos (h1.symm.trans e)];exact⟨h1,ry⟩
  ·rw[if_neg e,if_neg (λz=>e (h1.trans z))];exact⟨h1,h2⟩
theorem KV.put{kvs:List (κ×V)}{vs:List (κ×Value)}(r:KV kvs vs)(k:κ){y:V}{u:Value}(ry:Zo y u):KV (Jd kvs k y) (stored vs k u):=by
 unfold Jd stored;rw[r.any k]
 by_cases e:(vs.any λkv=>decide (kv.1=k))=true
 ·rw[if_pos e,if_pos e];exact r.repl k ry
 ·rw[if_neg e,if_neg e];exact Paired.snoc r ⟨rfl,ry⟩
theorem KV.length{kvs:List (κ×V)}{vs:List (κ×Value)}(r:KV kvs vs):kvs.length=vs.length:=Paired.length r
end
theorem zbV{P:Program}{w:World}{k:Key}{u:Value}(r:Zo (kV k) u):(ZE P w).is k u=true:=by
 cases k with
 | inl i=>obtain⟨t,e⟩:=(show ∃t,u=Value.int i t from r);subst e;exact zao P w i t
 | inr x=>obtain rfl:=(show u=Value.none from r);exact zan P w
theorem Ww{P:Program}{w:World}:∀{ks:List Key} {us:List Value},Zg (ks.map kV) us->ItemsAre (ZE P w) ks us
 | [],_,r=>by rw[List.map_nil] at r;cases r;exact .nil
 | k::ks,_,r=>by
  rw[List.map_cons] at r
  cases r with
  | cons h t=>exact .cons (zbV h) (Ww t)
abbrev KT(H:Hp):List (List Key×V)->List (List Key×Addr×Value)->Prop:=Paired λp q=>p.1=q.1/\H q.2.1=some (.tup (p.1.map kV))/\Zo p.2 q.2.2
theorem KT.val{H:Hp}{kvs:List (List Key×V)}{xs:List (List Key×Addr×Value)}(r:KT H kvs xs)(k:List Key):WS (YD kvs k) ((atKey xs k).map (·.2)):=by
 induction r with
 | nil=>exact True.intro
 | @cons p q ps qs h t ih =>
  obtain⟨h1,_,h2⟩:=h
  by_cases e:p.1=k
  ·have e':q.1=k:=h1.symm.trans e
   have b:atKey (q::qs) k=some q.2:=by simp[atKey,List.find?_cons,e']
   rw[Z0 e,b];exact h2
  ·have e':¬q.1=k:=λz=>e (h1.trans z)
   have b:atKey (q::qs) k=atKey qs k:=by simp[atKey,List.find?_cons,e']
   rw[Z1 e,b];exact ih
theorem KT.repl{H:Hp}{kvs:List (List Key×V)}{xs:List (List Key×Addr×Value)}(r:KT H kvs xs)(k:List Key){y:V}{u:Value}(ry:Zo y u) :
  KT H (kvs.map λkv=>if kv.1=k then (kv.1,y) else kv) (xs.map (putAt k u)):=by
 induction r with
 | nil=>exact .nil
 | @cons p q ps qs h t ih =>
  rw[List.map_cons,List.map_cons];refine .cons ?_ ih;obtain⟨h1,h2,h3⟩:=h;unfold putAt
  by_cases e:p.1=k
  ·rw[if_pos e,if_pos (h1.symm.trans e)];exact⟨h1,h2,ry⟩
  ·rw[if_neg e,if_neg (λz=>e (h1.trans z))];exact⟨h1,h2,h3⟩
theorem KT.put{H:Hp}{kvs:List (List Key×V)}{xs:List (List Key×Addr×Value)}(r:KT H kvs xs)(k:List Key){b:Addr}{y:V}{u:Value}(hb:H b=some (.tup (k.map kV)))(ry:Zo y u) :
  KT H (Jd kvs k y) (storedH xs k b u):=by
 have e:(kvs.any λkv=>decide (kv.1=k))=(atKey xs k).isSome:=by
  rw[Q0,(r.val k).isSome_eq,Option.isSome_map]
 unfold Jd storedH;rw[e]
 by_cases q:(atKey xs k).isSome=true
 ·rw[if_pos q,if_pos q];exact r.repl k ry
 ·rw[if_neg q,if_neg q];exact Paired.snoc r ⟨rfl,hb,ry⟩
theorem KT.keeps{H H':Hp}{kvs:List (List Key×V)}{xs:List (List Key×Addr×Value)}(r:KT H kvs xs)(ht:∀b ys,H b=some (.tup ys)->H' b=some (.tup ys)):KT H' kvs xs :=
 Paired.mapP r λ_ _ z=>⟨z.1,ht _ _ z.2.1,z.2.2⟩
section
variable {P:Program}{w:World}{H:Hp}{h:Heap}{a:Addr}
theorem zhq{u:HO}(ok:HOk P w H h)(e:Rd H a u):Zt P w H h a u:=e.ok ok
theorem zdL{kvs:List (Key×V)}(ok:HOk P w H h)(e:Rd H a (.dK kvs)):kvs.length<=sizeLine/\(a==sysModules)=false/\∃vs,KV kvs vs/\h.DictOf (ZE P w) a vs :=
 show Zt P w H h a (.dK kvs) from zhq ok e
theorem zh1{kvs:List (Key×V)}(ok:HOk P w H h)(e:H a=some (.dK kvs)):kvs.length<=sizeLine/\(a==sysModules)=false/\∃vs,KV kvs vs/\h.DictOf (ZE P w) a vs:=zdL ok (.inl e)
theorem Wv{ks:List Key}(ok:HOk P w H h)(e:H a=some (.tup (ks.map kV))):(tupleKind (ZE P w)).is h ks a:=by
 obtain⟨_,its,r,o,h1,h2,n,h3⟩:=(show Zt P w H h a (.tup (ks.map kV)) from ok a _ e)
 exact⟨o,its.toArray,n,h1,h2,h3,by simpa using Ww r⟩
theorem zdK{kvs:List (List Key×V)}(ok:HOk P w H h)(e:Rd H a (.dT kvs)):kvs.length<=sizeLine/\(a==sysModules)=false /\
  ∃xs,KT H kvs xs/\h.DictOfH (tupleKind (ZE P w)) a xs:=by
 obtain⟨z,y,xs,r,o,es,ep,h1,h2,h3,h4,h5⟩:=(show Zt P w H h a (.dT kvs) from zhq ok e)
 refine⟨z,y,xs,r,o,es,ep,h1,h2,h3,h4,λx hx=>?_,h5⟩
 have all:∀{l:List (List Key×V)} {m:List (List Key×Addr×Value)},KT H l m->∀x∈m,(tupleKind (ZE P w)).is h x.1 x.2.1:=by
  intro l m q
  induction q with
  | nil=>intro x hx;exact nomatch hx
  | @cons p q ps qs hq t ih =>
   intro x hx
   rcases List.mem_cons.mp hx with e|hx
   ·subst e
    exact Wv ok (by rw[<-hq.1];exact hq.2.1)
   ·exact ih x hx
 exact all r x hx
theorem ziY{kvs:List (List Key×V)}(ok:HOk P w H h)(e:H a=some (.dT kvs)):kvs.length<=sizeLine/\(a==sysModules)=false /\
  ∃xs,KT H kvs xs/\h.DictOfH (tupleKind (ZE P w)) a xs:=zdK ok (.inl e)
end
def wJ(H:Hp)(a:Addr)(y:V)(r:Option V):Prop :=
 (∃kvs k,Rd H a (.dK kvs)/\y=kV k/\r=YD kvs k)\/∃kvs k b,Rd H a (.dT kvs)/\y=.ref b/\H b=some (.tup (k.map kV))/\r=YD kvs k
def zch(H:Hp)(a:Addr)(y v:V)(H':Hp):Prop :=
 (∃kvs k,H a=some (.dK kvs)/\y=kV k/\kvs.length<sizeLine/\H'=upd H a (.dK (Jd kvs k v))) \/
 ∃kvs k b,H a=some (.dT kvs)/\y=.ref b/\H b=some (.tup (k.map kV))/\kvs.length<sizeLine/\H'=upd H a (.dT (Jd kvs k v))
theorem wJ.k{H:Hp}{a:Addr}{kvs:List (Key×V)}{k:Key}(e:H a=some (.dK kvs)):wJ H a (kV k) (YD kvs k):=.inl ⟨kvs,k,.inl e,rfl,rfl⟩
theorem zch.k{H:Hp}{a:Addr}{kvs:List (Key×V)}{k:Key}{v:V}(e:H a=some (.dK kvs))(hl:kvs.length<sizeLine):zch H a (kV k) v (upd H a (.dK (Jd kvs k v))):=.inl ⟨kvs,k,e,rfl,hl,rfl⟩
section
variable {X:Cx}{pins:List (Addr×Obj)}{σ:St}{H:Hp}{s:Shared}{a:Addr}{y v:V}{u r:Value}{o:Option V}{A:Around}{E:Value->Shared->Prop}
theorem Inv.big(I:Inv X pins σ H s):sysModules<s.heap.objs.size:=by
 have h:mainGlobals<s.heap.objs.size:=(I.mod.glob.keeps I.bk).lt
 exact Nat.lt_trans (by decide) h
theorem zjQ{Q:Value->Shared->Prop}(hu:A.units+1<cLine)(I:Inv X pins σ H s)(g:wJ H a y o)(ry:Zo y u)(h:∀s',Inv X pins σ H s'->Q (.bool o.isSome) s') :
  wpAny (model X.prog X.w) A (compareOp .In u (.ref a)) Q E s:=by
 rcases g with ⟨kvs,k,e,ey,l⟩|⟨kvs,k,b,e,ey,eb,l⟩
 ·subst ey
  obtain⟨z,hd,vs,rel,dd⟩:=zdL I.hok e;refine wpAny_in_of (zbV ry) hd dd.mapOf ?_;rw[<-(rel.val k).isSome_eq,<-l];exact h _ (I.tok _)
 ·subst ey
  cases (show u=Value.ref b from ry)
  obtain⟨z,hd,xs,rel,dd⟩:=zdK I.hok e;refine wpAny_in_heap (tupleKind_room_in1 hu) (Wv I.hok eb) hd dd ?_;have q:=(rel.val k).isSome_eq;rw[Option.isSome_map] at q;rw[<-q,<-l];exact h _ (I.tok _)
theorem zgR{Q:Value->Shared->Prop}(hu:A.units+1<cLine)(I:Inv X pins σ H s)(g:wJ H a y o)(ry:Zo y u)(h:∀s',Inv X pins σ H s'->Q (.bool (!o.isSome)) s') :
  wpAny (model X.prog X.w) A (compareOp .NotIn u (.ref a)) Q E s:=by
 rcases g with ⟨kvs,k,e,ey,l⟩|⟨kvs,k,b,e,ey,eb,l⟩
 ·subst ey
  obtain⟨z,hd,vs,rel,dd⟩:=zdL I.hok e;refine wpAny_notIn_of (zbV ry) hd dd.mapOf ?_;rw[<-(rel.val k).isSome_eq,<-l];exact h _ (I.tok _)
 ·subst ey
  cases (show u=Value.ref b from ry)
  obtain⟨z,hd,xs,rel,dd⟩:=zdK I.hok e;refine wpAny_notIn_heap (tupleKind_room_in1 hu) (Wv I.hok eb) hd dd ?_;have q:=(rel.val k).isSome_eq;rw[Option.isSome_map] at q;rw[<-q,<-l];exact h _ (I.tok _)
theorem zaB{h':Heap}{t':Nat}{ob:HO}(I:Inv X pins σ H s)(mu:Mut (H a))(hs:Heap.SameBut a s.heap h')(he:∃q,h'.get? a=some q)(new:Zt X.prog X.w (upd H a ob) h' a ob) :
  Inv X pins σ (upd H a ob) { s with heap:=h',toks:=t' } :=
 I.write (x:=a) (e:=a) mu (.inl rfl) (λb q hb z=>(hs.2 b hb).trans z) he new
theorem zfG{P:Program}{w:World}{H':Hp}{h':Heap}{kvs:List (Key×V)}{vs:List (Key×Value)}(z:kvs.length<=sizeLine)(hd:(a==sysModules)=false)(rel:KV kvs vs)(dd:h'.DictOf (ZE P w) a vs) :
  Zt P w H' h' a (.dK kvs):=⟨z,hd,vs,rel,dd⟩
theorem zdQ{H':Hp}{Q:Unit->Shared->Prop}(hu:A.units+1<cLine)(I:Inv X pins σ H s)(g:zch H a y v H')(ry:Zo y u)(rv:Zo v r)(h:∀s',Inv X pins σ H' s'->Q () s') :
  wpAny (model X.prog X.w) A (setItem (.ref a) u r) Q E s:=by
 rcases g with ⟨kvs,k,e,ey,l,eH⟩|⟨kvs,k,b,e,ey,eb,l,eH⟩
 ·subst ey eH
  obtain⟨z,hd,vs,rel,dd⟩:=zh1 I.hok e
  have hz:vs.length<=sizeLine:=by rw[<-rel.length];exact z
  have hl:(Jd kvs k v).length<=sizeLine:=by have:=ZH kvs k v;omega
  refine wpAny_setItem_pairs (hsz:=hz) (zbV ry) dd λh' dd' hs=>h _ ?_
  have he:∃q,h'.get? a=some q:=let ⟨q,_,_,hq,_⟩:=dd';⟨q,hq⟩
  exact zaB I (by rw[e];exact True.intro) hs he (zfG hl hd (rel.put k rv) dd')
 ·subst ey eH
  cases (show u=Value.ref b from ry)
  obtain⟨z,hd,xs,rel,dd⟩:=ziY I.hok e
  have hz:xs.length<=sizeLine:=by rw[<-Paired.length rel];exact z
  have hl:(Jd kvs k v).length<=sizeLine:=by have:=ZH kvs k v;omega
  refine wpAny_setItem_heap (hsz:=hz) (tupleKind_room_in1 hu) (Wv I.hok eb) dd λh' dd' hs=>h _ ?_;obtain⟨q,es,ep,hq,h2,h3,h4,_,h5⟩:=dd'
  refine zaB I (by rw[e];exact True.intro) hs ⟨q,hq⟩ ⟨hl,hd,_,(rel.put k eb rv).keeps λc ys ec=>?_,q,es,ep,hq,h2,h3,h4,h5⟩
  rw[zq (Wm ec e (λz=>nomatch z))];exact ec
end
section
variable {X:Cx}{pins:List (Addr×Obj)}{σ:St}{H:Hp}{s:Shared}{a:Addr}{kvs:List (Key×V)}{k:Key}{u:Value}{A:Around}{E:Value->Shared->Prop}
end
def zke(i:Expr):Prop:=∀ov iv,subscripted i false ov iv=operate [ov,iv] (getItem ov iv)
def zjw(td ty:TE):TE:=λσ H Q=>td σ H λx H1=>ty σ H1 λy H2=>∃a v,x=.ref a/\wJ H2 a y (some v)/\Q v H2
def zja(ty td:TE):TE:=λσ H Q=>ty σ H λy H1=>td σ H1 λx H2=>∃a o,x=.ref a/\wJ H2 a y o/\Q (.bl o.isSome) H2
def zct(ty td:TE):TE:=λσ H Q=>ty σ H λy H1=>td σ H1 λx H2=>∃a o,x=.ref a/\wJ H2 a y o/\Q (.bl (!o.isSome)) H2
def ziA(td ty tv:TE):TS:=λD σ H=>tv σ H λv H1=>td σ H1 λx H2=>ty σ H2 λy H3=>∃a H4,x=.ref a/\zch H3 a y v H4/\D.nx σ H4
def zjB(td ty tv:TE)(rd:V->V->Hp->VK->Prop):TS:=λD σ H=>td σ H λx H1=>ty σ H1 λy H2=>∃a v,x=.ref a/\wJ H2 a y (some v) /\
 tv σ H2 λy2 H3=>rd v y2 H3 λz H4=>∃H5,zch H4 a y z H5/\D.nx σ H5
def zjA(td ty:TE):TS:=λD σ H=>td σ H λx H1=>ty σ H1 λy H2=>∃a kvs k,x=.ref a/\H2 a=some (.dK kvs)/\y=kV k/\(YD kvs k).isSome=true/\D.nx σ (upd H2 a (.dK (zgQ kvs k)))
section
variable {X:Cx}{o i e value:Expr}{pos pos' tpos:Pos}{td ty tv:TE}
theorem za6(hu:X.A.units+1<cLine)(hi:PE X i ty)(ho:PE X o td):PC X .In i o (zja ty td):=by
 intro pins s σ H Q I h;refine thn (hi pins s σ H _ I h) λiv s1 ⟨y,H1,I1,ry,q1⟩=>thn (ho pins s1 σ H1 _ I1 q1) λu s2 ⟨x,H2,I2,rx,a,ov,ex,g,q2⟩=>?_;subst ex;obtain rfl:u=Value.ref a:=rx;exact zjQ hu I2 g ry λs3 I3=>⟨.bl ov.isSome,H2,I3,rfl,q2⟩
theorem zc1(hu:X.A.units+1<cLine)(hi:PE X i ty)(ho:PE X o td):PC X .NotIn i o (zct ty td):=by
 intro pins s σ H Q I h;refine thn (hi pins s σ H _ I h) λiv s1 ⟨y,H1,I1,ry,q1⟩=>thn (ho pins s1 σ H1 _ I1 q1) λu s2 ⟨x,H2,I2,rx,a,ov,ex,g,q2⟩=>?_;subst ex;obtain rfl:u=Value.ref a:=rx;exact zgR hu I2 g ry λs3 I3=>⟨.bl (!ov.isSome),H2,I3,rfl,q2⟩
theorem jw(hu:X.A.units+1<cLine)(ho:PE X o td)(hi:PE X i ty)(hv:PE X value tv)(hs:swapsWith value (some (.Subscript o i pos')) pos.line X.env=pure false) :
  PS X (.Assign [.Subscript o i pos'] value pos) (ziA td ty tv):=by
 intro pins s σ H D I h;refine wpAny_Assign_Subscript (thn (hv pins s σ H _ I h) λr s1 ⟨v,H1,I1,rv,q1⟩=>thn (ho pins s1 σ H1 _ I1 q1) λu s2 ⟨x,H2,I2,rx,q2⟩=>thn (hi pins s2 σ H2 _ I2 q2) λiv s3 ⟨y,H3,I3,ry,a,H4,ex,g,q3⟩=>?_) hs;subst ex;obtain rfl:u=Value.ref a:=rx;exact zdQ hu I3 g ry rv λs4 I4=>⟨σ,H4,I4,q3⟩
end
theorem zbl{P:Program}{w:World}{H:Hp}(h:Heap)(hb:sysModules<h.objs.size):Zt P w H (h.push { cls:=.type "dict",data:=.dict #[] }) h.objs.size (.dK []) :=
 ⟨Nat.zero_le _,beq_eq_false_iff_ne.mpr (Ne.symm (Nat.ne_of_lt hb)),[],.nil,Heap.DictOf.new h⟩
def zha:TE:=λ_ H Q=>∀p,H p=none->Q (.ref p) (upd H p (.dK []))
def zi9:TE:=λ_ H Q=>∀p,H p=none->Q (.ref p) (upd H p (.dT []))
section
variable {X:Cx}{pos:Pos}
theorem Q9:PE X (.Dict [] [] pos) zha:=λpins s σ H Q I h =>
 wpAny_Dict_empty ⟨.ref s.heap.objs.size,_,I.laid (a:=s.heap.objs.size) (o:=.dK []) (t':=s.toks) (λ_ _ q=>Heap.get?_push_of_some _ q) (Nat.le_refl _) (zbl s.heap I.big),rfl,h _ (I.hok.fresh (Nat.le_refl _))⟩
end
def zcs:List (TE×TE)->St->Hp->(List (V×V)->Hp->Prop)->Prop
 | [],_,H,Q=>Q [] H
 | (tk,tv)::r,σ,H,Q=>tk σ H λx H1=>tv σ H1 λy H2=>zcs r σ H2 λps H3=>Q ((x,y)::ps) H3
abbrev VV:List (V×V)->List (Value×Value)->Prop:=Paired λp q=>Zo p.1 q.1/\Zo p.2 q.2
def PPs(X:Cx)(pos:Pos)(keys:List (Option Expr))(values:List Expr)(trs:List (TE×TE)):Prop :=
 ∀(pins:List (Addr×Obj)) (s:Shared) (σ:St) (H:Hp) (Q:List (V×V)->Hp->Prop),Inv X pins σ H s->zcs trs σ H Q ->
  wpAny (model X.prog X.w) X.A (evalPairs (pairTrees keys values X.env pos)) (λvs s'=>∃ps H',Inv X pins σ H' s'/\VV ps vs/\Q ps H') X.xe s
theorem zgj{X:Cx}{pos:Pos}:PPs X pos [] [] []:=λpins s σ H Q I h=>pairTrees_nil_walk ⟨[],H,I,.nil,h⟩
theorem zeA{X:Cx}{pos:Pos}{k v:Expr}{ks:List (Option Expr)}{vs:List Expr}{tk tv:TE}{trs:List (TE×TE)}(hk:PE X k tk)(hv:PE X v tv)(hr:PPs X pos ks vs trs) :
  PPs X pos (some k::ks) (v::vs) ((tk,tv)::trs):=λpins s σ H Q I h =>
 pairTrees_cons_walk (thn (hk pins s σ H _ I h) λu s1 ⟨x,H1,I1,rx,q1⟩=>thn (hv pins s1 σ H1 _ I1 q1) λw2 s2 ⟨y,H2,I2,ry,q2⟩ =>
  thn (hr pins s2 σ H2 _ I2 q2) λws s3 ⟨ps,H3,I3,rel,q3⟩=>⟨(x,y)::ps,H3,I3,.cons ⟨rx,ry⟩ rel,q3⟩)
def JC(kvs more:List (Key×V)):List (Key×V):=more.foldl (λacc kv=>Jd acc kv.1 kv.2) kvs
theorem KV.merge:∀{more:List (Key×V)} {rs:List (Key×Value)} {kvs:List (Key×V)} {vs:List (Key×Value)},KV more rs->KV kvs vs->KV (JC kvs more) (merged vs rs):=by
 intro more rs kvs vs r;unfold KV at r
 induction r generalizing kvs vs with
 | nil=>intro q;exact q
 | @cons p q ps qs h t ih =>
  intro r0
  have e:KV (Jd kvs p.1 p.2) (stored vs q.1 q.2):=by
   have:=r0.put p.1 h.2;rw[<-h.1];exact this
  exact ih e
theorem Ql:∀(more kvs:List (Key×V)),(JC kvs more).length<=kvs.length+more.length
 | [],kvs=>by show kvs.length<=kvs.length+0;omega
 | p::r,kvs=>by
  have h1:=Ql r (Jd kvs p.1 p.2);have h2:=ZH kvs p.1 p.2;show (JC (Jd kvs p.1 p.2) r).length<=_;rw[List.length_cons];omega
theorem JK{P:Program}{w:World}:∀{kvs:List (Key×V)} {ws:List (Value×Value)},VV (kvs.map λkv=>(kV kv.1,kv.2)) ws->∃rs,Carries (ZE P w) ws rs/\KV kvs rs
 | [],_,r=>by rw[List.map_nil] at r;cases r;exact⟨[],True.intro,.nil⟩
 | p::kvs,_,r=>by
  rw[List.map_cons] at r
  cases r with
  | @cons a b as bs h t =>
   obtain⟨rs,c,q⟩:=JK (P:=P) (w:=w) t;obtain⟨b1,b2⟩:=b;exact⟨(p.1,b2)::rs,⟨zbV h.1,rfl,c⟩,.cons ⟨rfl,h.2⟩ q⟩
def ziu(trs:List (TE×TE)):TE:=λσ H Q=>∀p,H p=none->zcs trs σ (upd H p (.dK [])) λps H2=>H2 p=some (.dK [])/\∃kvs:List (Key×V),ps=kvs.map (λkv=>(kV kv.1,kv.2))/\kvs.length<=15/\Q (.ref p) (upd H2 p (.dK (JC [] kvs)))
theorem zgn{X:Cx}{pos:Pos}{keys:List (Option Expr)}{values:List Expr}{trs:List (TE×TE)}(h:PPs X pos keys values trs)(hall:keys.all (·.isSome)=true)(hl:keys.length=values.length)(h0:keys≠[])
  (h15:keys.length<=15):PE X (.Dict keys values pos) (ziu trs):=by
 intro pins s σ H Q I q;have hn:=I.hok.fresh (Nat.le_refl s.heap.objs.size);have I1:=I.laid (a:=s.heap.objs.size) (o:=.dK []) (h':=s.heap.push { cls:=.type "dict",data:=.dict #[] }) (t':=s.toks) (λ_ _ q=>Heap.get?_push_of_some _ q) (Nat.le_refl _) (zbl s.heap I.big);refine wpAny_Dict_walk (knd:=ZE X.prog X.w) hall hl h0 h15 (thn (h pins _ σ _ _ I1 (q _ hn)) λws s2 ⟨ps,H2,I2,rel,e,kvs,ep,lk,q2⟩=>?_);subst ep;obtain⟨rs,c,rk⟩:=JK (P:=X.prog) (w:=X.w) rel;obtain⟨z,hd,vs0,r0,dd⟩:=zh1 I2.hok e;cases r0;refine⟨rs,c,dd,λh' dd' hs=>⟨.ref s.heap.objs.size,_,?_,rfl,q2⟩⟩
 have hz:(JC [] kvs).length<=sizeLine:=by
  have h1:=Ql kvs [];rw[List.length_nil] at h1;rw[sizeLine_eq];omega
 have he:∃q,h'.get? s.heap.objs.size=some q:=let ⟨q,_,_,hq,_⟩:=dd';⟨q,hq⟩
 exact zaB I2 (by rw[e];exact True.intro) hs he (zfG hz hd (rk.merge .nil) dd')
structure M1(X:Cx)(o:Expr)(m:Str)(apos:Pos)(e:Expr)(cpos:Pos):Prop where
 base:attributeBase o m X.env (eval o X.env)=eval o X.env
 few:((backTo cpos (starEach [e] X.env)).all (λx=>!x.1)&&(backToKw cpos (keywordEach [] X.env)).all (λx=>x.1.isSome)
  && decide (([e]:List Expr).length+([]:List Keyword).length+(if ([]:List Keyword).isEmpty then 0 else 1)<30))=true
 line:(apos.endLine==cpos.line)=true
 trees:backTo cpos (starEach [e] X.env)=[(false,eval e X.env)]
structure M2(X:Cx)(o:Expr)(m:Str)(apos:Pos)(e f:Expr)(cpos:Pos):Prop where
 base:attributeBase o m X.env (eval o X.env)=eval o X.env
 few:((backTo cpos (starEach [e,f] X.env)).all (λx=>!x.1)&&(backToKw cpos (keywordEach [] X.env)).all (λx=>x.1.isSome)
  && decide (([e,f]:List Expr).length+([]:List Keyword).length+(if ([]:List Keyword).isEmpty then 0 else 1)<30))=true
 line:(apos.endLine==cpos.line)=true
 trees:backTo cpos (starEach [e,f] X.env)=[(false,eval e X.env),(false,eval f X.env)]
def IsD(H:Hp)(a:Addr):Prop:=(∃kvs,Rd H a (.dK kvs))\/∃kvs,Rd H a (.dT kvs)
theorem zhS{X:Cx}{pins:List (Addr×Obj)}{σ:St}{H:Hp}{s:Shared}{a:Addr}(I:Inv X pins σ H s)(d:IsD H a) :
  s.TypeIs (.ref a) "dict"/\(∀b,Value.ref a=.ref b->∃ob,s.heap.get? b=some ob/\ob.dict=none)/\(a==sysModules)=false:=by
 rcases d with ⟨kvs,e⟩|⟨kvs,e⟩
 ·obtain⟨_,hd,vs,_,dd⟩:=zdL I.hok e
  refine⟨dd.typeIs,λb q=>?_,hd⟩;cases q;obtain⟨ob,_,_,h1,h2,_⟩:=dd;exact⟨ob,h1,h2.2.1⟩
 ·obtain⟨_,hd,xs,_,dd⟩:=zdK I.hok e
  refine⟨dd.typeIs,λb q=>?_,hd⟩;cases q;obtain⟨ob,_,_,h1,h2,_⟩:=dd;exact⟨ob,h1,h2.2.1⟩
section
variable {X:Cx}{pins:List (Addr×Obj)}{σ:St}{H:Hp}{s:Shared}{a:Addr}{y d:V}{u r:Value}{o:Option V}{A:Around}{E:Value->Shared->Prop}
theorem zh2{Q:Value->Shared->Prop}(hu:A.units+1<cLine)(I:Inv X pins σ H s)(g:wJ H a y o)(ry:Zo y u)(h:∀w' s',Inv X pins σ H s'->Zo (o.getD .non) w'->Q w' s') :
  wpAny (model X.prog X.w) A (call (.builtin "dict.get") [.ref a,u]) Q E s:=by
 rcases g with ⟨kvs,k,e,ey,l⟩|⟨kvs,k,b,e,ey,eb,l⟩
 ·subst ey
  obtain⟨z,hd,vs,rel,dd⟩:=zdL I.hok e;refine call_meetsIn PySem.F.slot_dict_get dd.typeIs PySem.F.entry_dict_get (PySem.F.args_dict_get_2 _ _) (meets_dict_get (ZE X.prog X.w) a (zbV ry) hd) ⟨_,dd.mapOf,h _ _ (I.tok _) ?_⟩;rw[l];exact(rel.val k).getD rfl
 ·subst ey
  cases (show u=Value.ref b from ry)
  obtain⟨z,hd,xs,rel,dd⟩:=zdK I.hok e;refine call_meetsIn PySem.F.slot_dict_get dd.typeIs PySem.F.entry_dict_get (PySem.F.args_dict_get_2 _ _) (meetsH_dict_get (tupleKind (ZE X.prog X.w)) a b hd) ⟨tupleKind_room_in1 hu,k,xs,Wv I.hok eb,dd,h _ _ (I.tok _) ?_⟩;rw[l];exact(rel.val k).getD rfl
end
def zhb(td ty:TE):TE:=λσ H Q=>td σ H λx H1=>∃a,x=.ref a/\IsD H1 a/\ty σ H1 λy H2=>∃o,wJ H2 a y o/\Q (o.getD .non) H2
def zjb(td ty tx:TE):TE:=λσ H Q=>td σ H λx H1=>∃a,x=.ref a/\IsD H1 a/\ty σ H1 λy H2=>tx σ H2 λz H3=>∃o,wJ H3 a y o/\Q (o.getD z) H3
def zi8(td ty:TE):TE:=λσ H Q=>td σ H λx H1=>∃a,x=.ref a/\IsD H1 a/\ty σ H1 λy H2=>∃kvs k v,H2 a=some (.dK kvs)/\y=kV k/\YD kvs k=some v/\Q v (upd H2 a (.dK (zgQ kvs k)))
def zi7(td ty tx:TE):TE:=λσ H Q=>td σ H λx H1=>∃a,x=.ref a/\IsD H1 a/\ty σ H1 λy H2=>tx σ H2 λz H3=>∃kvs k,H3 a=some (.dK kvs)/\y=kV k /\
 (∀v,YD kvs k=some v->Q v (upd H3 a (.dK (zgQ kvs k))))/\(YD kvs k=none->Q z H3)
section
variable {X:Cx}{o e f:Expr}{apos cpos:Pos}{td ty tx:TE}
theorem we(hu:X.A.units+1<cLine)(ho:PE X o td)(he:PE X e ty)(m:M1 X o "get" apos e cpos):PE X (.Call (.Attribute o "get" apos) [e] [] cpos) (zhb td ty):=by
 intro pins s σ H Q I h;refine wpAny_Call_method m.base m.few m.line PySem.F.plainAttrs_dict PySem.F.slot_dict_get PySem.F.type_dict_get (thn (ho pins s σ H _ I h) λu s1 ⟨x,H1,I1,rx,a,ex,d,q1⟩=>?_);subst ex;obtain rfl:u=Value.ref a:=rx;obtain⟨t1,t2,_⟩:=zhS I1 d;refine⟨t1,t2,?_⟩;rw[m.trees];refine Calls.callWith_builtin rfl (Calls.evalArgs_plain (Calls.spliced_cons (thn (he pins s1 σ H1 _ I1 q1) λiv s2 ⟨y,H2,I2,ry,ov,g,q2⟩=>Calls.spliced_nil ?_)));exact zh2 hu I2 g ry λw' s3 I3 rw'=>⟨_,H2,I3,rw',q2⟩
end
section
variable {X:Cx}{pins:List (Addr×Obj)}{σ:St}{H:Hp}{s:Shared}{a:Addr}{kvs:List (Key×V)}{A:Around}{E:Value->Shared->Prop}
end
section
variable {X:Cx}{pins:List (Addr×Obj)}{σ:St}{H:Hp}{s:Shared}{a:Addr}{y:V}{u:Value}{A:Around}{E:Value->Shared->Prop}
end
end L2
namespace Att
open PySem PySem.W PySem.Calls PyProof.Rows
theorem jV{P:Params}{h:Heap}:∀(ns:List Int) (vs:List Value),WellAll P h vs (ns.map WData.int)->IntsAre vs ns:=by
 intro ns
 induction ns with
 | nil =>
  intro vs w;rw[List.map_nil] at w;cases w;exact .nil
 | cons n ns ih =>
  intro vs w;rw[List.map_cons] at w
  cases w with
  | cons a b =>
   cases a;exact .cons _ _ (ih _ b)
theorem zcJ{l:OpenLaw}{n:Nat}(hn:l.most=some n){P:Params}{h:Heap}{args:List WData}{vals:List Value}
  (hpre:l.row.toRowW.claim.pre args=true) (hwl:WellAll P h vals args) :
  ∃a vs ns,vals=[Value.ref a]/\args=[WData.list (ns.map WData.int)]/\h.get? a=some { cls:=.type "list",data:=.seq vs.toArray }/\IntsAre vs ns/\ns.length<=n:=by
 have hsh:WShape.hasAll [] args [.list .int]=true:=(pre_splitW hpre).1;have hc:l.pre.holds [] { args:=args }=true:=(pre_splitW hpre).2;obtain⟨d,r,rfl,h1,h2⟩:=hasAllW_cons hsh;obtain rfl:=hasAllW_nil h2;obtain⟨xs,rfl,h3⟩:=hasW_list h1;obtain⟨ns,rfl⟩:=items_int h3
 have hlen:ns.length<=n:=by
  unfold OpenLaw.pre at hc
  have h4:(WTm.not (.lt (.lit (.int (n:Int))) (.len (.arg 0)))).holds [] { args:=[.list (ns.map .int)] }=true:=by
   have h4:=(holds_andW hc).1;rw[hn] at h4;exact h4
  have h5:=condW_of h4 (w_not (w_lt w_lit (w_len_list (w_arg rfl))));rw[List.length_map] at h5;refine Nat.le_of_not_lt λq=>?_
  have q':(n:Int)<((ns.length:Nat):Int):=by omega
  first
   | (rw[decide_eq_true q'] at h5;exact absurd h5 (by decide))
   | (simp at h5;omega)
 cases hwl with
 | cons w1 w2 =>
  cases w2
  cases w1 with
  | list ho hall=>exact⟨_,_,ns,rfl,rfl,ho,jV ns _ hall,hlen⟩
theorem zcU(l:OpenLaw)(args:List WData):l.row.toRowW.claim.post args (.bool true) args=true :=
 postW_of (r:=l.row.toRowW) (X:=(true==true))
  (show WShape.has [] (.bool true) .bool=true by first|rfl|decide|simp[WShape.has,WShape.arms,WShape.armsAll])
  (show (WTm.eq .res (.lit (.bool true))).value [] { args:=args,res:=some (.bool true),after:=args }=some (.bool (true==true)) from w_eq_bool (w_res rfl) w_lit) rfl
theorem zaG{l:OpenLaw}{n:Nat}{q:Program}{loose:List Str}{XP:(Str->Option Value)->Heap->Prop}{YP:World->Heap->Prop}{d:DefRec}
  (hn:l.most=some n) (hdf:d.params.defaults=[])
  (call:∀(w:World) (s₀ s₁:Shared) (mg mb:Str->Option Value) (fa:Addr) (o:Obj) (pm cd doc:Value) (a:Addr) (vs:List Value) (ns:List Int),
   Ground q loose [] XP w s₀ mg mb s₁.heap->YP w s₁.heap ->
   s₁.heap.get? fa=some o->o.data=.func (docDef d.name d.params d.body d.scope pm cd doc)->s₁.heap.CodeRec cd d.name->mg d.name=some (.ref fa) ->
   s₁.heap.get? a=some { cls:=.type "list",data:=.seq vs.toArray }->IntsAre vs ns->ns.length<=n->s₁.gens=#[] ->
   codeAny (model l.prog w) callerA (.call (.ref fa) ⟨[.ref a],[]⟩) (λr s'=>r=.ok (.ret (.bool true))/\OldK s₁.heap s'.heap/\s'.os=s₁.os/\AllBare s'.gens) s₁) :
  WalkO q loose XP YP l.row.toRowW d [] (λf vs=>PySem.call f vs):=by
 intro w s₀ s₁ mg mb G Y fa o pm cd doc dV kV ho hd hcd hD hmg hg args vals as hpre hlay hrd hwl hlo;obtain rfl:dV=.none:=Dflts.none hD hdf;obtain rfl:kV=.none:=Dflts.noKw hD;obtain⟨a,vs,ns,rfl,rfl,hobj,hints,hlen⟩:=zcJ hn hpre hwl;refine enter_call (codeAny_mono (call w s₀ s₁ mg mb fa o pm cd doc a vs ns G Y ho (fd_plain hd) hcd hmg hobj hints hlen hg) λr s' hq=>?_);obtain⟨rfl,h2,h3,h4⟩:=hq;exact⟨.inl ⟨.bool true,.bool true,[],rfl,λ_=>rfl,.bool true,zcU l _,λ_=>⟨List.Pairwise.nil,λ_ hm=>(nomatch hm)⟩⟩,h2,h3,h4⟩
section
variable {prog:Program}{w:World}{A:Around}{E:Value->Shared->Prop}{s:Shared}{K:Frag}
def zji(h:Heap):Heap:={ h with objs:=#[] }
def zjk(h:Heap)(L d:Addr):List (Addr×Obj):=(List.range h.objs.size).filterMap λa=>if a=L\/a=d then none else (h.get? a).map λo=>(a,o)
end
end Att
namespace L2
open PySem PySem.Spec PyProof.Rows
theorem qV:∀{vs:List Value} {ns:List Int},IntsAre vs ns->Zg (ns.map V.int) vs
 | _,_,.nil=>.nil
 | _,_,.cons n t h=>.cons ⟨t,rfl⟩ (qV h)
def zkd(H:Hp):Prop:=∀b,H b=none\/∃o xs,H b=some (.frz o (.lst xs))
end L2
namespace L2
open PySem PySem.Spec PyProof.Rows
abbrev KOf{K:PySem.W.Frag}{h:Heap}(_:K.In h):PySem.W.Frag:=K
end L2
namespace L2
open PySem PySem.Spec PyProof.Rows
def wx(s:Stmt)(j:Nat):Stmt:=match s with
 | .ClassDef _ _ _ body _ _ _ _ _ _ _=>body.getD j (.Pass ⟨0,0,0,0⟩)
 | _=>.Pass ⟨0,0,0,0⟩
def QF(s:Stmt):Arguments:=match s with
 | .FunctionDef _ a _ _ _ _ _ _ _ _=>a
 | _=>{ posonlyargs:=[],args:=[],vararg:=none,kwonlyargs:=[],kw_defaults:=[],kwarg:=none,defaults:=[] }
def yY(s:Stmt):List Stmt:=match s with
 | .FunctionDef _ _ b _ _ _ _ _ _ _=>b
 | _=>[]
def zk(s:Stmt):Scope:=match s with
 | .FunctionDef _ _ _ _ _ _ sc _ _ _=>sc
 | _=>{ kind:=.function,names:=[],isGenerator:=false,isCoroutine:=false }
abbrev CX0:CXT:=λ_ _ _ _ _ _=>False
abbrev E0:XK:=λ_ _ _=>False
theorem zG{X:Cx}:QT CX0 X E0:=λ_ _ _ _ _ _ _ h=>h.elim
structure Fun(K:PySem.W.Frag)(x qual:Str)(st:Stmt)(f:Addr)(fd:FuncData):Prop where
 ex:∃(oc:Value) (od:Option Addr) (kV doc pm:Value) (an:Option Addr) (cdv ct:Value) (osl:Array (Option Value)),
  fd=PySem.W.fnOf x qual (QF st) (yY st) (zk st) .none kV doc pm an cdv ct/\K.lookup f=some ⟨oc,od,.func fd,osl⟩/\PySem.W.codeIn K cdv qual=true
 kp:PySem.W.keepIn K (.ref f)=true
section
variable {P:Program}{w:World}{K:PySem.W.Frag}{mg:Str->Option Value}{base:Heap}
theorem Fun.ok{x qual:Str}{st:Stmt}{f:Addr}{fd:FuncData}{N ps:List Str}{k:Nat}{sp:Sp}(F:Fun K x qual st f fd)(S:FnScope N ps (zk st))(len:∀vs H Q E,sp vs H Q E->vs.length=ps.length)
  (hbody:∀(cdv:Value) (A:Around) (outer:List Env) (s:Shared) (H:Hp) (vs:List V) (Q:VK) (E:XK),Room k (A.deeper (envOfC qual (zk st) s.heap.objs.size f cdv))->sp vs H Q E ->
   ∃t,PSs (zbn CX0 P w K mg base N qual (zk st) f cdv A outer s H E).nox (yY st) t/\t { nx:=λ_ H'=>Q .non H',rt:=Q } (qY N vs) H):FnOk P w K mg base CX0 (k+1) f fd ps sp:=by
 obtain⟨oc,od,kV,doc,pm,an,cdv,ct,osl,rfl,lk,hcd⟩:=F.ex;refine zgM lk hcd S len λA outer s H vs Q E hr hsp=>?_;obtain⟨t,h,q⟩:=hbody cdv A outer s H vs Q E hr hsp;exact⟨t,h.nox,q⟩
theorem Fun.binds{x qual:Str}{st:Stmt}{f:Addr}{fd:FuncData}{ps:List Str}(F:Fun K x qual st f fd)
  (h:∀(kV doc pm:Value) (an:Option Addr) (cdv ct:Value) (us:List Value),us.length=ps.length->bindArgs (PySem.W.fnOf x qual (QF st) (yY st) (zk st) .none kV doc pm an cdv ct) ⟨us,[]⟩=pure (ps.zip us)):qp K fd ps []:=by
 obtain⟨oc,od,kV,doc,pm,an,cdv,ct,osl,rfl,lk,hcd⟩:=F.ex;exact .all (h kV doc pm an cdv ct)
theorem zK{x qual:Str}{st:Stmt}{f:Addr}{oc:Value}{od an:Option Addr}{osl:Array (Option Value)}{kV doc pm cdv ct:Value}(l:K.lookup f=some ⟨oc,od,.func (PySem.W.fnOf x qual (QF st) (yY st) (zk st) .none kV doc pm an cdv ct),osl⟩)
  (c:PySem.W.codeIn K cdv qual=true) (k:PySem.W.keepIn K (.ref f)=true):Fun K x qual st f (PySem.W.fnOf x qual (QF st) (yY st) (zk st) .none kV doc pm an cdv ct):=⟨⟨oc,od,kV,doc,pm,an,cdv,ct,osl,rfl,l,c⟩,k⟩
end
theorem zaw{A:Around}{k:Nat}(hr:Room k A):A.units+1<cLine:=Nat.lt_of_le_of_lt (Nat.add_le_add_left (by decide:1<=64) _) hr.units
theorem zr{n:Nat}(h:n<=1000):n<sizeLine:=Nat.lt_of_le_of_lt h (by decide)
section
variable {X:Cx}
theorem pv(i:Nat){x:Str}{pos:Pos}(hN:X.N[i]?=some x:=by rfl)(hv:Vis X.env.scope x:=by first|exact Or.inl rfl|exact Or.inr (Or.inl rfl)|exact Or.inr (Or.inr rfl))(hd:(x==("__debug__":Str))=false:=by decide)
  (hcd:(x==("__classdict__":Str))=false:=by decide):PE X (.Name x pos) (z7 i):=zfw hN hv hd hcd
end
theorem yp{A B:Prop}(h:B):if false=true then A else B:=by
 rw[if_neg Bool.false_ne_true];exact h
theorem Qt{A B:Prop}(h:A):if true=true then A else B:=by
 rw[if_pos rfl];exact h
def zj(H H':Hp):Prop:=∀b o,H b=some o->H' b=some o
theorem zj.refl(H:Hp):zj H H:=λ_ _ h=>h
theorem zj.trans{H H1 H2:Hp}(a:zj H H1)(b:zj H1 H2):zj H H2:=λc o h=>b c o (a c o h)
theorem zj.free{H H':Hp}(e:zj H H'){l:Addr}(h:H' l=Option.none):H l=Option.none:=by
 cases q:H l with
 | none=>rfl
 | some o =>
  rw[e l o q] at h;cases h
theorem zj.seq{K:PySem.W.Frag}{H H':Hp}{a:Addr}{xs:List V}(e:zj H H')(h:SqL K H a xs):SqL K H' a xs:=by
 rcases h with (h|⟨o,h⟩)|h
 ·exact .inl (.inl (e _ _ h))
 ·exact .inl (.inr ⟨o,e _ _ h⟩)
 ·exact .inr h
end L2
namespace L2
open PySem PySem.Spec PyProof.Rows
section
variable {X:Cx}
end
section
variable {κ:Type}[DecidableEq κ]
end
end L2
namespace TX
open PySem PySem.Spec PyProof.Rows L2
theorem zj.upd{H H':Hp}{l:Addr}{o:HO}(e:zj H H')(h:H l=none):zj H (upd H' l o):=λb u q=>by
 rw[zq (zx q h)];exact e b u q
theorem Zk{H:Hp}{b l:Addr}{o u:HO}(q:H b=some u)(h:H l=none):upd H l o b=some u:=by
 rw[zq (zx q h)];exact q
theorem z8{H:Hp}{b l:Addr}{o:HO}{u:Option HO}(q:H b=u)(h:b≠l):upd H l o b=u:=by
 rw[zq h];exact q
section
variable {X:Cx}{a:Expr}{ta:TA}{p pos:Pos}
def zim(ta:TA):TE:=λσ H Q=>ta σ H λvs H1=>∃j:Int,vs=[.int j]/\∀q,H1 q=none->Q (.ref q) (upd H1 q (.rng 0 j))
theorem yJ(hg:Gl X "range")(hm:X.mg "range"=none)(ha:PA X [a] ta)(hs:starEach [a] X.env=[(false,eval a X.env)]:=by rfl):PE X (.Call (.Name "range" p) [a] [] pos) (zim ta):=by
 intro pins s σ H Q I h;refine Call_ (jQ I hg hm boot_range (PyProof.Rows.callWith_type1 (thn (ha pos pins s σ H _ I h) λus s1 ⟨vs,H1,I1,r1,q1⟩=>?_) hs rfl));obtain⟨j,e,q⟩:=q1;subst e
 cases r1 with
 | cons r rr =>
  cases rr;obtain⟨t,rfl⟩:=r
  exact call_range_1 ⟨.ref s1.heap.objs.size,_,I1.laid (λb o e=>Heap.get?_push_of_some _ e) (Nat.le_refl _) (show Zt X.prog X.w _ _ _ (.rng 0 j) from ⟨_,_,_,Heap.get?_push_size _ rfl⟩),rfl,q _ (I1.hok.fresh (Nat.le_refl _))⟩
def zgb(lo hi:Int):List V:=(List.range (hi-lo).toNat).map λk=>V.int (lo+(k:Nat))
theorem ZC(hc:X.calm=true):qo X (.type "list") (λxs H Q=>∃p lo hi,xs=[.ref p]/\H p=some (.rng lo hi)/\(-(2 ^ 62)<=lo/\lo<2 ^ 62/\-(2 ^ 62)<=hi/\hi<2 ^ 62)/\(hi-lo).toNat<=1000 /\
  ∀l,H l=none->Q (.ref l) (upd H l (.lst (zgb lo hi)))):=by
 intro pins s σ H xs us Q I r h;obtain⟨p,lo,hi,rfl,hp,⟨b1,b2,b3,b4⟩,hn,q⟩:=h;obtain⟨u,rfl,rx⟩:=JQ r;cases rx
 obtain⟨t,u,v,ho⟩:=(show Zt X.prog X.w H s.heap p (.rng lo hi) from I.hok p _ hp)
 have e2:Builtin.Range.rangeSize lo hi 1=(((hi-lo).toNat:Nat):Int):=by rw[rangeSize_one];split <;> omega
 refine zaq (I.hds hc) (show IsRange s.heap p lo hi 1 t u v from ho) (small_one b1 b2 b3 b4) e2 (by omega) λh' tk acc' c' hk hS' hacc=>?_
 refine⟨.ref s.heap.objs.size,_,I.laid (t':=tk) hk (Nat.le_refl _) (show Zt X.prog X.w _ h' _ (.lst (zgb lo hi)) from ⟨?_,acc'.toList,c',?_,by simpa using hS'⟩),rfl,q _ (I.hok.fresh (Nat.le_refl _))⟩
 ·unfold zgb
  rw[List.length_map,List.length_range]
  exact Nat.le_trans hn (by decide)
 ·obtain⟨hsz,hall⟩:=hacc
  have gen:∀(ys:List V) (us:List Value),ys.length=us.length->(∀(j:Nat) y u,ys[j]?=some y->us[j]?=some u->Zo y u)->Zg ys us:=by
   intro ys
   induction ys with
   | nil=>intro us hl _;cases us with|nil=>exact .nil|cons _ _=>cases hl
   | cons y ys ih =>
    intro us hl hr
    cases us with
    | nil=>cases hl
    | cons u us=>exact .cons (hr 0 y u rfl rfl) (ih us (by simpa using hl) λj y' u' e1 e2=>hr (j+1) y' u' (by simpa using e1) (by simpa using e2))
  refine gen _ _ (by unfold zgb;rw[List.length_map,List.length_range,Array.length_toList,hsz]) λj y u e1 e2=>?_
  have e2':acc'[j]?=some u:=by simpa using e2
  obtain⟨t,rfl⟩:=hall j u e2';unfold zgb at e1;rw[List.getElem?_map] at e1
  cases e:(List.range (hi-lo).toNat)[j]? with
  | none=>rw[e] at e1;cases e1
  | some k =>
   rw[e] at e1
   have hk:k=j:=by
    obtain⟨h1,h2⟩:=List.getElem?_eq_some_iff.mp e
    simpa using h2.symm
   subst hk;cases e1
   exact⟨t,by rw[Int.mul_one]⟩
end
section
variable {X:Cx}
def zhu(K:PySem.W.Frag):V->List V->Hp->VK->Prop:=λx vs H Q=>∃(l:Addr) (ns:List Int) (k:Int),x=.ref l/\vs=[.int k]/\SqL K H l (ns.map V.int)/\k∈ns/\ns.length<=1000/\Q (.int (ns.idxOf k:Nat)) H
theorem jb:MtM X "list.index" (zhu X.K):=by
 intro pins s σ H x vs v us Q I rx rv h;obtain⟨l,ns,k,rfl,rfl,hH,hk,hz,q⟩:=h;cases rx;obtain⟨u,rfl,ru⟩:=rv.one;obtain⟨t,rfl⟩:=ru;obtain⟨its,r,p,hz'⟩:=I.list hH;have hi:=QD r;have hlen:=hi.length;obtain⟨⟨cls,dd,data,sl⟩,ho,hc,n,hd⟩:=id p.isList;simp only at hc hd;subst hc hd;have hj:ns.idxOf k<ns.length:=List.idxOf_lt_length_iff.mpr hk
 refine call_meets PySem.F.slot_list_index ⟨_,ho,rfl⟩ PySem.F.entry_list_index (PySem.F.args_list_index_2 _ _)
  (SeqAt.list_indexAt l its.toArray n dd sl (.int k t) (isInt k) (ns.idxOf k) (by simpa [hlen] using hj) (by omega) ?_ ?_) ⟨ho,λy hy=>(eq_isInt k t hi y (by simpa using hy)).at _ _,⟨.int (ns.idxOf k:Nat),H,I.tok _,⟨_,rfl⟩,q⟩⟩
 ·show isInt k its[ns.idxOf k]=true
  rw[isInt_at k hi _ (by omega) hj]
  simpa using List.getElem_idxOf hj
 ·intro j hjs hlt
  show isInt k its[j]=false
  rw[isInt_at k hi j (by simpa using hjs) (by omega)]
  exact ne_of_lt_idxOf hlt _
end
def qG(K:PySem.W.Frag):List V->Hp->VK->Prop:=λxs H Q=>∃(p:Addr) (ys:List V),xs=[.ref p]/\(SqL K H p ys\/SqT K H p ys)/\∀l,H l=none->Q (.ref l) (upd H l (.lst ys))
theorem YA{X:Cx}:qo X (.type "list") (qG X.K):=WJ
section
variable {X:Cx}
def zht(K:PySem.W.Frag):List V->Hp->VK->Prop:=λxs H Q=>∃x c cv t b,xs=[x,c]/\(∀u,Zo c u->u=cv)/\TyOf K H x t/\PySem.W.kitOne K t cv=some b/\Q (.bl b) H
theorem zZ:qo X (.builtin "isinstance") (zht X.K):=by
 intro pins s σ H xs us Q I r h;obtain⟨x,c,cv,t,b,rfl,hc,ty,e,q⟩:=h;obtain⟨u,w,rfl,rx,rc⟩:=zfR r;rw[hc w rc];exact zdB I rx ty e λtk=>⟨.bl b,H,I.tok tk,rfl,q⟩
theorem Z9{n:String}:∀u,Zo (.ty n) u->u=Value.type n:=λ_ h=>h
end
section
variable {X:Cx}
theorem yE{prog:Program}{w:World}{A:Around}{bs:List Bool}{its:List Value}(r:Zg (bs.map V.bl) its):TruthOf prog w A (λi v=>its.toArray[i]?=some v) (λi=>bs.getD i false):=by
 intro i v s Q E hP hQ;have hl:=r.length;rw[List.length_map] at hl
 have hv:its[i]?=some v:=by simpa using hP
 have hi:i<bs.length:=by rw[hl];exact(List.getElem?_eq_some_iff.mp hv).1
 obtain⟨u,hu,ru⟩:=r.get (i:=i) (x:=V.bl bs[i]) (by simp[hi])
 rw[hv] at hu;cases hu
 cases (show v=Value.bool bs[i] from ru)
 have hQ:Q (bs.getD i false) s:=hQ
 rw[show bs.getD i false=bs[i] by simp[List.getD,hi]] at hQ
 exact wpAny_truthy_bool hQ
theorem j9(bs:List Bool):(List.range bs.length).any (λi=>bs.getD i false)=bs.any id:=by
 rw[Bool.eq_iff_iff,List.any_eq_true,List.any_eq_true];constructor
 ·rintro⟨i,hi,e⟩
  have hi':i<bs.length:=by simpa using hi
  refine⟨bs[i],List.getElem_mem hi',?_⟩
  simpa [List.getD,hi'] using e
 ·rintro⟨b,hb,e⟩
  obtain⟨i,hi,rfl⟩:=List.getElem_of_mem hb
  exact⟨i,by simpa using hi,by simpa [List.getD,hi] using e⟩
theorem WR(bs:List Bool):(List.range bs.length).all (λi=>bs.getD i false)=bs.all id:=by
 rw[Bool.eq_iff_iff,List.all_eq_true,List.all_eq_true];constructor
 ·intro h b hb
  obtain⟨i,hi,rfl⟩:=List.getElem_of_mem hb
  simpa [List.getD,hi] using h i (by simpa using hi)
 ·intro h i hi
  have hi':i<bs.length:=by simpa using hi
  simpa [List.getD,hi'] using h bs[i] (List.getElem_mem hi')
theorem wE(hc:X.calm=true):qo X (.builtin "any") (λxs H Q=>∃(p:Addr) (bs:List Bool),xs=[.ref p]/\SqL X.K H p (bs.map V.bl)/\Q (.bl (bs.any id)) H):=by
 intro pins s σ H xs us Q I r h;obtain⟨p,bs,rfl,hq,q⟩:=h;obtain⟨u,rfl,rx⟩:=JQ r;cases rx;obtain⟨its,r',pl,hz⟩:=I.list hq
 have hlt:p<s.heap.objs.size:=by obtain⟨o,e,_⟩:=pl.isList;exact Heap.lt_size e
 have hl:=r'.length;rw[List.length_map] at hl;refine call_any_walk (wpAny_pyIter_list pl.isList ?_)
 rcases I.hds hc with hh|⟨eh,ch,hh,hch,hkk⟩
 ·refine⟨s.heap.objs.size,_,[s.heap.objs.size],_,_,_,λi=>bs.getD i false,rfl,Walks.list (A:=X.A.in1) hh s.heap.objs.size p (Nat.ne_of_lt hlt) its.toArray,⟨⟨_,Heap.get?_push_size _ rfl,rfl,rfl⟩,pl.isList.push _⟩,yE r',λh' tk hk=>?_⟩
  have e:(List.range its.toArray.size).any (λi=>bs.getD i false)=bs.any id:=by
   rw[List.size_toArray,<-hl];exact j9 bs
  rw[e]
  exact⟨.bl _,H,I.kept (t':=tk) λb o eb=>hk b o (by simpa using Nat.ne_of_lt (Heap.lt_size eb)) (Heap.get?_push_of_some _ eb),rfl,q⟩
 ·refine⟨s.heap.objs.size,_,[s.heap.objs.size],_,_,_,λi=>bs.getD i false,rfl,qy (A:=X.A.in1) s.heap.objs.size p eh ch hh hch (λz hp=>Nat.ne_of_lt (Heap.lt_size (hkk z hp))) (Nat.ne_of_lt hlt) its.toArray,⟨⟨_,Heap.get?_push_size _ rfl,rfl,rfl⟩,pl.isList.push _,λz hp=>Heap.get?_push_of_some _ (hkk z hp)⟩,yE r',λh' tk hk=>?_⟩
  have e:(List.range its.toArray.size).any (λi=>bs.getD i false)=bs.any id:=by
   rw[List.size_toArray,<-hl];exact j9 bs
  rw[e]
  exact⟨.bl _,H,I.kept (t':=tk) λb o eb=>hk b o (by simpa using Nat.ne_of_lt (Heap.lt_size eb)) (Heap.get?_push_of_some _ eb),rfl,q⟩
theorem je(hc:X.calm=true):qo X (.builtin "all") (λxs H Q=>∃(p:Addr) (bs:List Bool),xs=[.ref p]/\SqL X.K H p (bs.map V.bl)/\Q (.bl (bs.all id)) H):=by
 intro pins s σ H xs us Q I r h;obtain⟨p,bs,rfl,hq,q⟩:=h;obtain⟨u,rfl,rx⟩:=JQ r;cases rx;obtain⟨its,r',pl,hz⟩:=I.list hq
 have hlt:p<s.heap.objs.size:=by obtain⟨o,e,_⟩:=pl.isList;exact Heap.lt_size e
 have hl:=r'.length;rw[List.length_map] at hl;refine call_all_walk (wpAny_pyIter_list pl.isList ?_)
 rcases I.hds hc with hh|⟨eh,ch,hh,hch,hkk⟩
 ·refine⟨s.heap.objs.size,_,[s.heap.objs.size],_,_,_,λi=>bs.getD i false,rfl,Walks.list (A:=X.A.in1) hh s.heap.objs.size p (Nat.ne_of_lt hlt) its.toArray,⟨⟨_,Heap.get?_push_size _ rfl,rfl,rfl⟩,pl.isList.push _⟩,yE r',λh' tk hk=>?_⟩
  have e:(List.range its.toArray.size).all (λi=>bs.getD i false)=bs.all id:=by
   rw[List.size_toArray,<-hl];exact WR bs
  rw[e]
  exact⟨.bl _,H,I.kept (t':=tk) λb o eb=>hk b o (by simpa using Nat.ne_of_lt (Heap.lt_size eb)) (Heap.get?_push_of_some _ eb),rfl,q⟩
 ·refine⟨s.heap.objs.size,_,[s.heap.objs.size],_,_,_,λi=>bs.getD i false,rfl,qy (A:=X.A.in1) s.heap.objs.size p eh ch hh hch (λz hp=>Nat.ne_of_lt (Heap.lt_size (hkk z hp))) (Nat.ne_of_lt hlt) its.toArray,⟨⟨_,Heap.get?_push_size _ rfl,rfl,rfl⟩,pl.isList.push _,λz hp=>Heap.get?_push_of_some _ (hkk z hp)⟩,yE r',λh' tk hk=>?_⟩
  have e:(List.range its.toArray.size).all (λi=>bs.getD i false)=bs.all id:=by
   rw[List.size_toArray,<-hl];exact WR bs
  rw[e]
  exact⟨.bl _,H,I.kept (t':=tk) λb o eb=>hk b o (by simpa using Nat.ne_of_lt (Heap.lt_size eb)) (Heap.get?_push_of_some _ eb),rfl,q⟩
end
end TX
namespace TX
open PySem
section
variable {prog:Program}{w:World}{A:Around}{E:Value->Shared->Prop}{s:Shared}
theorem QX{it l e:Addr}{i:Nat}{items:Array Value}{pl:List (Addr×Obj)}{Q:Value->Shared->Prop}(hh:A.handled=some (.ref e))(x:Chn e pl)(k:∀p∈pl,s.heap.get? p.1=some p.2/\p.1≠it)
  (ti:s.heap.IsListIter it l i) (tl:s.heap.IsList l items) (hx:items[i]?=none) (q:∀h' x,Heap.ExtBut it s.heap h'->(∃o,h'.get? x=some o/\o.cls=.type "StopIteration")->E (.ref x) { s with heap:=h' }) :
  wpAny (model prog w) A (Builtin.SmallTypes.nextOf (.ref it)) Q E s:=by
 obtain⟨o,ho,hc,hd⟩:=id ti;obtain⟨ol,hol,_,nl,hdl⟩:=tl;unfold Builtin.SmallTypes.nextOf;refine wpAny_bind (wpAny_callSpecial?_slot (name:=Str.ofString "__next__") ti.typeIs slot_listiter_next (wpAny_call_entry slot_listiter_next ti.typeIs entry_listiter_next ?_ (args_listiter_next _)));show wpAny _ _ (field (.ref it) 0>>=_) _ _ _;refine wpAny_bind (wpAny_field ho hd (x:=.ref l) rfl ?_)
 show wpAny _ _ (if (Value.ref l==Value.none)=true then _ else _) _ _ _
 rw[if_neg (by simp)]
 show wpAny _ _ (field (.ref it) 1>>=_) _ _ _;refine wpAny_bind (wpAny_field ho hd (x:=.int i 0) rfl ?_);show wpAny _ _ (seqItems? (.ref l)>>=_) _ _ _;refine wpAny_bind (wpAny_seqItems hol hdl ?_);simp only[Int.toNat_natCast,hx]
 refine wpAny_bind (wpAny_rule (wpAny_bind (wpAny_setField ho hd (by simp) (wpAny_bind ?_))))
 simp only[newExc,newTuple]
 refine wpAny_bind (wpAny_newObj_type ?_ (by size_fits))
 refine wpAny_bind (m:=firstArgMember _ _) (wpAny_of_eq (a:=Value.none) (by first|rfl|(simp only[firstArgMember];rfl)) (wpAny_newObj_type ?_ (by size_fits)))
 have kk:∀b o,b≠it->s.heap.get? b=some o->(s.heap.update it (Obj.mapFields (·.setIfInBounds 0 Value.none))).get? b=some o:=λb o n z=>(Heap.get?_update_other _ _ (Ne.symm n)).trans z;generalize s.heap.update it (Obj.mapFields (·.setIfInBounds 0 Value.none))=g at kk ⊢;dsimp only;have gX:=Heap.get?_push_size (g.push { cls:=Value.type "tuple",data:=Data.seq #[] }) (o:={ cls:=Value.type "StopIteration",data:=Data.fields (#[Value.ref g.objs.size,Value.none,Value.none,Value.none,Value.bool false,Value.none]++ownMembersOf (Value.type "StopIteration") []) }) rfl;have old:∀b o,b≠it->s.heap.get? b=some o->(g.push { cls:=Value.type "tuple",data:=Data.seq #[] }).get? b=some o:=λb o n z=>Heap.get?_push_of_some _ (kk b o n z)
 refine yw (A:=A.in1) hh x (λp hp=>⟨Heap.get?_push_of_some _ (old _ _ (k p hp).2 (k p hp).1),Nat.ne_of_lt (Heap.lt_size (old _ _ (k p hp).2 (k p hp).1))⟩) gX rfl (by simp[ownMembersOf]) ?_
 refine q _ _ (λb o n z=>?_) ⟨_,Heap.get?_update_self _ gX rfl,Obj.cls_mapFields _ _⟩;exact(Heap.get?_update_other _ _ (Nat.ne_of_gt (Heap.lt_size (old b o n z)))).trans (Heap.get?_push_of_some _ (old b o n z))
theorem zdJ{e it l:Addr}{i:Nat}{items:Array Value}{old:Value}{Q:Option Value->Shared->Prop}(hh:HdS A s.heap)(he:IsEnum s.heap e it i old)(ti:s.heap.IsListIter it l i)(tl:s.heap.IsList l items)(hx:items[i]?=none)
  (q:∀h',Heap.ExtBut it s.heap h'->Q none { s with heap:=h' }):wpAny (model prog w) A (pyNext (.ref e)) Q E s:=by
 rcases hh with hh|⟨x,ch,hh,c,k⟩
 ·exact wpAny_pyNext_enum_end hh he ti tl hx q
 have hT:s.TypeIs (.ref e) "enumerate":=⟨_,he,rfl⟩;unfold pyNext;refine wpAny_bind (wpAny_attempt (wpAny_callSpecial?_slot (name:=Str.ofString "__next__") hT F.slot_enumerate_next (wpAny_call_entry F.slot_enumerate_next hT F.entry_enumerate_next ?_ (F.args_enumerate_next_1 _))));show wpAny _ _ (field (.ref e) 2>>=_) _ _ _;refine wpAny_bind (wpAny_field he rfl (x:=.ref it) rfl ?_);refine wpAny_bind (QX (A:=A.in1) hh c (λp hp=>⟨k p hp,λz=>?_⟩) ti tl hx λh' x y z=>?_)
 ·obtain⟨o,ho,_,hd⟩:=ti
  obtain⟨fs,y,e1,e2⟩:=c.fields p hp;have e3:=k p hp;rw[z,ho] at e3;cases e3;rw[hd] at e1;cases e1;cases e2
 ·obtain⟨o,ho,hc⟩:=z
  exact wpAny_bind (wpAny_isInstance (T:="StopIteration") (b:=true) ⟨o,ho,hc⟩ isSubtype_stop (wpAny_pure (q _ y)))
end
end TX
namespace TX
open PySem PySem.Spec PyProof.Rows L2
open PySem.W (Dat kqdP kqdPs kqdOk kqd_lay kqd_eqv)
inductive Dd (K:PySem.W.Frag) (H:Hp):V->Dat->Prop where
 | non:Dd K H .non .none
 | int (i:Int):Dd K H (.int i) (.int i)
 | str (x:Str):Dd K H (.str x) (.str x)
 | lst {a:Addr} {xs:List V} {ds:List Dat} (h:SqL K H a xs) (hl:xs.length=ds.length) (r:∀(i:Nat) x d,xs[i]?=some x->ds[i]?=some d->Dd K H x d):Dd K H (.ref a) (.list ds)
 | tup {a:Addr} {xs:List V} {ds:List Dat} (h:SqT K H a xs) (hl:xs.length=ds.length) (r:∀(i:Nat) x d,xs[i]?=some x->ds[i]?=some d->Dd K H x d):Dd K H (.ref a) (.tuple ds)
theorem qF{h:Heap}:∀(ds:List Dat) (us:List Value),us.length=ds.length->(∀(i:Nat) u d,us[i]?=some u->ds[i]?=some d->∃as,Reads h u (kqdP d) as)->∃as,ReadsAll h us (kqdPs ds) as
 | [],[],_,_=>⟨_,ReadsAll.nil⟩
 | [],_::_,hl,_=>nomatch hl
 | _::_,[],hl,_=>nomatch hl
 | d::ds,u::us,hl,r=>by
  obtain⟨as,q⟩:=r 0 u d rfl rfl
  obtain⟨bs,p⟩:=qF ds us (by simpa using hl) λi u' d' e1 e2=>r (i+1) u' d' (by simpa using e1) (by simpa using e2)
  rw[kqdPs];exact⟨_,ReadsAll.cons q p⟩
section
variable {X:Cx}{pins:List (Addr×Obj)}{σ:L2.St}{H:Hp}{s:Shared}
theorem Dd.reads(I:Inv X pins σ H s){x:V}{d:Dat}(r:Dd X.K H x d):∀{u:Value},Zo x u->∃as,Reads s.heap u (kqdP d) as:=by
 induction r with
 | non=>intro u ru;cases (show u=Value.none from ru);exact⟨_,Reads.none⟩
 | int i=>intro u ru;obtain⟨t,e⟩:=(show ∃t,u=Value.int i t from ru);subst e;exact⟨_,Reads.int i t⟩
 | str x=>intro u ru;obtain⟨t,e⟩:=(show ∃t,u=Value.str x t from ru);subst e;exact⟨_,Reads.str x t⟩
 | @lst a xs ds h hl r ih =>
  intro u ru
  cases (show u=Value.ref a from ru)
  obtain⟨its,rv,p,hz⟩:=I.list h
  obtain⟨as,q⟩:=qF (h:=s.heap) ds its (by rw[<-rv.length];exact hl) λi u d e1 e2=>by
   have hi:i<xs.length:=by rw[hl];exact(List.getElem?_eq_some_iff.mp e2).1
   obtain⟨u',e3,ru'⟩:=rv.get (i:=i) (x:=xs[i]) (by simp[hi])
   rw[e1] at e3;cases e3
   exact ih i xs[i] d (by simp[hi]) e2 ru'
  obtain⟨o,ho,hc,n,hd⟩:=p.isList;rw[kqdP]
  exact⟨_,reads_list_at ho hc hd (by simpa using q)⟩
 | @tup a xs ds h hl r ih =>
  intro u ru
  cases (show u=Value.ref a from ru)
  obtain⟨its,rv,p,hz⟩:=I.tuple h
  obtain⟨as,q⟩:=qF (h:=s.heap) ds its (by rw[<-rv.length];exact hl) λi u d e1 e2=>by
   have hi:i<xs.length:=by rw[hl];exact(List.getElem?_eq_some_iff.mp e2).1
   obtain⟨u',e3,ru'⟩:=rv.get (i:=i) (x:=xs[i]) (by simp[hi])
   rw[e1] at e3;cases e3
   exact ih i xs[i] d (by simp[hi]) e2 ru'
  obtain⟨o,ho,hc,n,hd⟩:=p;rw[kqdP]
  exact⟨_,reads_tuple_at ho hc hd (by simpa using q)⟩
theorem qZ{d:Dat}(h:kqdOk 9 d=true):SeqAt.shaped (kqdP d)=true:=by
 have l:=kqd_lay 9 d h;unfold SeqAt.shaped;rw[l.1,Bool.true_and]
 exact decide_eq_true (Nat.le_trans l.2 (by decide))
open Classical in
theorem zfD{d e:Dat}(h:kqdOk 9 d=true)(h':kqdOk 9 e=true):PyData.eqv (kqdP d) (kqdP e)=decide (d=e):=by
 have q:=kqd_eqv 9 d e 9 h h'
 by_cases hq:d=e
 ·rw[decide_eq_true hq];exact q.mpr hq
 ·rw[decide_eq_false hq];exact Bool.eq_false_iff.mpr λx=>hq (q.mp x)
def ziD(K:PySem.W.Frag):R2:=λx y H Q=>∃d e,Dd K H x d/\Dd K H y e/\kqdOk 9 d=true/\kqdOk 9 e=true/\(d=e->Q (.bl true) H)/\(d≠e->Q (.bl false) H)
def zjD(K:PySem.W.Frag):R2:=λx y H Q=>∃d e,Dd K H x d/\Dd K H y e/\kqdOk 9 d=true/\kqdOk 9 e=true/\(d=e->Q (.bl false) H)/\(d≠e->Q (.bl true) H)
open Classical in
theorem jB(hu:X.A.units+64<cLine):OpR X (compareOp .Eq) (ziD X.K):=by
 intro pins s σ H x y v u Q I rx ry h;obtain⟨d,e,dx,dy,hd,he,q1,q2⟩:=h;obtain⟨as,ra⟩:=dx.reads I rx;obtain⟨bs,rb⟩:=dy.reads I ry;refine eq_dataH ra rb (qZ hd) (qZ he) hu ?_;rw[zfD hd he]
 by_cases hq:d=e
 ·rw[decide_eq_true hq];exact⟨.bl true,H,I,rfl,q1 hq⟩
 ·rw[decide_eq_false hq];exact⟨.bl false,H,I,rfl,q2 hq⟩
open Classical in
theorem jA(hu:X.A.units+64<cLine):OpR X (compareOp .NotEq) (zjD X.K):=by
 intro pins s σ H x y v u Q I rx ry h;obtain⟨d,e,dx,dy,hd,he,q1,q2⟩:=h;obtain⟨as,ra⟩:=dx.reads I rx;obtain⟨bs,rb⟩:=dy.reads I ry;refine ne_dataH ra rb (qZ hd) (qZ he) hu ?_;rw[zfD hd he]
 by_cases hq:d=e
 ·rw[decide_eq_true hq];exact⟨.bl false,H,I,rfl,q1 hq⟩
 ·rw[decide_eq_false hq];exact⟨.bl true,H,I,rfl,q2 hq⟩
end
def Ite(K:PySem.W.Frag)(a:Addr):It :=
 ⟨λi H=>∃xs x,SqL K H a xs/\xs[i]?=some x,λi H x H'=>∃p v,H p=none/\x=.ref p/\H'=upd H p (.tup [.int i,v])/\∀xs,SqL K H a xs->xs[i]?=some v,λi H=>∃xs,SqL K H a xs/\xs.length<=i⟩
theorem zcn{P:Program}{w:World}{K:PySem.W.Frag}{elts:List Expr}{k:Nat}{pos:Pos}(a e it:Addr)(hei:e≠it) :
  Turn P w K (.Tuple elts k pos) (Ite K a) [e,it] e (λi h=>(∃old,IsEnum h e it (i:Nat) old)/\h.IsListIter it a i) where
 mem:=by simp
 obj:=λi h st b hb=>by
  obtain⟨⟨old,he⟩,o,ho,c,d⟩:=st
  rcases List.mem_cons.mp hb with rfl|hb
  ·exact⟨_,he,λv z=>by
    have z':Data.fields _=Data.cell v:=z
    cases z'⟩
  ·have e:b=it:=by simpa using hb
   subst e
   exact⟨o,ho,λv z=>by rw[d] at z;cases z⟩
 keep:=λi h h' st k=>⟨let ⟨old,he⟩:=st.1;⟨old,k e (by simp) _ he⟩,st.2.at λo q=>k it (by simp) o q⟩
 item:=by
  intro X hP hw hK hc i pins s σ H E I hf st hg;subst hP hw hK;obtain⟨⟨old,he⟩,hit⟩:=st;obtain⟨xs,x,hq,hx⟩:=hg;obtain⟨its,rv,p,hz⟩:=I.list hq;obtain⟨u,hu,ru⟩:=rv.get hx
  have fe:=hf e (by simp)
  have fi:=hf it (by simp)
  refine wpAny_pyNext_enum_item he hit p.isList (x:=u) (by simpa using hu) hei λh1 heo hit1 ht1 hsz1 hk1=>?_
  refine⟨_,rfl,?_⟩
  refine wpAny_letOwnedTupleGo_enum (s:={ s with heap:=h1,toks:=s.toks+1 }) heo λh2 he2 hs2=>?_
  have hel:e<s.heap.objs.size:=Heap.lt_size he;have hpn:H s.heap.objs.size=none:=I.hok.fresh (Nat.le_refl _);have hs2':Heap.SameBut e h1 h2:=hs2;have kk:∀b o,b≠e->b≠it->s.heap.get? b=some o->h2.get? b=some o:=λb o h3 h4 q=>(hs2'.2 b h3).trans (hk1 b o h3 h4 q);have ht2:h2.get? s.heap.objs.size=some { cls:=.type "tuple",data:=.seq #[.int i s.toks,u] }:=(hs2'.2 _ (Nat.ne_of_gt hel)).trans ht1
  have nit:∀b o,H b=some o->b≠e/\b≠it:=λb o q=>⟨λz=>(by rw[z,fe.1] at q;cases q),λz=>(by rw[z,fi.1] at q;cases q)⟩
  have ok2:HOk X.prog X.w (upd H s.heap.objs.size (.tup [.int i,x])) h2:=λb o q=>by
   by_cases hb:b=s.heap.objs.size
   ·subst hb
    rw[ze] at q;cases q
    exact⟨by show 2<=sizeLine;decide,[.int i s.toks,u],.cons ⟨_,rfl⟩ (.cons ru .nil),_,ht2,rfl,_,rfl⟩
   ·rw[zq hb] at q
    refine(I.hok b o q).stay (λc v hc' r=>?_) (λc r=>by rw[zq (zx r hpn)];exact r) λc ys r=>by rw[zq (zx r hpn)];exact r
    rcases hc' with rfl|r'
    ·exact kk c v (nit c o q).1 (nit c o q).2 r
    ·exact kk c v (nit c _ r').1 (nit c _ r').2 r
  have old':∀b o,s.heap.get? b=some o->b≠s.heap.objs.size:=λb o q=>Nat.ne_of_lt (Heap.lt_size q)
  have I2:Inv X pins σ (upd H s.heap.objs.size (.tup [.int i,x])) { s with heap:=h2,toks:=s.toks+1 } :=
   I.step (g':=s.gens) (d':=s.drawn) (ch:=[e,it]) (λb hb=>by
    rcases List.mem_cons.mp hb with rfl|hb
    ·exact⟨fe.2.2.2.1,fe.2.1,fe.2.2.2.2.1,fe.2.2.2.2.2⟩
    ·have z:b=it:=by simpa using hb
     subst z
     exact⟨fi.2.2.2.1,fi.2.1,fi.2.2.2.2.1,fi.2.2.2.2.2⟩)
    (λb o _ _ hc' q _=>kk b o (λz=>hc' (by simp[z])) (λz=>hc' (by simp[z])) q)
    (λb o _ _ hc' q _=>⟨o.slots,kk b o (λz=>hc' (by simp[z])) (λz=>hc' (by simp[z])) q⟩)
    (λb o _ q n=>by rw[zq (old' b o q)];exact n)
    (λb o hc' q=>⟨o,kk b o (λz=>hc' (by simp[z])) (λz=>hc' (by simp[z])) q⟩)
    (λb ys r=>by rw[zq (zx r hpn)];exact r) (λb o ys r=>by rw[zq (zx r hpn)];exact r)
    (λb ps r=>⟨#[],by rw[zq (zx r hpn),r];simp⟩)
    (λm hm=>by
     obtain⟨o,es,ep,ho,r⟩:=hm
     exact⟨o,es,ep,kk _ o (Ne.symm fe.2.1) (Ne.symm fi.2.1) ho,r⟩) ok2 I.bare
  refine⟨.ref s.heap.objs.size,_,I2,rfl,⟨_,x,hpn,rfl,rfl,λys hy=>by rw[I.list_inj hy hq];exact hx⟩,⟨⟨u,by simpa using he2⟩,hit1.at λo q=>(hs2'.2 it (Ne.symm hei)).trans q⟩,λb hb=>?_⟩
  rcases List.mem_cons.mp hb with rfl|hb
  ·rw[zq (Nat.ne_of_lt hel)];exact fe.1
  ·have z:b=it:=by simpa using hb
   subst z;obtain⟨o,ho,_⟩:=hit;rw[zq (Nat.ne_of_lt (Heap.lt_size ho))];exact fi.1
 done:=by
  intro X hP hw hK hc i pins s σ H E I hf st hg;subst hP hw hK;obtain⟨⟨old,he⟩,hit⟩:=st;obtain⟨xs,hq,hx⟩:=hg;obtain⟨its,rv,p,hz⟩:=I.list hq
  obtain⟨f0,f1,f2,f3,f4,f5⟩:=hf it (by simp)
  have hl:=rv.length
  exact zdJ (I.hds hc) he hit p.isList (by simp;omega) λh' eb=>⟨rfl,I.turned (t':=s.toks) (λb o hb q=>eb b o hb q) f0 f1 f3 f4 f5⟩
 self:=λ_ _ _ _ _ st h=>let ⟨_,he⟩:=st.1;wpAny_pyIter_enum he h
section
variable {X:Cx}{elts:List Expr}{k:Nat}{tp:Pos}
def ziV(K:PySem.W.Frag)(ta:TA):TI:=λσ H R=>ta σ H λvs H1=>∃a,vs=[.ref a]/\(∃xs,SqL K H1 a xs)/\R (Ite K a) H1
theorem zcW{a:Expr}{ta:TA}{p pos:Pos}(hg:Gl X "enumerate")(hm:X.mg "enumerate"=none)(ha:PA X [a] ta)(hs:starEach [a] X.env=[(false,eval a X.env)]:=by rfl) :
  PI X (.Tuple elts k tp) (.Call (.Name "enumerate" p) [a] [] pos) (ziV X.K ta):=by
 intro pins s σ H R I h;refine Call_ (jQ I hg hm boot_enumerate (PyProof.Rows.callWith_type1 (thn (ha pos pins s σ H _ I h) λus s1 ⟨vs,H1,I1,r1,q1⟩=>?_) hs rfl));obtain⟨a,e,⟨xs,hq⟩,q⟩:=q1;subst e
 cases r1 with
 | cons r rr =>
  cases rr;cases r;obtain⟨its,rv,pl,hz⟩:=I1.list hq;refine call_enumerate_list pl.isList λh' he hit hsz hk=>?_
  refine wpAny_pyIter_enum (s:={ s1 with heap:=h' }) he ?_
  refine⟨s1.heap.objs.size+1,[s1.heap.objs.size+1,s1.heap.objs.size],_,Ite X.K a,H1,rfl,I1.kept (t':=s1.toks) hk,zcn a _ _ (Nat.succ_ne_self _),⟨⟨_,he⟩,hit⟩,λb hb=>?_,q⟩
  rcases List.mem_cons.mp hb with rfl|hb
  ·exact I1.fpOk (Nat.le_succ _) (I1.hok.fresh (Nat.le_succ _))
  ·have z:b=s1.heap.objs.size:=by simpa using hb
   subst z;exact I1.fpOk (Nat.le_refl _) (I1.hok.fresh (Nat.le_refl _))
end
theorem zbk{K:PySem.W.Frag}{a:Addr}{xs:List V}{g:TG}{tb:TS}{D:Ends}{σ:L2.St}{H:Hp}(Pv:Nat->L2.St->Hp->Prop)(h0:Pv 0 σ H)(hl:∀i σ H,i<=xs.length->Pv i σ H->SqL K H a xs)
  (hs:∀i x σ H p,xs[i]?=some x->Pv i σ H->H p=none->g (.ref p) σ (upd H p (.tup [.int (i:Nat),x])) λσ2 H2=>tb { D with nx:=Pv (i+1),ct:=Pv (i+1),bk:=D.nx } σ2 H2) (hd:∀σ H,Pv xs.length σ H->D.nx σ H) :
  ∃W:Nat->Nat->L2.St->Hp->Prop,(∃m,W 0 m σ H)/\∀i m σ H,W i m σ H ->
   ((Ite K a).stop i H/\D.nx σ H)\/((Ite K a).go i H/\∃N:L2.St->Hp->Prop,(∀σ' H',N σ' H'->∃m',m'<m/\W (i+1) m' σ' H')/\∀x H',(Ite K a).yld i H x H'->g x σ H' λσ2 H2=>tb { D with nx:=N,ct:=N,bk:=D.nx } σ2 H2):=by
 refine⟨λi m σ H=>m=xs.length-i/\i<=xs.length/\Pv i σ H,⟨xs.length,by simp,Nat.zero_le _,h0⟩,?_⟩
 rintro i m σ H ⟨rfl,hi,p⟩;have q:=hl i σ H hi p
 by_cases hlt:i<xs.length
 ·refine .inr ⟨⟨xs,xs[i],q,by simp[hlt]⟩,Pv (i+1),λσ' H' p'=>⟨xs.length-(i+1),by omega,rfl,hlt,p'⟩,λx H' y=>?_⟩
  obtain⟨b,v,hb,rfl,rfl,hv⟩:=y;exact hs i v σ _ b (hv xs q) p hb
 ·have e:i=xs.length:=by omega
  subst e;exact .inl ⟨⟨xs,q,Nat.le_refl _⟩,hd σ H p⟩
end TX
namespace TX
open PySem PySem.Spec PyProof.Rows L2
theorem zb5{scope:Scope}{env:Env}(h:∀y∈scope.names,y.2=.free->∃c,env.cells.lookup y.1=some c) :
  ∃cl,closureFor scope env=pure cl/\(∀n c,cl.lookup n=some c->env.cells.lookup n=some c)/\(∀y∈scope.names,y.2=.free->∃c,cl.lookup y.1=some c):=by
 have go:∀(names:List (Str×NameKind)) (cs:List (Str×Addr)),(∀y∈names,y.2=.free->∃c,env.cells.lookup y.1=some c)->(∀n c,cs.lookup n=some c->env.cells.lookup n=some c) ->
   ∃cl,(forIn names cs λ(x:Str×NameKind) (r:List (Str×Addr))=>if (x.snd==NameKind.free)=true then do let c <-cellOf env x.fst;pure (ForInStep.yield ((x.fst,c)::r)) else pure (ForInStep.yield r))=(pure cl:Sem (List (Str×Addr))) /\
    (∀n c,cl.lookup n=some c->env.cells.lookup n=some c)/\(∀n c,cs.lookup n=some c->cl.lookup n=some c)/\(∀y∈names,y.2=.free->∃c,cl.lookup y.1=some c):=by
  intro names
  induction names with
  | nil=>intro cs _ hc;exact⟨cs,rfl,hc,λ_ _ z=>z,λ_ z=>nomatch z⟩
  | cons x xs ih =>
   obtain⟨n,k⟩:=x;intro cs hn hc;simp only[List.forIn_cons]
   by_cases hk:(k==NameKind.free)=true
   ·have hk':k=.free:=by simpa using hk
    obtain⟨c,e⟩:=hn (n,k) List.mem_cons_self hk'
    have e':cellOf env n=pure c:=by unfold cellOf;rw[show env.cells.lookup n=some c from e]
    obtain⟨cl,h1,h2,h3,h4⟩:=ih ((n,c)::cs) (λy hy=>hn y (List.mem_cons_of_mem _ hy)) λm d q=>by
     rw[List.lookup_cons] at q
     cases hm:m==n with
     | true=>rw[hm] at q;cases q;rw[eq_of_beq hm];exact e
     | false=>rw[hm] at q;exact hc m d q
    refine⟨cl,?_,h2,λm d q=>?_,λy hy hf=>?_⟩
    ·rw[if_pos hk,e']
     exact h1
    ·cases hm:m==n with
     | true =>
      have q1:=h3 n c (by simp)
      have q2:=h2 n c q1;have q3:=hc m d q;rw[eq_of_beq hm] at q3 ⊢;rw[q1,<-q2,q3]
     | false=>exact h3 m d (by rw[List.lookup_cons,hm];exact q)
    ·rcases List.mem_cons.mp hy with rfl|hy
     ·exact⟨c,h3 _ c (by simp)⟩
     ·exact h4 y hy hf
   ·obtain⟨cl,h1,h2,h3,h4⟩:=ih cs (λy hy=>hn y (List.mem_cons_of_mem _ hy)) hc
    refine⟨cl,?_,h2,h3,λy hy hf=>?_⟩
    ·rw[if_neg hk]
     exact h1
    ·rcases List.mem_cons.mp hy with rfl|hy
     ·exact absurd (by rw[show k=NameKind.free from hf];rfl) hk
     ·exact h4 y hy hf
 obtain⟨cl,h1,h2,_,h4⟩:=go scope.names [] h (λ_ _ z=>nomatch z);refine⟨cl,?_,h2,h4⟩
 have e:closureFor scope env=(forIn scope.names ([]:List (Str×Addr)) λ(x:Str×NameKind) (r:List (Str×Addr))=>if (x.snd==NameKind.free)=true then do let c <-cellOf env x.fst;pure (ForInStep.yield ((x.fst,c)::r)) else pure (ForInStep.yield r))>>=λr=>pure r:=rfl
 rw[e,h1];rfl
theorem qK{α:Type}{x:Str}{v:α}:∀{l:List (Str×α)},l.lookup x=some v->(x,v)∈l
 | [],h=>nomatch h
 | (n,k)::r,h=>by
  rw[List.lookup_cons] at h
  cases hx:x==n with
  | true=>rw[hx] at h;cases h;rw[eq_of_beq hx];exact List.mem_cons_self
  | false=>rw[hx] at h;exact List.mem_cons_of_mem _ (qK h)
theorem w5{scope:Scope}{env:Env}{x:Str}(hcell:∀y∈scope.names,y.2≠.cell)(h:(relabel scope env).names.lookup x=some .cell\/(relabel scope env).names.lookup x=some .free):(x,NameKind.free)∈scope.names:=by
 have go:∀(names:List (Str×NameKind)),(∀y∈names,y.2≠.cell)->∀k',(names.map λ(n,k)=>if (k==NameKind.free&&env.scope.kind==.function&&env.kindOf n==some .cell) then (n,NameKind.cell) else (n,k)).lookup x=some k'->(k'=.cell\/k'=.free)->(x,NameKind.free)∈names:=by
  intro names
  induction names with
  | nil=>intro _ _ h;exact nomatch h
  | cons y r ih =>
   obtain⟨n,k⟩:=y;intro hc k' h hk
   have h':List.lookup x ((if (k==NameKind.free&&env.scope.kind==.function&&env.kindOf n==some .cell)=true then (n,NameKind.cell) else (n,k))::(r.map λ(n,k)=>if (k==NameKind.free&&env.scope.kind==.function&&env.kindOf n==some .cell) then (n,NameKind.cell) else (n,k)))=some k':=h
   by_cases hq:(k==NameKind.free&&env.scope.kind==.function&&env.kindOf n==some .cell)=true
   ·rw[if_pos hq,List.lookup_cons] at h'
    have hkf:k=.free:=by
     have:=hq;simp only[Bool.and_eq_true] at this
     simpa using this.1.1
    cases hx:x==n with
    | true=>rw[eq_of_beq hx,hkf];exact List.mem_cons_self
    | false=>rw[hx] at h';exact List.mem_cons_of_mem _ (ih (λy hy=>hc y (List.mem_cons_of_mem _ hy)) k' h' hk)
   ·rw[if_neg hq,List.lookup_cons] at h'
    cases hx:x==n with
    | true =>
     rw[hx] at h';cases h'
     rcases hk with rfl|rfl
     ·exact absurd rfl (hc _ List.mem_cons_self)
     ·rw[eq_of_beq hx];exact List.mem_cons_self
    | false=>rw[hx] at h';exact List.mem_cons_of_mem _ (ih (λy hy=>hc y (List.mem_cons_of_mem _ hy)) k' h' hk)
 rcases h with h|h
 ·exact go _ hcell _ h (.inl rfl)
 ·exact go _ hcell _ h (.inr rfl)
theorem ju{scope:Scope}{env:Env}{x:Str}(h:scope.names.lookup x=some .free):(relabel scope env).names.lookup x=some .cell\/(relabel scope env).names.lookup x=some .free:=by
 have go:∀(names:List (Str×NameKind)),names.lookup x=some .free->(names.map λ(n,k)=>if (k==NameKind.free&&env.scope.kind==.function&&env.kindOf n==some .cell) then (n,NameKind.cell) else (n,k)).lookup x=some .cell\/(names.map λ(n,k)=>if (k==NameKind.free&&env.scope.kind==.function&&env.kindOf n==some .cell) then (n,NameKind.cell) else (n,k)).lookup x=some .free:=by
  intro names
  induction names with
  | nil=>intro h;exact nomatch h
  | cons y r ih =>
   obtain⟨n,k⟩:=y;intro h
   show List.lookup x ((if (k==NameKind.free&&env.scope.kind==.function&&env.kindOf n==some .cell)=true then (n,NameKind.cell) else (n,k))::_)=_\/List.lookup x ((if (k==NameKind.free&&env.scope.kind==.function&&env.kindOf n==some .cell)=true then (n,NameKind.cell) else (n,k))::_)=_
   rw[List.lookup_cons] at h
   by_cases hq:(k==NameKind.free&&env.scope.kind==.function&&env.kindOf n==some .cell)=true
   ·rw[if_pos hq,List.lookup_cons]
    cases hx:x==n with
    | true=>exact .inl rfl
    | false=>rw[hx] at h;exact ih h
   ·rw[if_neg hq,List.lookup_cons]
    cases hx:x==n with
    | true=>rw[hx] at h;exact .inr h
    | false=>rw[hx] at h;exact ih h
 exact go _ h
def Ym(σ:L2.St)(ixs:List (Option Nat)):L2.St:=ixs.map λo=>o.bind λi=>(σ[i]?).join
def Kps(σ σ':L2.St):Prop:=σ'.length=σ.length/\∀(k:Nat) v,σ[k]?=some (some v)->σ'[k]?=some (some v)
theorem Kps.own{r:L2.St}{v:V}:Kps (none::r) (some v::r):=⟨rfl,λk u h=>by
 cases k with
 | zero=>cases h
 | succ k=>simpa using h⟩
abbrev cxC(X:Cx)(N':List Str)(scope:Scope)(cl:List (Str×Addr))(C:Addr)(fp:List Addr)(s₂:Shared)(H₂:Hp):Cx where
 prog:=X.prog
 w:=X.w
 K:=X.K
 mg:=X.mg
 base:=X.base
 A:=X.A
 N:=N'
 s₀:=s₂
 H₀:=H₂
 env:=compEnvC scope cl C X.env
 outer:=X.stack
 stack:=X.stack
 ex:=fp
 fn:=λ_=>false
 calm:=X.calm
 pn:=X.pn
 xe:=λ_ _=>False
def PTs(X:Cx)(ifs:List Expr)(t:TT):Prop :=
 ∀(pins:List (Addr×Obj)) (s:Shared) (σ:L2.St) (H:Hp) (Q:Bool->Hp->Prop),Inv X pins σ H s->t σ H Q ->
  wpAny (model X.prog X.w) X.A (forIn ifs true λc r=>if r=true then do let ok <-isTrue c X.env (eval c X.env);pure (ForInStep.yield ok) else pure (ForInStep.yield r)) (TP X pins σ Q) X.xe s
def zcr:TT:=λ_ H Q=>Q true H
theorem yd{X:Cx}:PTs X [] zcr:=λ_ _ _ H _ I h=>wpAny_tests_nil ⟨H,I,h⟩
theorem yr{X:Cx}{c:Expr}{t:TT}(h:PT X c t):PTs X [c] t:=λpins s σ H Q I q=>wpAny_tests_one (h pins s σ H Q I q)
def yZ(ixs:List (Option Nat))(wi:TI)(g:TG)(tc:TT)(te:TE):TE:=λσ H Q=>wi σ H λJ H1=>∃W:Nat->Nat->List V->Hp->Prop,(∃m,W 0 m [] H1)/\∀i m ys H,W i m ys H ->
 (J.stop i H/\∀p,H p=none->Q (.ref p) (upd H p (.lst ys))) \/
 (J.go i H/\ys.length<sizeLine/\∀x H',J.yld i H x H'->g x (Ym σ ixs) H' λσ2 H2=>Kps (Ym σ ixs) σ2/\tc σ2 H2 λb H3 =>
  if b=true then te σ2 H3 λy H4=>∃m',m'<m/\W (i+1) m' (ys++[y]) H4 else ∃m',m'<m/\W (i+1) m' ys H3)
section
variable {prog:Program}{w:World}{A:Around}{R:Result->Shared->Prop}{s:Shared}
theorem WH{elt target Zs:Expr}{ifs:List Expr}{scope:Scope}{pos:Pos}{it acc:Value}{env:Env}(I:Nat->Shared->Prop)
  (turn:∀n s,I n s->wpAny (model prog w) A (pyNext it) (λr s₁=>match r with
   | none=>R (.ok .next) s₁
   | some v=>wpAny (model prog w) A (letOwnedTupleGo target it v) (λ_ s'=>wpAny (model prog w) A (assign target env v) (λ_ s₂ =>
     wpAny (model prog w) A (forIn ifs true λc r=>if r=true then do let ok <-isTrue c env (eval c env);pure (ForInStep.yield ok) else pure (ForInStep.yield r)) (λok s₃ =>
      if ok=true then wpAny (model prog w) A (eval elt env) (λx s₄ =>
       wpAny (model prog w) A (call (.builtin "list.append") [acc,x]) (λ_ s₅=>∃m,m<n/\I m s₅) (λ_ _=>False) s₄) (λ_ _=>False) s₃
      else ∃m,m<n/\I m s₃) (λ_ _=>False) s₂) (λ_ _=>False) s') (λ_ _=>False) s₁) (λ_ _=>False) s)
  (n:Nat) (h:I n s):codeAny (model prog w) A (.compLoop (.ListComp elt [⟨target,Zs,ifs,0⟩] scope pos) 0 it acc env) R s:=by
 refine codeAny_loop rfl I (λn s hI=>?_) n h
 show wpAny _ A ((compTurn (.ListComp elt [⟨target,Zs,ifs,0⟩] scope pos) 0 it acc env).onRaise (λx=>do noteFrame x env;theTreesLotGoes x)) _ _ s
 refine wpAny_noted ?_;rw[compTurn_list];refine wpAny_bind (wpAny_standAt (wpAny_bind (wpAny_mono (turn n s hI) (λr s₁ h₁=>?_) λ_ _ f=>f.elim)))
 cases r with
 | none=>exact wpAny_pure h₁
 | some v =>
  refine wpAny_bind (wpAny_mono h₁ (λ_ s' h'=>?_) λ_ _ f=>f.elim);refine wpAny_bind (wpAny_mono h' (λ_ s₂ h₂=>wpAny_bind (wpAny_mono h₂ (λok s₃ h₃=>?_) λ_ _ f=>f.elim)) λ_ _ f=>f.elim)
  cases ok with
  | false=>exact wpAny_pure ⟨rfl,h₃⟩
  | true =>
   exact wpAny_bind (wpAny_bind (wpAny_mono h₃ (λx s₄ h₄=>wpAny_bind (wpAny_mono h₄ (λ_ s₅ h₅=>wpAny_pure (wpAny_pure ⟨rfl,h₅⟩)) λ_ _ f=>f.elim)) λ_ _ f=>f.elim))
end
section
variable {X:Cx}{pins:List (Addr×Obj)}{σ:L2.St}{H:Hp}{s:Shared}
theorem Inv.cxOk{N':List Str}{scope:Scope}{cl:List (Str×Addr)}{C:Addr}{fp:List Addr}(I:Inv X pins σ H s)(hf:∀b∈fp,zfP X pins H b)(hob:∀b∈fp,b<s.heap.objs.size)(hC:s.heap.objs.size<=C)
  (hcl:∀n c,cl.lookup n=some c->X.env.cells.lookup n=some c) (hcl2:∀y∈scope.names,y.2=.free->∃c,cl.lookup y.1=some c) (hkind:scope.kind=.function) (hcell:∀y∈scope.names,y.2≠.cell) :
  (cxC X N' scope cl C fp s H).Ok where
 mod:=I.mod
 kind:=hkind
 glob:=I.ok.glob
 blt:=I.ok.blt
 above:=hC
 inj:=λx y c e1 e2=>I.ok.inj x y c (hcl x c e1) (hcl y c e2)
 has:=λx h=>hcl2 _ (w5 hcell h) rfl
 cab:=λ_ _ h=>nomatch h
 hd:=I.hdh
 frames:=I.ok.frames
 stk:=.inl rfl
 exf:=λb hb=>⟨Nat.ne_of_lt (Nat.lt_of_lt_of_le (hob b hb) hC),λx c e=>(hf b hb).2.2.2.2.1 x c (hcl x c e)⟩
 bs:=I.bs
 bsz:=Nat.le_trans I.ok.bsz I.sz
 noex:=λb o e hb=>by
  rcases(hf b hb).2.2.2.1 with z|z
  ·exact I.ok.noex b o e z
  ·exact absurd (Nat.lt_of_lt_of_le (Heap.lt_size e) (Nat.le_trans I.ok.bsz z)) (Nat.lt_irrefl _)
 exfs:=λb hb z=>by
  rcases List.mem_cons.mp (I.stkSub b z) with e|z
  ·exact(hf b hb).2.1 e
  ·exact(hf b hb).2.2.1 z
 funs:=I.stack
 frf:=I.stkFree
theorem WG{target Zs elt:Expr}{ifs:List Expr}{scope:Scope}{pos p2:Pos}{N':List Str}{ixs:List (Option Nat)}{wi:TI}{g:TG}{tc:TT}{te:TE}{use:Option (Value->Sem Unit)}{Qf:Value->Shared->Prop}{Q:VK}
  (hc:X.calm=true) (hi:PI X target Zs wi)
  (hg:∀cl C fp s₂ H₂,PG (cxC X N' scope cl C fp s₂ H₂) target g)
  (hts:∀cl C fp s₂ H₂,PTs (cxC X N' scope cl C fp s₂ H₂) ifs tc)
  (he:∀cl C fp s₂ H₂,PE (cxC X N' scope cl C fp s₂ H₂) elt te)
  (hkind:scope.kind=.function) (hcell:∀y∈scope.names,y.2≠.cell) (hnames:∀y∈scope.names,y.2=.local->scope.names.lookup y.1=some .local)
  (hfree:∀y∈scope.names,y.2=.free->X.env.kindOf y.1=some .cell\/X.env.kindOf y.1=some .free)
  (hlen:N'.length=ixs.length) (hix:∀(k i:Nat) (y:Str),N'[k]?=some y->ixs[k]?=some (some i)->X.N[i]?=some y/\scope.names.lookup y=some .free)
  (hs:∀x,foldedSetIterable Zs X.env x=pure x) (I:Inv X pins σ H s) (h:yZ ixs wi g tc te σ H Q)
  (fin:∀(C D:Addr) (oC:Obj) (m:Str->Option Value) (H':Hp) (s':Shared),Inv X (pins++[(C,oC)]) σ H' s'->(∀h:Heap,h.get? C=some oC->h.Ns C m)->C≠D->(C∈X.ex\/X.s₀.heap.objs.size<=C)->(∀x c,X.env.cells.lookup x=some c->c≠C) ->
   (∀p∈X.pn++pins,p.1≠C)->Q (.ref D) H'->compPost (model X.prog X.w) X.A X.xe use Qf (.ref D) C (.ok .next) s') :
  wpAny (model X.prog X.w) X.A (comprehension (.ListComp elt [⟨target,Zs,ifs,0⟩] scope pos) scope X.env p2 (newList []) false (eval Zs X.env) use) Qf X.xe s:=by
 obtain⟨cl,hclos,hcl,hcl2⟩:=zb5 (scope:=scope) (env:=X.env) λy hy hf=>I.ok.has y.1 (hfree y hy hf);refine wpAny_comprehension_free (g:=⟨target,Zs,ifs,0⟩) (gs:=[]) rfl hs hclos hkind hnames (thn (hi pins s σ H _ I h) λxv s1 h1=>thn h1 λitv s2 h2=>?_);obtain⟨it,fp,tn,J,H2,e,I2,T,st2,f2,W,⟨m0,w0⟩,turn⟩:=h2;subst e
 have hob:∀b∈fp,b<s2.heap.objs.size:=λb hb=>let ⟨o,e,_⟩:=T.obj _ _ st2 b hb;Heap.lt_size e
 refine wpAny_newObj_type (wpAny_newFunctionEnv hcell (by intro y hy;simp at hy) (λh₁ hns₁ hsb₁=>?_) hkind)
 dsimp only at hns₁ hsb₁ ⊢;generalize hH2:s2.heap.push { cls:=.type "list",dict:=none,data:=.seq ([]:List Value).toArray }=G2 at hns₁ hsb₁ ⊢
 have hC:G2.objs.size=s2.heap.objs.size+1:=by rw[<-hH2,Heap.size_push]
 have hDC:s2.heap.objs.size≠G2.objs.size:=by rw[hC];exact Nat.ne_of_lt (Nat.lt_succ_self _)
 have hCle:s2.heap.objs.size<=G2.objs.size:=by rw[hC];exact Nat.le_succ _
 generalize hCC:G2.objs.size=C at hns₁ hsb₁ hDC hCle hC ⊢;generalize hDD:s2.heap.objs.size=D at hDC ⊢;have hDle:s2.heap.objs.size<=D:=Nat.le_of_eq hDD;have below:∀b,b<s2.heap.objs.size->b≠C/\b≠D:=λb hb=>⟨Nat.ne_of_lt (Nat.lt_of_lt_of_le hb hCle),Nat.ne_of_lt (Nat.lt_of_lt_of_le hb hDle)⟩;have old:∀b o,s2.heap.get? b=some o->h₁.get? b=some o:=λb o e=>hsb₁.extBut b o (below b (Heap.lt_size e)).1 (Heap.get?_push_of_some _ (hH2▸Heap.get?_push_of_some _ e))
 have hacc:h₁.get? D=some { cls:=.type "list",data:=.seq ([]:List Value).toArray }:=hsb₁.extBut _ _ hDC (Heap.get?_push_of_some _ (hH2▸(by rw[<-hDD];exact Heap.get?_push_size _ rfl)))
 have hCn:H2 C=none:=I2.hok.fresh hCle;have hDn:H2 D=none:=I2.hok.fresh hDle;have okX:(cxC X N' scope cl C fp s2 H2).Ok:=Inv.cxOk I2 f2 hob hCle hcl hcl2 hkind hcell
 have cellLt:∀x c,X.env.cells.lookup x=some c->c<s2.heap.objs.size:=λx c e=>let ⟨v,o,ho,_⟩:=I2.cell x c e;Heap.lt_size ho
 have notFs:∀b,s2.heap.objs.size<=b->b∉frs X.stack:=λb hb z=>by
  rcases List.mem_cons.mp (I2.stkSub b z) with e|z
  ·exact absurd (Nat.lt_of_lt_of_le I2.lt (e▸hb)) (Nat.lt_irrefl _)
  ·exact I2.nofs hb z
 have pinOld:∀p∈X.pn++pins,p.1<s2.heap.objs.size:=λp hp=>Heap.lt_size (I2.pin p hp).1
 have pinFs:∀p∈X.pn++pins,p.1∉frs X.stack:=λp hp z=>by
  obtain⟨_,_,n1,n2,_⟩:=I2.pin p hp
  rcases List.mem_cons.mp (I2.stkSub _ z) with e|z
  ·exact n1 e
  ·exact n2 z
 have I0:Inv (cxC X N' scope cl C fp s2 H2) (pins++[(D,{ cls:=.type "list",data:=.seq ([]:List Value).toArray })]) (Ym σ ixs) H2 { s2 with heap:=h₁,toks:=s2.toks+([]:List (Str×Value)).length }:=by
  refine⟨okX,rfl,I2.bare,Un.kept old,⟨_,hns₁,λk y v e1 e2 e3=>?_⟩,λx c e=>?_,hCn,λx c e=>I2.freeC x c (hcl x c e),λp hp=>?_,I2.hok.kept old,by unfold Ym;rw[List.length_map];exact hlen.symm⟩
  ·unfold Ym at e2
   rw[List.getElem?_map] at e2
   cases ek:ixs[k]? with
   | none=>rw[ek] at e2;cases e2
   | some o =>
    cases o with
    | none=>rw[ek] at e2;cases e2
    | some i =>
     rw[ek] at e2
     have e2':(σ[i]?).join=some v:=by simpa using e2
     have e4:σ[i]?=some (some v):=by
      cases eq:σ[i]? with
      | none=>rw[eq] at e2';cases e2'
      | some z=>rw[eq] at e2';cases z with
       | none=>cases e2'
       | some z=>cases e2';rfl
     obtain⟨hNi,hsf⟩:=hix k i y e1 ek;have hk:=hfree (y,.free) (qK hsf) rfl;obtain⟨m,hn,hl⟩:=I2.loc
     have hvis:Vis X.env.scope y:=by
      rcases hk with hk|hk
      ·exact .inr (.inl hk)
      ·exact .inr (.inr hk)
     obtain⟨u,ru,lk⟩:=hl i y v hNi e4 hvis;refine⟨u,ru,.inr ⟨ju hsf,?_⟩⟩
     rcases lk with ⟨z,_⟩|⟨_,c,ec,zc⟩
     ·rcases hk with hk|hk <;> (rw[show X.env.kindOf y=some .local from z] at hk;cases hk)
     ·obtain⟨c',ec'⟩:=hcl2 (y,.free) (qK hsf) rfl
      have:=hcl _ _ ec';rw[ec] at this;cases this;obtain⟨o,ho,hd⟩:=zc;exact⟨c,ec',o,old _ _ ho,hd⟩
  ·obtain⟨v,o,ho,hd⟩:=I2.cell x c (hcl x c e)
   exact⟨v,o,old _ _ ho,hd⟩
  ·have hp':p∈X.pn++(pins++[(D,{ cls:=.type "list",data:=.seq ([]:List Value).toArray })]):=hp
   rw[<-List.append_assoc] at hp'
   rcases List.mem_append.mp hp' with hp'|hp'
   ·obtain⟨a1,a2,a3,a4,a5⟩:=I2.pin p hp'
    exact⟨old _ _ a1,a2,(below _ (pinOld p hp')).1,pinFs p hp',a5⟩
   ·have e:p=(D,{ cls:=.type "list",data:=.seq ([]:List Value).toArray }):=by simpa using hp'
    subst e;exact⟨hacc,hDn,hDC,notFs D hDle,λv z=>nomatch z⟩
 have statE:∀{H':Hp} {ob:Obj},(∀b∈fp,H' b=none)->∀b∈fp,zfP (cxC X N' scope cl C fp s2 H2) (pins++[(D,ob)]) H' b:=λ{H' ob} hn b hb=>by
  refine⟨hn b hb,(below b (hob b hb)).1,okX.exfs b hb,.inl hb,λx c e=>(f2 b hb).2.2.2.2.1 x c (hcl x c e),λp hp=>?_⟩;have hp':p∈X.pn++(pins++[(D,ob)]):=hp;rw[<-List.append_assoc] at hp'
  rcases List.mem_append.mp hp' with hp'|hp'
  ·exact(f2 b hb).2.2.2.2.2 p hp'
  ·have e:p=(D,ob):=by simpa using hp'
   subst e;exact Ne.symm (below b (hob b hb)).2
 have loop:∀s₃:Shared,s₃={ s2 with heap:=h₁,toks:=s2.toks+([]:List (Str×Value)).length } ->
   codeAny (model X.prog X.w) X.A (.compLoop (.ListComp elt [⟨target,Zs,ifs,0⟩] scope pos) 0 (.ref it) (.ref D) (compEnvC scope cl C X.env)) (compPost (model X.prog X.w) X.A X.xe use Qf (.ref D) C) s₃:=by
  rintro s₃ rfl
  refine WH (λn s'=>∃(i:Nat) (ys:List V) (us:List Value) (c:Nat) (H':Hp),Inv (cxC X N' scope cl C fp s2 H2) (pins++[(D,{ cls:=.type "list",data:=.seq us.toArray c })]) (Ym σ ixs) H' s' /\
    tn i s'.heap/\(∀b∈fp,H' b=none)/\Zg ys us/\ys.length<=sizeLine/\W i n ys H') ?_ m0 ⟨0,[],[],_,H2,I0,T.keep _ _ _ st2 λb _ o e=>old b o e,λb hb=>(f2 b hb).1,.nil,Nat.zero_le _,w0⟩
  rintro n s3 ⟨i,ys,us,c,H3,I3,st3,fr3,rv3,hz3,w3⟩
  rcases turn i n ys H3 w3 with ⟨stop,qn⟩|⟨go,hz,step⟩
  ·refine thn (T.done (cxC X N' scope cl C fp s2 H2) rfl rfl rfl hc i _ s3 _ H3 (λ_ _=>False) I3 (statE fr3) st3 stop) λr s4 ⟨hr,I4⟩=>?_
   subst hr
   obtain⟨p1,p2,p3,p4,p5⟩:=I4.pin (D,{ cls:=.type "list",data:=.seq us.toArray c }) (List.mem_append_right _ (List.mem_append_right _ (by simp)))
   obtain⟨m,hnC,_⟩:=I4.loc;obtain⟨oC,es,ep,eC,dC,rC⟩:=id hnC;have HDn:H3 D=none:=p2;have HCn:H3 C=none:=I4.free;have u4:Un (frs X.stack) fp H2 H3 s2.heap s4.heap:=I4.base
   have u5:Un (frs X.stack) fp H2 (upd H3 D (.lst ys)) s2.heap s4.heap:=by
    have nD:∀b o,s2.heap.get? b=some o->b≠D:=λb o e=>(below b (Heap.lt_size e)).2;have nH:∀b o,H2 b=some o->b≠D:=λb o e=>(below b (I2.hok.lt e)).2
    exact⟨u4.keep,u4.slot,λb o e n hx=>by rw[zq (nD b o e)];exact u4.free b o e n hx,u4.there,λb xs e=>by rw[zq (nH b _ e)];exact u4.tups b xs e,
     λb o xs e=>by rw[zq (nH b _ e)];exact u4.frzs b o xs e,λb ps e=>by rw[zq (nH b _ e)];exact u4.tbls b ps e⟩
   have ok5:HOk X.prog X.w (upd H3 D (.lst ys)) s4.heap:=λb o q=>by
    by_cases hb:b=D
    ·subst hb
     rw[ze] at q;cases q;exact⟨hz3,us,c,rv3,p1⟩
    ·rw[zq hb] at q
     exact(I4.hok b o q).stay (λc v _ r=>r) (λc r=>by rw[zq (zx r HDn)];exact r) λc xs r=>by rw[zq (zx r HDn)];exact r
   have I5:Inv X pins σ (upd H3 D (.lst ys)) s4:=I2.call' I4.os u5 ok5 I4.bare λb hb=>⟨(f2 b hb).2.2.2.1,(f2 b hb).2.1,(f2 b hb).2.2.2.2.1,(f2 b hb).2.2.2.2.2⟩
   have I6:Inv X (pins++[(C,oC)]) σ (upd H3 D (.lst ys)) s4:=I5.pins_of λp hp=>by
    rcases List.mem_append.mp hp with hp|hp
    ·exact I5.pin p (List.mem_append_right _ hp)
    ·have e:p=(C,oC):=by simpa using hp
     subst e
     refine⟨eC,by rw[zq (Ne.symm hDC)];exact HCn,Ne.symm (below _ I2.lt).1,λz=>I2.nofs hCle z,λv z=>?_⟩
     rw[dC] at z;cases z
   exact fin C D oC m _ s4 I6 (λh e=>⟨oC,es,ep,e,dC,rC⟩) (Ne.symm hDC) (.inr (Nat.le_trans I2.sz hCle)) (λx c e=>(below _ (cellLt x c e)).1) (λp hp=>(below _ (pinOld p hp)).1) (qn D HDn)
  ·refine thn (T.item (cxC X N' scope cl C fp s2 H2) rfl rfl rfl hc i _ s3 _ H3 (λ_ _=>False) I3 (statE fr3) st3 go) λr s4 ⟨u,hr,h4⟩=>?_
   subst hr;refine thn h4 λ_ s5 ⟨x,H5,I5,r5,y5,st5,fr5⟩=>?_;have I5':=I5.pinned (statE fr5) (T.obj _ _ st5);refine thn (hg _ _ _ _ _ _ s5 _ H5 x u _ I5' r5 (step x H5 y5)) λ_ s6 ⟨σ6,H6,I6,kp,q6⟩=>?_;refine thn (hts _ _ _ _ _ _ s6 σ6 H6 _ I6 q6) λok s7 ⟨H7,I7,q7⟩=>?_
   have keepTn:∀{H8:Hp} {s8:Shared} {σ8:L2.St},Inv (cxC X N' scope cl C fp s2 H2) (pins++[(D,{ cls:=.type "list",data:=.seq us.toArray c })]++w9 fp s5.heap) σ8 H8 s8->tn (i+1) s8.heap/\∀b∈fp,H8 b=none:=λ{H8 s8 σ8} I8 =>
    ⟨T.keep _ _ _ st5 λb hb o e=>(I8.pin (b,o) (List.mem_append_right _ (List.mem_append_right _ (qe hb e)))).1,λb hb=>by
     obtain⟨o,e,d⟩:=T.obj _ _ st5 b hb
     exact(I8.pin (b,o) (List.mem_append_right _ (List.mem_append_right _ (qe hb e)))).2.1⟩
   cases ok with
   | false =>
    simp only[Bool.false_eq_true,if_false] at q7 ⊢;obtain⟨m',hm,w7⟩:=q7;obtain⟨t7,f7⟩:=keepTn I7;exact⟨m',hm,i+1,ys,us,c,H7,I7.unpinned.weak kp.1.symm kp.2,t7,f7,rv3,hz3,w7⟩
   | true =>
    simp only[if_true] at q7 ⊢;refine thn (he _ _ _ _ _ _ s7 σ6 H7 _ I7 q7) λyv s8 ⟨y,H8,I8,r8,m',hm,w8⟩=>?_;obtain⟨t8,f8⟩:=keepTn I8;have I8':=I8.unpinned
    obtain⟨p1,p2,p3,p4,p5⟩:=I8'.pin (D,{ cls:=.type "list",data:=.seq us.toArray c }) (List.mem_append_right _ (List.mem_append_right _ (by simp)))
    refine append_at (hsz:=by rw[List.size_toArray,<-rv3.length];exact hz3) p1 λh9 hs9 hD9=>?_
    have I8o:Inv (cxC X N' scope cl C fp s2 H2) pins σ6 H8 s8:=I8'.unpinned
    have I9:Inv (cxC X N' scope cl C fp s2 H2) pins σ6 H8 { s8 with heap:=h9 } :=
     I8o.turned (t':=s8.toks) (it:=D) (λb o hb e=>hs9.extBut b o hb e) p2 hDC (.inr hDle) (λx c e=>(below _ (cellLt x c (hcl x c e))).2) λp hp=>(below _ (pinOld p hp)).2
    have I9':Inv (cxC X N' scope cl C fp s2 H2) (pins++[(D,{ cls:=.type "list",data:=.seq (us++[yv]).toArray (c+1) })]) σ6 H8 { s8 with heap:=h9 }:=I9.pins_of λp hp=>by
     rcases List.mem_append.mp hp with hp|hp
     ·exact I9.pin p (List.mem_append_right _ hp)
     ·have e:p=(D,{ cls:=.type "list",data:=.seq (us++[yv]).toArray (c+1) }):=by simpa using hp
      subst e;refine⟨?_,p2,hDC,notFs D hDle,λv z=>nomatch z⟩;rw[<-List.push_toArray];exact hD9
    refine⟨m',hm,i+1,ys++[y],us++[yv],c+1,H8,I9'.weak kp.1.symm kp.2,T.keep _ _ _ t8 λb hb o e=>hs9.extBut b o (below b (hob b hb)).2 e,f8,rv3.append (.cons r8 .nil),?_,w8⟩;rw[List.length_append,List.length_singleton];exact hz
 exact codeAny_compStart_list (loop _ rfl) (T.self _ 0 _ _ _ (T.keep _ _ _ st2 λb _ o e=>old b o e) (loop _ rfl))
end
def ziS(N':List Str)(ixs:List (Option Nat))(No:List Str)(scope:Scope):Bool :=
 (N'.zip ixs).all λp=>match p.2 with
  | none=>true
  | some i=>decide (No[i]?=some p.1)&&decide (scope.names.lookup p.1=some .free)
theorem zdy{N':List Str}{ixs:List (Option Nat)}{No:List Str}{scope:Scope}(h:ziS N' ixs No scope=true):∀(k i:Nat) (y:Str),N'[k]?=some y->ixs[k]?=some (some i)->No[i]?=some y/\scope.names.lookup y=some .free:=by
 intro k i y e1 e2
 have hm:(y,some i)∈N'.zip ixs:=by
  refine List.mem_iff_getElem?.mpr ⟨k,?_⟩;rw[List.getElem?_zip_eq_some];exact⟨e1,e2⟩
 have:=List.all_eq_true.mp h _ hm
 simpa using this
section
variable {X:Cx}
theorem Zv{target Zs elt:Expr}{ifs:List Expr}{scope:Scope}{pos:Pos}{wi:TI}{g:TG}{tc:TT}{te:TE}{No:List Str}{sc:Scope}
  (N':List Str) (ixs:List (Option Nat)) (hc:X.calm=true) (hi:PI X target Zs wi)
  (hg:∀cl C fp s₂ H₂,PG (cxC X N' scope cl C fp s₂ H₂) target g)
  (hts:∀cl C fp s₂ H₂,PTs (cxC X N' scope cl C fp s₂ H₂) ifs tc)
  (he:∀cl C fp s₂ H₂,PE (cxC X N' scope cl C fp s₂ H₂) elt te)
  (hkind:scope.kind=.function) (hcell:∀y∈scope.names,y.2≠.cell) (hnames:∀y∈scope.names,y.2=.local->scope.names.lookup y.1=some .local)
  (hNo:X.N=No) (hsc:X.env.scope=sc) (hfree:∀y∈scope.names,y.2=.free->sc.names.lookup y.1=some .cell\/sc.names.lookup y.1=some .free)
  (hlen:N'.length=ixs.length) (hix:ziS N' ixs No scope=true)
  (hs:∀x,foldedSetIterable Zs X.env x=pure x:=by intro _;rfl) :
  PE X (.ListComp elt [⟨target,Zs,ifs,0⟩] scope pos) (yZ ixs wi g tc te):=by
 intro pins s σ H Q I h;rw[eval_ListComp]
 refine WG (use:=none) hc hi hg hts he hkind hcell hnames (λy hy hf=>by have:=hfree y hy hf;rw[<-hsc] at this;exact this) hlen (hNo▸zdy hix) hs I h λC D oC m H' s' I' hn hCD h1 h2 h3 q=>?_
 have pC:=I'.pin (C,oC) (List.mem_append_right _ (List.mem_append_right _ (by simp)))
 exact⟨m,hn _ pC.1,λh' hs'=>⟨.ref D,H',I'.unpinned.turned (t':=s'.toks) (it:=C) (λb o hb e=>hs'.extBut b o hb e) pC.2.1 pC.2.2.1 h1 h2 h3,rfl,q⟩⟩
def zg7(j:Nat)(t:TE):TS:=λD σ H=>t σ H λx H1=>D.nx (σ.set j (some x)) H1
theorem Qz{target Zs elt:Expr}{ifs:List Expr}{scope:Scope}{pos spos py:Pos}{y:Str}{j:Nat}{wi:TI}{g:TG}{tc:TT}{te:TE}{No:List Str}{sc:Scope}
  (N':List Str) (ixs:List (Option Nat)) (hN:X.N.Nodup) (hj:X.N[j]?=some y) (hy:Loc X.env.scope y) (hc:X.calm=true) (hi:PI X target Zs wi)
  (hg:∀cl C fp s₂ H₂,PG (cxC X N' scope cl C fp s₂ H₂) target g)
  (hts:∀cl C fp s₂ H₂,PTs (cxC X N' scope cl C fp s₂ H₂) ifs tc)
  (he:∀cl C fp s₂ H₂,PE (cxC X N' scope cl C fp s₂ H₂) elt te)
  (hkind:scope.kind=.function) (hcell:∀y∈scope.names,y.2≠.cell) (hnames:∀y∈scope.names,y.2=.local->scope.names.lookup y.1=some .local)
  (hNo:X.N=No) (hsc:X.env.scope=sc) (hfree:∀y∈scope.names,y.2=.free->sc.names.lookup y.1=some .cell\/sc.names.lookup y.1=some .free)
  (hlen:N'.length=ixs.length) (hix:ziS N' ixs No scope=true)
  (hsw:swapsWith (.ListComp elt [⟨target,Zs,ifs,0⟩] scope pos) (some (.Name y py)) spos.line X.env=pure true:=by rfl)
  (hs:∀x,foldedSetIterable Zs X.env x=pure x:=by intro _;rfl)
  (hf:X.fn y=true\/X.env.scope.names.lookup y=some .local:=by first|exact .inl rfl|exact .inr rfl|assumption) :
  PS X (.Assign [.Name y py] (.ListComp elt [⟨target,Zs,ifs,0⟩] scope pos) spos) (zg7 j (yZ ixs wi g tc te)):=by
 intro pins s σ H D I h;rw[exec_Assign_Name_used _ _ _ _ hsw];refine wpAny_bind (wpAny_standAt (wpAny_bind ?_))
 show wpAny _ _ (do let _ <-comprehension (.ListComp elt [⟨target,Zs,ifs,0⟩] scope pos) scope X.env _ (newList []) false (eval Zs X.env) (some (assign (.Name y py) X.env))) _ _ s
 refine wpAny_bind (wpAny_mono (WG (use:=some (assign (.Name y py) X.env)) (Qf:=λ_ s'=>SP X pins D .next s') hc hi hg hts he hkind hcell hnames (λy hy hf=>by have:=hfree y hy hf;rw[<-hsc] at this;exact this) hlen (hNo▸zdy hix) hs I h λC E oC m H' s' I' hn hCD h1 h2 h3 q=>?_)
  (λ_ s' hq=>wpAny_pure (wpAny_pure hq)) λ_ _ e=>e)
 refine thn (zt (pos:=py) hN hj hy hf _ s' σ H' (.ref E) (.ref E) (λσ' H''=>σ'=σ.set j (some (.ref E))/\H''=H') I' rfl ⟨rfl,rfl⟩) λ_ s'' ⟨σ',H'',I'',e1,e2⟩=>?_;subst e1 e2
 have pC:=I''.pin (C,oC) (List.mem_append_right _ (List.mem_append_right _ (by simp)))
 exact⟨m,hn _ pC.1,λh' hs'=>⟨_,_,I''.unpinned.turned (t':=s''.toks) (it:=C) (λb o hb e=>hs'.extBut b o hb e) pC.2.1 pC.2.2.1 h1 h2 h3,q⟩⟩
end
end TX
namespace TM
abbrev Ls:=List (List Int)
abbrev Prs:=List (Int×Int)
def lof(ls:Ls)(i:Int):List Int:=ls.getD i.toNat []
def zH(ls:Ls)(i j:Int):Bool:=decide (j∈lof ls i)&&decide (i∈lof ls j)
structure Valid(ls:Ls):Prop where
 pos:1<=ls.length
 le:ls.length<=6
 mem:∀(i:Nat) (l:List Int),ls[i]?=some l->(∀x∈l,0<=x/\x<ls.length/\x≠(i:Int))/\l.Nodup
def ZN(ls:Ls)(c a b:Int):Bool:=if a=c\/a=b then false else decide (b=c)||decide ((lof ls c).idxOf a<(lof ls c).idxOf b)
def wr(ls:Ls)(c a:Int):Option Int->Bool
 | none=>true
 | some h=>decide ((lof ls c).idxOf a<(lof ls c).idxOf h)
def row(f:Int->Int->Bool)(i k:Nat):Prs:=((List.range k).map λ(d:Nat)=>((i:Int),(i:Int)+1+(d:Int))).filter λp=>f p.1 p.2
def Qs(f:Int->Int->Bool)(n i:Nat):Prs:=(List.range i).flatMap λa=>row f a (n-(a+1))
theorem zaY(f:Int->Int->Bool)(i k:Nat):row f i (k+1)=row f i k++(if f i (i+1+k) then [((i:Int),(i:Int)+1+(k:Int))] else []):=by
 unfold row;rw[List.range_succ,List.map_append,List.filter_append];congr 1;simp only[List.map_cons,List.map_nil,List.filter_cons,List.filter_nil]
theorem jr(f:Int->Int->Bool)(n i:Nat):Qs f n (i+1)=Qs f n i++row f i (n-(i+1)):=by
 unfold Qs;rw[List.range_succ,List.flatMap_append];simp
theorem zcN(f:Int->Int->Bool)(n:Nat):Qs f n 0=[]:=rfl
theorem zaX(f:Int->Int->Bool)(i:Nat):row f i 0=[]:=rfl
theorem zbH(f g:Int->Int->Bool)(i k:Nat):(row f i k).filter (λp=>g p.1 p.2)=row (λa b=>f a b&&g a b) i k:=by
 unfold row;rw[List.filter_filter];congr 1;funext p;exact Bool.and_comm _ _
theorem js(f g:Int->Int->Bool)(n i:Nat):(Qs f n i).filter (λp=>g p.1 p.2)=Qs (λa b=>f a b&&g a b) n i:=by
 unfold Qs;rw[List.filter_flatMap];congr 1;funext a;exact zbH f g a _
theorem zac{f:Int->Int->Bool}{i k:Nat}{p:Int×Int}(h:p∈row f i k):p.1=(i:Int)/\(i:Int)<p.2/\p.2<(i:Int)+1+(k:Int)/\f p.1 p.2=true:=by
 unfold row at h;rw[List.mem_filter,List.mem_map] at h;obtain⟨⟨d,hd,e⟩,hf⟩:=h
 have hd':d<k:=by simpa using hd
 subst e;refine⟨rfl,?_,?_,hf⟩
 ·show (i:Int)<(i:Int)+1+(d:Int)
  omega
 ·show (i:Int)+1+(d:Int)<(i:Int)+1+(k:Int)
  omega
theorem zer{f:Int->Int->Bool}{n i:Nat}{p:Int×Int}(h:p∈Qs f n i)(hi:i<=n):0<=p.1/\p.1<p.2/\p.2<(n:Int)/\f p.1 p.2=true:=by
 unfold Qs at h;rw[List.mem_flatMap] at h;obtain⟨a,ha,hp⟩:=h
 have ha':a<i:=by simpa using ha
 obtain⟨h1,h2,h3,h4⟩:=zac hp
 refine⟨by omega,by omega,by omega,h4⟩
theorem zcO{f g:Int->Int->Bool}{i k:Nat}(h:∀j:Int,(i:Int)<j->j<(i:Int)+1+(k:Int)->f i j=g i j):row f i k=row g i k:=by
 unfold row;apply List.filter_congr;intro p hp;rw[List.mem_map] at hp;obtain⟨d,hd,e⟩:=hp
 have hd':d<k:=by simpa using hd
 subst e
 exact h _ (by omega) (by omega)
theorem qd{f g:Int->Int->Bool}{n i:Nat}(hi:i<=n)(h:∀a b:Int,0<=a->a<b->b<n->f a b=g a b):Qs f n i=Qs g n i:=by
 unfold Qs
 have:∀l:List Nat,(∀a∈l,a<n)->(l.flatMap λa=>row f a (n-(a+1)))=l.flatMap λa=>row g a (n-(a+1)):=by
  intro l
  induction l with
  | nil=>intro _;rfl
  | cons a l ih =>
   intro hl;rw[List.flatMap_cons,List.flatMap_cons,ih λb hb=>hl b (List.mem_cons_of_mem _ hb)];have ha:=hl a List.mem_cons_self;rw[zcO (f:=f) (g:=g)];intro j h1 h2
   exact h a j (by omega) h1 (by omega)
 exact this _ λa ha=>by
  have:a<i:=by simpa using ha
  omega
def Zw(ls:Ls):Prs:=Qs (zH ls) ls.length ls.length
theorem YT{ls:Ls}{p:Int×Int}(h:p∈Zw ls):0<=p.1/\p.1<p.2/\p.2<(ls.length:Int)/\zH ls p.1 p.2=true:=zer h (Nat.le_refl _)
def step(f:Int->Option Int)(p:Int×Int):Int->Option Int:=λi=>if i=p.2 then some p.1 else if i=p.1 then some p.2 else f i
def mate(ps:Prs):Int->Option Int:=ps.foldl step λ_=>none
theorem yL(ps:Prs)(p:Int×Int)(i:Int):mate (ps++[p]) i=if i=p.2 then some p.1 else if i=p.1 then some p.2 else mate ps i:=by
 unfold mate;rw[List.foldl_append];rfl
def zd4(h:List Int)(p:Int×Int):List Int:=(h.set p.1.toNat p.2).set p.2.toNat p.1
def rng(n:Nat):List Int:=(List.range n).map λ(k:Nat)=>(k:Int)
def z5(n:Nat)(ps:Prs):List Int:=ps.foldl zd4 (rng n)
theorem zM(n:Nat):(rng n).length=n:=by simp[rng]
theorem qN(n:Nat)(ps:Prs)(p:Int×Int):z5 n (ps++[p])=zd4 (z5 n ps) p:=by
 unfold z5;rw[List.foldl_append];rfl
theorem ZA(n:Nat):∀ps:Prs,(z5 n ps).length=n:=by
 intro ps;unfold z5
 suffices h:∀(ps:Prs) (h:List Int),(ps.foldl zd4 h).length=h.length by rw[h,zM]
 intro ps
 induction ps with
 | nil=>intro h;rfl
 | cons p ps ih=>intro h;rw[List.foldl_cons,ih];simp[zd4]
structure Pairs(ls:Ls)(ps:Prs):Prop where
 each:∀p∈ps,0<=p.1/\p.1<ls.length/\0<=p.2/\p.2<ls.length/\p.1≠p.2/\zH ls p.1 p.2=true
 apart:(ps.flatMap λp=>[p.1,p.2]).Nodup
theorem Pairs.nil(ls:Ls):Pairs ls []:=Pairs.mk (λ_ h=>nomatch h) (show ([]:List Int).Nodup from List.nodup_nil)
theorem Qk{i:Int}:∀{ps:Prs} {h:Int},mate ps i=some h->(i,h)∈ps\/(h,i)∈ps:=by
 intro ps
 suffices hh:∀(rs:Prs) (h:Int),mate rs.reverse i=some h->(i,h)∈rs.reverse\/(h,i)∈rs.reverse by
  intro h e
  have:=hh ps.reverse h (by rw[List.reverse_reverse];exact e)
  rwa [List.reverse_reverse] at this
 intro rs
 induction rs with
 | nil=>intro h e;cases e
 | cons p rs ih =>
  intro h e;rw[List.reverse_cons,yL] at e;rw[List.reverse_cons];split at e
  ·rename_i h1
   cases e
   exact .inr (List.mem_append_right _ (by rw[h1];exact List.mem_singleton.mpr rfl))
  ·split at e
   ·rename_i h1
    cases e
    exact .inl (List.mem_append_right _ (by rw[h1];exact List.mem_singleton.mpr rfl))
   ·rcases ih h e with h2|h2
    ·exact .inl (List.mem_append_left _ h2)
    ·exact .inr (List.mem_append_left _ h2)
theorem jL{i:Int}:∀{ps:Prs},(¬i∈ps.flatMap λp=>[p.1,p.2])->mate ps i=none:=by
 intro ps h
 cases e:mate ps i with
 | none=>rfl
 | some j =>
  exfalso
  apply h;rw[List.mem_flatMap]
  rcases Qk e with h1|h1
  ·exact⟨_,h1,by simp⟩
  ·exact⟨_,h1,by simp⟩
theorem jJ{i:Int}:∀{ps:Prs},(i∈ps.flatMap λp=>[p.1,p.2])->∃j,mate ps i=some j:=by
 intro ps
 suffices hh:∀(rs:Prs),(i∈rs.reverse.flatMap λp=>[p.1,p.2])->∃j,mate rs.reverse i=some j by
  intro h
  have:=hh ps.reverse (by rw[List.reverse_reverse];exact h)
  rwa [List.reverse_reverse] at this
 intro rs
 induction rs with
 | nil=>intro h;simp at h
 | cons p rs ih =>
  intro h;rw[List.reverse_cons,List.flatMap_append,List.mem_append] at h;rw[List.reverse_cons,yL];split
  ·exact⟨_,rfl⟩
  ·rename_i h1
   split
   ·exact⟨_,rfl⟩
   ·rename_i h2
    rcases h with h|h
    ·exact ih h
    ·simp at h
     rcases h with h|h
     ·exact absurd h h2
     ·exact absurd h h1
theorem Pairs.has{ls:Ls}{ps:Prs}(P:Pairs ls ps){i h:Int}(e:mate ps i=some h):0<=i/\i<ls.length/\0<=h/\h<ls.length/\i≠h/\zH ls i h=true:=by
 rcases Qk e with h1|h1
 ·exact P.each _ h1
 ·obtain⟨a1,a2,a3,a4,a5,a6⟩:=P.each _ h1
  refine⟨a3,a4,a1,a2,λz=>a5 z.symm,?_⟩;unfold zH at a6 ⊢;rw[Bool.and_comm];exact a6
theorem q0(h:List Int)(a:Nat)(v:Int)(i:Nat)(d:Int)(ha:a<h.length):(h.set a v).getD i d=if i=a then v else h.getD i d:=by
 by_cases e:i=a
 ·subst e
  simp[List.getD,List.getElem?_set_self ha]
 ·simp[List.getD,List.getElem?_set_ne (Ne.symm e),e]
theorem Y2{ls:Ls}{ps:Prs}(P:∀p∈ps,0<=p.1/\p.1<ls.length/\0<=p.2/\p.2<ls.length):∀i:Nat,i<ls.length->(z5 ls.length ps).getD i 0=(mate ps i).getD i:=by
 suffices hh:∀(rs:Prs),(∀p∈rs.reverse,0<=p.1/\p.1<ls.length/\0<=p.2/\p.2<ls.length)->∀i:Nat,i<ls.length->(z5 ls.length rs.reverse).getD i 0=(mate rs.reverse i).getD i by
  have:=hh ps.reverse (by rw[List.reverse_reverse];exact P)
  rwa [List.reverse_reverse] at this
 intro rs
 induction rs with
 | nil =>
  intro _ i hi;show (rng ls.length).getD i 0=_;simp[rng,List.getD,hi,mate]
 | cons p rs ih =>
  intro P i hi;rw[List.reverse_cons] at P ⊢;obtain⟨a1,a2,a3,a4⟩:=P p (List.mem_append_right _ (List.mem_singleton.mpr rfl));have ih':=ih (λq hq=>P q (List.mem_append_left _ hq)) i hi;rw[qN,yL];unfold zd4;have hl:=ZA ls.length rs.reverse
  rw[q0 _ _ _ _ _ (by rw[List.length_set,hl];omega),q0 _ _ _ _ _ (by rw[hl];omega)]
  by_cases e1:(i:Int)=p.2
  ·rw[if_pos e1,if_pos (by omega)];rfl
  ·rw[if_neg e1,if_neg (by omega)]
   by_cases e2:(i:Int)=p.1
   ·rw[if_pos e2,if_pos (by omega)];rfl
   ·rw[if_neg e2,if_neg (by omega)];exact ih'
def who(ps:Prs):List Int:=ps.flatMap λp=>[p.1,p.2]
theorem JO(ps:Prs)(p:Int×Int):who (ps++[p])=who ps++[p.1,p.2]:=by simp[who]
theorem Pairs.snoc{ls:Ls}{ps:Prs}(P:Pairs ls ps){a b:Int}(h:0<=a/\a<ls.length/\0<=b/\b<ls.length/\a≠b/\zH ls a b=true)(ha:mate ps a=none)(hb:mate ps b=none):Pairs ls (ps++[(a,b)]):=by
 refine⟨λp hp=>?_,?_⟩
 ·rcases List.mem_append.mp hp with hp|hp
  ·exact P.each p hp
  ·rw[List.mem_singleton.mp hp];exact h
 ·have na:¬a∈who ps:=λz=>by obtain⟨j,e⟩:=jJ z;rw[ha] at e;cases e
  have nb:¬b∈who ps:=λz=>by obtain⟨j,e⟩:=jJ z;rw[hb] at e;cases e
  show (who (ps++[(a,b)])).Nodup;rw[JO,List.nodup_append]
  refine⟨P.apart,by simp[h.2.2.2.2.1],?_⟩
  intro x hx y hy e;subst e;simp at hy
  rcases hy with rfl|rfl
  ·exact na hx
  ·exact nb hx
theorem Pairs.init{ls:Ls}{ps:Prs}{p:Int×Int}(P:Pairs ls (ps++[p])):Pairs ls ps/\mate ps p.1=none/\mate ps p.2=none:=by
 have ap:(who (ps++[p])).Nodup:=P.apart;rw[JO,List.nodup_append] at ap;obtain⟨n1,n2,n3⟩:=ap
 refine⟨⟨λq hq=>P.each q (List.mem_append_left _ hq),n1⟩,jL λz=>n3 _ z p.1 (by simp) rfl,jL λz=>n3 _ z p.2 (by simp) rfl⟩
theorem Pairs.prefix{ls:Ls}{ps rs:Prs}(P:Pairs ls (ps++rs)):Pairs ls ps:=by
 refine⟨λq hq=>P.each q (List.mem_append_left _ hq),?_⟩;have:=P.apart;rw[List.flatMap_append,List.nodup_append] at this;exact this.1
theorem Pairs.take{ls:Ls}{ps:Prs}(P:Pairs ls ps)(i:Nat):Pairs ls (ps.take i):=Pairs.prefix (rs:=ps.drop i) (by rw[List.take_append_drop];exact P)
theorem Pairs.at{ls:Ls}{ps:Prs}(P:Pairs ls ps){i:Nat}{p:Int×Int}(h:ps[i]?=some p):Pairs ls (ps.take i)/\ps.take (i+1)=ps.take i++[p]/\mate (ps.take i) p.1=none/\mate (ps.take i) p.2=none /\
  (0<=p.1/\p.1<ls.length/\0<=p.2/\p.2<ls.length/\p.1≠p.2/\zH ls p.1 p.2=true):=by
 have e:ps.take (i+1)=ps.take i++[p]:=by rw[List.take_add_one,h];rfl
 have q:=P.take (i+1);rw[e] at q;exact⟨q.init.1,e,q.init.2.1,q.init.2.2,P.each p (List.mem_of_getElem? h)⟩
def brk(ls:Ls)(ps:Prs)(i j:Int):Bool:=zH ls i j&&(wr ls i j (mate ps i)&&wr ls j i (mate ps j))
def zcf(ls:Ls)(h:List Int)(i j:Int):Bool:=ZN ls i j (h.getD i.toNat 0)&&ZN ls j i (h.getD j.toNat 0)
theorem w6{ls:Ls}{ps:Prs}(P:Pairs ls ps){i j:Int}(hij:i≠j):ZN ls i j ((mate ps i).getD i)=wr ls i j (mate ps i):=by
 unfold ZN
 cases e:mate ps i with
 | none =>
  show (if j=i\/j=i then false else decide (i=i)||_)=true
  rw[if_neg (by intro z;rcases z with z|z <;> exact hij z.symm)]
  simp
 | some h =>
  obtain⟨_,_,_,_,hne,_⟩:=P.has e
  show (if j=i\/j=h then false else decide (h=i)||_)=decide _
  by_cases e1:j=h
  ·subst e1
   rw[if_pos (.inr rfl)];simp
  ·rw[if_neg (by intro z;rcases z with z|z;exact hij z.symm;exact e1 z)]
   rw[decide_eq_false (λz=>hne z.symm),Bool.false_or];rfl
def yO(ls:Ls)(h:List Int):Prs:=(Zw ls).filter λp=>zcf ls h p.1 p.2
def breaking(ls:Ls)(ps:Prs):Prs:=Qs (brk ls ps) ls.length ls.length
theorem zaF{ls:Ls}{ps:Prs}(P:Pairs ls ps):breaking ls ps=yO ls (z5 ls.length ps):=by
 unfold yO Zw breaking;rw[js (zH ls) (zcf ls (z5 ls.length ps))];refine qd (Nat.le_refl _) λa b h0 h1 h2=>?_;unfold brk zcf
 have ea:(z5 ls.length ps).getD a.toNat 0=(mate ps a).getD a:=by
  have:=Y2 (ls:=ls) (ps:=ps) (λp hp=>by obtain⟨h1,h2,h3,h4,_⟩:=P.each p hp;exact⟨h1,h2,h3,h4⟩) a.toNat (by omega)
  rw[this,show ((a.toNat:Nat):Int)=a by omega]
 have eb:(z5 ls.length ps).getD b.toNat 0=(mate ps b).getD b:=by
  have:=Y2 (ls:=ls) (ps:=ps) (λp hp=>by obtain⟨h1,h2,h3,h4,_⟩:=P.each p hp;exact⟨h1,h2,h3,h4⟩) b.toNat (by omega)
  rw[this,show ((b.toNat:Nat):Int)=b by omega]
 rw[ea,eb,w6 P (show a≠b by omega),w6 P (show b≠a by omega)]
end TM
namespace TM
def QY(n:Nat)(i:Int)(l:List Int):Prop:=(∀x∈l,0<=x/\x<n/\x≠i)/\l.Nodup
theorem QY.nil(n:Nat)(i:Int):QY n i []:=⟨λ_ h=>(nomatch h),List.nodup_nil⟩
theorem QY.take{n:Nat}{i:Int}{l:List Int}(h:QY n i l)(k:Nat):QY n i (l.take k) :=
 ⟨λx hx=>h.1 x (List.mem_of_mem_take hx),h.2.sublist (List.take_sublist k l)⟩
theorem zeB{α:Type}(l:List α)(k:Nat)(y:α)(h:l[k]?=some y):(y::l.eraseIdx k).Perm l:=by
 induction l generalizing k with
 | nil=>simp at h
 | cons x l ih =>
  cases k with
  | zero=>simp at h;subst h;exact List.Perm.refl _
  | succ k =>
   simp at h;exact(List.Perm.swap x y (l.eraseIdx k)).trans ((ih k h).cons x)
theorem QY.pop{n:Nat}{i:Int}{told left:List Int}(h:QY n i (told++left)){k:Nat}{y:Int}(e:left[k]?=some y):QY n i ((told++[y])++left.eraseIdx k):=by
 have p:((told++[y])++left.eraseIdx k).Perm (told++left):=by
  rw[List.append_assoc];exact List.Perm.append_left told (zeB left k y e)
 exact⟨λx hx=>h.1 x (p.mem_iff.mp hx),p.nodup_iff.mpr h.2⟩
theorem jt(n:Nat):(rng n).Nodup:=by
 unfold rng List.Nodup;rw[List.pairwise_map]
 exact List.Pairwise.imp (λh e=>h (by omega)) (List.nodup_range (n:=n))
theorem zc6(n:Nat)(c:Int):QY n c ((rng n).filter λx=>decide (x≠c)):=by
 refine⟨λx hx=>?_,?_⟩
 ·rw[List.mem_filter] at hx
  obtain⟨h1,h2⟩:=hx;unfold rng at h1;rw[List.mem_map] at h1;obtain⟨k,hk,rfl⟩:=h1
  have:k<n:=by simpa using hk
  refine⟨by omega,by omega,by simpa using h2⟩
 ·refine List.Nodup.sublist List.filter_sublist ?_
  exact jt n
theorem QY.ring{n:Nat}{c r:Int}{l:List Int}(h:QY n c l)(h0:0<=c)(hc:c<r)(h3:3<=r)(hr:r<=n) :
  QY n c ([(c+1) % r,(c+r-1) % r]++l.filter λx=>decide (¬x∈[(c+1) % r,(c+r-1) % r])):=by
 have b1:0<=(c+1) % r:=Int.emod_nonneg _ (by omega)
 have b2:(c+1) % r<r:=Int.emod_lt_of_pos _ (by omega)
 have b3:0<=(c+r-1) % r:=Int.emod_nonneg _ (by omega)
 have b4:(c+r-1) % r<r:=Int.emod_lt_of_pos _ (by omega)
 have e1:(c+1) % r=if c+1=r then 0 else c+1:=by
  split
  ·rename_i h;rw[h];exact Int.emod_self
  ·exact Int.emod_eq_of_lt (by omega) (by omega)
 have e2:(c+r-1) % r=if c=0 then r-1 else c-1:=by
  split
  ·rename_i h;rw[h];rw[show 0+r-1=r-1 by omega];exact Int.emod_eq_of_lt (by omega) (by omega)
  ·rw[show c+r-1=(c-1)+r by omega,Int.add_emod_right];exact Int.emod_eq_of_lt (by omega) (by omega)
 have n1:(c+1) % r≠c:=by rw[e1];split <;> omega
 have n2:(c+r-1) % r≠c:=by rw[e2];split <;> omega
 have n3:(c+1) % r≠(c+r-1) % r:=by rw[e1,e2];split <;> split <;> omega
 generalize (c+1) % r=a at *;generalize (c+r-1) % r=b at *;refine⟨λx hx=>?_,?_⟩
 ·rcases List.mem_append.mp hx with hx|hx
  ·simp at hx
   rcases hx with rfl|rfl
   ·exact⟨b1,by omega,n1⟩
   ·exact⟨b3,by omega,n2⟩
  ·exact h.1 x (List.mem_filter.mp hx).1
 ·rw[List.nodup_append]
  refine⟨by simp[n3],h.2.sublist List.filter_sublist,?_⟩
  intro x hx y hy e;subst e;have:=(List.mem_filter.mp hy).2;simp at this hx
  rcases hx with rfl|rfl
  ·exact this.1 rfl
  ·exact this.2 rfl
theorem wT{n s x y:Int}(hn:0<n)(hx:0<=x/\x<n)(hy:0<=y/\y<n)(h:(x+s) % n=(y+s) % n):x=y:=by
 have h1:=Int.emod_add_mul_ediv (x+s) n;have h2:=Int.emod_add_mul_ediv (y+s) n
 have h3:x-y=n * ((x+s) / n-(y+s) / n):=by rw[Int.mul_sub];omega
 generalize (x+s) / n-(y+s) / n=q at h3
 have hq:q=0:=by
  rcases Int.lt_trichotomy q 0 with hq|hq|hq
  ·have:n * q<=n * (-1):=Int.mul_le_mul_of_nonneg_left (by omega) (by omega)
   omega
  ·exact hq
  ·have:n * 1<=n * q:=Int.mul_le_mul_of_nonneg_left (by omega) (by omega)
   omega
 rw[hq] at h3;omega
theorem QY.shift{n:Nat}{c s:Int}{l:List Int}(h:QY n c l)(h0:0<=c)(hc:c<n):QY n ((c+s) % n) (l.map λx=>(x+s) % n):=by
 have hn:(0:Int)<n:=by omega
 refine⟨λx hx=>?_,?_⟩
 ·rw[List.mem_map] at hx
  obtain⟨y,hy,rfl⟩:=hx;obtain⟨a1,a2,a3⟩:=h.1 y hy
  exact⟨Int.emod_nonneg _ (by omega),Int.emod_lt_of_pos _ hn,λe=>a3 (wT hn ⟨a1,a2⟩ ⟨h0,hc⟩ e)⟩
 ·have gen:∀l:List Int,(∀x∈l,0<=x/\x<(n:Int))->l.Nodup->(l.map λx=>(x+s) % (n:Int)).Nodup:=by
   intro l
   induction l with
   | nil=>intro _ _;exact List.nodup_nil
   | cons y l ih =>
    intro hm hd;rw[List.nodup_cons] at hd;rw[List.map_cons,List.nodup_cons];refine⟨λz=>?_,ih (λx hx=>hm x (List.mem_cons_of_mem _ hx)) hd.2⟩;rw[List.mem_map] at z;obtain⟨x,hx,e⟩:=z;have:=wT hn (hm x (List.mem_cons_of_mem _ hx)) (hm y List.mem_cons_self) e;subst this;exact hd.1 hx
  exact gen l (λx hx=>⟨(h.1 x hx).1,(h.1 x hx).2.1⟩) h.2
def qS(n:Nat)(ls:Ls):Prop:=∀(j:Nat) l,ls[j]?=some l->QY n j l
theorem qS.set{n:Nat}{ls:Ls}(h:qS n ls){j:Nat}{l:List Int}(hl:QY n j l):qS n (ls.set j l):=by
 intro k m e
 by_cases hk:k=j
 ·subst hk
  by_cases hlt:k<ls.length
  ·rw[List.getElem?_set_self hlt] at e
   cases e;exact hl
  ·rw[List.getElem?_eq_none (by simp;omega)] at e
   cases e
 ·rw[List.getElem?_set_ne (Ne.symm hk)] at e
  exact h k m e
theorem qS.snoc{n:Nat}{ls:Ls}(h:qS n ls){l:List Int}(hl:QY n ls.length l):qS n (ls++[l]):=by
 intro k m e;rw[List.getElem?_append] at e;split at e
 ·exact h k m e
 ·rename_i hk
  have:k=ls.length:=by
   cases hd:k-ls.length with
   | zero=>omega
   | succ d=>rw[hd] at e;simp at e
  subst this;simp at e;subst e;exact hl
theorem zd2(n:Nat):qS n []:=λ_ _ e=>nomatch e
theorem zd1(n k:Nat):qS n (List.replicate k []):=by
 intro j l e
 have:l=[]:=by
  have:=List.mem_of_getElem? e;exact(List.mem_replicate.mp this).2
 subst this;exact QY.nil _ _
theorem qS.valid{ls:Ls}(h:qS ls.length ls)(h1:1<=ls.length)(h2:ls.length<=6):Valid ls:=⟨h1,h2,h⟩
theorem YX{ls:Ls}(V:Valid ls){i:Int}(h0:0<=i)(h1:i<ls.length):QY ls.length i (lof ls i):=by
 have hi:i.toNat<ls.length:=by omega
 have:=V.mem i.toNat (ls[i.toNat]) (by simp[hi])
 rw[show ((i.toNat:Nat):Int)=i by omega] at this
 unfold lof
 rw[show ls.getD i.toNat []=ls[i.toNat] by simp[List.getD,hi]]
 exact this
theorem zhL{ls:Ls}{i:Int}(h0:0<=i)(h1:i<ls.length):ls[i.toNat]?=some (lof ls i):=by
 have hi:i.toNat<ls.length:=by omega
 unfold lof;simp[List.getD,hi]
theorem ZP{n:Nat}{i:Int}{l:List Int}(h:QY n i l):l.length<=n:=by
 have gen:∀(m:Nat) (l:List Int),l.Nodup->(∀x∈l,0<=x/\x<m)->l.length<=m:=by
  intro m
  induction m with
  | zero =>
   intro l _ hm
   cases l with
   | nil=>exact Nat.le_refl _
   | cons x l=>have:=hm x List.mem_cons_self;omega
  | succ m ih =>
   intro l hd hm
   have h1:(l.erase (m:Int)).length<=m:=ih _ (hd.erase _) λx hx=>by
    have hx':=List.mem_of_mem_erase hx;have:=hm x hx'
    have hne:x≠(m:Int):=λz=>by
     subst z;exact absurd hx (List.Nodup.not_mem_erase hd)
    omega
   have h2:l.length<=(l.erase (m:Int)).length+1:=by
    rw[List.length_erase]
    split <;> omega
   omega
 exact gen n l h.2 λx hx=>⟨(h.1 x hx).1,(h.1 x hx).2.1⟩
theorem yz(ls:Ls)(i j:Int):zH ls i j=zH ls j i:=by unfold zH;rw[Bool.and_comm]
theorem zT{ls:Ls}{i j:Int}(h:zH ls i j=true):j∈lof ls i/\i∈lof ls j:=by
 unfold zH at h;rw[Bool.and_eq_true] at h
 exact⟨by simpa using h.1,by simpa using h.2⟩
end TM
namespace TK
open PySem PySem.Spec PyProof.Rows L2 TX TM
open PySem.W (Dat kqdP kqdPs kqdOk)
abbrev Rel(α:Type):=Hp->V->α->Prop
def zii{α:Type}(R:Rel α):Prop:=∀H H' v d,zj H H'->R H v d->R H' v d
theorem Paired.at1{α β:Type}{F:α->β->Prop}:∀{l₁:List α} {l₂:List β} {i:Nat} {a:α},Paired F l₁ l₂->l₁[i]?=some a->∃b,l₂[i]?=some b/\F a b
 | _,_,_,_,.nil,e=>by simp at e
 | _,_,0,_,.cons r _,e=>by simp at e;subst e;exact⟨_,rfl,r⟩
 | _,_,i+1,a,.cons _ t,e=>by
  obtain⟨u,h1,h2⟩:=Paired.at1 (i:=i) (a:=a) t (by simpa using e)
  exact⟨u,by simpa using h1,h2⟩
theorem Paired.at2{α β:Type}{F:α->β->Prop}:∀{l₁:List α} {l₂:List β} {i:Nat} {b:β},Paired F l₁ l₂->l₂[i]?=some b->∃a,l₁[i]?=some a/\F a b
 | _,_,_,_,.nil,e=>by simp at e
 | _,_,0,_,.cons r _,e=>by simp at e;subst e;exact⟨_,rfl,r⟩
 | _,_,i+1,a,.cons _ t,e=>by
  obtain⟨u,h1,h2⟩:=Paired.at2 (i:=i) (b:=a) t (by simpa using e)
  exact⟨u,by simpa using h1,h2⟩
theorem Paired.app{α β:Type}{F:α->β->Prop}:∀{l₁ m₁:List α} {l₂ m₂:List β},Paired F l₁ l₂->Paired F m₁ m₂->Paired F (l₁++m₁) (l₂++m₂)
 | _,_,_,_,.nil,q=>q
 | _,_,_,_,.cons r t,q=>.cons r (Paired.app t q)
theorem Paired.setAt{α β:Type}{F:α->β->Prop}{a:α}{b:β}(r:F a b):∀{l₁:List α} {l₂:List β} (i:Nat),Paired F l₁ l₂->Paired F (l₁.set i a) (l₂.set i b)
 | _,_,_,.nil=>.nil
 | _,_,0,.cons _ t=>.cons r t
 | _,_,i+1,.cons q t=>.cons q (Paired.setAt r i t)
theorem Paired.impl{α β:Type}{F G:α->β->Prop}(h:∀a b,F a b->G a b):∀{l₁:List α} {l₂:List β},Paired F l₁ l₂->Paired G l₁ l₂
 | _,_,.nil=>.nil
 | _,_,.cons r t=>.cons (h _ _ r) (Paired.impl h t)
def Of{α:Type}(R:Rel α)(H:Hp)(a:Addr)(ds:List α):Prop:=∃xs:List V,H a=some (.lst xs)/\Paired (R H) xs ds
section
variable {α:Type}{R:Rel α}{H H':Hp}{a:Addr}{ds:List α}
theorem Of.same(m:zii R)(h:Of R H a ds)(e:zj H H'):Of R H' a ds:=by
 obtain⟨xs,h1,h2⟩:=h;exact⟨xs,e _ _ h1,Paired.impl (λ_ _ r=>m _ _ _ _ e r) h2⟩
end
def RZ:Rel Int:=λ_ v i=>v=.int i
def RI:Rel (List Int):=λH v l=>∃p,v=.ref p/\H p=some (.lst (l.map V.int))
theorem mI:zii RI:=λ_ _ _ _ e h=>let ⟨p,h1,h2⟩:=h;⟨p,h1,e _ _ h2⟩
def RP:Rel (Int×Int):=λH v q=>∃p,v=.ref p/\H p=some (.tup [.int q.1,.int q.2])
theorem mP:zii RP:=λ_ _ _ _ e h=>let ⟨p,h1,h2⟩:=h;⟨p,h1,e _ _ h2⟩
abbrev LL:Hp->Addr->Ls->Prop:=Of RI
abbrev PL:Hp->Addr->Prs->Prop:=Of RP
theorem qu{α:Type}{xs:List α}{i:Int}{v:α}(h0:0<=i)(h:xs[i.toNat]?=some v):atI xs i=some v:=by
 have:=wF (j:=i.toNat) h
 rw[show ((i.toNat:Nat):Int)=i by omega] at this
 exact this
theorem LL.at{H:Hp}{a:Addr}{ls:Ls}(h:LL H a ls){i:Int}(h0:0<=i)(h1:i<ls.length):∃xs p,H a=some (.lst xs)/\atI xs i=some (.ref p)/\H p=some (.lst ((lof ls i).map V.int)):=by
 obtain⟨xs,e,r⟩:=h;obtain⟨v,e2,p,rfl,hp⟩:=Paired.at2 r (zhL h0 h1);exact⟨xs,p,e,qu h0 e2,hp⟩
def dZ(l:List Int):Dat:=.list (l.map Dat.int)
def dLL(ls:Ls):Dat:=.list (ls.map dZ)
def dP(q:Int×Int):Dat:=.tuple [.int q.1,.int q.2]
def dPL(ps:Prs):Dat:=.list (ps.map dP)
theorem yN{K:PySem.W.Frag}{H:Hp}{p:Addr}{l:List Int}(h:H p=some (.lst (l.map V.int))):Dd K H (.ref p) (dZ l):=by
 refine .lst (SqL.of h) (by simp) λi x d e1 e2=>?_
 rw[List.getElem?_map] at e1 e2
 cases e:l[i]? with
 | none=>rw[e] at e1;cases e1
 | some z=>rw[e] at e1 e2;cases e1;cases e2;exact .int z
theorem LL.dd{K:PySem.W.Frag}{H:Hp}{a:Addr}{ls:Ls}(h:LL H a ls):Dd K H (.ref a) (dLL ls):=by
 obtain⟨xs,e,r⟩:=h
 refine .lst (SqL.of e) (by rw[List.length_map];exact r.length) λi x d e1 e2=>?_
 obtain⟨l,e3,p,rfl,hp⟩:=Paired.at1 r e1;rw[List.getElem?_map,e3] at e2;cases e2;exact yN hp
theorem PL.dd{K:PySem.W.Frag}{H:Hp}{a:Addr}{ps:Prs}(h:PL H a ps):Dd K H (.ref a) (dPL ps):=by
 obtain⟨xs,e,r⟩:=h
 refine .lst (SqL.of e) (by rw[List.length_map];exact r.length) λi x d e1 e2=>?_
 obtain⟨q,e3,p,rfl,hp⟩:=Paired.at1 r e1;rw[List.getElem?_map,e3] at e2;cases e2;refine .tup (SqT.of hp) rfl λj y f e4 e5=>?_
 match j with
 | 0=>cases e4;cases e5;exact .int _
 | 1=>cases e4;cases e5;exact .int _
 | j+2=>simp at e4
theorem jC(l:List Int)(n:Nat):kqdOk (n+1) (dZ l)=true:=by
 unfold dZ;rw[kqdOk,List.all_map,List.all_eq_true];intro x _
 cases n <;> simp[kqdOk]
theorem zfy(ls:Ls):kqdOk 9 (dLL ls)=true:=by
 unfold dLL;rw[kqdOk,List.all_map,List.all_eq_true];intro l _;exact jC l 7
theorem zbb(ps:Prs):kqdOk 9 (dPL ps)=true:=by
 unfold dPL;rw[kqdOk,List.all_map,List.all_eq_true];intro q _;simp[dP,kqdOk]
theorem zfI{l m:List Int}:dZ l=dZ m↔l=m:=by
 unfold dZ;constructor
 ·intro h
  have h':l.map Dat.int=m.map Dat.int:=by injection h
  exact(List.map_inj_right (λa b e=>by injection e)).mp h'
 ·rintro rfl;rfl
theorem qt{K:PySem.W.Frag}{H:Hp}{p:Addr}(h:H p=some (.lst [])):Dd K H (.ref p) (.list []) :=
 .lst (SqL.of h) rfl λi x d e=>by simp at e
theorem Yf(l:List Int):(l.map V.int).all wA=true:=by
 rw[List.all_map,List.all_eq_true];intro x _;rfl
theorem qh(x:Int)(l:List Int):inV (.int x) (l.map V.int)=decide (x∈l):=by
 unfold inV;rw[List.any_map]
 induction l with
 | nil=>rfl
 | cons y l ih =>
  rw[List.any_cons,ih];show ((y==x)||decide (x∈l))=_
  by_cases h:y=x
  ·subst h;simp
  ·rw[show (y==x)=false by simpa using h,Bool.false_or]
   by_cases h2:x∈l
   ·simp[h2]
   ·have:¬x∈y::l:=by simp[h2];exact λz=>h z.symm
    rw[decide_eq_false h2,decide_eq_false this]
theorem qm{A B:Prop}{b:Bool}(h1:b=true->A)(h2:b=false->B):if b=true then A else B:=by
 cases b with
 | true=>exact h1 rfl
 | false=>exact h2 rfl
section
variable {K:PySem.W.Frag}{ta tv te:TE}{f:Str}{D:Ends}{σ:L2.St}{H:Hp}{j:Nat}{Q:VK}{g:TG}{a b:TS}
theorem zf8(h:tv σ H λy H1=>ta σ H1 λx H2=>∃a C dx fs,x=.ref a/\H2 a=some (.ins C dx fs)/\Cls K C/\qw K C f/\fs.length<1000/\D.nx σ (upd H2 a (.ins C dx (Q5 f y fs)))):zjg K ta tv f D σ H:=h
theorem Yk(h:te σ H λx H1=>D.nx (σ.set j (some x)) H1):zg7 j te D σ H:=h
theorem qz(h:te σ H D.rt):zi3 te D σ H:=h
theorem WW(h:te σ H λx H1=>g x σ H1 D.nx):ziw te g D σ H:=h
theorem jk{c:TT}(h:c σ H λx H1=>if x=true then a D σ H1 else b D σ H1):zi6 c a b D σ H:=h
theorem zcu{R:Bool->Hp->Prop}(h:te σ H λx H1=>∃c,x=.bl c/\R c H1):tB te σ H R:=h
theorem qX{r:List V->Hp->VK->Prop}{tr:TA}(h:tr σ H λvs H1=>r vs H1 Q):tCB r tr σ H Q:=h
theorem ZT{tr:TA}{R:List V->Hp->Prop}(h:te σ H λx H1=>tr σ H1 λxs H2=>R (x::xs) H2):zS te tr σ H R:=h
theorem qi{v:V}{R:L2.St->Hp->Prop}(h:R (σ.set j (some v)) H):yX j v σ H R:=h
theorem Yl(h:a { D with nx:=b D } σ H):zi2 a b D σ H:=h
end
structure FnP(K:PySem.W.Frag)(mg:Str->Option Value)(x qual:Str)(st:Stmt)(ps:List Str)(f:Addr)(fd:FuncData):Prop where
 fn:Fun K x qual st f fd
 b:qp K fd ps []
 mg:mg x=some (.ref f)
structure MeP(K:PySem.W.Frag)(C:Addr)(x qual:Str)(st:Stmt)(ps:List Str)(f:Addr)(fd:FuncData):Prop where
 fn:Fun K x qual st f fd
 b:qp K fd ps []
 me:Meth K C x f
theorem zD:bootBuiltins "len"=some (.builtin "len"):=by decide +kernel
theorem zV:bootBuiltins "list"=some (.type "list"):=by decide +kernel
theorem zw:bootBuiltins "isinstance"=some (.builtin "isinstance"):=by decide +kernel
theorem jf:bootBuiltins "any"=some (.builtin "any"):=by decide +kernel
theorem jg:bootBuiltins "all"=some (.builtin "all"):=by decide +kernel
theorem zfh:bootBuiltins "min"=some (.builtin "min"):=by decide +kernel
theorem zbq:bootBuiltins "int"=some (.type "int"):=by decide +kernel
theorem WK:bootBuiltins "bool"=some (.type "bool"):=by decide +kernel
theorem JL:bootBuiltins "tuple"=some (.type "tuple"):=by decide +kernel
section
variable {K:PySem.W.Frag}
theorem QP:PySem.W.kitOne K (.type "int") (.type "bool")=some false:=by rfl
theorem jS:PySem.W.kitOne K (.type "int") (.type "int")=some true:=by rfl
theorem ZJ:PySem.W.kitOne K (.type "list") (.type "list")=some true:=by rfl
theorem Y0:PySem.W.kitOne K (.type "tuple") (.type "tuple")=some true:=by rfl
end
end TK
namespace TX
open PySem PySem.Spec PyProof.Rows L2
theorem cut{X:Cx}{st:List Stmt}{u:TS}{M:TS}(h:PSs X st u)(hM:∀D σ H,M D σ H->u D σ H):PSs X st M:=λpins s σ H D I q=>h pins s σ H D I (hM D σ H q)
end TX
namespace TX
open PySem PySem.Spec PyProof.Rows L2
section
variable {X:Cx}
theorem j6:qo X (.builtin "sorted") (λxs H Q=>∃(p:Addr) (ns:List Int),xs=[.ref p]/\SqL X.K H p (ns.map V.int)/\ns.length<64 /\
  ∀(l:Addr) (ms:List Int),H l=none->ms.Perm ns->ms.Pairwise (·<=·)->Q (.ref l) (upd H l (.lst (ms.map V.int)))):=by
 intro pins s σ H xs us Q I r h;obtain⟨p,ns,rfl,hq,hz,q⟩:=h;obtain⟨u,rfl,rx⟩:=JQ r;cases rx;obtain⟨its,r',pl,hz'⟩:=I.list hq;have hi:=QD r';have hlen:=hi.length
 refine sorted_ints pl.isList hi (by omega) λout ms ho hp hs=>?_
 obtain⟨e,he⟩:=sortedAll_at s.heap its out;have hml:=hp.length_eq
 refine⟨.ref (s.heap.objs.size+1),_,I.laid (t':=s.toks) (a:=s.heap.objs.size+1) (o:=.lst (ms.map V.int)) (λb o q=>sortedAll_old q) (Nat.le_succ _)
  (show Zt X.prog X.w _ _ _ (.lst (ms.map V.int)) from ⟨?_,out.toList,e,qV ho,by simpa [seqObj] using he⟩),rfl,q _ ms (I.hok.fresh (Nat.le_succ _)) hp hs⟩
 rw[List.length_map,hml]
 exact Nat.le_of_lt (zr (by omega))
def zh9(K:PySem.W.Frag):List V->Hp->VK->Prop:=λxs H Q=>∃(p:Addr) (ys:List V),xs=[.ref p]/\(SqL K H p ys\/SqT K H p ys)/\Q (.int ys.length) H
theorem Yg:qo X (.builtin "len") (zh9 X.K):=zu
end
end TX
namespace TK
open PySem
theorem YB:bootBuiltins "sorted"=some (.builtin "sorted"):=by decide +kernel
end TK
namespace TX
open PySem PySem.Spec PyProof.Rows L2
theorem Zt.has{P:Program}{w:World}{H:Hp}{h:Heap}{a:Addr}{o:HO}(x:Zt P w H h a o):∃u,h.get? a=some u:=by
 cases o with
 | lst xs=>obtain⟨_,_,_,_,e⟩:=x;exact⟨_,e⟩
 | tup xs=>obtain⟨_,_,_,u,e,_⟩:=x;exact⟨u,e⟩
 | dK kvs=>obtain⟨_,_,_,_,o,_,_,e,_⟩:=x;exact⟨o,e⟩
 | dT kvs=>obtain⟨_,_,_,_,o,_,_,e,_⟩:=x;exact⟨o,e⟩
 | set S n=>obtain⟨o,_,_,_,e,_⟩:=x;exact⟨o,e⟩
 | ins C dx fs=>obtain⟨_,_,_,e,_⟩:=x;exact⟨_,e⟩
 | own y=>exact x
 | xd fs=>obtain⟨_,⟨o,_,_,e,_⟩,_⟩:=x;exact⟨o,e⟩
 | met f y=>exact⟨_,x⟩
 | rng lo hi=>obtain⟨_,_,_,e⟩:=x;exact⟨_,e⟩
 | frz o u=>exact⟨_,x.1⟩
 | tbl ps=>exact⟨_,x⟩
 | ext φ=>exact x.2.1
theorem HOk.none{P:Program}{w:World}{H:Hp}{h:Heap}{a:Addr}(x:HOk P w H h)(e:h.get? a=none):H a=none:=by
 cases q:H a with
 | none=>rfl
 | some o=>obtain⟨u,z⟩:=Zt.has (x a o q);rw[e] at z;cases z
def zjR(c:Addr):HO:=.ext λh=>∃o fs,h.get? c=some o/\o.data=.fields fs/\fs[2]?=some .none
def zh7(lo:Bool)(H:Hp)(cx:Value):Prop:=cx=.none\/(lo=true/\∃c,cx=.ref c/\H c=some (zjR c))
def Fly(lo:Bool)(H:Hp)(h₀ h:Heap)(C e:Addr)(od:Option Addr):Prop:=∃(cx:Value) (oe:Obj) (vs:Array Value) (T:Addr) (oT:Obj) (ts:Array Value),h.get? e=some oe/\(oe.cls=.ref C/\vs[2]?=some cx/\oe.dict=od)/\oe.data=.fields vs/\vs[1]?=some (.ref T)/\T≠e /\
 h.get? T=some oT/\oT.data=.fields ts/\ts[3]?=some .none/\H e=none/\H T=none/\h₀.get? e=none/\h₀.get? T=none/\zh7 lo H cx
def CXb(lo:Bool)(P:Program)(w:World)(C:Addr):CXT:=λouter H s E ev s'=>∃(e:Addr) (H':Hp) (od:Option Addr),ev=.ref e/\s'.os=s.os/\AllBare s'.gens/\Un (frs outer) [] H H' s.heap s'.heap/\HOk P w H' s'.heap/\Fly lo H' s.heap s'.heap C e od/\E (.ref C) od H'
structure Kp(fs ex:List Addr)(h h':Heap):Prop where
 keep:∀b o,h.get? b=some o->b∉fs->b∉ex->h'.get? b=some o
 slot:∀b o,h.get? b=some o->b∈fs->∃sl,h'.get? b=some { o with slots:=sl }
theorem Kp.of{fs ex:List Addr}{h h':Heap}(k:(PySem.W.hideAll h (ex++fs)).StaysIn h')(u:∀b o,h.get? b=some o->b∈fs->∃sl,h'.get? b=some { o with slots:=sl }):Kp fs ex h h' :=
 ⟨λb o e n1 n2=>k b o (PySem.W.hideAll_get _ e λz=>(List.mem_append.mp z).elim n2 n1),u⟩
theorem Kp.hok{P:Program}{w:World}{H:Hp}{fs ex:List Addr}{h h':Heap}(k:Kp fs ex h h')(x:HOk P w H h)(hf:∀b∈fs,H b=none)(he:∀b∈ex,H b=none):HOk P w H h':=λa o e=>by
 refine(x a o e).stay (λc v hc q=>k.keep c v q ?_ ?_) (λ_ q=>q) λ_ _ q=>q
 ·intro z
  rcases hc with rfl|hc
  ·rw[hf _ z] at e;cases e
  ·rw[hf _ z] at hc;cases hc
 ·intro z
  rcases hc with rfl|hc
  ·rw[he _ z] at e;cases e
  ·rw[he _ z] at hc;cases hc
theorem Kp.un{H H':Hp}{fs ex:List Addr}{h₀ h h':Heap}(k:Kp fs ex h h')(u:Un fs [] H H' h₀ h)(he:∀b∈ex,h₀.get? b=none):Un fs [] H H' h₀ h':=by
 have nex:∀b o,h₀.get? b=some o->b∉ex:=λb o q z=>by rw[he b z] at q;cases q
 have nil:∀b:Addr,b∉([]:List Addr):=λb z=>absurd z (by simp)
 refine⟨λb o q n hb _=>k.keep b o (u.keep b o q n hb (nil b)) hb (nex b o q),λb o q n hb _=>?_,λb o q n hx=>u.free b o q n hx,λb o q _=>?_,u.tups,u.frzs,u.tbls⟩
 ·obtain⟨sl,e⟩:=u.slot b o q n hb (nil b)
  obtain⟨sl',e'⟩:=k.slot b _ e hb;exact⟨sl',e'⟩
 ·obtain⟨o',e⟩:=u.there b o q (nil b)
  by_cases hb:b∈fs
  ·obtain⟨sl,e'⟩:=k.slot b o' e hb
   exact⟨_,e'⟩
  ·exact⟨o',k.keep b o' e hb (nex b o q)⟩
section
variable {X:Cx}{pins:List (Addr×Obj)}{σ:L2.St}{H H':Hp}{s s':Shared}{C e:Addr}{lo:Bool}
theorem zay{base h h':Heap}{l:List Env}(f:h.FunFrames base l)(u:h.UpToSlots h'):∀b o,h.get? b=some o->b∈frs l->∃sl,h'.get? b=some { o with slots:=sl }:=λb o q hb=>by
 obtain⟨_,o',ho,hn⟩:=f.mem hb;rw[q] at ho;cases ho;exact u b o q hn
theorem zdF{B h h' h₀:Heap}{ex:List Addr}{l:List Env}(hB:B=PySem.W.hideAll h (ex++frs l))(f:h'.FunFrames B l){cx:Value}{od:Option Addr}(t:TrD h' B e (.ref C) cx .none od)(hcx:zh7 lo H cx)(he:H e=none)(hex:∀b∈ex,H b=none/\h₀.get? b=none)
  (e0:h₀.get? e=none) (hn:∀b,h.get? b=none->H b=none) (h0:∀b o,h₀.get? b=some o->∃o',h.get? b=some o'):Fly lo H h₀ h' C e od:=by
 obtain⟨oe,vs,T,oT,ts,g1,g2,g3,g4,g5,g6,g7,g8,g9⟩:=t
 have hT:∀o,h.get? T=some o->T∈ex:=λo q=>by
  rw[hB] at g5;refine Classical.byContradiction λnx=>?_
  by_cases hb:T∈frs l
  ·obtain⟨_,o',ho,hnf⟩:=f.mem hb
   rw[g7] at ho;cases ho;exact hnf ts g8
  ·rw[PySem.W.hideAll_get _ q λz=>(List.mem_append.mp z).elim nx hb] at g5
   cases g5
 have hTH:H T=none/\h₀.get? T=none:=by
  cases q:h.get? T with
  | some o=>exact hex T (hT o q)
  | none =>
   refine⟨hn T q,?_⟩
   cases z:h₀.get? T with
   | none=>rfl
   | some o=>obtain⟨o',z'⟩:=h0 T o z;rw[q] at z';cases z'
 exact⟨cx,oe,vs,T,oT,ts,g1,g2,g3,g4,g6,g7,g8,g9,he,hTH.1,e0,hTH.2,hcx⟩
theorem Inv.after0(I:Inv X pins σ H s)(ho:s'.os=s.os)(u:Un (frs X.stack) [] H H' s.heap s'.heap)(hok:HOk X.prog X.w H' s'.heap)(hg:AllBare s'.gens):Inv X pins σ H' s' :=
 I.call' ho u hok hg λb z=>absurd z (by simp)
end
section
variable {P:Program}{w:World}{K:PySem.W.Frag}{mg:Str->Option Value}{base:Heap}{N:List Str}{qual:Str}{scope:Scope}{f:Addr}{cd:Value}{A:Around}{outer:List Env}{s₀:Shared}{H₀:Hp}{E:XK}{C:Addr}{lo:Bool}
abbrev cxb(lo:Bool)(C:Addr)(P:Program)(w:World)(K:PySem.W.Frag)(mg:Str->Option Value)(base:Heap)(N:List Str)(qual:Str)(scope:Scope)(f:Addr)(cd:Value)(A:Around)(outer:List Env)(s:Shared)(H:Hp)(E:XK):Cx :=
 zbn (CXb lo P w C) P w K mg base N qual scope f cd A outer s H E
theorem zaM{pins:List (Addr×Obj)}{σ:L2.St}{H:Hp}{s:Shared}(I:Inv (cxb lo C P w K mg base N qual scope f cd A outer s₀ H₀ E) pins σ H s):∀b o,s₀.heap.get? b=some o->∃o',s.heap.get? b=some o':=λb o q =>
 I.base.there b o q λz=>absurd z (by simp[cxb,zbn])
theorem ziM{pins:List (Addr×Obj)}{σ:L2.St}{H:Hp}{s:Shared}(I:Inv (cxb lo C P w K mg base N qual scope f cd A outer s₀ H₀ E) pins σ H s){b:Addr}{o:Obj}(q:s₀.heap.get? b=some o):b≠(cxb lo C P w K mg base N qual scope f cd A outer s₀ H₀ E).env.locals :=
 Nat.ne_of_lt (Nat.lt_of_lt_of_le (Heap.lt_size q) I.ok.above)
theorem left{pins:List (Addr×Obj)}{σ:L2.St}{H:Hp}{s s'':Shared}{ex:List Addr}{e:Addr}{od:Option Addr}{h1:Heap}(I:Inv (cxb lo C P w K mg base N qual scope f cd A outer s₀ H₀ E) pins σ H s)
  (hos:s''.os=s.os) (hg:s''.gens=s.gens) (k1:∀b o,s.heap.get? b=some o->b∉ex->h1.get? b=some o)
  (kb:(PySem.W.hideAll h1 (ex++frs (cxb lo C P w K mg base N qual scope f cd A outer s₀ H₀ E).stack)).StaysIn s''.heap) (us:h1.UpToSlots s''.heap) (hex:∀b∈ex,H b=none/\s₀.heap.get? b=none)
  (fl:Fly lo H s₀.heap s''.heap C e od) (hE:E (.ref C) od H):CXb lo P w C outer H₀ s₀ E (.ref e) s'':=by
 have nil:∀b:Addr,b∉(cxb lo C P w K mg base N qual scope f cd A outer s₀ H₀ E).ex:=λb z=>absurd (show b∈([]:List Addr) from z) (by simp)
 have nex:∀b o,s₀.heap.get? b=some o->b∉ex:=λb o q z=>by rw[(hex b z).2] at q;cases q
 have hin:∀b∈frs outer,b∈frs (cxb lo C P w K mg base N qual scope f cd A outer s₀ H₀ E).stack:=λb hb=>by
  show b∈frs (_::outer);unfold frs at hb ⊢;rw[List.filterMap_cons];split
  ·exact hb
  ·exact List.mem_cons_of_mem _ hb
 have keep:∀b o,s.heap.get? b=some o->b∉ex->b∉frs (cxb lo C P w K mg base N qual scope f cd A outer s₀ H₀ E).stack->s''.heap.get? b=some o:=λb o q n1 n2 =>
  kb b o (PySem.W.hideAll_get _ (k1 b o q n1) λz=>(List.mem_append.mp z).elim n1 n2)
 have nst:∀b o,s₀.heap.get? b=some o->b∉frs outer->b∉frs (cxb lo C P w K mg base N qual scope f cd A outer s₀ H₀ E).stack:=λb o q n z=>by
  rcases List.mem_cons.mp (I.stkSub b z) with r|r
  ·exact ziM I q r
  ·exact n r
 have fr:s.heap.FunFrames base outer:=I.funs
 have frk:∀b o,s.heap.get? b=some o->b∉ex->b∈frs outer->∃sl,s''.heap.get? b=some { o with slots:=sl }:=λb o q n hb=>by
  obtain⟨_,o',ho,hn⟩:=fr.mem hb;rw[q] at ho;cases ho;exact us b o (k1 b o q n) hn
 have un:Un (frs outer) [] H₀ H s₀.heap s''.heap:=by
  refine⟨λb o q n hb _=>keep b o (I.base.keep b o q n hb (nil b)) (nex b o q) (nst b o q hb),λb o q n hb _=>?_,λb o q n _=>I.base.free b o q n (nil b),λb o q _=>?_,I.base.tups,I.base.frzs,I.base.tbls⟩
  ·obtain⟨sl,e1⟩:=I.base.slot b o q n hb (nil b)
   obtain⟨sl',e2⟩:=frk b _ e1 (nex b o q) hb;exact⟨sl',e2⟩
  ·obtain⟨o',e1⟩:=I.base.there b o q (nil b)
   by_cases hb:b∈frs outer
   ·obtain⟨sl',e2⟩:=frk b _ e1 (nex b o q) hb
    exact⟨_,e2⟩
   ·exact⟨o',keep b o' e1 (nex b o q) (nst b o q hb)⟩
 refine⟨e,H,od,rfl,hos.trans I.os,by rw[hg];exact I.bare,un,λa o q=>?_,fl,hE⟩
 refine(I.hok a o q).stay (λc v hc r=>keep c v r (λz=>?_) λz=>?_) (λ_ r=>r) λ_ _ r=>r
 ·have hz:=(hex c z).1
  rcases hc with rfl|hc
  ·rw[hz] at q;cases q
  ·rw[hz] at hc;cases hc
 ·have hz:=I.stkFree c z
  rcases hc with rfl|hc
  ·rw[hz] at q;cases q
  ·rw[hz] at hc;cases hc
theorem zc3:QT (CXb lo P w C) (cxb lo C P w K mg base N qual scope f cd A outer s₀ H₀ E) E:=by
 intro pins σ H s ev s' I hx;obtain⟨e,H',od,rfl,hos,hg,un,hok,⟨cx,oe,vs,T,oT,ts,g1,g2,g3,g4,g5,g6,g7,g8,g9,g10,g11,g12,g13⟩,hE⟩:=hx;have I':Inv (cxb lo C P w K mg base N qual scope f cd A outer s₀ H₀ E) pins σ H' s':=Inv.after0 I hos un hok hg;have hin:∀env∈(cxb lo C P w K mg base N qual scope f cd A outer s₀ H₀ E).stack,∀b,env.frame=some b->b∈[e,T]++frs (cxb lo C P w K mg base N qual scope f cd A outer s₀ H₀ E).stack:=λenv he b hb=>List.mem_append_right _ (List.mem_filterMap.mpr ⟨env,he,hb⟩)
 have old:∀b,s.heap.get? b=none->s₀.heap.get? b=none:=λb q=>by
  cases z:s₀.heap.get? b with
  | none=>rfl
  | some o=>obtain⟨o',z'⟩:=zaM I b o z;rw[q] at z';cases z'
 have hex:∀b∈[e,T],H' b=none/\s₀.heap.get? b=none:=λb hb=>by
  rcases List.mem_cons.mp hb with rfl|hb
  ·exact⟨g9,old _ g11⟩
  ·obtain rfl:=List.mem_singleton.mp hb
   exact⟨g10,old _ g12⟩
 have ff:=PySem.W.funFrames_hide I'.stack hin
 have tr:TrD s'.heap (PySem.W.hideAll s'.heap ([e,T]++frs (cxb lo C P w K mg base N qual scope f cd A outer s₀ H₀ E).stack)) e (.ref C) cx .none od:=⟨oe,vs,T,oT,ts,g1,g2,g3,g4,PySem.W.hideAll_none _ (by simp),g5,g6,g7,g8⟩
 refine zbh I'.ok.frames ff rfl tr (λb o q=>PySem.W.of_hideAll _ q) (PySem.W.hideAll_none _ (by simp)) λh2 k=>?_
 refine left (ex:=[e,T]) (h1:=s'.heap) I' rfl rfl (λb o q _=>q) k.1 k.2.2.2 hex ?_ hE;refine zdF (h:=s'.heap) (ex:=[e,T]) (l:=(cxb lo C P w K mg base N qual scope f cd A outer s₀ H₀ E).stack) rfl ?_ k.2.2.1 g13 g9 hex (old _ g11) (λb q=>HOk.none hok q) (zaM I')
 exact ff.of_keeps λb o q hn=>by
  obtain⟨sl,z⟩:=k.2.2.2 b o q hn;exact⟨_,z,rfl⟩
def zi4(E:XK)(C:Addr)(ta:TE):TS:=λ_ σ H=>ta σ H λ_ H1=>E (.ref C) none H1
end
abbrev CX1(P:Program)(w:World)(C:Addr):CXT:=CXb false P w C
abbrev cx1(C:Addr)(P:Program)(w:World)(K:PySem.W.Frag)(mg:Str->Option Value)(base:Heap)(N:List Str)(qual:Str)(scope:Scope)(f:Addr)(cd:Value)(A:Around)(outer:List Env)(s:Shared)(H:Hp)(E:XK):Cx:=cxb false C P w K mg base N qual scope f cd A outer s H E
section
variable {X:Cx}{C:Addr}{lo:Bool}
abbrev cxT(lo:Bool)(X:Cx)(C:Addr)(pn:List (Addr×Obj))(E:XK):Cx:={ X with pn:=pn,xe:=λev s'=>∃(σ:L2.St) (H0:Hp) (s1:Shared),Inv { X with pn:=pn } [] σ H0 s1/\CXb lo X.prog X.w C X.stack H0 s1 E ev s' }
theorem zhE{X:Cx}(ok:X.Ok)(pn:List (Addr×Obj))(xe:Value->Shared->Prop):Cx.Ok { X with pn:=pn,xe:=xe } :=
 ⟨ok.mod,ok.kind,ok.glob,ok.blt,ok.above,ok.inj,ok.has,ok.cab,ok.hd,ok.frames,ok.stk,ok.exf,ok.bs,ok.bsz,ok.noex,ok.exfs,ok.funs,ok.frf⟩
theorem zc8{X:Cx}{pn:List (Addr×Obj)}{xe:Value->Shared->Prop}(ok:Cx.Ok { X with pn:=pn,xe:=xe }):X.Ok :=
 ⟨ok.mod,ok.kind,ok.glob,ok.blt,ok.above,ok.inj,ok.has,ok.cab,ok.hd,ok.frames,ok.stk,ok.exf,ok.bs,ok.bsz,ok.noex,ok.exfs,ok.funs,ok.frf⟩
theorem zhT{pins:List (Addr×Obj)}{σ:L2.St}{H:Hp}{s:Shared}(I:Inv X pins σ H s)(xe:Value->Shared->Prop):Inv { X with pn:=X.pn++pins,xe:=xe } [] σ H s :=
 ⟨zhE I.ok _ _,I.os,I.bare,I.base,I.loc,I.cell,I.free,I.freeC,λp hp=>I.pin p (by rw[List.append_nil] at hp;exact hp),I.hok,I.len⟩
theorem Qm{pins pins2:List (Addr×Obj)}{σ:L2.St}{H:Hp}{s:Shared}{xe:Value->Shared->Prop}(I:Inv { X with pn:=X.pn++pins,xe:=xe } pins2 σ H s):Inv X pins σ H s :=
 ⟨zc8 I.ok,I.os,I.bare,I.base,I.loc,I.cell,I.free,I.freeC,λp hp=>I.pin p (List.mem_append_left _ hp),I.hok,I.len⟩
theorem ze6{pins:List (Addr×Obj)}{σ:L2.St}{H:Hp}{s:Shared}{pn:List (Addr×Obj)}{xe xe':Value->Shared->Prop}(I:Inv { X with pn:=pn,xe:=xe } pins σ H s):Inv { X with pn:=pn,xe:=xe' } [] σ H s :=
 ⟨zhE (zc8 I.ok) _ _,I.os,I.bare,I.base,I.loc,I.cell,I.free,I.freeC,λp hp=>I.pin p (by rw[List.append_nil] at hp;exact List.mem_append_left _ hp),I.hok,I.len⟩
theorem zf2{pins:List (Addr×Obj)}{D:Ends}{f:Flow}{s':Shared}{xe:Value->Shared->Prop}(h:SP { X with pn:=X.pn++pins,xe:=xe } [] D f s'):SP X pins D f s':=by
 cases f with
 | next=>obtain⟨σ',H',I,q⟩:=h;exact⟨σ',H',Qm I,q⟩
 | brk=>obtain⟨σ',H',I,q⟩:=h;exact⟨σ',H',Qm I,q⟩
 | cont=>obtain⟨σ',H',I,q⟩:=h;exact⟨σ',H',Qm I,q⟩
 | ret u=>obtain⟨v,σ',H',I,r,q⟩:=h;exact⟨v,σ',H',Qm I,r,q⟩
def zjq(tb:XK->TS):TS:=λD σ H=>tb (λ_ _ H'=>D.rt (.bl false) H') D σ H
end
end TX
namespace TX
open PySem PySem.Spec PyProof.Rows L2
open PySem.W (Dat kqdP kqdPs kqdOk)
section
variable {X:Cx}
theorem Wu:∀ds:List Dat,kqdPs ds=ds.map kqdP
 | []=>by rw[kqdPs];rfl
 | d::ds=>by rw[kqdPs,Wu ds];rfl
def zjG(K:PySem.W.Frag):R2:=λx y H Q=>∃(d:Dat) (ds:List Dat),Dd K H x d/\Dd K H y (.list ds)/\kqdOk 8 d=true/\kqdOk 9 (.list ds)=true/\(d∈ds->Q (.bl true) H)/\(¬d∈ds->Q (.bl false) H)
open Classical in
theorem zhC(hu:X.A.units+64<cLine):OpR X (compareOp .In) (zjG X.K):=by
 intro pins s σ H x y v u Q I rx ry h;obtain⟨d,ds,dx,dy,hd,hds,q1,q2⟩:=h;obtain⟨as,ra⟩:=dx.reads I rx;obtain⟨bs,rb⟩:=dy.reads I ry;have lay:=PySem.W.kqd_lay 8 d hd
 have hall:∀z∈ds,kqdOk 8 z=true:=by
  rw[kqdOk,List.all_eq_true] at hds;exact hds
 have layL:=PySem.W.kqd_layL hall;rw[kqdP] at rb
 refine SeqAt.in_list_reads rb ra layL.1 lay.1 (by have:=lay.2;have:min (PyData.depthAll (kqdPs ds)) (kqdP d).depth<=8:=Nat.le_trans (Nat.min_le_right _ _) lay.2;omega) ?_
 have e:((kqdPs ds).any λz=>PyData.eqv z (kqdP d))=decide (d∈ds):=by
  rw[Wu,List.any_map,Bool.eq_iff_iff,List.any_eq_true,decide_eq_true_iff];constructor
  ·rintro⟨z,hz,q⟩
   rw[<-(PySem.W.kqd_eqv 8 z d 8 (hall z hz) hd).mp q];exact hz
  ·intro hm
   exact⟨d,hm,(PySem.W.kqd_eqv 8 d d 8 hd hd).mpr rfl⟩
 rw[e]
 by_cases hq:d∈ds
 ·rw[decide_eq_true hq];exact⟨.bl true,H,I,rfl,q1 hq⟩
 ·rw[decide_eq_false hq];exact⟨.bl false,H,I,rfl,q2 hq⟩
end
def pLt:List (Int×Int)->List (Int×Int)->Bool
 | [],[]=>false
 | [],_::_=>true
 | _::_,[]=>false
 | p::ps,q::qs=>if p=q then pLt ps qs else HT.yn [p.1,p.2] [q.1,q.2]
def zi0(A:Around)(s:Shared)(x y:Value)(b:Bool):Prop:=∀(prog:Program) (w:World) (E:Value->Shared->Prop) (Q:Value->Shared->Prop),Q (.bool b) s->wpAny (model prog w) A (richCompare .Lt x y) Q E s
def jO(e lt:Nat->Bool)(n m:Nat):Nat->Nat->Bool
 | 0,_=>decide (n<m)
 | k+1,i=>if e i=true then jO e lt n m k (i+1) else lt i
section
open PySem.SeqAt
open PySem.AutoSeq1 (wpAny_loadPart')
theorem zhJ(a b:Addr)(us ws:Array Value)(p q:Nat)(e lt:Nat->Bool):∀(left place:Nat),min us.size ws.size-place=left ->
  Meets (Builtin.«list.__eq__.loop» ⟨[.ref a,.ref b,rawInt place,rawInt 0],[]⟩) (λA R s=>s.heap.get? a=some { cls:=.type "list",data:=.seq us p }/\s.heap.get? b=some { cls:=.type "list",data:=.seq ws q } /\
   (∀j (h1:j<us.size) (h2:j<ws.size),EqAt A.in1 s us[j] ws[j] (e j))/\(∀j (h1:j<us.size) (h2:j<ws.size),zi0 A.in1 s us[j] ws[j] (lt j))/\R (.ok (.ret (.bool (jO e lt us.size ws.size left place)))) s):=by
 intro left
 induction left with
 | zero =>
  intro place hk prog w A R s goal;obtain⟨hh,g,d,tk,os⟩:=s;obtain⟨ha,hb,_,_,fin⟩:=goal
  wp_walk using wpAny_loadPart' ha,wpAny_loadPart' hb
  have hend:us[((place:Nat):Int).toNat]?=none\/ws[((place:Nat):Int).toNat]?=none:=by
   simp only[Int.toNat_natCast,Array.getElem?_eq_none_iff];omega
  rcases hend with z|z
  ·rw[z]
   wp_walk using wpAny_loadPart' ha,wpAny_loadPart' hb
   exact fin
  ·rw[z]
   cases us[((place:Nat):Int).toNat]? with
   | none =>
    wp_walk using wpAny_loadPart' ha,wpAny_loadPart' hb
    exact fin
   | some _ =>
    wp_walk using wpAny_loadPart' ha,wpAny_loadPart' hb
    exact fin
 | succ left again_ =>
  intro place hk prog w A R s goal;obtain⟨hh,g,d,tk,os⟩:=s;obtain⟨ha,hb,he,hlt,fin⟩:=goal
  have p1:place<us.size:=by omega
  have p2:place<ws.size:=by omega
  wp_walk using wpAny_loadPart' ha,wpAny_loadPart' hb
  have u1:us[((place:Nat):Int).toNat]?=some us[place]:=by simp[p1]
  have u2:ws[((place:Nat):Int).toNat]?=some ws[place]:=by simp[p2]
  rw[u1,u2];refine wpAny_bind (he place p1 p2 prog w _ _ ?_);rw[jO] at fin
  cases hb':e place with
  | true =>
   rw[hb',if_pos rfl] at fin
   wp_walk
   rw[show ((place:Int)+1)=((place+1:Nat):Int) by omega]
   refine⟨plainId_quiet MeetsSeq3.plain_eq_loop _,codeAny_builtin MeetsSeq3.entry_eq_loop ?_⟩;rw[Around.under_plainId MeetsSeq3.plain_eq_loop _]
   exact again_ (place+1) (by omega) prog w A R _ ⟨ha,hb,he,hlt,fin⟩
  | false =>
   rw[hb',if_neg (by decide)] at fin
   wp_walk using wpAny_loadPart' ha,wpAny_loadPart' hb
   rw[u1,u2];have less:=hlt place p1 p2 prog w
   wp_walk using less
   exact fin
theorem zdn(a b:Addr)(us ws:Array Value)(p q:Nat)(e lt:Nat->Bool) :
  Meets (Builtin.«list.__lt__» ⟨[.ref a,.ref b],[]⟩) (λA R s=>s.heap.get? a=some { cls:=.type "list",data:=.seq us p }/\s.heap.get? b=some { cls:=.type "list",data:=.seq ws q } /\
   (∀j (h1:j<us.size) (h2:j<ws.size),EqAt A.in1 s us[j] ws[j] (e j))/\(∀j (h1:j<us.size) (h2:j<ws.size),zi0 A.in1 s us[j] ws[j] (lt j))/\R (.ok (.ret (.bool (jO e lt us.size ws.size (min us.size ws.size) 0)))) s):=by
 intro prog w A R s goal;obtain⟨hh,g,d,tk,os⟩:=s;obtain⟨ha,hb,he,hlt,fin⟩:=goal;have isl:=AutoSeq1.sub_list_list
 wp_walk using wpAny_loadPart' ha,wpAny_loadPart' hb
 refine⟨plainId_quiet MeetsSeq3.plain_eq_loop _,codeAny_builtin MeetsSeq3.entry_eq_loop ?_⟩;rw[Around.under_plainId MeetsSeq3.plain_eq_loop _];exact zhJ a b us ws p q e lt _ 0 rfl prog w A R _ ⟨ha,hb,he,hlt,fin⟩
end
section
variable {prog:Program}{w:World}{A:Around}{E:Value->Shared->Prop}{s:Shared}
open PySem.SeqAt
theorem zeO{a b:Addr}{us ws:Array Value}{p q:Nat}{e lt:Nat->Bool}{Q:Bool->Shared->Prop}(hu:A.units<cLine)(ha:s.heap.get? a=some { cls:=.type "list",data:=.seq us p })(hb:s.heap.get? b=some { cls:=.type "list",data:=.seq ws q })
  (he:∀A',A'.units<=A.units+4->∀j (h1:j<us.size) (h2:j<ws.size),EqAt A' s us[j] ws[j] (e j)) (hlt:∀A',A'.units<=A.units+4->∀j (h1:j<us.size) (h2:j<ws.size),zi0 A' s us[j] ws[j] (lt j)) (fin:Q (jO e lt us.size ws.size (min us.size ws.size) 0) s) :
  wpAny (model prog w) A (oneLt' true (.ref a) (.ref b)) Q E s:=by
 rw[oneLt'_eq];simp only[if_true];refine wpAny_bind (wpAny_cRoomFor hu ?_);refine wpAny_bind (wpAny_callSpecialIfBound?_slot (T:="list") ⟨_,ha,rfl⟩ PySem.F.slot_list_lt ?_)
 refine call_meets PySem.F.slot_list_lt ⟨_,ha,rfl⟩ PySem.F.entry_list_lt (PySem.F.args_list_lt_2 _ _) (zdn a b us ws p q e lt) ⟨ha,hb,λj h1 h2=>he _ (by show _+_<=_;omega) j h1 h2,λj h1 h2=>hlt _ (by show _+_<=_;omega) j h1 h2,?_⟩
 exact wpAny_truthy_bool fin
end
end TX
namespace TQ
open PySem PySem.W PyProof.Rows
def YC(b:Nat->Nat->Bool)(V:Nat->Prop){α:Type}:KasT α->α->Prop
 | .ret a,c=>a=c
 | .ask i j k,c=>V i/\V j/\YC b V (k (b i j)) c
theorem YC.bind{b:Nat->Nat->Bool}{V:Nat->Prop}{α β:Type}{f:α->KasT β}{a:α}{c:β}:∀{t:KasT α},YC b V t a->YC b V (f a) c->YC b V (t.bind f) c
 | .ret x,h,q=>by
  have h:x=a:=h;subst h;exact q
 | .ask i j k,h,q=>⟨h.1,h.2.1,YC.bind h.2.2 q⟩
theorem YC.wp{b:Nat->Nat->Bool}{V:Nat->Prop}{α:Type}{cmp:Nat->Nat->(Bool->Shared->Prop)->Shared->Prop}{s:Shared}{Q:α->Shared->Prop}(hc:∀i j C,V i->V j->C (b i j) s->cmp i j C s){a:α}(q:Q a s) :
  ∀{t:KasT α},YC b V t a->t.kasWp cmp Q s
 | .ret x,h=>by
  have h:x=a:=h;subst h;exact q
 | .ask i j k,h=>hc i j _ h.1 h.2.1 (YC.wp hc q h.2.2)
section
variable {n:Nat}{r:Nat->Int}
structure Ord(n:Nat)(p:Array Nat):Prop where
 size:p.size=n
 perm:p.toList.Perm (List.range n)
theorem Ord.lt{p:Array Nat}(o:Ord n p){i:Nat}(h:i<n):p.getD i 0<n:=by
 have hi:i<p.size:=by rw[o.size];exact h
 have:p.getD i 0∈p.toList:=by
  simp[Array.getD,hi]
 exact List.mem_range.mp (o.perm.mem_iff.mp this)
theorem Ord.inj{p:Array Nat}(o:Ord n p){i j:Nat}(hi:i<n)(hj:j<n)(e:p.getD i 0=p.getD j 0):i=j:=by
 have hi:i<p.toList.length:=by simpa [o.size] using hi
 have hj:j<p.toList.length:=by simpa [o.size] using hj
 have nd:p.toList.Nodup:=o.perm.nodup_iff.mpr List.nodup_range
 have e':p.toList[i]=p.toList[j]:=by
  have hi':i<p.size:=by simpa using hi
  have hj':j<p.size:=by simpa using hj
  simpa [Array.getD,hi',hj'] using e
 exact(List.getElem_inj nd).mp e'
abbrev B(r:Nat->Int):Nat->Nat->Bool:=λi j=>decide (r i<r j)
abbrev V(n:Nat):Nat->Prop:=λi=>i<n
def Up(r:Nat->Int)(p:Array Nat)(m:Nat):Prop:=∀i j,i<j->j<m->r (p.getD i 0)<r (p.getD j 0)
def Dn(r:Nat->Int)(p:Array Nat)(m:Nat):Prop:=∀i j,i<j->j<m->r (p.getD j 0)<r (p.getD i 0)
theorem Up.one(p:Array Nat):Up r p 1:=λi j h1 h2=>by omega
theorem Up.next{p:Array Nat}{m:Nat}(h:Up r p m)(hm:1<=m)(q:r (p.getD (m-1) 0)<r (p.getD m 0)):Up r p (m+1):=λi j h1 h2=>by
 by_cases e:j=m
 ·subst e
  by_cases e2:i=j-1
  ·subst e2;exact q
  ·exact Int.lt_trans (h i (j-1) (by omega) (by omega)) q
 ·exact h i j h1 (by omega)
theorem Dn.next{p:Array Nat}{m:Nat}(h:Dn r p m)(hm:1<=m)(q:r (p.getD m 0)<r (p.getD (m-1) 0)):Dn r p (m+1):=λi j h1 h2=>by
 by_cases e:j=m
 ·subst e
  by_cases e2:i=j-1
  ·subst e2;exact q
  ·exact Int.lt_trans q (h i (j-1) (by omega) (by omega))
 ·exact h i j h1 (by omega)
variable (hr:∀i j,i<n->j<n->r i=r j->i=j)
include hr
theorem zgv{p:Array Nat}(o:Ord n p){i j:Nat}(hi:i<n)(hj:j<n)(h:i≠j)(q:¬r (p.getD i 0)<r (p.getD j 0)):r (p.getD j 0)<r (p.getD i 0):=by
 have:r (p.getD i 0)≠r (p.getD j 0):=λe=>h (o.inj hi hj (hr _ _ (o.lt hi) (o.lt hj) e));omega
theorem wI{p:Array Nat}(o:Ord n p):∀(f m:Nat),1<=m->m+f<=n->Up r p m->∃k,YC (B r) (V n) (kas_asc p f m) k/\m<=k/\k<=m+f/\Up r p k/\(k<m+f->r (p.getD k 0)<r (p.getD (k-1) 0))
 | 0,m,_,_,h=>⟨m,rfl,Nat.le_refl _,Nat.le_refl _,h,λz=>by omega⟩
 | f+1,m,h1,h2,h=>by
  by_cases q:r (p.getD m 0)<r (p.getD (m-1) 0)
  ·refine⟨m,⟨o.lt (by omega),o.lt (by omega),?_⟩,Nat.le_refl _,by omega,h,λ_=>q⟩
   show YC _ _ (if decide _=true then KasT.ret m else _) m
   rw[if_pos (decide_eq_true q)];rfl
  ·obtain⟨k,g1,g2,g3,g4,g5⟩:=wI o f (m+1) (by omega) (by omega) (h.next h1 (zgv hr o (by omega) (by omega) (by omega) q))
   refine⟨k,⟨o.lt (by omega),o.lt (by omega),?_⟩,by omega,by omega,g4,λz=>g5 (by omega)⟩
   show YC _ _ (if decide _=true then KasT.ret m else _) k
   rw[if_neg (by simpa using q)]
   exact g1
theorem WF{p:Array Nat}(o:Ord n p):∀(f m:Nat),1<=m->m+f<=n->Dn r p m->∃k,YC (B r) (V n) (kas_desc f p m 0) (p,k,0)/\m<=k/\k<=m+f/\Dn r p k
 | 0,m,_,_,h=>⟨m,rfl,Nat.le_refl _,Nat.le_refl _,h⟩
 | f+1,m,h1,h2,h=>by
  by_cases q:r (p.getD m 0)<r (p.getD (m-1) 0)
  ·obtain⟨k,g1,g2,g3,g4⟩:=WF o f (m+1) (by omega) (by omega) (h.next h1 q)
   refine⟨k,⟨o.lt (by omega),o.lt (by omega),?_⟩,by omega,by omega,g4⟩
   show YC _ _ (if decide _=true then (if (0:Nat) > 0 then _ else kas_desc f p (m+1) 0) else _) _
   rw[if_pos (decide_eq_true q),if_neg (by omega)]
   exact g1
  ·have q2:=zgv hr o (i:=m) (j:=m-1) (by omega) (by omega) (by omega) q
   refine⟨m,⟨o.lt (by omega),o.lt (by omega),?_⟩,Nat.le_refl _,by omega,h⟩
   show YC _ _ (if decide _=true then _ else KasT.ask (p.getD (m-1) 0) (p.getD m 0) _) _
   rw[if_neg (by simpa using q)]
   refine⟨o.lt (by omega),o.lt (by omega),?_⟩
   show YC _ _ (if decide _=true then KasT.ret (p,m,0) else _) _
   rw[if_pos (decide_eq_true q2)];rfl
omit hr in
theorem za8{p q:Array Nat}(o:Ord n p)(h:q.Perm p):Ord n q:=⟨h.size_eq.trans o.size,(Array.perm_iff_toList_perm.mp h).trans o.perm⟩
omit hr in
theorem wy{p q:Array Nat}{i j:Nat}(h:p[i]?=q[j]?):p.getD i 0=q.getD j 0:=by
 rw[Array.getD_eq_getD_getElem?,Array.getD_eq_getD_getElem?,h]
omit hr in
theorem zhp{p:Array Nat}(o:Ord n p){m:Nat}(hm:m<=n)(h:Dn r p m):Ord n (kas_rev p 0 m)/\Up r (kas_rev p 0 m) m:=by
 refine⟨za8 o (mirror_perm _ _ _ _),λi j h1 h2=>?_⟩
 have g:∀k,k<m->(kas_rev p 0 m).getD k 0=p.getD (m-1-k) 0:=λk hk=>by
  refine wy ?_
  have:=getElem?_mirror_all (xs:=p) (i:=0) (j:=m) (by rw[o.size];exact hm) k
  rw[if_pos ⟨Nat.zero_le _,hk⟩,Nat.zero_add] at this;exact this
 rw[g i (by omega),g j h2]
 exact h _ _ (by omega) (by omega)
theorem zcq{p:Array Nat}(o:Ord n p){m:Nat}(h1:1<=m)(hm:m<=n)(h:Dn r p m):∃k p',YC (B r) (V n) (kas_tail3 m n p) (k,p')/\1<=k/\k<=n/\Ord n p'/\Up r p' k:=by
 obtain⟨o',u'⟩:=zhp o hm h
 obtain⟨k,g1,g2,g3,g4,_⟩:=wI hr o' (n-m) m h1 (by omega) u'
 exact⟨k,_,YC.bind g1 rfl,by omega,by omega,o',g4⟩
theorem zb4{p:Array Nat}(o:Ord n p)(hn:2<=n):∃k p',YC (B r) (V n) (kas_count n p) (k,p')/\1<=k/\k<=n/\Ord n p'/\Up r p' k:=by
 obtain⟨m,g1,g2,g3,g4,g5⟩:=wI hr o (n-1) 1 (Nat.le_refl _) (by omega) (Up.one p)
 by_cases e:m=n
 ·refine⟨m,p,YC.bind g1 ?_,by omega,by omega,o,g4⟩
  rw[if_pos (by simpa using e)]
  rfl
 ·by_cases e1:1<m
  ·refine⟨m,p,YC.bind g1 ?_,by omega,by omega,o,g4⟩
   rw[if_neg (by simpa using e),if_pos e1]
   refine⟨o.lt (by omega),o.lt (by omega),?_⟩
   show YC _ _ (if decide _=true then KasT.ret (m,p) else _) _
   rw[if_pos (decide_eq_true (g4 0 (m-1) (by omega) (by omega)))]
   rfl
  ·have em:m=1:=by omega
   subst em
   have d2:Dn r p 2:=λi j h1 h2=>by
    have e1:i=0:=by omega
    have e2:j=1:=by omega
    subst e1;subst e2
    exact g5 (by omega)
   obtain⟨k,q1,q2,q3,q4⟩:=WF hr o (n-2) 2 (by omega) (by omega) d2
   obtain⟨k',p',t1,t2,t3,t4,t5⟩:=zcq hr o (m:=k) (by omega) (by omega) q4
   refine⟨k',p',YC.bind g1 ?_,t2,t3,t4,t5⟩
   rw[if_neg (by simpa using e),if_neg (by omega)]
   refine YC.bind (a:=(p,k,0)) q1 ?_
   show YC _ _ (if (0:Nat) > 0 then _ else kas_tail3 k n p) _
   rw[if_neg (by omega)]
   exact t1
theorem QA{p:Array Nat}(o:Ord n p){k:Nat}(hk:k<n)(up:Up r p k):∀(f l u:Nat),l<=u->u<=k->u-l<=f->(∀i,i<l->r (p.getD i 0)<r (p.getD k 0))->(∀i,u<=i->i<k->r (p.getD k 0)<r (p.getD i 0)) ->
  ∃c,YC (B r) (V n) (kas_place p k f l u) c/\c<=k/\(∀i,i<c->r (p.getD i 0)<r (p.getD k 0))/\∀i,c<=i->i<k->r (p.getD k 0)<r (p.getD i 0)
 | 0,l,u,h1,h2,h3,a1,a2=>⟨l,rfl,by omega,a1,λi q1 q2=>a2 i (by omega) q2⟩
 | f+1,l,u,h1,h2,h3,a1,a2=>by
  by_cases e:l ≥ u
  ·refine⟨l,?_,by omega,a1,λi q1 q2=>a2 i (by omega) q2⟩
   show YC _ _ (if l ≥ u then KasT.ret l else _) l
   rw[if_pos e];rfl
  ·have hm:(l+u) / 2<u:=by omega
   have hm2:l<=(l+u) / 2:=by omega
   generalize hd:(l+u) / 2=d at hm hm2
   by_cases q:r (p.getD k 0)<r (p.getD d 0)
   ·obtain⟨c,g1,g2⟩:=QA o hk up f l d hm2 (by omega) (by omega) a1 (λi q1 q2=>by
     by_cases z:i=d
     ·rw[z];exact q
     ·exact Int.lt_trans q (up d i (by omega) q2))
    refine⟨c,?_,g2⟩
    show YC _ _ (if l ≥ u then KasT.ret l else _) c
    rw[if_neg e,hd]
    refine⟨o.lt hk,o.lt (by omega),?_⟩
    show YC _ _ (if decide _=true then kas_place p k f l d else _) c
    rw[if_pos (decide_eq_true q)];exact g1
   ·have q':=zgv hr o hk (show d<n by omega) (by omega) q
    obtain⟨c,g1,g2⟩:=QA o hk up f (d+1) u (by omega) h2 (by omega) (λi q1=>by
     by_cases z:i=d
     ·rw[z];exact q'
     ·exact Int.lt_trans (up i d (by omega) (by omega)) q') a2
    refine⟨c,?_,g2⟩
    show YC _ _ (if l ≥ u then KasT.ret l else _) c
    rw[if_neg e,hd]
    refine⟨o.lt hk,o.lt (by omega),?_⟩
    show YC _ _ (if decide _=true then _ else kas_place p k f (d+1) u) c
    rw[if_neg (by simpa using q)]
    exact g1
theorem zbr:∀(f k:Nat) {p:Array Nat},k+f=n->1<=k->Ord n p->Up r p k->∃p',YC (B r) (V n) (kas_bin f p k) p'/\Ord n p'/\Up r p' n
 | 0,k,p,h1,h2,o,u=>⟨p,rfl,o,by rw[<-h1];exact u⟩
 | f+1,k,p,h1,h2,o,u=>by
  have hk:k<n:=by omega
  obtain⟨c,g1,g2,g3,g4⟩:=QA hr o hk u k 0 k (Nat.zero_le _) (Nat.le_refl _) (by omega) (λi z=>by omega) (λi z1 z2=>by omega)
  have o':Ord n (bubble p k (k-c)):=za8 o (bubble_perm _ _ _)
  have g:∀i,(bubble p k (k-c)).getD i 0=if i=c then p.getD k 0 else if c<i/\i<=k then p.getD (i-1) 0 else p.getD i 0:=λi=>by
   have:=getElem?_bubble (xs:=p) (src:=k) (by rw[o.size];exact hk) (k-c) (by omega) i
   rw[show k-(k-c)=c by omega] at this
   by_cases e1:i=c
   ·rw[if_pos e1] at this ⊢;exact wy this
   ·rw[if_neg e1] at this ⊢
    by_cases e2:c<i/\i<=k
    ·rw[if_pos e2] at this ⊢;exact wy this
    ·rw[if_neg e2] at this ⊢;exact wy this
  have u':Up r (bubble p k (k-c)) (k+1):=λi j q1 q2=>by
   rw[g i,g j]
   by_cases i1:i=c
   ·rw[if_pos i1,if_neg (by omega),if_pos ⟨by omega,by omega⟩]
    exact g4 _ (by omega) (by omega)
   ·rw[if_neg i1]
    by_cases j1:j=c
    ·rw[if_pos j1,if_neg (by omega)]
     exact g3 i (by omega)
    ·rw[if_neg j1]
     by_cases i2:c<i/\i<=k
     ·rw[if_pos i2,if_pos ⟨by omega,by omega⟩]
      exact u _ _ (by omega) (by omega)
     ·rw[if_neg i2]
      by_cases j2:c<j/\j<=k
      ·rw[if_pos j2]
       by_cases z:i=j-1
       ·omega
       ·exact u _ _ (by omega) (by omega)
      ·rw[if_neg j2]
       exact u _ _ q1 (by omega)
  obtain⟨p',t1,t2,t3⟩:=zbr f (k+1) (by omega) (by omega) o' u'
  exact⟨p',YC.bind g1 t1,t2,t3⟩
theorem zcI(hn:2<=n):∃p,YC (B r) (V n) (kas_sort n) p/\Ord n p/\Up r p n:=by
 have o:Ord n (List.toArray (List.range n)):=⟨by simp,by simp⟩
 obtain⟨k,p,g1,g2,g3,g4,g5⟩:=zb4 hr o hn
 by_cases e:k<n
 ·obtain⟨p',t1,t2,t3⟩:=zbr hr (n-k) k (by omega) g2 g4 g5
  refine⟨p',YC.bind g1 ?_,t2,t3⟩
  show YC _ _ (if k<n then kas_bin (n-max k 1) p (max k 1) else _) _
  rw[if_pos e,show max k 1=k by omega]
  exact t1
 ·have ek:k=n:=by omega
  subst ek;refine⟨p,YC.bind g1 ?_,g4,g5⟩
  show YC _ _ (if k<k then _ else KasT.ret p) _
  rw[if_neg e];rfl
end
end TQ
namespace TN
structure G(n:Nat)(r:Nat->Nat->Nat)(E:Nat->Nat->Bool):Prop where
 lt:∀i j,E i j=true->i<n/\j<n
 irr:∀i,E i i=false
 sym:∀i j,E i j=E j i
 inj:∀i j k,E i j=true->E i k=true->r i j=r i k->j=k
def Btr(r:Nat->Nat->Nat)(i j k:Nat):Prop:=k=i\/r i j<r i k
structure Stb(n:Nat)(r:Nat->Nat->Nat)(E:Nat->Nat->Bool)(nx ls:Nat->Nat):Prop where
 nlt:∀i,i<n->nx i<n
 llt:∀i,i<n->ls i<n
 nl:∀i,i<n->nx (ls i)=i
 ln:∀i,i<n->ls (nx i)=i
 acc:∀i,i<n->nx i≠i->E i (nx i)=true
 pref:∀i,i<n->nx i≠ls i->r i (nx i)<r i (ls i)
 stab:∀i j,E i j=true->¬(Btr r i j (ls i)/\Btr r j i (ls j))
theorem zfu{n:Nat}{r:Nat->Nat->Nat}{E E':Nat->Nat->Bool}{nx ls:Nat->Nat}(g:G n r E)(sub:∀i j,E' i j=true->E i j=true)(sym':∀i j,E' i j=E' j i)
  (wit:∀i j,E i j=true->E' i j=false->(∃p,E' i p=true/\r i p<r i j/\∀z,E' p z=true->r p i<=r p z)\/(∃p,E' j p=true/\r j p<r j i/\∀z,E' p z=true->r p j<=r p z))
  (s:Stb n r E' nx ls):Stb n r E nx ls:=by
 have one:∀q y p,E q y=true->E' q p=true->r q p<r q y->(∀z,E' p z=true->r p q<=r p z)->¬Btr r q y (ls q):=by
  intro q y p hqy hqp hlt hf hb;have hq:=(g.lt _ _ (sub _ _ hqp)).1;have hp:=(g.lt _ _ (sub _ _ hqp)).2
  have hpq:E' p q=true:=by rw[sym'];exact hqp
  have b1:Btr r q p (ls q):=by
   rcases hb with h|h
   ·exact .inl h
   ·exact .inr (Nat.lt_trans hlt h)
  have nb:¬Btr r p q (ls p):=λh=>s.stab q p hqp ⟨b1,h⟩;have l1:ls p≠p:=λh=>nb (.inl h);have l2:r p (ls p)<=r p q:=Nat.le_of_not_lt λh=>nb (.inr h)
  have np:nx p≠p:=λh=>l1 (by have:=s.ln p hp;rw[h] at this;exact this)
  have e1:E' p (ls p)=true:=by
   have:=s.acc (ls p) (s.llt p hp) (by rw[s.nl p hp];exact λh=>l1 h.symm)
   rw[s.nl p hp] at this;rw[sym'];exact this
  have e2:ls p=q:=g.inj p _ _ (sub _ _ e1) (sub _ _ hpq) (Nat.le_antisymm l2 (hf _ e1))
  have e3:nx p=ls p:=by
   apply Classical.byContradiction;intro h;have h1:=s.pref p hp h;have h2:=hf _ (s.acc p hp np);rw[e2] at h1;omega
  have e4:ls q=p:=by rw[<-e2,<-e3];exact s.ln p hp
  rw[e4] at hb
  rcases hb with h|h
  ·have:=sub _ _ hqp
   rw[h,g.irr] at this;cases this
  ·omega
 refine⟨s.nlt,s.llt,s.nl,s.ln,λi h1 h2=>sub _ _ (s.acc i h1 h2),s.pref,λi j hij=>?_⟩
 cases he:E' i j with
 | true=>exact s.stab i j he
 | false =>
  rintro⟨h1,h2⟩
  rcases wit i j hij he with ⟨p,a1,a2,a3⟩|⟨p,a1,a2,a3⟩
  ·exact one i j p hij a1 a2 a3 h1
  ·exact one j i p (by rw[g.sym];exact hij) a1 a2 a3 h2
def prs(n:Nat):List (Nat×Nat):=(List.range n).flatMap λi=>(List.range n).map λj=>(i,j)
theorem zdj{n i j:Nat}:(i,j)∈prs n↔i<n/\j<n:=by
 unfold prs;rw[List.mem_flatMap];constructor
 ·rintro⟨a,ha,hb⟩
  rw[List.mem_map] at hb;obtain⟨b,hb,e⟩:=hb;cases e
  exact⟨by simpa using ha,by simpa using hb⟩
 ·rintro⟨h1,h2⟩
  exact⟨i,by simpa using h1,List.mem_map.mpr ⟨j,by simpa using h2,rfl⟩⟩
def cnt(n:Nat)(E:Nat->Nat->Bool):Nat:=(prs n).countP λp=>E p.1 p.2
theorem jZ{α:Type}{p q:α->Bool}:∀{l:List α},(∀x∈l,q x=true->p x=true)->(∃x∈l,p x=true/\q x=false)->l.countP q<l.countP p
 | [],_,h=>by obtain⟨_,h,_⟩:=h;exact nomatch h
 | a::l,h1,h2=>by
  have le:∀m:List α,(∀x∈m,q x=true->p x=true)->m.countP q<=m.countP p:=λm hm=>List.countP_mono_left hm;obtain⟨x,hx,hp,hq⟩:=h2;rw[List.countP_cons,List.countP_cons]
  rcases List.mem_cons.mp hx with e|hx
  ·subst e
   rw[hp,hq];have:=le l λy hy=>h1 y (List.mem_cons_of_mem _ hy);simp;omega
  ·have:=jZ (λy hy=>h1 y (List.mem_cons_of_mem _ hy)) ⟨x,hx,hp,hq⟩
   have h3:=h1 a List.mem_cons_self
   by_cases e:q a=true
   ·rw[e,h3 e];simp;omega
   ·rw[show q a=false by simpa using e]
    simp;omega
theorem zdV{n:Nat}{E E':Nat->Nat->Bool}(lt:∀i j,E i j=true->i<n/\j<n)(sub:∀i j,E' i j=true->E i j=true){i j:Nat}(h1:E i j=true)(h2:E' i j=false):cnt n E'<cnt n E:=by
 refine jZ (λx _ h=>sub _ _ h) ⟨(i,j),zdj.mpr (lt i j h1),h1,h2⟩
theorem zgy{P:Nat->Prop}(r:Nat->Nat)(h:∃j,P j):∃j,P j/\∀k,P k->r j<=r k:=by
 have go:∀m j,P j->r j<=m->∃j,P j/\∀k,P k->r j<=r k:=by
  intro m
  induction m with
  | zero=>intro j hj h0;exact⟨j,hj,λk _=>by omega⟩
  | succ m ih =>
   intro j hj hm
   by_cases h:∃k,P k/\r k<r j
   ·obtain⟨k,hk,hkj⟩:=h
    exact ih k hk (by omega)
   ·exact⟨j,hj,λk hk=>Nat.le_of_not_lt λz=>h ⟨k,hk,z⟩⟩
 obtain⟨j,hj⟩:=h;exact go (r j) j hj (Nat.le_refl _)
theorem ze8{P:Nat->Prop}(r:Nat->Nat):∀n:Nat,(∃j,j<n/\P j)->∃j,j<n/\P j/\∀k,k<n->P k->r k<=r j:=by
 intro n
 induction n with
 | zero=>rintro⟨j,h,_⟩;omega
 | succ n ih =>
  rintro⟨j,hj,hp⟩
  by_cases h:∃j,j<n/\P j
  ·obtain⟨m,hm,hpm,hmax⟩:=ih h
   by_cases hn:P n/\r m<=r n
   ·refine⟨n,by omega,hn.1,λk hk hpk=>?_⟩
    by_cases e:k=n
    ·subst e;exact Nat.le_refl _
    ·exact Nat.le_trans (hmax k (by omega) hpk) hn.2
   ·refine⟨m,by omega,hpm,λk hk hpk=>?_⟩
    by_cases e:k=n
    ·subst e
     exact Nat.le_of_not_lt λz=>hn ⟨hpk,by omega⟩
    ·exact hmax k (by omega) hpk
  ·have e:j=n:=by
    apply Classical.byContradiction;intro e
    exact h ⟨j,by omega,hp⟩
   subst e
   refine⟨j,by omega,hp,λk hk hpk=>?_⟩
   by_cases e:k=j
   ·subst e;exact Nat.le_refl _
   ·exact absurd ⟨k,by omega,hpk⟩ h
theorem zar:∀{l m:List Nat},l.Nodup->(∀x∈l,x∈m)->l.length<=m.length
 | [],_,_,_=>Nat.zero_le _
 | a::l,m,hn,hs=>by
  rw[List.nodup_cons] at hn;have ha:=hs a List.mem_cons_self
  have h1:l.length<=(m.erase a).length:=zar hn.2 λx hx=>by
   have hne:x≠a:=λe=>hn.1 (e▸hx);exact(List.mem_erase_of_ne hne).mpr (hs x (List.mem_cons_of_mem _ hx))
  rw[List.length_erase_of_mem ha] at h1;have:0<m.length:=List.length_pos_of_mem ha;simp;omega
theorem zh4{l m:List Nat}(hn:l.Nodup)(hs:∀x∈l,x∈m)(hl:m.length<=l.length):∀x∈m,x∈l:=by
 intro x hx;apply Classical.byContradiction;intro hno
 have h1:l.length<=(m.erase x).length:=zar hn λy hy=>by
  have hne:y≠x:=λe=>hno (e▸hy);exact(List.mem_erase_of_ne hne).mpr (hs y hy)
 rw[List.length_erase_of_mem hx] at h1;have:0<m.length:=List.length_pos_of_mem hx;omega
theorem Qi{f:Nat->Nat}:∀{l:List Nat},l.Nodup->(∀x∈l,∀y∈l,f x=f y->x=y)->(l.map f).Nodup
 | [],_,_=>List.nodup_nil
 | a::l,hn,hi=>by
  rw[List.nodup_cons] at hn;rw[List.map_cons,List.nodup_cons];refine⟨λh=>?_,Qi hn.2 λx hx y hy=>hi x (List.mem_cons_of_mem _ hx) y (List.mem_cons_of_mem _ hy)⟩;rw[List.mem_map] at h;obtain⟨b,hb,e⟩:=h;have:=hi b (List.mem_cons_of_mem _ hb) a List.mem_cons_self e;subst this;exact hn.1 hb
open Classical in
theorem ziJ{n:Nat}{S:Nat->Prop}{f:Nat->Nat}(hb:∀i,S i->i<n)(hf:∀i,S i->S (f i))(hi:∀i j,S i->S j->f i=f j->i=j):∀j,S j->∃i,S i/\f i=j:=by
 intro j hj
 have hl:∀x,x∈(List.range n).filter (λi=>decide (S i))↔S x:=λx=>by
  rw[List.mem_filter];constructor
  ·rintro⟨_,h⟩;exact of_decide_eq_true h
  ·intro h;exact⟨by simpa using hb x h,decide_eq_true h⟩
 have hnd:((List.range n).filter λi=>decide (S i)).Nodup:=List.nodup_range.sublist List.filter_sublist
 have:=zh4 (l:=((List.range n).filter λi=>decide (S i)).map f) (m:=(List.range n).filter λi=>decide (S i)) (Qi hnd λx hx y hy=>hi x y ((hl x).mp hx) ((hl y).mp hy))
  (λx hx=>by
   rw[List.mem_map] at hx;obtain⟨y,hy,rfl⟩:=hx
   exact(hl _).mpr (hf y ((hl y).mp hy))) (by rw[List.length_map];exact Nat.le_refl _) j ((hl j).mpr hj)
 rw[List.mem_map] at this;obtain⟨i,hi',e⟩:=this;exact⟨i,(hl i).mp hi',e⟩
def Zs(f:Nat->Nat):Nat->Nat->Nat
 | 0,x=>x
 | k+1,x=>f (Zs f k x)
theorem Yv(f:Nat->Nat)(a b x:Nat):Zs f (a+b) x=Zs f a (Zs f b x):=by
 induction a with
 | zero=>rw[Nat.zero_add];rfl
 | succ a ih=>rw[Nat.succ_add];show f (Zs f (a+b) x)=f (Zs f a (Zs f b x));rw[ih]
theorem qL{S:Nat->Prop}{f:Nat->Nat}(hf:∀i,S i->S (f i)){x:Nat}(hx:S x):∀k,S (Zs f k x)
 | 0=>hx
 | k+1=>hf _ (qL hf hx k)
theorem zga{n:Nat}{S:Nat->Prop}{f:Nat->Nat}(hb:∀i,S i->i<n)(hf:∀i,S i->S (f i)){x:Nat}(hx:S x):∃a m,0<m/\Zs f m (Zs f a x)=Zs f a x:=by
 apply Classical.byContradiction;intro hno
 have inj:∀i j,Zs f i x=Zs f j x->i=j:=by
  have one:∀i j,i<j->Zs f i x≠Zs f j x:=λi j hij e=>hno ⟨i,j-i,by omega,by rw[<-Yv,show j-i+i=j by omega];exact e.symm⟩
  intro i j e
  rcases Nat.lt_trichotomy i j with h|h|h
  ·exact absurd e (one i j h)
  ·exact h
  ·exact absurd e.symm (one j i h)
 have nd:((List.range (n+1)).map λk=>Zs f k x).Nodup:=Qi List.nodup_range λa _ b _ e=>inj a b e
 have:=zar (m:=List.range n) nd λy hy=>by
  rw[List.mem_map] at hy;obtain⟨k,_,rfl⟩:=hy
  simpa using hb _ (qL hf hx k)
 simp at this;omega
end TN
namespace TN
section
variable {n:Nat}{r:Nat->Nat->Nat}{E:Nat->Nat->Bool}
def Fav(r:Nat->Nat->Nat)(E:Nat->Nat->Bool)(i j:Nat):Prop:=E i j=true/\∀z,E i z=true->r i j<=r i z
def Lst(r:Nat->Nat->Nat)(E:Nat->Nat->Bool)(i j:Nat):Prop:=E i j=true/\∀z,E i z=true->r i z<=r i j
def Sec(r:Nat->Nat->Nat)(E:Nat->Nat->Bool)(i j:Nat):Prop:=E i j=true/\∃f,Fav r E i f/\j≠f/\∀z,E i z=true->z≠f->r i j<=r i z
theorem zfB{i:Nat}(h:∃j,E i j=true):∃j,Fav r E i j:=by
 obtain⟨j,h1,h2⟩:=zgy (P:=λj=>E i j=true) (r i) h;exact⟨j,h1,h2⟩
theorem zhK(g:G n r E){i:Nat}(h:∃j,E i j=true):∃j,Lst r E i j:=by
 obtain⟨j,hj⟩:=h;obtain⟨l,_,h1,h2⟩:=ze8 (P:=λj=>E i j=true) (r i) n ⟨j,(g.lt i j hj).2,hj⟩;exact⟨l,h1,λz hz=>h2 z (g.lt i z hz).2 hz⟩
theorem zhl{i j k:Nat}(hj:E i j=true)(hk:E i k=true)(hne:j≠k):∃s,Sec r E i s:=by
 obtain⟨f,hf⟩:=zfB (r:=r) (E:=E) (i:=i) ⟨j,hj⟩
 have:∃z,E i z=true/\z≠f:=by
  by_cases e:j=f
  ·exact⟨k,hk,λz=>hne (e.trans z.symm)⟩
  ·exact⟨j,hj,e⟩
 obtain⟨s,⟨h1,h2⟩,h3⟩:=zgy (P:=λz=>E i z=true/\z≠f) (r i) this;exact⟨s,h1,f,hf,h2,λz hz hzf=>h3 z ⟨hz,hzf⟩⟩
theorem Fav.uniq(g:G n r E){i j k:Nat}(h1:Fav r E i j)(h2:Fav r E i k):j=k:=g.inj i j k h1.1 h2.1 (Nat.le_antisymm (h1.2 k h2.1) (h2.2 j h1.1))
theorem Lst.uniq(g:G n r E){i j k:Nat}(h1:Lst r E i j)(h2:Lst r E i k):j=k:=g.inj i j k h1.1 h2.1 (Nat.le_antisymm (h2.2 j h1.1) (h1.2 k h2.1))
theorem G.sub(g:G n r E){E':Nat->Nat->Bool}(sub:∀i j,E' i j=true->E i j=true)(sym':∀i j,E' i j=E' j i):G n r E' :=
 ⟨λi j h=>g.lt i j (sub i j h),λi=>(by
  cases h:E' i i with
  | false=>rfl
  | true=>exact absurd (sub i i h) (by rw[g.irr];exact Bool.false_ne_true)),sym',λi j k h1 h2=>g.inj i j k (sub _ _ h1) (sub _ _ h2)⟩
end
theorem zaE{a:Bool}{P Q:Prop}[Decidable P][Decidable Q]:(a&&!(decide P||decide Q))=true↔a=true/\¬P/\¬Q:=by
 cases a <;> by_cases h1:P <;> by_cases h2:Q <;> simp[h1,h2]
open Classical in
theorem wC(n:Nat)(r:Nat->Nat->Nat):∀(c:Nat) (E:Nat->Nat->Bool),G n r E->cnt n E<=c->∃nx ls,Stb n r E nx ls:=by
 intro c
 induction c with
 | zero =>
  intro E g hc
  have no:∀i j,E i j=false:=λi j=>by
   cases h:E i j with
   | false=>rfl
   | true =>
    have hl:=g.lt i j h;have:0<cnt n E:=List.countP_pos_iff.mpr ⟨(i,j),zdj.mpr hl,h⟩;omega
  exact⟨id,id,λi h=>h,λi h=>h,λ_ _=>rfl,λ_ _=>rfl,λi _ h=>absurd rfl h,λi _ h=>absurd rfl h,λi j h=>by rw[no] at h;cases h⟩
 | succ c ih =>
  intro E g hc
  by_cases R1:∃i j y,Fav r E i j/\E j y=true/\r j i<r j y
  ·-- whom j likes less than i is left out
   obtain⟨i,j,y,hf,hy,hlt⟩:=R1
   have hji:E j i=true:=by rw[g.sym];exact hf.1
   have hiy:i≠y:=λe=>by subst e;omega
   have hjy:j≠y:=λe=>by rw[e,g.irr] at hy;cases hy
   let E':Nat->Nat->Bool:=λa b=>E a b&&!(decide (a=j/\b=y)||decide (a=y/\b=j))
   have hE':∀a b,E' a b=true↔E a b=true/\¬(a=j/\b=y)/\¬(a=y/\b=j):=λa b=>by
    exact zaE
   have sub:∀a b,E' a b=true->E a b=true:=λa b h=>((hE' a b).mp h).1
   have sym':∀a b,E' a b=E' b a:=λa b=>by
    rw[Bool.eq_iff_iff,hE',hE',g.sym a b];constructor
    ·rintro⟨h1,h2,h3⟩;exact⟨h1,λh=>h3 ⟨h.2,h.1⟩,λh=>h2 ⟨h.2,h.1⟩⟩
    ·rintro⟨h1,h2,h3⟩;exact⟨h1,λh=>h3 ⟨h.2,h.1⟩,λh=>h2 ⟨h.2,h.1⟩⟩
   have hd:E' j y=false:=by
    cases h:E' j y with
    | false=>rfl
    | true=>exact absurd ⟨rfl,rfl⟩ ((hE' j y).mp h).2.1
   have hlt':cnt n E'<cnt n E:=zdV g.lt sub hy hd
   obtain⟨nx,ls,s⟩:=ih E' (g.sub sub sym') (by omega)
   refine⟨nx,ls,zfu g sub sym' (λa b hab hno=>?_) s⟩
   have wit:∃p,E' j p=true/\r j p<r j y/\∀z,E' p z=true->r p j<=r p z :=
    ⟨i,(hE' j i).mpr ⟨hji,λh=>hiy h.2,λh=>hjy h.1⟩,hlt,λz hz=>hf.2 z (sub _ _ hz)⟩
   have:(a=j/\b=y)\/(a=y/\b=j):=by
    apply Classical.byContradiction;intro h;have:E' a b=true:=(hE' a b).mpr ⟨hab,λz=>h (.inl z),λz=>h (.inr z)⟩;rw[hno] at this;cases this
   rcases this with ⟨rfl,rfl⟩|⟨rfl,rfl⟩
   ·exact .inl wit
   ·exact .inr wit
  ·-- each is the last of its favourite
   have P1:∀i j,Fav r E i j->Lst r E j i:=λi j hf=>⟨by rw[g.sym];exact hf.1,λz hz=>Nat.le_of_not_lt λh=>R1 ⟨i,j,z,hf,hz,h⟩⟩
   let S:Nat->Prop:=λi=>∃j,E i j=true
   have Sb:∀i,S i->i<n:=λi ⟨j,h⟩=>(g.lt i j h).1
   have fE:∀i,∃j,S i->Fav r E i j:=λi=>by
    by_cases h:S i
    ·obtain⟨j,hj⟩:=zfB (r:=r) h;exact⟨j,λ_=>hj⟩
    ·exact⟨0,λh'=>absurd h' h⟩
   obtain⟨f,hf⟩:∃f:Nat->Nat,∀i,S i->Fav r E i (f i):=⟨λi=>Classical.choose (fE i),λi=>Classical.choose_spec (fE i)⟩
   have lE:∀i,∃j,S i->Lst r E i j:=λi=>by
    by_cases h:S i
    ·obtain⟨j,hj⟩:=zhK g h;exact⟨j,λ_=>hj⟩
    ·exact⟨0,λh'=>absurd h' h⟩
   obtain⟨l,hl⟩:∃l:Nat->Nat,∀i,S i->Lst r E i (l i):=⟨λi=>Classical.choose (lE i),λi=>Classical.choose_spec (lE i)⟩
   have fS:∀i,S i->S (f i):=λi h=>⟨i,by rw[g.sym];exact(hf i h).1⟩
   have lS:∀i,S i->S (l i):=λi h=>⟨i,by rw[g.sym];exact(hl i h).1⟩
   have lf:∀i,S i->l (f i)=i:=λi h=>Lst.uniq g (hl _ (fS i h)) (P1 _ _ (hf i h))
   have finj:∀i j,S i->S j->f i=f j->i=j:=λi j hi hj e=>by rw[<-lf i hi,<-lf j hj,e]
   have fl:∀i,S i->f (l i)=i:=λi h=>by
    obtain⟨k,hk,e⟩:=ziJ Sb fS finj i h;rw[<-e,lf k hk]
   by_cases S2:∃i j k,E i j=true/\E i k=true/\j≠k
   ·let D:Nat->Prop:=λi=>∃j k,E i j=true/\E i k=true/\j≠k
    have DS:∀i,D i->S i:=λi ⟨j,_,h,_⟩=>⟨j,h⟩
    have sE:∀i,∃j,D i->Sec r E i j:=λi=>by
     by_cases h:D i
     ·obtain⟨j,k,h1,h2,h3⟩:=h
      obtain⟨s,hs⟩:=zhl (r:=r) h1 h2 h3;exact⟨s,λ_=>hs⟩
     ·exact⟨0,λh'=>absurd h' h⟩
    obtain⟨s,hs⟩:∃s:Nat->Nat,∀i,D i->Sec r E i (s i):=⟨λi=>Classical.choose (sE i),λi=>Classical.choose_spec (sE i)⟩
    have sS:∀i,D i->S (s i):=λi h=>⟨i,by rw[g.sym];exact(hs i h).1⟩
    have sf:∀i,D i->s i≠f i:=λi h e=>by
     obtain⟨_,k,hk,hne,_⟩:=hs i h;exact hne (e.trans (Fav.uniq g (hf i (DS i h)) hk))
    have sle:∀i,D i->∀z,E i z=true->z≠f i->r i (s i)<=r i z:=λi h z hz hzf=>by
     obtain⟨_,k,hk,_,h2⟩:=hs i h;exact h2 z hz λe=>hzf (e.trans (Fav.uniq g hk (hf i (DS i h))))
    have phne:∀i,D i->l (s i)≠i:=λi h e=>sf i h (by rw[<-fl _ (sS i h),e])
    have phD:∀i,D i->D (l (s i)):=λi h=>by
     have hq:=sS i h
     have e1:E (l (s i)) (s i)=true:=by rw[g.sym];exact(hl _ hq).1
     apply Classical.byContradiction;intro hno
     have only:∀z,E (l (s i)) z=true->z=s i:=λz hz=>by
      apply Classical.byContradiction;intro hne;exact hno ⟨z,s i,hz,e1,hne⟩
     have hlS:=lS _ hq;have e2:l (l (s i))=s i:=only _ (hl _ hlS).1
     have e3:f (s i)=l (s i):=by have:=fl _ hlS;rw[e2] at this;exact this
     have h1:r (s i) i<=r (s i) (l (s i)):=(hl _ hq).2 i (by rw[g.sym];exact(hs i h).1)
     have h2:r (s i) (f (s i))<=r (s i) i:=(hf _ hq).2 i (by rw[g.sym];exact(hs i h).1)
     rw[e3] at h2
     exact phne i h (g.inj (s i) _ _ (hl _ hq).1 (by rw[g.sym];exact(hs i h).1) (by omega))
    obtain⟨a,j,k,h1,h2,h3⟩:=S2;have Da:D a:=⟨j,k,h1,h2,h3⟩;obtain⟨a0,m,hm,hround⟩:=zga (f:=λi=>l (s i)) (λi h=>Sb i (DS i h)) phD Da
    let p:=Zs (λi=>l (s i)) a0 a
    have Dp:D p:=qL phD Da a0
    let R:Nat->Prop:=λx=>∃k,x=Zs (λi=>l (s i)) k p
    have RD:∀x,R x->D x:=λx ⟨k,e⟩=>by rw[e];exact qL phD Dp k
    have Rph:∀x,R x->R (l (s x)):=λx ⟨k,e⟩=>⟨k+1,by rw[e];rfl⟩
    have Rback:∀x,R x->∃y,R y/\l (s y)=x:=λx ⟨k,e⟩=>by
     refine⟨Zs (λi=>l (s i)) (k+m-1) p,⟨_,rfl⟩,?_⟩
     have:Zs (λi=>l (s i)) (k+m) p=x:=by
      rw[Yv,show Zs (λi=>l (s i)) m p=p from hround]
      exact e.symm
     rw[<-this,show k+m=(k+m-1)+1 by omega]
     rfl
    have Rinj:∀x y,R x->R y->l (s x)=l (s y)->x=y:=by
     have hon:=ziJ (S:=R) (f:=λi=>l (s i)) (λi h=>Sb i (DS i (RD i h))) Rph
     have back:∀x,R x->Zs (λi=>l (s i)) (m-1) (l (s x))=x:=λx ⟨k,e⟩=>by
      have:Zs (λi=>l (s i)) (m-1) (l (s x))=Zs (λi=>l (s i)) (m-1+(k+1)) p:=by
       rw[Yv,e];rfl
      rw[this,show m-1+(k+1)=k+m by omega,Yv,show Zs (λi=>l (s i)) m p=p from hround]
      exact e.symm
     intro x y hx hy e;rw[<-back x hx,<-back y hy,e]
    by_cases bad:∃x x',R x/\R x'/\s x'=x/\r x x'<r x (s x)
    ·-- an odd ring
     obtain⟨x,x',hx,hx',hsx,hlt⟩:=bad
     have Exx:E x x'=true:=by rw[g.sym,<-hsx];exact(hs x' (RD x' hx')).1
     have ex':x'=f x:=by
      apply Classical.byContradiction;intro h;have:=sle x (RD x hx) x' Exx h;omega
     let B:Nat->Prop:=λy=>R y/\R (f y)/\s (f y)=y
     have Bx:B x:=⟨hx,by rw[<-ex'];exact hx',by rw[<-ex'];exact hsx⟩
     have two:∀y,B y->∀z,E (f y) z=true->z=f (f y)\/z=y:=λy ⟨hy,hfy,hsy⟩ z hz=>by
      have hSy:=DS y (RD y hy);have hSfy:=fS y hSy;apply Classical.byContradiction;intro h;have h1:r (f y) (s (f y))<=r (f y) z:=sle (f y) (RD _ hfy) z hz λe=>h (.inl e);have h2:r (f y) z<=r (f y) (l (f y)):=(hl _ hSfy).2 z hz;rw[lf y hSy] at h2;rw[hsy] at h1
      exact h (.inr (g.inj (f y) z y hz (by rw[g.sym];exact(hf y hSy).1) (by omega)))
     have Bf:∀y,B y->B (f y):=λy hB=>by
      obtain⟨hy,hfy,hsy⟩:=id hB;obtain⟨w,hw,ew⟩:=Rback y hy;have hSy:=DS y (RD y hy);have hDw:=RD w hw
      have e1:s w=f y:=by rw[<-ew,fl _ (sS w hDw)]
      have e2:E (f y) w=true:=by rw[g.sym,<-e1];exact(hs w hDw).1
      have hne:w≠y:=λe=>phne w hDw (by rw[ew];exact e.symm)
      have e3:w=f (f y):=by
       rcases two y hB w e2 with h|h
       ·exact h
       ·exact absurd h hne
      exact⟨hfy,by rw[<-e3];exact hw,by rw[<-e3];exact e1⟩
     have BS:∀y,B y->S y:=λy h=>DS y (RD y h.1);obtain⟨b0,m',hm',hr'⟩:=zga (f:=f) (λi h=>Sb i (BS i h)) Bf Bx
     let z0:=Zs f b0 x
     have Bz:B z0:=qL Bf Bx b0
     let Z:Nat->Prop:=λy=>∃k,y=Zs f k z0
     have ZB:∀y,Z y->B y:=λy ⟨k,e⟩=>by rw[e];exact qL Bf Bz k
     have Zf:∀y,Z y->Z (f y):=λy ⟨k,e⟩=>⟨k+1,by rw[e];rfl⟩
     have Zb:∀y,Z y->∃w,Z w/\f w=y:=λy ⟨k,e⟩=>by
      refine⟨Zs f (k+m'-1) z0,⟨_,rfl⟩,?_⟩
      have:Zs f (k+m') z0=y:=by
       rw[Yv,show Zs f m' z0=z0 from hr']
       exact e.symm
      rw[<-this,show k+m'=(k+m'-1)+1 by omega]
      rfl
     have Zl:∀y,Z y->Z (l y):=λy h=>by
      obtain⟨w,hw,e⟩:=Zb y h;rw[<-e,lf w (BS w (ZB w hw))];exact hw
     have Zn:∀y,Z y->∀z,E y z=true->z=f y\/z=l y:=λy h z hz=>by
      obtain⟨w,hw,e⟩:=Zb y h;rw[<-e] at hz ⊢;rw[lf w (BS w (ZB w hw))];exact two w (ZB w hw) z hz
     let E':Nat->Nat->Bool:=λu v=>E u v&&!(decide (Z u)||decide (Z v))
     have hE':∀u v,E' u v=true↔E u v=true/\¬Z u/\¬Z v:=λu v=>by
      exact zaE
     have sub:∀u v,E' u v=true->E u v=true:=λu v h=>((hE' u v).mp h).1
     have sym':∀u v,E' u v=E' v u:=λu v=>by
      rw[Bool.eq_iff_iff,hE',hE',g.sym u v];constructor
      ·rintro⟨h1,h2,h3⟩;exact⟨h1,h3,h2⟩
      ·rintro⟨h1,h2,h3⟩;exact⟨h1,h3,h2⟩
     have Zz:Z z0:=⟨0,rfl⟩;have hz1:E z0 (f z0)=true:=(hf _ (BS _ (ZB _ Zz))).1
     have hd:E' z0 (f z0)=false:=by
      cases h:E' z0 (f z0) with
      | false=>rfl
      | true=>exact absurd Zz ((hE' _ _).mp h).2.1
     have hlt':cnt n E'<cnt n E:=zdV g.lt sub hz1 hd
     obtain⟨nx,ls,st⟩:=ih E' (g.sub sub sym') (by omega)
     have alone:∀z,z<n->Z z->nx z=z:=λz hz h=>by
      apply Classical.byContradiction;intro hne;exact((hE' _ _).mp (st.acc z hz hne)).2.1 h
     have lalone:∀z,z<n->Z z->ls z=z:=λz hz h=>by
      have:=st.ln z hz;rw[alone z hz h] at this;exact this
     have ZS:∀z,Z z->S z:=λz h=>BS z (ZB z h)
     have nxZ:∀i,i<n->¬Z i->¬Z (nx i):=λi hi hn h=>by
      have h1:=st.ln i hi;rw[lalone _ (st.nlt i hi) h] at h1;rw[h1] at h;exact hn h
     have lsZ:∀i,i<n->¬Z i->¬Z (ls i):=λi hi hn h=>by
      have h1:=st.nl i hi;rw[alone _ (st.llt i hi) h] at h1;rw[h1] at h;exact hn h
     refine⟨λi=>if Z i then f i else nx i,λi=>if Z i then l i else ls i,?_⟩
     have irr:∀i j,E i j=true->i≠j:=λi j h e=>by rw[e,g.irr] at h;cases h
     constructor
     ·intro i hi
      by_cases h:Z i
      ·rw[if_pos h];exact Sb _ (ZS _ (Zf i h))
      ·rw[if_neg h];exact st.nlt i hi
     ·intro i hi
      by_cases h:Z i
      ·rw[if_pos h];exact Sb _ (ZS _ (Zl i h))
      ·rw[if_neg h];exact st.llt i hi
     ·intro i hi
      by_cases h:Z i
      ·simp only[if_pos h,if_pos (Zl i h)];exact fl i (ZS i h)
      ·simp only[if_neg h,if_neg (lsZ i hi h)];exact st.nl i hi
     ·intro i hi
      by_cases h:Z i
      ·simp only[if_pos h,if_pos (Zf i h)];exact lf i (ZS i h)
      ·simp only[if_neg h,if_neg (nxZ i hi h)];exact st.ln i hi
     ·intro i hi hne
      by_cases h:Z i
      ·simp only[if_pos h];exact(hf i (ZS i h)).1
      ·simp only[if_neg h] at hne ⊢;exact sub _ _ (st.acc i hi hne)
     ·intro i hi hne
      by_cases h:Z i
      ·simp only[if_pos h] at hne ⊢
       have h1:=(hf i (ZS i h)).2 (l i) (hl i (ZS i h)).1
       rcases Nat.lt_or_ge (r i (f i)) (r i (l i)) with h2|h2
       ·exact h2
       ·exact absurd (g.inj i _ _ (hf i (ZS i h)).1 (hl i (ZS i h)).1 (by omega)) hne
      ·simp only[if_neg h] at hne ⊢;exact st.pref i hi hne
     ·rintro i j hij ⟨b1,b2⟩
      by_cases h:Z i
      ·rcases Zn i h j hij with e|e
       ·subst e
        simp only[if_pos (Zf i h)] at b2;rw[lf i (ZS i h)] at b2
        rcases b2 with b2|b2
        ·exact irr _ _ hij b2
        ·omega
       ·subst e
        simp only[if_pos h] at b1
        rcases b1 with b1|b1
        ·exact irr _ _ hij b1.symm
        ·omega
      ·by_cases h':Z j
       ·have hji:E j i=true:=by rw[g.sym];exact hij
        rcases Zn j h' i hji with e|e
        ·exact h (e▸Zf j h')
        ·exact h (e▸Zl j h')
       ·simp only[if_neg h] at b1
        simp only[if_neg h'] at b2;exact st.stab i j ((hE' i j).mpr ⟨hij,h,h'⟩) ⟨b1,b2⟩
    ·-- whom each one's second likes less than it is left out
     let Dl:Nat->Nat->Prop:=λq y=>∃x,R x/\s x=q/\r q x<r q y
     let E':Nat->Nat->Bool:=λu v=>E u v&&!(decide (Dl u v)||decide (Dl v u))
     have hE':∀u v,E' u v=true↔E u v=true/\¬Dl u v/\¬Dl v u:=λu v=>by
      exact zaE
     have sub:∀u v,E' u v=true->E u v=true:=λu v h=>((hE' u v).mp h).1
     have sym':∀u v,E' u v=E' v u:=λu v=>by
      rw[Bool.eq_iff_iff,hE',hE',g.sym u v];constructor
      ·rintro⟨h1,h2,h3⟩;exact⟨h1,h3,h2⟩
      ·rintro⟨h1,h2,h3⟩;exact⟨h1,h3,h2⟩
     have Esx:∀x,D x->E (s x) x=true:=λx h=>by rw[g.sym];exact(hs x h).1
     have gone:∀x,R x->Dl (s x) (l (s x)):=λx hx=>by
      refine⟨x,hx,rfl,?_⟩;have h1:=(hl _ (sS x (RD x hx))).2 x (Esx x (RD x hx))
      rcases Nat.lt_or_ge (r (s x) x) (r (s x) (l (s x))) with h2|h2
      ·exact h2
      ·exact absurd (g.inj (s x) _ _ (hl _ (sS x (RD x hx))).1 (Esx x (RD x hx)) (by omega)) (phne x (RD x hx))
     have Rp:R p:=⟨0,rfl⟩;have hd1:E (s p) (l (s p))=true:=(hl _ (sS p Dp)).1
     have hd:E' (s p) (l (s p))=false:=by
      cases h:E' (s p) (l (s p)) with
      | false=>rfl
      | true=>exact absurd (gone p Rp) ((hE' _ _).mp h).2.1
     have hlt':cnt n E'<cnt n E:=zdV g.lt sub hd1 hd
     obtain⟨nx,ls,st⟩:=ih E' (g.sub sub sym') (by omega)
     refine⟨nx,ls,zfu g sub sym' (λu v huv hno=>?_) st⟩
     have wit:∀q y,Dl q y->∃p,E' q p=true/\r q p<r q y/\∀z,E' p z=true->r p q<=r p z:=λq y ⟨x,hx,hsx,hlt⟩=>by
      subst hsx;refine⟨x,(hE' _ _).mpr ⟨Esx x (RD x hx),?_,?_⟩,hlt,λz hz=>?_⟩
      ·rintro⟨y,hy,hsy,h⟩
       have:y=x:=Rinj y x hy hx (by rw[hsy])
       subst this;omega
      ·rintro⟨y,hy,hsy,h⟩
       exact bad ⟨x,y,hx,hy,hsy,h⟩
      ·refine sle x (RD x hx) z (sub _ _ hz) λe=>?_
       obtain⟨w,hw,ew⟩:=Rback x hx
       have e1:f x=s w:=by rw[<-ew,fl _ (sS w (RD w hw))]
       have h1:=gone w hw;rw[ew,<-e1,<-e] at h1;exact((hE' _ _).mp hz).2.2 h1
     have:Dl u v\/Dl v u:=by
      apply Classical.byContradiction;intro h;have:E' u v=true:=(hE' u v).mpr ⟨huv,λz=>h (.inl z),λz=>h (.inr z)⟩;rw[hno] at this;cases this
     rcases this with h|h
     ·exact .inl (wit u v h)
     ·exact .inr (wit v u h)
   ·-- nobody has two
    have one:∀i j k,E i j=true->E i k=true->j=k:=λi j k h1 h2=>by
     apply Classical.byContradiction;intro h;exact S2 ⟨i,j,k,h1,h2,h⟩
    have ff:∀i,S i->f (f i)=i:=λi h=>one (f i) _ _ (hf _ (fS i h)).1 (by rw[g.sym];exact(hf i h).1)
    refine⟨λi=>if S i then f i else i,λi=>if S i then f i else i,?_⟩
    have lt':∀i,i<n->(if S i then f i else i)<n:=λi hi=>by
     by_cases h:S i
     ·rw[if_pos h];exact Sb _ (fS i h)
     ·rw[if_neg h];exact hi
    have inv:∀i,(if S (if S i then f i else i) then f (if S i then f i else i) else (if S i then f i else i))=i:=λi=>by
     by_cases h:S i
     ·simp only[if_pos h,if_pos (fS i h)];exact ff i h
     ·simp only[if_neg h]
    constructor
    ·exact lt'
    ·exact lt'
    ·exact λi _=>inv i
    ·exact λi _=>inv i
    ·intro i hi hne
     by_cases h:S i
     ·simp only[if_pos h];exact(hf i h).1
     ·simp only[if_neg h] at hne;exact absurd rfl hne
    ·exact λi _ h=>absurd rfl h
    ·rintro i j hij ⟨b1,_⟩
     have h:S i:=⟨j,hij⟩;simp only[if_pos h] at b1;have e:=one i _ _ (hf i h).1 hij;rw[e] at b1
     rcases b1 with b1|b1
     ·rw[b1,g.irr] at hij;cases hij
     ·omega
end TN
namespace TN
def zd8(nx:Nat->Nat)(ring:List Nat):Prop:=ring≠[]/\∀k,k<ring.length->nx (ring.getD k 0)=ring.getD (if k+1=ring.length then 0 else k+1) 0
theorem zb2{nx:Nat->Nat}{x:Nat}(h:∃m,0<m/\Zs nx m x=x):∃m,0<m/\Zs nx m x=x/\∀k,0<k->k<m->Zs nx k x≠x:=by
 obtain⟨m,⟨h1,h2⟩,h3⟩:=zgy (P:=λm=>0<m/\Zs nx m x=x) id h
 exact⟨m,h1,h2,λk hk hkm e=>absurd (h3 k ⟨hk,e⟩) (by show ¬m<=k;omega)⟩
theorem zcX{α:Type}[DecidableEq α]:∀{l o:List α},l.Nodup->o.Nodup->(∀x∈o,x∈l)->(o++l.filter λx=>decide (¬x∈o)).Perm l:=by
 intro l o hl ho hs;rw[List.perm_iff_count];intro a;rw[List.count_append]
 have c1:∀m:List α,m.Nodup->m.count a=if a∈m then 1 else 0:=λm hm=>hm.count
 rw[c1 o ho,c1 l hl,c1 _ (hl.sublist List.filter_sublist)]
 by_cases h1:a∈o
 ·have h2:=hs a h1
  simp[h1,h2]
 ·by_cases h2:a∈l
  ·simp[h1,h2]
  ·simp[h1,h2]
end TN
namespace TM
def InR(ls:Ls)(p:Int×Int):Prop:=0<=p.1/\p.1<ls.length/\0<=p.2/\p.2<ls.length
def zgC(ls:Ls)(o:Option (List Int))(p:Int×Int):Option (List Int):=match o with
 | none=>none
 | some h=>if (h.getD p.1.toNat 0=p.1/\h.getD p.2.toNat 0=p.2)/\zH ls p.1 p.2=true then some (zd4 h p) else none
def qP(ls:Ls)(ps:Prs):Option (List Int):=ps.foldl (zgC ls) (some (rng ls.length))
theorem QE(ls:Ls)(ps:Prs)(p:Int×Int):qP ls (ps++[p])=zgC ls (qP ls ps) p:=by
 unfold qP;rw[List.foldl_append];rfl
theorem zbY{ls:Ls}{ps:Prs}(h:qP ls ps=none):∀rs,qP ls (ps++rs)=none:=by
 intro rs;unfold qP at h ⊢;rw[List.foldl_append,h]
 induction rs with
 | nil=>rfl
 | cons p rs ih=>exact ih
theorem qO{ls:Ls}(hV:Valid ls):∀{ps:Prs},(∀p∈ps,InR ls p)->(qP ls ps=some (z5 ls.length ps)/\Pairs ls ps)\/(qP ls ps=none/\¬Pairs ls ps):=by
 suffices hh:∀rs:Prs,(∀p∈rs.reverse,InR ls p)->(qP ls rs.reverse=some (z5 ls.length rs.reverse)/\Pairs ls rs.reverse)\/(qP ls rs.reverse=none/\¬Pairs ls rs.reverse) by
  intro ps h
  have:=hh ps.reverse (by rw[List.reverse_reverse];exact h)
  rwa [List.reverse_reverse] at this
 intro rs
 induction rs with
 | nil=>intro _;exact .inl ⟨rfl,Pairs.nil ls⟩
 | cons p rs ih =>
  intro h;rw[List.reverse_cons] at h ⊢;have hp:=h p (List.mem_append_right _ (List.mem_singleton.mpr rfl));obtain⟨p1,p2,p3,p4⟩:=hp
  rcases ih λq hq=>h q (List.mem_append_left _ hq) with ⟨e,P⟩|⟨e,P⟩
  ·rw[QE,e,qN]
   have at_:∀i:Int,0<=i->i<ls.length->(z5 ls.length rs.reverse).getD i.toNat 0=(mate rs.reverse i).getD i:=λi h0 h1=>by
    have:=Y2 (ls:=ls) (ps:=rs.reverse) (λq hq=>by obtain⟨h1,h2,h3,h4⟩:=h q (List.mem_append_left _ hq);exact⟨h1,h2,h3,h4⟩) i.toNat (by omega)
    rwa [show ((i.toNat:Nat):Int)=i by omega] at this
   show (if _ then _ else _)=_/\_\/(if _ then _ else _)=_/\_
   rw[at_ p.1 p1 p2,at_ p.2 p3 p4]
   have none_of:∀i:Int,(mate rs.reverse i).getD i=i->mate rs.reverse i=none:=λi hi=>by
    cases hm:mate rs.reverse i with
    | none=>rfl
    | some j=>rw[hm] at hi;exact absurd hi.symm (P.has hm).2.2.2.2.1
   by_cases hc:((mate rs.reverse p.1).getD p.1=p.1/\(mate rs.reverse p.2).getD p.2=p.2)/\zH ls p.1 p.2=true
   ·rw[if_pos hc]
    refine .inl ⟨rfl,?_⟩
    have hne:p.1≠p.2:=λe=>by
     have:=(zT hc.2).1;rw[<-e] at this;exact((YX hV p1 p2).1 _ this).2.2 rfl
    exact P.snoc (a:=p.1) (b:=p.2) ⟨p1,p2,p3,p4,hne,hc.2⟩ (none_of _ hc.1.1) (none_of _ hc.1.2)
   ·rw[if_neg hc]
    refine .inr ⟨rfl,λP'=>hc ?_⟩;obtain⟨_,m1,m2⟩:=P'.init;rw[m1,m2];exact⟨⟨rfl,rfl⟩,(P'.each p (List.mem_append_right _ (List.mem_singleton.mpr rfl))).2.2.2.2.2⟩
  ·refine .inr ⟨by rw[QE,e];rfl,λP'=>P P'.prefix⟩
def YN(ls:Ls)(ps:Prs):Bool:=match qP ls ps with
 | none=>false
 | some h=>decide (yO ls h=[])
theorem WX{ls:Ls}(hV:Valid ls){ps:Prs}(h:∀p∈ps,InR ls p):YN ls ps=true↔Pairs ls ps/\breaking ls ps=[]:=by
 unfold YN
 rcases qO hV h with ⟨e,P⟩|⟨e,P⟩
 ·rw[e]
  show decide _=true↔_;rw[zaF P];simp[P]
 ·rw[e]
  show false=true↔_;simp[P]
def ra(ring:List Int)(k:Nat):Int:=ring.getD k 0
def rp(ring:List Int)(k:Nat):Int:=ring.getD (if k=0 then ring.length-1 else k-1) 0
def ok1(ls:Ls)(ring:List Int)(k:Nat):Bool:=!(decide (1<ring.length)&&!zH ls (ra ring k) (rp ring k))
def ql(ring:List Int)(h:List Int)(k:Nat):List Int:=(List.range k).foldl (λh j=>h.set (ra ring j).toNat (rp ring j)) h
theorem Yd(ring h:List Int)(k:Nat):ql ring h (k+1)=(ql ring h k).set (ra ring k).toNat (rp ring k):=by
 unfold ql;rw[List.range_succ,List.foldl_append];rfl
theorem ZZ(ring h:List Int):∀k,(ql ring h k).length=h.length
 | 0=>rfl
 | k+1=>by rw[Yd,List.length_set,ZZ ring h k]
def Zx(n:Nat)(rings:List (List Int)):List Int:=rings.foldl (λh ring=>ql ring h ring.length) (rng n)
theorem qg(n:Nat)(rings:List (List Int))(ring:List Int):Zx n (rings++[ring])=ql ring (Zx n rings) ring.length:=by
 unfold Zx;rw[List.foldl_append];rfl
theorem yo(n:Nat)(rings:List (List Int)):(Zx n rings).length=n:=by
 unfold Zx
 suffices h:∀(rs:List (List Int)) (h:List Int),(rs.foldl (λh ring=>ql ring h ring.length) h).length=h.length by rw[h,zM]
 intro rs
 induction rs with
 | nil=>intro h;rfl
 | cons r rs ih=>intro h;rw[List.foldl_cons,ih,ZZ]
def ok2(ls:Ls)(last ring:List Int)(k:Nat):Bool:=!(decide (2<ring.length)&&!ZN ls (rp ring k) (ra ring k) (last.getD (rp ring k).toNat 0))
def ins(x:Int):List Int->List Int
 | []=>[x]
 | y::l=>if x<=y then x::y::l else y::ins x l
def YJ:List Int->List Int
 | []=>[]
 | x::l=>ins x (YJ l)
theorem wu(x:Int):∀l,(ins x l).Perm (x::l)
 | []=>List.Perm.refl _
 | y::l=>by
  unfold ins;split
  ·exact List.Perm.refl _
  ·exact((wu x l).cons y).trans (List.Perm.swap x y l)
theorem yD:∀l,(YJ l).Perm l
 | []=>List.Perm.refl _
 | x::l=>(wu x _).trans ((yD l).cons x)
theorem JH(x:Int):∀l:List Int,l.Pairwise (·<=·)->(ins x l).Pairwise (·<=·)
 | [],_=>List.pairwise_singleton _ _
 | y::l,h=>by
  unfold ins;rw[List.pairwise_cons] at h;split
  ·rename_i hx
   rw[List.pairwise_cons];refine⟨λz hz=>?_,List.pairwise_cons.mpr h⟩
   rcases List.mem_cons.mp hz with rfl|hz
   ·exact hx
   ·exact Int.le_trans hx (h.1 z hz)
  ·rename_i hx
   rw[List.pairwise_cons];refine⟨λz hz=>?_,JH x l h.2⟩
   rcases List.mem_cons.mp ((wu x l).mem_iff.mp hz) with rfl|hz
   ·omega
   ·exact h.1 z hz
theorem yS:∀l:List Int,(YJ l).Pairwise (·<=·)
 | []=>List.Pairwise.nil
 | x::l=>JH x _ (yS l)
theorem Yn:∀{a b:List Int},a.Perm b->a.Pairwise (·<=·)->b.Pairwise (·<=·)->a=b
 | [],b,p,_,_=>(List.Perm.nil_eq p)
 | x::a,[],p,_,_=>absurd p.length_eq (by simp)
 | x::a,y::b,p,ha,hb=>by
  rw[List.pairwise_cons] at ha hb;have hx:x∈y::b:=p.mem_iff.mp List.mem_cons_self;have hy:y∈x::a:=p.mem_iff.mpr List.mem_cons_self
  have e:x=y:=by
   rcases List.mem_cons.mp hx with h|h
   ·exact h
   ·rcases List.mem_cons.mp hy with h'|h'
    ·exact h'.symm
    ·have h1:=ha.1 y h'
     have h2:=hb.1 x h;omega
  subst e;rw[Yn (List.Perm.cons_inv p) ha.2 hb.2]
def zbM(rings:List (List Int)):List (List Int):=rings.filter λring=>decide ((ring.length:Int)=3)||decide ((ring.length:Int)=5)
def YK(ls:Ls)(rings:List (List Int)):Bool :=
 (decide (YJ rings.flatten=rng ls.length)&&!decide (zbM rings=[])) &&
 ((rings.all λring=>(List.range ring.length).all (ok1 ls ring))&&((rings.all λring=>(List.range ring.length).all (ok2 ls (Zx ls.length rings) ring))&&decide (yO ls (Zx ls.length rings)=[])))
theorem Ws{ls:Ls}{ring h:List Int}(hr:∀x∈ring,0<=x/\x<(ls.length:Int))(hh:∀i:Nat,i<ls.length->h.getD i 0=(i:Int)\/h.getD i 0∈lof ls i)(hl:h.length=ls.length) :
  ∀k,k<=ring.length->(∀j,j<k->ok1 ls ring j=true)->∀i:Nat,i<ls.length->(ql ring h k).getD i 0=(i:Int)\/(ql ring h k).getD i 0∈lof ls i
 | 0,_,_=>hh
 | k+1,hk,ok=>by
  intro i hi
  have ih:=Ws hr hh hl k (by omega) (λj hj=>ok j (by omega)) i hi
  have hra:ra ring k=ring[k]:=by unfold ra;simp[List.getD,show k<ring.length by omega]
  have hm:ra ring k∈ring:=by rw[hra];exact List.getElem_mem _
  obtain⟨a1,a2⟩:=hr _ hm
  rw[Yd,q0 _ _ _ _ _ (by rw[ZZ,hl];omega)]
  by_cases e:i=(ra ring k).toNat
  ·rw[if_pos e]
   have ei:(i:Int)=ra ring k:=by omega
   have o:=ok k (by omega)
   unfold ok1 at o
   by_cases h1:1<ring.length
   ·rw[decide_eq_true h1,Bool.true_and,Bool.not_not] at o
    rw[ei];exact .inr (zT o).1
   ·have e1:k=0:=by omega
    subst e1;refine .inl ?_;rw[ei];unfold rp ra
    rw[if_pos rfl,show ring.length-1=0 by omega]
  ·rw[if_neg e];exact ih
theorem zbU{ls:Ls}:∀{rings:List (List Int)},(∀ring∈rings,∀x∈ring,0<=x/\x<(ls.length:Int))->(∀ring∈rings,∀j,j<ring.length->ok1 ls ring j=true) ->
  ∀i:Nat,i<ls.length->(Zx ls.length rings).getD i 0=(i:Int)\/(Zx ls.length rings).getD i 0∈lof ls i:=by
 suffices hh:∀rs:List (List Int),(∀ring∈rs.reverse,∀x∈ring,0<=x/\x<(ls.length:Int))->(∀ring∈rs.reverse,∀j,j<ring.length->ok1 ls ring j=true) ->
   ∀i:Nat,i<ls.length->(Zx ls.length rs.reverse).getD i 0=(i:Int)\/(Zx ls.length rs.reverse).getD i 0∈lof ls i by
  intro rings h1 h2
  have:=hh rings.reverse (by rw[List.reverse_reverse];exact h1) (by rw[List.reverse_reverse];exact h2)
  rwa [List.reverse_reverse] at this
 intro rs
 induction rs with
 | nil =>
  intro _ _ i hi;refine .inl ?_;show (rng ls.length).getD i 0=_;simp[rng,List.getD,hi]
 | cons r rs ih =>
  intro h1 h2;rw[List.reverse_cons] at h1 h2 ⊢;rw[qg]
  exact Ws (h1 r (List.mem_append_right _ (List.mem_singleton.mpr rfl))) (ih (λq hq=>h1 q (List.mem_append_left _ hq)) λq hq=>h2 q (List.mem_append_left _ hq)) (yo _ _) r.length (Nat.le_refl _)
   λj hj=>h2 r (List.mem_append_right _ (List.mem_singleton.mpr rfl)) j hj
end TM
namespace TN
open TM
def cE(ls:Ls)(i j:Nat):Bool:=decide (i<ls.length)&&(decide (j<ls.length)&&zH ls i j)
def cr(ls:Ls)(i j:Nat):Nat:=(lof ls (i:Int)).idxOf (j:Int)
theorem YF{ls:Ls}{i j:Nat}:cE ls i j=true↔i<ls.length/\j<ls.length/\zH ls i j=true:=by
 unfold cE;rw[Bool.and_eq_true,Bool.and_eq_true,decide_eq_true_iff,decide_eq_true_iff]
theorem zdD{l:List Int}{x y:Int}(hx:x∈l)(hy:y∈l)(e:l.idxOf x=l.idxOf y):x=y:=by
 have h1:l.idxOf x<l.length:=List.idxOf_lt_length_iff.mpr hx;have h2:l.idxOf y<l.length:=List.idxOf_lt_length_iff.mpr hy;have e1:l[l.idxOf x]=x:=List.getElem_idxOf h1;have e2:l[l.idxOf y]=y:=List.getElem_idxOf h2;rw[<-e1,<-e2];congr 1
theorem zb7{ls:Ls}(hV:Valid ls):G ls.length (cr ls) (cE ls) where
 lt:=λi j h=>⟨(YF.mp h).1,(YF.mp h).2.1⟩
 irr:=λi=>by
  cases h:cE ls i i with
  | false=>rfl
  | true =>
   obtain⟨h1,_,h2⟩:=YF.mp h
   exact absurd rfl ((YX hV (show (0:Int)<=(i:Int) by omega) (by omega)).1 _ (zT h2).1).2.2
 sym:=λi j=>by
  rw[Bool.eq_iff_iff,YF,YF,yz];constructor
  ·rintro⟨a,b,c⟩;exact⟨b,a,c⟩
  ·rintro⟨a,b,c⟩;exact⟨b,a,c⟩
 inj:=λi j k h1 h2 e=>by
  have:=zdD (zT (YF.mp h1).2.2).1 (zT (YF.mp h2).2.2).1 e;omega
def yq(l:List Nat):List Int:=l.map λ(k:Nat)=>(k:Int)
theorem WI(l:List Nat)(k:Nat):(yq l).getD k 0=((l.getD k 0:Nat):Int):=by
 unfold yq
 by_cases h:k<l.length
 ·simp[List.getD,h]
 ·simp[List.getD,List.getElem?_eq_none (Nat.le_of_not_lt h)]
theorem yT(l:List Nat):(yq l).length=l.length:=by simp[yq]
theorem jd{l:List Nat}{x:Int}:x∈yq l↔∃k∈l,x=(k:Int):=by
 unfold yq;rw[List.mem_map];constructor
 ·rintro⟨k,h,e⟩;exact⟨k,h,e.symm⟩
 ·rintro⟨k,h,e⟩;exact⟨k,h,e.symm⟩
theorem Qo{l:List Nat}{k:Nat}(h:k<l.length):l.getD k 0∈l:=by
 have:l.getD k 0=l[k]:=by simp[List.getD,h]
 rw[this];exact List.getElem_mem _
theorem wz{l:List Nat}(hn:l.Nodup){i j:Nat}(hi:i<l.length)(hj:j<l.length)(e:l.getD i 0=l.getD j 0):i=j:=by
 have e1:l.getD i 0=l[i]:=by simp[List.getD,hi]
 have e2:l.getD j 0=l[j]:=by simp[List.getD,hj]
 rw[e1,e2] at e;exact(List.getElem_inj hn).mp e
section
variable {ls:Ls}{nx la:Nat->Nat}{rings:List (List Nat)}
theorem Qb(st:Stb ls.length (cr ls) (cE ls) nx la){ring:List Nat}(hr:zd8 nx ring)(hb:∀x∈ring,x<ls.length){k:Nat}(hk:k<ring.length) :
  ring.getD (if k=0 then ring.length-1 else k-1) 0=la (ring.getD k 0):=by
 have hj:(if k=0 then ring.length-1 else k-1)<ring.length:=by split <;> omega
 have h:=hr.2 _ hj
 have e:(if (if k=0 then ring.length-1 else k-1)+1=ring.length then 0 else (if k=0 then ring.length-1 else k-1)+1)=k:=by
  by_cases h0:k=0
  ·rw[if_pos h0,if_pos (by omega)];exact h0.symm
  ·rw[if_neg h0,if_neg (by omega)];omega
 rw[e] at h;rw[<-h];exact(st.ln _ (hb _ (Qo hj))).symm
theorem zag(ring:List Nat)(k:Nat):ra (yq ring) k=((ring.getD k 0:Nat):Int):=WI ring k
theorem zaa(st:Stb ls.length (cr ls) (cE ls) nx la){ring:List Nat}(hr:zd8 nx ring)(hb:∀x∈ring,x<ls.length){k:Nat}(hk:k<ring.length):rp (yq ring) k=((la (ring.getD k 0):Nat):Int):=by
 unfold rp;rw[WI,yT,Qb st hr hb hk]
theorem zbi(st:Stb ls.length (cr ls) (cE ls) nx la){ring:List Nat}(hr:zd8 nx ring)(hb:∀x∈ring,x<ls.length){h:List Int}(hh:h.length=ls.length) :
  ∀k,k<=ring.length->∀i,(ql (yq ring) h k).getD i 0=if i∈ring.take k then ((la i:Nat):Int) else h.getD i 0
 | 0,_,i=>by rw[List.take_zero];simp[ql]
 | k+1,hk,i=>by
  have hlt:ring.getD k 0<ls.length:=hb _ (Qo (by omega))
  rw[Yd,zag,zaa st hr hb (by omega),q0 _ _ _ _ _ (by rw[ZZ,hh];omega),zbi st hr hb hh k (by omega) i]
  have et:ring.take (k+1)=ring.take k++[ring.getD k 0]:=by
   rw[List.take_add_one]
   simp[List.getD,show k<ring.length by omega]
  rw[et,Int.toNat_natCast]
  by_cases e:i=ring.getD k 0
  ·rw[if_pos e,if_pos (List.mem_append_right _ (by rw[e];exact List.mem_singleton.mpr rfl)),e]
  ·rw[if_neg e]
   by_cases h1:i∈ring.take k
   ·rw[if_pos h1,if_pos (List.mem_append_left _ h1)]
   ·rw[if_neg h1,if_neg (by rw[List.mem_append,List.mem_singleton];rintro(z|z);exact h1 z;exact e z)]
theorem ze2(st:Stb ls.length (cr ls) (cE ls) nx la):∀(rings:List (List Nat)),(∀ring∈rings,zd8 nx ring)->(∀ring∈rings,∀x∈ring,x<ls.length) ->
  ∀i,(Zx ls.length (rings.map yq)).getD i 0=if i∈rings.flatten then ((la i:Nat):Int) else (rng ls.length).getD i 0:=by
 suffices hh:∀rs:List (List Nat),(∀ring∈rs.reverse,zd8 nx ring)->(∀ring∈rs.reverse,∀x∈ring,x<ls.length) ->
   ∀i,(Zx ls.length (rs.reverse.map yq)).getD i 0=if i∈rs.reverse.flatten then ((la i:Nat):Int) else (rng ls.length).getD i 0 by
  intro rings h1 h2
  have:=hh rings.reverse (by rw[List.reverse_reverse];exact h1) (by rw[List.reverse_reverse];exact h2)
  rwa [List.reverse_reverse] at this
 intro rs
 induction rs with
 | nil=>intro _ _ i;simp[Zx]
 | cons r rs ih =>
  intro h1 h2 i;rw[List.reverse_cons] at h1 h2 ⊢;have hr:=h1 r (List.mem_append_right _ (List.mem_singleton.mpr rfl));have hb:=h2 r (List.mem_append_right _ (List.mem_singleton.mpr rfl))
  rw[List.map_append,List.map_cons,List.map_nil,qg,yT,zbi st hr hb (yo _ _) r.length (Nat.le_refl _),List.take_length,
   ih (λq hq=>h1 q (List.mem_append_left _ hq)) λq hq=>h2 q (List.mem_append_left _ hq),List.flatten_append]
  by_cases e:i∈r
  ·rw[if_pos e,if_pos (List.mem_append_right _ (by simpa using e))]
  ·rw[if_neg e]
   by_cases e2:i∈rs.reverse.flatten
   ·rw[if_pos e2,if_pos (List.mem_append_left _ e2)]
   ·rw[if_neg e2,if_neg (by rw[List.mem_append];rintro(z|z);exact e2 z;exact e (by simpa using z))]
theorem WB(rings:List (List Nat)):(rings.map yq).flatten=yq rings.flatten:=by
 induction rings with
 | nil=>rfl
 | cons r rs ih=>rw[List.map_cons,List.flatten_cons,List.flatten_cons,ih];simp[yq]
theorem zbI(n:Nat):(rng n).Pairwise (·<=·):=by
 unfold rng;rw[List.pairwise_map]
 exact List.Pairwise.imp (λh=>by omega) (List.pairwise_lt_range (n:=n))
theorem zgE(st:Stb ls.length (cr ls) (cE ls) nx la)(hp:rings.flatten.Perm (List.range ls.length))(hr:∀ring∈rings,zd8 nx ring)(hodd:∃ring∈rings,ring.length=3\/ring.length=5):YK ls (rings.map yq)=true:=by
 have hb:∀ring∈rings,∀x∈ring,x<ls.length:=λring h x hx=>by
  have:x∈List.range ls.length:=hp.mem_iff.mp (List.mem_flatten.mpr ⟨ring,h,hx⟩)
  simpa using this
 have hnd:rings.flatten.Nodup:=hp.nodup_iff.mpr List.nodup_range;have rnd:∀ring∈rings,ring.Nodup:=λring h=>hnd.sublist (List.sublist_flatten_of_mem h)
 have hla:∀i,i<ls.length->(Zx ls.length (rings.map yq)).getD i 0=((la i:Nat):Int):=λi hi=>by
  rw[ze2 st rings hr hb i,if_pos (hp.mem_iff.mpr (by simpa using hi))]
 have hw:∀i,i<ls.length->nx i≠i->zH ls i (nx i)=true:=λi hi h=>(YF.mp (st.acc i hi h)).2.2
 have other:∀ring∈rings,∀k,k<ring.length->1<ring.length->la (ring.getD k 0)≠ring.getD k 0:=λring h k hk h1 e=>by
  have e1:=Qb st (hr ring h) (hb ring h) hk;rw[e] at e1
  have:=wz (rnd ring h) (by split <;> omega) hk e1
  split at this <;> omega
 have other2:∀ring∈rings,∀k,k<ring.length->2<ring.length->la (la (ring.getD k 0))≠ring.getD k 0:=λring h k hk h1 e=>by
  have e1:=Qb st (hr ring h) (hb ring h) hk
  have hj:(if k=0 then ring.length-1 else k-1)<ring.length:=by split <;> omega
  have hjk:(k=0->(if k=0 then ring.length-1 else k-1)=ring.length-1)/\(k≠0->(if k=0 then ring.length-1 else k-1)=k-1):=⟨λz=>if_pos z,λz=>if_neg z⟩
  generalize (if k=0 then ring.length-1 else k-1)=j at e1 hj hjk
  have e2:=Qb st (hr ring h) (hb ring h) hj
  have hj2:(if j=0 then ring.length-1 else j-1)<ring.length:=by split <;> omega
  rw[e1,e] at e2;have e3:=wz (rnd ring h) hj2 hk e2
  by_cases h0:k=0
  ·have:=hjk.1 h0
   split at e3 <;> omega
  ·have:=hjk.2 h0
   split at e3 <;> omega
 unfold YK;rw[Bool.and_eq_true,Bool.and_eq_true,Bool.and_eq_true,Bool.and_eq_true];refine⟨⟨?_,?_⟩,?_,?_,?_⟩
 ·refine decide_eq_true (Yn ((yD _).trans ?_) (yS _) (zbI _))
  rw[WB];exact hp.map _
 ·obtain⟨ring,h,hl⟩:=hodd
  rw[Bool.not_eq_true',decide_eq_false_iff_not];intro he
  have:yq ring∈zbM (rings.map yq):=by
   unfold zbM;rw[List.mem_filter];refine⟨List.mem_map.mpr ⟨ring,h,rfl⟩,?_⟩;rw[yT]
   rcases hl with e|e <;> rw[e] <;> decide
  rw[he] at this;exact nomatch this
 ·rw[List.all_eq_true]
  intro R hR;obtain⟨ring,h,rfl⟩:=List.mem_map.mp hR;rw[List.all_eq_true];intro k hk;rw[yT] at hk
  have hk:k<ring.length:=by simpa using hk
  unfold ok1;rw[yT,zag,zaa st (hr ring h) (hb ring h) hk]
  by_cases h1:1<ring.length
  ·have hx:=hb ring h _ (Qo hk)
   have hne:=other ring h k hk h1;have hy:=st.llt _ hx;have e:=st.nl _ hx
   have:=hw _ hy (by rw[e];exact λz=>hne z.symm)
   rw[e] at this;rw[yz,this];simp
  ·rw[decide_eq_false h1];rfl
 ·rw[List.all_eq_true]
  intro R hR;obtain⟨ring,h,rfl⟩:=List.mem_map.mp hR;rw[List.all_eq_true];intro k hk;rw[yT] at hk
  have hk:k<ring.length:=by simpa using hk
  unfold ok2;rw[yT,zag,zaa st (hr ring h) (hb ring h) hk]
  by_cases h1:2<ring.length
  ·have hx:=hb ring h _ (Qo hk)
   have hne:=other ring h k hk (by omega)
   have hne2:=other2 ring h k hk h1;have hy:=st.llt _ hx;have e:=st.nl _ hx;rw[Int.toNat_natCast,hla _ hy]
   have hpf:=st.pref _ hy (by rw[e];exact λz=>hne2 z.symm)
   rw[e] at hpf;unfold ZN
   rw[if_neg (by rintro(z|z) <;> omega)]
   have:(lof ls ((la (ring.getD k 0):Nat):Int)).idxOf ((ring.getD k 0:Nat):Int)<(lof ls ((la (ring.getD k 0):Nat):Int)).idxOf ((la (la (ring.getD k 0)):Nat):Int):=hpf;rw[decide_eq_true this];simp
  ·rw[decide_eq_false h1];rfl
 ·refine decide_eq_true ?_
  unfold yO;rw[List.filter_eq_nil_iff];intro p hp' hbk;obtain⟨o1,o2,o3,o4⟩:=YT hp';unfold zcf at hbk;rw[Bool.and_eq_true] at hbk
  have ea:((p.1.toNat:Nat):Int)=p.1:=by omega
  have eb:((p.2.toNat:Nat):Int)=p.2:=by omega
  rw[hla p.1.toNat (by omega),hla p.2.toNat (by omega)] at hbk
  have btr:∀i j:Nat,ZN ls (i:Int) (j:Int) ((la i:Nat):Int)=true->Btr (cr ls) i j (la i):=λi j h=>by
   unfold ZN at h;split at h
   ·cases h
   ·rw[Bool.or_eq_true] at h
    rcases h with h|h
    ·exact .inl (by have:=of_decide_eq_true h;omega)
    ·exact .inr (of_decide_eq_true h)
  rw[<-ea,<-eb] at hbk;rw[Int.toNat_natCast,Int.toNat_natCast] at hbk
  refine st.stab p.1.toNat p.2.toNat (YF.mpr ⟨by omega,by omega,by rw[ea,eb];exact o4⟩) ⟨btr _ _ hbk.1,btr _ _ hbk.2⟩
end
end TN
namespace TN
open TM
def J7:List Nat->Prs
 | a::b::l=>((a:Int),(b:Int))::J7 l
 | _=>[]
theorem za4:∀{l:List Nat} {p:Int×Int},p∈J7 l->∃t,t+1<l.length/\p=(((l.getD t 0:Nat):Int),((l.getD (t+1) 0:Nat):Int))
 | [],_,h=>nomatch h
 | [_],_,h=>nomatch h
 | a::b::l,p,h=>by
  rcases List.mem_cons.mp h with rfl|h
  ·exact⟨0,by simp,rfl⟩
  ·obtain⟨t,h1,h2⟩:=za4 h
   exact⟨t+2,by simp;omega,by rw[h2];rfl⟩
theorem za3:∀l:List Nat,(who (J7 l)).Sublist (yq l)
 | []=>List.Sublist.refl _
 | [a]=>List.nil_sublist _
 | a::b::l=>by
  show ([(a:Int),(b:Int)]++who (J7 l)).Sublist ([(a:Int),(b:Int)]++yq l);exact List.Sublist.append_left (za3 l) _
theorem za5:∀l:List Nat,l.length % 2=0->who (J7 l)=yq l
 | [],_=>rfl
 | [a],h=>by simp at h
 | a::b::l,h=>by
  show [(a:Int),(b:Int)]++who (J7 l)=[(a:Int),(b:Int)]++yq l
  rw[za5 l (by simp at h;omega)]
theorem jY{α β:Type}{f g:α->List β}:∀{l:List α},(∀x,(f x).Sublist (g x))->(l.flatMap f).Sublist (l.flatMap g)
 | [],_=>List.Sublist.refl _
 | a::l,h=>by
  rw[List.flatMap_cons,List.flatMap_cons];exact(h a).append (jY h)
theorem qx{α:Type}(f:α->Prs):∀l:List α,who (l.flatMap f)=l.flatMap λx=>who (f x)
 | []=>rfl
 | a::l=>by
  rw[List.flatMap_cons,List.flatMap_cons,<-qx f l];unfold who;rw[List.flatMap_append]
section
variable {ls:Ls}{nx la:Nat->Nat}{rings:List (List Nat)}
theorem zeI(st:Stb ls.length (cr ls) (cE ls) nx la)(hp:rings.flatten.Perm (List.range ls.length))(hr:∀ring∈rings,zd8 nx ring)(hev:∀ring∈rings,ring.length=1\/ring.length % 2=0) :
  Pairs ls (rings.flatMap J7)/\breaking ls (rings.flatMap J7)=[]:=by
 have hb:∀ring∈rings,∀x∈ring,x<ls.length:=λring h x hx=>by
  have:x∈List.range ls.length:=hp.mem_iff.mp (List.mem_flatten.mpr ⟨ring,h,hx⟩)
  simpa using this
 have hnd:rings.flatten.Nodup:=hp.nodup_iff.mpr List.nodup_range;have rnd:∀ring∈rings,ring.Nodup:=λring h=>hnd.sublist (List.sublist_flatten_of_mem h)
 have each:∀p∈rings.flatMap J7,∃x,x<ls.length/\nx x≠x/\p=((x:Int),((nx x:Nat):Int)):=λp hpm=>by
  rw[List.mem_flatMap] at hpm;obtain⟨ring,h,hpr⟩:=hpm;obtain⟨t,h1,e⟩:=za4 hpr
  have hn:=(hr ring h).2 t (by omega)
  rw[if_neg (by omega)] at hn
  refine⟨ring.getD t 0,hb ring h _ (Qo (by omega)),λz=>?_,by rw[hn];exact e⟩
  rw[hn] at z
  have:=wz (rnd ring h) (by omega) (by omega) z
  omega
 have P:Pairs ls (rings.flatMap J7):=by
  refine Pairs.mk (λp hpm=>?_) ?_
  ·obtain⟨x,hx,hne,rfl⟩:=each p hpm
   have h1:=st.acc x hx hne;obtain⟨a1,a2,a3⟩:=YF.mp h1;refine⟨?_,?_,?_,?_,?_,a3⟩
   ·show (0:Int)<=(x:Int);omega
   ·show (x:Int)<_;omega
   ·show (0:Int)<=((nx x:Nat):Int);omega
   ·show ((nx x:Nat):Int)<_;omega
   ·show (x:Int)≠((nx x:Nat):Int);omega
  ·show (who (rings.flatMap J7)).Nodup
   rw[qx];have h1:(rings.flatMap λx=>who (J7 x)).Sublist (rings.flatMap yq):=jY za3
   have h2:rings.flatMap yq=yq rings.flatten:=by rw[<-WB,List.flatMap_def]
   rw[h2] at h1;refine List.Nodup.sublist h1 ?_;unfold yq List.Nodup;rw[List.pairwise_map]
   exact List.Pairwise.imp (λh e=>h (by omega)) hnd
 refine⟨P,?_⟩
 have hm:∀(i:Nat) (h:Int),i<ls.length->mate (rings.flatMap J7) (i:Int)=some h->h=((nx i:Nat):Int)\/h=((la i:Nat):Int):=λi h hi e=>by
  rcases Qk e with hmem|hmem
  ·obtain⟨x,hx,_,e2⟩:=each _ hmem
   have e3:(i:Int)=(x:Int):=congrArg Prod.fst e2;have e4:h=((nx x:Nat):Int):=congrArg Prod.snd e2
   have:i=x:=by omega
   subst this;exact .inl e4
  ·obtain⟨x,hx,_,e2⟩:=each _ hmem
   have e3:h=(x:Int):=congrArg Prod.fst e2;have e4:(i:Int)=((nx x:Nat):Int):=congrArg Prod.snd e2
   have e5:i=nx x:=by omega
   refine .inr ?_;rw[e3,e5,st.ln x hx]
 have hno:∀i:Nat,i<ls.length->mate (rings.flatMap J7) (i:Int)=none->la i=i:=λi hi e=>by
  have hmem:i∈rings.flatten:=hp.mem_iff.mpr (by simpa using hi)
  obtain⟨ring,h,hx⟩:=List.mem_flatten.mp hmem
  rcases hev ring h with h1|h2
  ·match ring,h1 with
   | [x],_ =>
    have hn:=(hr [x] h).2 0 (by simp)
    have ex:i=x:=by simpa using hx
    subst ex;have hn:nx i=i:=hn;have:=st.ln i hi;rw[hn] at this;exact this
  ·exfalso
   have hw:(i:Int)∈who (rings.flatMap J7):=by
    rw[qx,List.mem_flatMap]
    exact⟨ring,h,by rw[za5 ring h2];exact jd.mpr ⟨i,hx,rfl⟩⟩
   obtain⟨j,e2⟩:=jJ hw;rw[e] at e2;cases e2
 have better:∀i j:Nat,i<ls.length->wr ls (i:Int) (j:Int) (mate (rings.flatMap J7) (i:Int))=true->Btr (cr ls) i j (la i):=λi j hi h=>by
  cases e:mate (rings.flatMap J7) (i:Int) with
  | none=>exact .inl (hno i hi e)
  | some k =>
   rw[e] at h;have h:(lof ls (i:Int)).idxOf (j:Int)<(lof ls (i:Int)).idxOf k:=of_decide_eq_true h
   by_cases hla:la i=i
   ·exact .inl hla
   ·rcases hm i k hi e with rfl|rfl
    ·by_cases e2:nx i=la i
     ·rw[e2] at h;exact .inr h
     ·exact .inr (Nat.lt_trans h (st.pref i hi e2))
    ·exact .inr h
 unfold breaking
 have:Qs (brk ls (rings.flatMap J7)) ls.length ls.length=Qs (λ_ _=>false) ls.length ls.length:=by
  refine qd (Nat.le_refl _) λa b h0 h1 h2=>?_
  cases e:brk ls (rings.flatMap J7) a b with
  | false=>rfl
  | true =>
   exfalso
   unfold brk at e;rw[Bool.and_eq_true,Bool.and_eq_true] at e;obtain⟨w1,w2,w3⟩:=e
   have ea:((a.toNat:Nat):Int)=a:=by omega
   have eb:((b.toNat:Nat):Int)=b:=by omega
   rw[<-ea,<-eb] at w1 w2 w3
   exact st.stab a.toNat b.toNat (YF.mpr ⟨by omega,by omega,w1⟩) ⟨better _ _ (by omega) w2,better _ _ (by omega) w3⟩
 rw[this];unfold Qs row;simp
end
theorem zby{ls:Ls}{ps:Prs}(h:breaking ls ps=[]){i j:Int}(hi:0<=i/\i<ls.length)(hj:0<=j/\j<ls.length)(hw:zH ls i j=true)(hV:Valid ls):¬(wr ls i j (mate ps i)=true/\wr ls j i (mate ps j)=true):=by
 have core:∀a b:Int,0<=a->a<b->b<ls.length->brk ls ps a b=false:=λa b h0 h1 h2=>by
  cases e:brk ls ps a b with
  | false=>rfl
  | true =>
   exfalso
   have hm:(a,b)∈breaking ls ps:=by
    unfold breaking Qs;rw[List.mem_flatMap]
    refine⟨a.toNat,by simpa using (by omega:a.toNat<ls.length),?_⟩
    unfold row;rw[List.mem_filter,List.mem_map]
    refine⟨⟨(b-a-1).toNat,by simpa using (by omega:(b-a-1).toNat<ls.length-(a.toNat+1)),?_⟩,e⟩
    rw[show ((a.toNat:Nat):Int)=a by omega,show (((b-a-1).toNat:Nat):Int)=b-a-1 by omega,show a+1+(b-a-1)=b by omega]
   rw[h] at hm;exact nomatch hm
 rintro⟨h1,h2⟩
 rcases Int.lt_trichotomy i j with hl|hl|hl
 ·have:=core i j hi.1 hl hj.2
  unfold brk at this;rw[hw,h1,h2] at this;cases this
 ·subst hl
  exact((YX hV hi.1 hi.2).1 _ (zT hw).1).2.2 rfl
 ·have:=core j i hj.1 hl hi.2
  unfold brk at this;rw[yz,hw,h1,h2] at this;cases this
theorem jK{ls:Ls}:∀{ps:Prs},Pairs ls ps->∀{a b:Int},(a,b)∈ps->mate ps a=some b/\mate ps b=some a:=by
 suffices hh:∀rs:Prs,Pairs ls rs.reverse->∀{a b:Int},(a,b)∈rs.reverse->mate rs.reverse a=some b/\mate rs.reverse b=some a by
  intro ps P a b h
  have:=hh ps.reverse (by rw[List.reverse_reverse];exact P) (a:=a) (b:=b) (by rw[List.reverse_reverse];exact h)
  rwa [List.reverse_reverse] at this
 intro rs
 induction rs with
 | nil=>intro _ a b h;exact nomatch h
 | cons p rs ih =>
  intro P a b h;rw[List.reverse_cons] at P h ⊢;obtain⟨P0,m1,m2⟩:=P.init;have hp:=P.each p (List.mem_append_right _ (List.mem_singleton.mpr rfl));rw[yL,yL]
  rcases List.mem_append.mp h with h|h
  ·obtain⟨e1,e2⟩:=ih P0 h
   have a1:a≠p.2:=λz=>by rw[z,m2] at e1;cases e1
   have a2:a≠p.1:=λz=>by rw[z,m1] at e1;cases e1
   have b1:b≠p.2:=λz=>by rw[z,m2] at e2;cases e2
   have b2:b≠p.1:=λz=>by rw[z,m1] at e2;cases e2
   rw[if_neg a1,if_neg a2,if_neg b1,if_neg b2];exact⟨e1,e2⟩
  ·have e:=List.mem_singleton.mp h
   subst e;have hne:a≠b:=hp.2.2.2.2.1;rw[if_neg hne,if_pos rfl,if_pos rfl];exact⟨rfl,rfl⟩
theorem ym{ls:Ls}{ps:Prs}(P:Pairs ls ps){i j:Int}(h:mate ps i=some j):mate ps j=some i:=by
 rcases Qk h with h|h
 ·exact(jK P h).2
 ·exact(jK P h).1
def wK(ls:Ls)(ps qs:Prs)(i:Nat):Prop:=i<ls.length/\∃j:Int,mate ps (i:Int)=some j/\wr ls i j (mate qs i)=true
theorem JN{ls:Ls}(hV:Valid ls){ps qs:Prs}(P:Pairs ls ps)(Q:Pairs ls qs)(hq:breaking ls qs=[]){i:Nat}(h:wK ls ps qs i):∃j:Nat,mate ps (i:Int)=some (j:Int)/\wK ls qs ps j:=by
 obtain⟨hi,j,hm,hw⟩:=h;obtain⟨b1,b2,b3,b4,b5,b6⟩:=P.has hm
 have ej:((j.toNat:Nat):Int)=j:=by omega
 have hjm:=ym P hm
 refine⟨j.toNat,by rw[ej];exact hm,by omega,?_⟩
 have nb:=zby hq (i:=(i:Int)) (j:=j) ⟨b1,b2⟩ ⟨b3,b4⟩ b6 hV
 have n2:wr ls j i (mate qs j)=false:=by
  cases e:wr ls j i (mate qs j) with
  | false=>rfl
  | true=>exact absurd ⟨hw,e⟩ nb
 rw[ej]
 cases e:mate qs j with
 | none=>rw[e] at n2;cases n2
 | some k =>
  refine⟨k,rfl,?_⟩;rw[hjm];rw[e] at n2;have n3:¬(lof ls j).idxOf (i:Int)<(lof ls j).idxOf k:=of_decide_eq_false n2;obtain⟨_,_,_,_,_,c6⟩:=Q.has e
  have hne:k≠(i:Int):=λz=>by
   subst z;rw[ym Q e] at hw;have:(lof ls (i:Int)).idxOf j<(lof ls (i:Int)).idxOf j:=of_decide_eq_true hw;omega
  have hne2:(lof ls j).idxOf k≠(lof ls j).idxOf (i:Int):=λz=>hne (zdD (zT c6).1 (zT b6).2 z);refine decide_eq_true ?_;omega
theorem zd3{ls:Ls}(hV:Valid ls){ps qs:Prs}(P:Pairs ls ps)(Q:Pairs ls qs)(hp:breaking ls ps=[])(hq:breaking ls qs=[]){i:Nat}(h:wK ls ps qs i):mate qs (i:Int)≠none:=by
 let m1:Nat->Nat:=λi=>((mate ps (i:Int)).getD 0).toNat
 let m2:Nat->Nat:=λi=>((mate qs (i:Int)).getD 0).toNat
 have f1:∀i,wK ls ps qs i->mate ps (i:Int)=some ((m1 i:Nat):Int)/\wK ls qs ps (m1 i):=λi h=>by
  obtain⟨j,e,h2⟩:=JN hV P Q hq h
  have:m1 i=j:=by show ((mate ps (i:Int)).getD 0).toNat=j;rw[e];rfl
  rw[this];exact⟨e,h2⟩
 have f2:∀i,wK ls qs ps i->mate qs (i:Int)=some ((m2 i:Nat):Int)/\wK ls ps qs (m2 i):=λi h=>by
  obtain⟨j,e,h2⟩:=JN hV Q P hp h
  have:m2 i=j:=by show ((mate qs (i:Int)).getD 0).toNat=j;rw[e];rfl
  rw[this];exact⟨e,h2⟩
 obtain⟨j,hj,e⟩:=ziJ (n:=ls.length) (S:=wK ls ps qs) (f:=λi=>m2 (m1 i)) (λi h=>h.1) (λi h=>(f2 _ (f1 i h).2).2) (λa b ha hb e=>by
  have a1:=f1 a ha;have b1:=f1 b hb;have a2:=f2 _ a1.2;have b2:=f2 _ b1.2;have e:m2 (m1 a)=m2 (m1 b):=e;have a3:=ym Q a2.1;have b3:=ym Q b2.1;rw[e,b3] at a3
  have e2:m1 b=m1 a:=by injection a3 with z;omega
  have a4:=ym P a1.1;have b4:=ym P b1.1;rw[e2,a4] at b4
  injection b4 with z
  omega) i h
 have e:m2 (m1 j)=i:=e;have h2:=f2 _ (f1 j hj).2;rw[e] at h2;rw[ym Q h2.1];exact λz=>nomatch z
theorem qc{ls:Ls}(hV:Valid ls){ps qs:Prs}(P:Pairs ls ps)(Q:Pairs ls qs)(hp:breaking ls ps=[])(hq:breaking ls qs=[]){i:Nat}(hi:i<ls.length)(h:mate ps (i:Int)=none):mate qs (i:Int)=none:=by
 cases e:mate qs (i:Int) with
 | none=>rfl
 | some j =>
  have:wK ls qs ps i:=⟨hi,j,e,by rw[h];rfl⟩
  exact absurd h (zd3 hV Q P hq hp this)
end TN
namespace TN
open TM
def pv'(n k:Nat):Nat:=if k=0 then n-1 else k-1
theorem zgh{n k:Nat}(h:k<n):pv' n k<n:=by unfold pv';split <;> omega
theorem zf9(ring:List Int)(k:Nat):rp ring k=ra ring (pv' ring.length k):=rfl
def rpp(ring:List Int)(k:Nat):Int:=rp ring (pv' ring.length k)
def ZF(ls:Ls)(ring:List Int):Bool:=(List.range ring.length).all λk=>zH ls (rp ring k) (ra ring k)
def YO(ls:Ls)(ring:List Int):Bool:=(List.range ring.length).all λk=>wr ls (rp ring k) (ra ring k) (some (rpp ring k))
def Zd(ls:Ls)(ring:List Int):Bool:=decide (ring.length=1)||(ZF ls ring&&(decide (ring.length=2)||YO ls ring))
def zap(ring:List Int)(f:Int->Option Int)(k:Nat):Int->Option Int:=λi=>if i=ra ring k then (if 1<ring.length then some (rp ring k) else none) else f i
def YZ(ring:List Int)(f:Int->Option Int)(k:Nat):Int->Option Int:=(List.range k).foldl (zap ring) f
theorem yM(ring:List Int)(f:Int->Option Int)(k:Nat):YZ ring f (k+1)=zap ring (YZ ring f k) k:=by
 unfold YZ;rw[List.range_succ,List.foldl_append];rfl
def yV(rings:List (List Int)):Int->Option Int:=rings.foldl (λf ring=>YZ ring f ring.length) λ_=>none
theorem qf(rings:List (List Int))(ring:List Int):yV (rings++[ring])=YZ ring (yV rings) ring.length:=by
 unfold yV;rw[List.foldl_append];rfl
def zcg(ls:Ls)(hv:Int->Option Int)(i j:Int):Bool:=zH ls i j&&(wr ls i j (hv i)&&wr ls j i (hv j))
def breakers(ls:Ls)(hv:Int->Option Int):Prs:=Qs (zcg ls hv) ls.length ls.length
def zcd(ring:List Int):Bool:=decide ((ring.length:Int)=3)||decide ((ring.length:Int)=5)
def QI(ls:Ls)(rings:List (List Int)):Bool:=decide (YJ rings.flatten=rng ls.length)&&(rings.all (Zd ls)&&decide (breakers ls (yV rings)=[]))
def QU(ls:Ls)(rings:List (List Int)):Bool:=rings.any zcd&&QI ls rings
theorem Y8{α:Type}{P:List α->Prop}(h0:P [])(h1:∀l x,P l->P (l++[x])):∀l,P l:=by
 intro l
 have:∀r:List α,P r.reverse:=by
  intro r
  induction r with
  | nil=>exact h0
  | cons x r ih=>rw[List.reverse_cons];exact h1 _ _ ih
 have:=this l.reverse
 rwa [List.reverse_reverse] at this
theorem zdr{n:Nat}{ring h:List Int}{f:Int->Option Int}(hl:h.length=n)(hr:∀x∈ring,0<=x/\x<(n:Int))(hh:∀i:Nat,i<n->h.getD i 0=(f i).getD i) :
  ∀k,k<=ring.length->∀i:Nat,i<n->(ql ring h k).getD i 0=(YZ ring f k i).getD i
 | 0,_=>hh
 | k+1,hk=>by
  intro i hi
  have ih:=zdr hl hr hh k (by omega) i hi
  have hra:ra ring k∈ring:=by unfold ra;simp[List.getD,show k<ring.length by omega]
  obtain⟨a1,a2⟩:=hr _ hra
  rw[Yd,yM,q0 _ _ _ _ _ (by rw[ZZ,hl];omega)]
  unfold zap
  by_cases e:i=(ra ring k).toNat
  ·have ei:(i:Int)=ra ring k:=by omega
   rw[if_pos e,if_pos ei]
   by_cases h1:1<ring.length
   ·rw[if_pos h1];rfl
   ·rw[if_neg h1]
    have e1:k=0:=by omega
    subst e1;show rp ring 0=(i:Int);rw[ei];unfold rp ra
    rw[if_pos rfl,show ring.length-1=0 by omega]
  ·have ei:¬(i:Int)=ra ring k:=by omega
   rw[if_neg e,if_neg ei];exact ih
theorem zds{n:Nat}:∀{rings:List (List Int)},(∀ring∈rings,∀x∈ring,0<=x/\x<(n:Int))->∀i:Nat,i<n->(Zx n rings).getD i 0=(yV rings i).getD i:=by
 intro rings;refine Y8 (P:=λrings=>(∀ring∈rings,∀x∈ring,0<=x/\x<(n:Int))->∀i:Nat,i<n->(Zx n rings).getD i 0=(yV rings i).getD i) ?_ ?_ rings
 ·intro _ i hi
  show (rng n).getD i 0=_;simp[rng,List.getD,hi,yV]
 ·intro rs r ih hr i hi
  rw[qg,qf]
  exact zdr (yo n rs) (hr r (by simp)) (ih λring h=>hr ring (by simp[h])) _ (Nat.le_refl _) i hi
theorem QO{ls:Ls}{ring:List Int}{f:Int->Option Int}(hs:1<ring.length->ZF ls ring=true)(hf:∀i x,f i=some x->zH ls i x=true) :
  ∀k,k<=ring.length->∀i x,YZ ring f k i=some x->zH ls i x=true
 | 0,_=>hf
 | k+1,hk=>by
  intro i x h;rw[yM] at h;unfold zap at h
  by_cases e:i=ra ring k
  ·rw[if_pos e] at h
   by_cases h1:1<ring.length
   ·rw[if_pos h1] at h
    have:=List.all_eq_true.mp (hs h1) k (List.mem_range.mpr hk);rw[yz] at this;rw[e,<-Option.some.inj h];exact this
   ·rw[if_neg h1] at h;cases h
  ·rw[if_neg e] at h
   exact QO hs hf k (by omega) i x h
theorem JJ{ls:Ls}{ring:List Int}(h:Zd ls ring=true)(h1:1<ring.length):ZF ls ring=true:=by
 unfold Zd at h
 rw[decide_eq_false (by omega),Bool.false_or,Bool.and_eq_true] at h
 exact h.1
theorem jR{ls:Ls}:∀{rings:List (List Int)},(∀ring∈rings,1<ring.length->ZF ls ring=true)->∀i x,yV rings i=some x->zH ls i x=true:=by
 intro rings;refine Y8 (P:=λrings=>(∀ring∈rings,1<ring.length->ZF ls ring=true)->∀i x,yV rings i=some x->zH ls i x=true) ?_ ?_ rings
 ·intro _ i x h;cases h
 ·intro rs r ih hr i x h
  rw[qf] at h
  exact QO (hr r (by simp)) (ih λring h=>hr ring (by simp[h])) _ (Nat.le_refl _) i x h
theorem JF{ring:List Int}{f:Int->Option Int}{i:Int}(h:¬i∈ring):∀k,k<=ring.length->YZ ring f k i=f i
 | 0,_=>rfl
 | k+1,hk=>by
  rw[yM];unfold zap
  have hra:ra ring k∈ring:=by unfold ra;simp[List.getD,show k<ring.length by omega]
  have ne:¬i=ra ring k:=λe=>h (by rw[e];exact hra)
  rw[if_neg ne,JF h k (by omega)]
theorem za1{ring:List Int}(hn:ring.Nodup){i j:Nat}(hi:i<ring.length)(hj:j<ring.length)(e:ra ring i=ra ring j):i=j:=by
 unfold ra at e;simp only[List.getD,List.getElem?_eq_getElem hi,List.getElem?_eq_getElem hj,Option.getD_some] at e;exact(List.getElem_inj hn).mp e
theorem Wt{ring:List Int}{f:Int->Option Int}(hn:ring.Nodup)(h1:1<ring.length){j:Nat}:∀k,k<=ring.length->j<k->YZ ring f k (ra ring j)=some (rp ring j)
 | 0,_,h=>absurd h (by omega)
 | k+1,hk,h=>by
  rw[yM];unfold zap
  by_cases e:j=k
  ·subst e
   rw[if_pos rfl,if_pos h1]
  ·rw[if_neg (λz=>e (za1 hn (by omega) (by omega) z)),Wt hn h1 k (by omega) (by omega)]
theorem ze1:∀{rings:List (List Int)},rings.flatten.Nodup->∀ring∈rings,1<ring.length->∀j,j<ring.length->yV rings (ra ring j)=some (rp ring j):=by
 intro rings;refine Y8 (P:=λrings=>rings.flatten.Nodup->∀ring∈rings,1<ring.length->∀j,j<ring.length->yV rings (ra ring j)=some (rp ring j)) ?_ ?_ rings
 ·intro _ ring h;cases h
 ·intro rs r ih hn ring h h1 j hj
  rw[List.flatten_append,List.flatten_singleton] at hn;obtain⟨n1,n2,n3⟩:=List.nodup_append.mp hn;rw[qf]
  rcases List.mem_append.mp h with h|h
  ·have hm:ra ring j∈ring:=by unfold ra;simp[List.getD,hj]
   rw[JF (λz=>n3 _ (List.mem_flatten.mpr ⟨ring,h,hm⟩) _ z rfl) _ (Nat.le_refl _)];exact ih n1 ring h h1 j hj
  ·obtain rfl:=List.mem_singleton.mp h
   exact Wt n2 h1 _ (Nat.le_refl _) hj
theorem yy{n:Nat}{p:Nat->Bool}:(List.range n).all p=true↔∀k,k<n->p k=true:=by
 rw[List.all_eq_true]
 exact⟨λh k hk=>h k (by simpa using hk),λh k hk=>h k (by simpa using hk)⟩
theorem zeo{ls:Ls}(hV:Valid ls){i:Int}(hi:0<=i/\i<ls.length):zH ls i i=false:=by
 cases h:zH ls i i with
 | false=>rfl
 | true =>
  have:=(YX hV hi.1 hi.2).1 i (zT h).1;exact absurd rfl this.2.2
theorem wO{ls:Ls}(hV:Valid ls){rings:List (List Int)}(hw:∀ring∈rings,ring≠[]/\∀x∈ring,0<=x/\x<(ls.length:Int)):QU ls rings=YK ls rings:=by
 have hb:∀ring∈rings,∀x∈ring,0<=x/\x<(ls.length:Int):=λring h=>(hw ring h).2
 have rin:∀ring∈rings,∀k,k<ring.length->ra ring k∈ring:=λring h k hk=>by unfold ra;simp[List.getD,hk]
 unfold QU QI YK
 have eo:rings.any zcd=!decide (zbM rings=[]):=by
  unfold zbM;rw[Bool.eq_iff_iff,List.any_eq_true,Bool.not_eq_true',decide_eq_false_iff_not];constructor
  ·rintro⟨r,h1,h2⟩ e
   have:r∈rings.filter zcd:=List.mem_filter.mpr ⟨h1,h2⟩
   rw[show rings.filter zcd=[] from e] at this
   cases this
  ·intro h
   cases hq:rings.filter zcd with
   | nil=>exact absurd hq h
   | cons r rs =>
    have:r∈rings.filter zcd:=by rw[hq];exact List.mem_cons_self
    exact⟨r,(List.mem_filter.mp this).1,(List.mem_filter.mp this).2⟩
 rw[eo]
 by_cases hp:YJ rings.flatten=rng ls.length
 ·rw[decide_eq_true hp,Bool.true_and,Bool.true_and]
  congr 1
  have hperm:rings.flatten.Perm (rng ls.length):=(yD _).symm.trans (by rw[hp])
  have hnd:rings.flatten.Nodup:=hperm.nodup_iff.mpr (jt _);have rnd:∀ring∈rings,ring.Nodup:=λring h=>hnd.sublist (List.sublist_flatten_of_mem h)
  have e1:∀ring∈rings,((List.range ring.length).all (ok1 ls ring)=true↔(1<ring.length->ZF ls ring=true)):=λring h=>by
   rw[yy];unfold ZF;rw[yy];constructor
   ·intro q h1 k hk
    have:=q k hk;unfold ok1 at this;rw[decide_eq_true h1,Bool.true_and,Bool.not_not] at this;rw[yz];exact this
   ·intro q k hk
    unfold ok1
    by_cases h1:1<ring.length
    ·rw[decide_eq_true h1,Bool.true_and,Bool.not_not,yz]
     exact q h1 k hk
    ·rw[decide_eq_false h1];rfl
  have e2:(∀ring∈rings,1<ring.length->ZF ls ring=true)->∀ring∈rings,((List.range ring.length).all (ok2 ls (Zx ls.length rings) ring)=true↔(2<ring.length->YO ls ring=true)):=λhs ring h=>by
   have one:2<ring.length->∀k,k<ring.length->ZN ls (rp ring k) (ra ring k) ((Zx ls.length rings).getD (rp ring k).toNat 0)=wr ls (rp ring k) (ra ring k) (some (rpp ring k)):=λh2 k hk=>by
    have hj:=zgh hk;have hin:=hb ring h _ (rin ring h _ hj)
    rw[zf9,zds hb _ (by omega),show (((ra ring (pv' ring.length k)).toNat:Nat):Int)=ra ring (pv' ring.length k) by omega,ze1 hnd ring h (by omega) _ hj]
    show ZN ls _ _ (rp ring (pv' ring.length k))=_;have hj2:=zgh hj
    have n1:ra ring k≠ra ring (pv' ring.length k):=λe=>by
     have:=za1 (rnd ring h) hk hj e
     unfold pv' at this;split at this <;> omega
    have n2:ra ring k≠rp ring (pv' ring.length k):=λe=>by
     rw[zf9] at e;have:=za1 (rnd ring h) hk hj2 e;unfold pv' at this
     split at this <;> split at this <;> omega
    have n3:rp ring (pv' ring.length k)≠ra ring (pv' ring.length k):=λe=>by
     rw[zf9] at e;have:=za1 (rnd ring h) hj2 hj e;generalize pv' ring.length k=j at *
     unfold pv' at this;split at this <;> omega
    unfold ZN wr rpp
    rw[if_neg (by rintro(e|e);exact n1 e;exact n2 e),decide_eq_false n3,Bool.false_or]
   rw[yy];unfold YO;rw[yy];constructor
   ·intro q h2 k hk
    have:=q k hk;unfold ok2 at this;rw[decide_eq_true h2,Bool.true_and,Bool.not_not,one h2 k hk] at this;exact this
   ·intro q k hk
    unfold ok2
    by_cases h2:2<ring.length
    ·rw[decide_eq_true h2,Bool.true_and,Bool.not_not,one h2 k hk]
     exact q h2 k hk
    ·rw[decide_eq_false h2];rfl
  have e3:(∀ring∈rings,1<ring.length->ZF ls ring=true)->breakers ls (yV rings)=yO ls (Zx ls.length rings):=λhs=>by
   unfold breakers yO Zw;rw[js (zH ls) (zcf ls (Zx ls.length rings))];refine qd (Nat.le_refl _) λa b h0 h1 h2=>?_;unfold zcg zcf
   cases hwd:zH ls a b with
   | false=>rfl
   | true =>
    have half:∀x y:Int,0<=x->x<ls.length->x≠y->ZN ls x y ((Zx ls.length rings).getD x.toNat 0)=wr ls x y (yV rings x):=λx y x0 x1 ne=>by
     rw[zds hb _ (by omega),show ((x.toNat:Nat):Int)=x by omega]
     cases e:yV rings x with
     | none =>
      show ZN ls x y x=true;unfold ZN
      rw[if_neg (by rintro(z|z) <;> exact ne z.symm),decide_eq_true rfl];rfl
     | some z =>
      show ZN ls x y z=decide _;have hz:=jR hs x z e
      have nz:z≠x:=λq=>by rw[q,zeo hV ⟨x0,x1⟩] at hz;cases hz
      unfold ZN
      by_cases q:y=z
      ·subst q
       rw[if_pos (.inr rfl)];simp
      ·rw[if_neg (by rintro(q'|q');exact ne q'.symm;exact q q'),decide_eq_false nz,Bool.false_or]
    rw[half a b h0 (by omega) (by omega),half b a (by omega) h2 (by omega)]
  rw[Bool.eq_iff_iff,Bool.and_eq_true,Bool.and_eq_true,Bool.and_eq_true,decide_eq_true_iff,decide_eq_true_iff,List.all_eq_true,List.all_eq_true,List.all_eq_true]
  have hg:(∀ring∈rings,Zd ls ring=true)↔(∀ring∈rings,1<ring.length->ZF ls ring=true)/\∀ring∈rings,2<ring.length->YO ls ring=true:=by
   constructor
   ·intro h
    refine⟨λring hm h1=>JJ (h ring hm) h1,λring hm h2=>?_⟩;have:=h ring hm;unfold Zd at this
    rw[decide_eq_false (by omega),Bool.false_or,Bool.and_eq_true,decide_eq_false (by omega),Bool.false_or] at this
    exact this.2
   ·rintro⟨h1,h2⟩ ring hm
    have hne:=(hw ring hm).1;have hpos:0<ring.length:=List.length_pos_iff.mpr hne;unfold Zd
    by_cases q1:ring.length=1
    ·rw[decide_eq_true q1];rfl
    ·rw[decide_eq_false q1,Bool.false_or,h1 ring hm (by omega),Bool.true_and]
     by_cases q2:ring.length=2
     ·rw[decide_eq_true q2];rfl
     ·rw[decide_eq_false q2,Bool.false_or,h2 ring hm (by omega)]
  constructor
  ·rintro⟨h1,h2⟩
   obtain⟨g1,g2⟩:=hg.mp h1
   exact⟨λring h=>(e1 ring h).mpr (g1 ring h),λring h=>(e2 g1 ring h).mpr (g2 ring h),by rw[<-e3 g1];exact h2⟩
  ·rintro⟨h1,h2,h3⟩
   have g1:=λring h=>(e1 ring h).mp (h1 ring h)
   exact⟨hg.mpr ⟨g1,λring h=>(e2 g1 ring h).mp (h2 ring h)⟩,by rw[e3 g1];exact h3⟩
 ·rw[decide_eq_false hp,Bool.false_and,Bool.false_and,Bool.and_false];rfl
end TN
namespace TN
open TM
abbrev Rs:=List (List Int)
inductive Ext (ls:Ls):Rs->Option (List Int)->List Int->Rs->Prop
 | done (c:Rs):Ext ls c none [] c
 | begin_ {c:Rs} {x:Int} {f:List Int} {R:Rs} (h:Ext ls c (some [x]) f R):Ext ls c none (x::f) R
 | close {c:Rs} {r f:List Int} {R:Rs} (g:Zd ls r=true) (h:Ext ls (c++[r]) none f R):Ext ls c (some r) f R
 | more {c:Rs} {r f:List Int} {o:Int} {R:Rs} (m:o∈f) (g:zH ls (r.getLastD 0) o=true) (h:Ext ls c (some (r++[o])) (f.filter λx=>decide (x≠o)) R):Ext ls c (some r) f R
def Wf(n:Nat)(rings:Rs):Prop:=∀ring∈rings,ring≠[]/\∀x∈ring,0<=x/\x<(n:Int)
theorem Ext.wf{ls:Ls}{n:Nat}{c:Rs}{o:Option (List Int)}{f:List Int}{R:Rs}(h:Ext ls c o f R):Wf n c->(∀r,o=some r->r≠[]/\∀x∈r,0<=x/\x<(n:Int))->(∀x∈f,0<=x/\x<(n:Int))->Wf n R:=by
 induction h with
 | done c=>intro h _ _;exact h
 | begin_ h ih =>
  intro h1 _ h3;refine ih h1 (λr e=>?_) λx hx=>h3 x (List.mem_cons_of_mem _ hx);cases e
  exact⟨by simp,λy hy=>by rw[List.mem_singleton.mp hy];exact h3 _ List.mem_cons_self⟩
 | close g h ih =>
  intro h1 h2 h3;refine ih (λring hm=>?_) (λr e=>nomatch e) h3
  rcases List.mem_append.mp hm with hm|hm
  ·exact h1 ring hm
  ·rw[List.mem_singleton.mp hm];exact h2 _ rfl
 | more m g h ih =>
  intro h1 h2 h3;refine ih h1 (λr e=>?_) λx hx=>h3 x (List.mem_filter.mp hx).1;cases e
  refine⟨by simp,λy hy=>?_⟩
  rcases List.mem_append.mp hy with hy|hy
  ·exact(h2 _ rfl).2 y hy
  ·rw[List.mem_singleton.mp hy];exact h3 _ m
inductive Canon (nx:Nat->Nat):List Nat->List (List Nat)->Prop
 | nil:Canon nx [] []
 | cons {x:Nat} {l o:List Nat} {rs:List (List Nat)} (hr:zd8 nx (x::o)) (hn:(x::o).Nodup) (hs:∀y∈x::o,y∈x::l) (h:Canon nx ((x::l).filter λy=>decide (¬y∈x::o)) rs):Canon nx (x::l) ((x::o)::rs)
theorem zfe{nx:Nat->Nat}:∀(c:Nat) (l:List Nat),l.length<=c->l.Nodup->(∀x∈l,nx x∈l)->(∀x∈l,∀y∈l,nx x=nx y->x=y) ->
  ∃rings:List (List Nat),rings.flatten.Perm l/\(∀ring∈rings,zd8 nx ring)/\Canon nx l rings:=by
 intro c
 induction c with
 | zero =>
  intro l hc _ _ _
  have:l=[]:=List.length_eq_zero_iff.mp (by omega)
  subst this;exact⟨[],List.Perm.refl _,λ_ h=>(nomatch h),.nil⟩
 | succ c ih =>
  intro l hc hn hx hi
  cases l with
  | nil=>exact⟨[],List.Perm.refl _,λ_ h=>(nomatch h),.nil⟩
  | cons x0 l0 =>
   generalize hl:x0::l0=l at *
   have hx0:x0∈l:=by rw[<-hl];exact List.mem_cons_self
   obtain⟨n,hlt⟩:∃n,∀x∈l,x<n:=by
    clear hl hn hx hi hc hx0 ih
    induction l with
    | nil=>exact⟨0,λ_ h=>nomatch h⟩
    | cons y l ih =>
     obtain⟨n,h⟩:=ih;refine⟨max n (y+1),λz hz=>?_⟩
     rcases List.mem_cons.mp hz with rfl|hz
     ·omega
     ·have:=h z hz;omega
   have inS:∀k,Zs nx k x0∈l:=qL (S:=λx=>x∈l) (λx h=>hx x h) hx0;obtain⟨a,m,hm,hr⟩:=zga (S:=λx=>x∈l) (λx h=>hlt x h) (λx h=>hx x h) hx0
   have canc:∀a,Zs nx (m+a) x0=Zs nx a x0->Zs nx m x0=x0:=by
    intro a
    induction a with
    | zero=>intro h;exact h
    | succ a iha =>
     intro h
     exact iha (hi _ (inS _) _ (inS _) (by show Zs nx (m+a+1) x0=Zs nx (a+1) x0;exact h))
   have back:∃m,0<m/\Zs nx m x0=x0:=⟨m,hm,canc a (by rw[Yv];exact hr)⟩
   clear canc hr hm a m;obtain⟨m,hm,hr,hmin⟩:=zb2 back
   let o:=(List.range m).map λk=>Zs nx k x0
   have ol:o.length=m:=by simp[o]
   have og:∀k,k<m->o.getD k 0=Zs nx k x0:=λk hk=>by simp[o,List.getD,hk]
   have oinj:∀i j,i<m->j<m->Zs nx i x0=Zs nx j x0->i=j:=by
    have one:∀i j,i<j->j<m->Zs nx i x0≠Zs nx j x0:=by
     intro i
     induction i with
     | zero=>intro j h1 h2 e;exact hmin j h1 h2 e.symm
     | succ i ihi =>
      intro j h1 h2 e
      obtain⟨j',rfl⟩:∃j',j=j'+1:=⟨j-1,by omega⟩
      exact ihi j' (by omega) (by omega) (hi _ (inS _) _ (inS _) e)
    intro i j h1 h2 e
    rcases Nat.lt_trichotomy i j with h|h|h
    ·exact absurd e (one i j h h2)
    ·exact h
    ·exact absurd e.symm (one j i h h1)
   have ond:o.Nodup:=Qi List.nodup_range λi hi' j hj' e=>oinj i j (by simpa using hi') (by simpa using hj') e
   have osub:∀x∈o,x∈l:=λx hxo=>by
    rw[List.mem_map] at hxo;obtain⟨k,_,rfl⟩:=hxo;exact inS k
   have omem:∀k,Zs nx k x0∈o:=by
    intro k
    induction k using Nat.strongRecOn with
    | ind k ihk =>
     by_cases h:k<m
     ·exact List.mem_map.mpr ⟨k,by simpa using h,rfl⟩
     ·have:Zs nx k x0=Zs nx (k-m) x0:=by
       rw[show k=(k-m)+m by omega,Yv,hr,show k-m+m-m=k-m by omega]
      rw[this]
      exact ihk _ (by omega)
   have oring:zd8 nx o:=by
    refine⟨λh=>?_,λk hk=>?_⟩
    ·rw[h] at ol;simp at ol;omega
    ·rw[ol] at hk ⊢
     rw[og k hk]
     by_cases e:k+1=m
     ·rw[if_pos e,og 0 hm]
      show Zs nx (k+1) x0=x0;rw[e];exact hr
     ·rw[if_neg e,og (k+1) (by omega)]
      rfl
   have ohd:∃o',o=x0::o':=by
    obtain⟨m',rfl⟩:∃m',m=m'+1:=⟨m-1,by omega⟩
    refine⟨(List.range m').map λk=>Zs nx (k+1) x0,?_⟩;show (List.range (m'+1)).map _=_;rw[List.range_succ_eq_map,List.map_cons,List.map_map];rfl
   let l':=l.filter λx=>decide (¬x∈o)
   have l'm:∀x,x∈l'↔x∈l/\¬x∈o:=λx=>by
    show x∈l.filter _↔_;rw[List.mem_filter];simp
   have pp:(o++l').Perm l:=zcX hn ond osub;have hlen:=pp.length_eq;rw[List.length_append,ol] at hlen
   obtain⟨rings,hp,hrings,hcan⟩:=ih l' (by omega) (hn.sublist List.filter_sublist) (λx h=>by
     obtain⟨h1,h2⟩:=(l'm x).mp h;refine(l'm _).mpr ⟨hx x h1,λh3=>h2 ?_⟩;rw[List.mem_map] at h3;obtain⟨k,hk,e⟩:=h3;have e:Zs nx k x0=nx x:=e
     cases k with
     | zero =>
      have e1:nx (Zs nx (m-1) x0)=nx x:=by
       rw[<-e];show Zs nx (m-1+1) x0=x0
       rw[show m-1+1=m by omega];exact hr
      rw[<-hi _ (inS _) _ h1 e1];exact omem _
     | succ k =>
      rw[<-hi (Zs nx k x0) (inS k) x h1 e]
      exact omem _) λx h1 y h2=>hi x ((l'm x).mp h1).1 y ((l'm y).mp h2).1
   obtain⟨o',ho'⟩:=ohd;refine⟨o::rings,?_,λring h=>?_,?_⟩
   ·rw[List.flatten_cons]
    exact(List.Perm.append_left o hp).trans pp
   ·rcases List.mem_cons.mp h with rfl|h
    ·exact oring
    ·exact hrings ring h
   ·have hcan:Canon nx (l.filter λx=>decide (¬x∈o)) rings:=hcan
    rw[<-hl] at hcan osub ⊢;rw[ho'] at oring ond osub hcan ⊢;exact .cons oring ond osub hcan
theorem j4(l o:List Nat):yq (l.filter λy=>decide (¬y∈o))=(yq l).filter λy=>decide (¬y∈yq o):=by
 unfold yq;rw[List.filter_map];congr 1;apply List.filter_congr;intro x _;show decide (¬x∈o)=decide (¬((x:Nat):Int)∈o.map _);rw[decide_eq_decide];rw[List.mem_map];constructor
 ·rintro h ⟨k,hk,e⟩;exact h (by rw[show x=k by omega];exact hk)
 ·intro h hx;exact h ⟨x,hx,rfl⟩
theorem zaz(l o:List Int)(x:Int):(l.filter λy=>decide (¬y∈o)).filter (λy=>decide (y≠x))=l.filter λy=>decide (¬y∈o++[x]):=by
 rw[List.filter_filter];apply List.filter_congr;intro y _;rw[Bool.eq_iff_iff,Bool.and_eq_true,decide_eq_true_iff,decide_eq_true_iff,decide_eq_true_iff];simp only[List.mem_append,List.mem_singleton];constructor
 ·rintro⟨h1,h2⟩ (h|h)
  ·exact h2 h
  ·exact h1 h
 ·intro h;exact⟨λe=>h (.inr e),λe=>h (.inl e)⟩
theorem zhY{ls:Ls}{nx:Nat->Nat}(hw:∀x,x<ls.length->nx x≠x->zH ls (x:Int) (nx x:Int)=true){l:List Nat}{rings:List (List Nat)}(h:Canon nx l rings) :
  ∀(c:Rs),l.Nodup->(∀x∈l,x<ls.length)->(∀ring∈rings,Zd ls (yq ring)=true)->Ext ls c none (yq l) (c++rings.map yq):=by
 induction h with
 | nil=>intro c _ _ _;rw[List.map_nil,List.append_nil];exact .done c
 | @cons x l o rs hr hn hs h ih =>
  intro c nd hb hg;have ihh:=ih (c++[yq (x::o)]) (nd.sublist List.filter_sublist) (λy hy=>hb y (List.mem_filter.mp hy).1) λring hm=>hg ring (List.mem_cons_of_mem _ hm);have hb':∀y∈x::o,y<ls.length:=λy hy=>hb y (hs y hy);rw[List.append_assoc,List.singleton_append,<-List.map_cons] at ihh;generalize hR:c++((x::o)::rs).map yq=R at ihh;rw[List.map_cons] at hR;have hR':c++yq (x::o)::rs.map yq=R:=hR;have nx1:¬x∈l:=(List.nodup_cons.mp nd).1
  have go:∀k,k<=o.length->Ext ls c (some (yq ((x::o).take (o.length-k+1)))) ((yq l).filter λy=>decide (¬y∈yq ((x::o).take (o.length-k+1)))) R:=by
   intro k
   induction k with
   | zero =>
    intro _
    rw[Nat.sub_zero,show (x::o).take (o.length+1)=x::o from by rw[<-List.length_cons (a:=x),List.take_length]]
    refine .close (hg _ List.mem_cons_self) ?_;rw[<-j4]
    have e:(x::l).filter (λy=>decide (¬y∈x::o))=l.filter λy=>decide (¬y∈x::o):=by
     rw[List.filter_cons,if_neg (by simp)]
    rw[e] at ihh;exact ihh
   | succ k ihk =>
    intro hk
    have hj:o.length-(k+1)+1<(x::o).length:=by rw[List.length_cons];omega
    have ihk':=ihk (by omega)
    have et:(x::o).take (o.length-k+1)=(x::o).take (o.length-(k+1)+1)++[(x::o)[o.length-(k+1)+1]]:=by
     rw[show o.length-k+1=(o.length-(k+1)+1)+1 by omega,List.take_add_one,List.getElem?_eq_getElem hj]
     rfl
    have hprev:o.length-(k+1)<(x::o).length:=by rw[List.length_cons];omega
    have hring:=hr.2 (o.length-(k+1)) hprev
    rw[if_neg (by rw[List.length_cons];omega)] at hring
    have g1:(x::o).getD (o.length-(k+1)) 0=(x::o)[o.length-(k+1)]:=by simp[List.getD,List.getElem?_eq_getElem hprev]
    have g2:(x::o).getD (o.length-(k+1)+1) 0=(x::o)[o.length-(k+1)+1]:=by simp only[List.getD,List.getElem?_eq_getElem hj,Option.getD_some]
    rw[g1,g2] at hring
    have hlast:(yq ((x::o).take (o.length-(k+1)+1))).getLastD 0=(((x::o)[o.length-(k+1)]:Nat):Int):=by
     rw[List.take_add_one,List.getElem?_eq_getElem hprev];unfold yq;rw[Option.toList_some,List.map_append,List.map_singleton,List.getLastD_concat]
    rw[et] at ihk'
    have ec:yq ((x::o).take (o.length-(k+1)+1)++[(x::o)[o.length-(k+1)+1]])=yq ((x::o).take (o.length-(k+1)+1))++[(((x::o)[o.length-(k+1)+1]:Nat):Int)]:=by
     unfold yq;rw[List.map_append];rfl
    rw[ec,<-zaz] at ihk';have hmem:(x::o)[o.length-(k+1)+1]∈x::o:=List.getElem_mem hj
    have nin:¬(x::o)[o.length-(k+1)+1]∈(x::o).take (o.length-(k+1)+1):=λhm=>by
     obtain⟨i,hi,e⟩:=List.mem_iff_getElem.mp hm;rw[List.getElem_take] at e;rw[List.length_take] at hi;have:=(List.getElem_inj hn).mp e;omega
    refine .more (o:=(((x::o)[o.length-(k+1)+1]:Nat):Int)) ?_ ?_ ihk'
    ·rw[List.mem_filter]
     refine⟨?_,decide_eq_true λhm=>?_⟩
     ·have hin:(x::o)[o.length-(k+1)+1]∈l:=by
       rcases List.mem_cons.mp (hs _ hmem) with e|e
       ·refine absurd ?_ nin
        rw[e];rw[List.take_succ_cons];exact List.mem_cons_self
       ·exact e
      exact jd.mpr ⟨_,hin,rfl⟩
     ·obtain⟨q,hq,e⟩:=jd.mp hm
      exact nin (by rw[show (x::o)[o.length-(k+1)+1]=q by omega];exact hq)
    ·rw[hlast,<-hring]
     refine hw _ (hb' _ (List.getElem_mem hprev)) λe=>?_;rw[hring] at e;have:=(List.getElem_inj hn).mp e;omega
  have g0:=go o.length (Nat.le_refl _);rw[Nat.sub_self,Nat.zero_add,List.take_succ_cons,List.take_zero] at g0
  have e0:(yq l).filter (λy=>decide (¬y∈yq [x]))=yq l:=by
   rw[<-j4];congr 1;rw[List.filter_eq_self];intro y hy
   exact decide_eq_true λhm=>nx1 (by rw[<-List.mem_singleton.mp hm];exact hy)
  rw[e0] at g0;exact .begin_ g0
theorem zb6(n:Nat):yq (List.range n)=rng n:=rfl
theorem zhZ{ls:Ls}(hV:Valid ls)(hno:¬∃ps,Pairs ls ps/\breaking ls ps=[]):∃R,Ext ls [] none (rng ls.length) R/\QU ls R=true:=by
 obtain⟨nx,la,st⟩:=wC ls.length (cr ls) _ _ (zb7 hV) (Nat.le_refl _)
 obtain⟨rings,hp,hr,hcan⟩:=zfe (nx:=nx) ls.length (List.range ls.length) (by simp) List.nodup_range (λx hx=>by simpa using st.nlt x (by simpa using hx)) λx hx y hy e=>by
  have hx:x<ls.length:=by simpa using hx
  have hy:y<ls.length:=by simpa using hy
  rw[<-st.ln x hx,<-st.ln y hy,e]
 have hb:∀ring∈rings,∀x∈ring,x<ls.length:=λring h x hx=>by
  have:x∈List.range ls.length:=hp.mem_iff.mp (List.mem_flatten.mpr ⟨ring,h,hx⟩)
  simpa using this
 have hodd:∃ring∈rings,ring.length=3\/ring.length=5:=by
  refine Classical.byContradiction λhodd=>hno ⟨_,zeI st hp hr λring h=>?_⟩;have h1:ring.length<=rings.flatten.length:=(List.sublist_flatten_of_mem h).length_le;have h2:=hp.length_eq;rw[List.length_range] at h2;have h3:=hV.le;have h4:ring.length≠0:=λz=>(hr ring h).1 (List.length_eq_zero_iff.mp z);have h5:ring.length≠3:=λz=>hodd ⟨ring,h,.inl z⟩;have h6:ring.length≠5:=λz=>hodd ⟨ring,h,.inr z⟩;omega
 have hgood:=zgE st hp hr hodd
 have hwf:∀R∈rings.map yq,R≠[]/\∀x∈R,0<=x/\x<(ls.length:Int):=λR hR=>by
  obtain⟨ring,h,rfl⟩:=List.mem_map.mp hR
  refine⟨λz=>(hr ring h).1 (by have:=yT ring;rw[z] at this;exact List.length_eq_zero_iff.mp this.symm),λx hx=>?_⟩
  obtain⟨k,hk,rfl⟩:=jd.mp hx;have:=hb ring h k hk;omega
 rw[<-wO hV hwf] at hgood
 have hall:∀R∈rings.map yq,Zd ls R=true:=by
  unfold QU QI at hgood;rw[Bool.and_eq_true,Bool.and_eq_true,Bool.and_eq_true] at hgood;exact List.all_eq_true.mp hgood.2.2.1
 refine⟨rings.map yq,?_,hgood⟩
 have:=zhY (λx hx h=>(YF.mp (st.acc x hx h)).2.2) hcan [] List.nodup_range (λx hx=>by simpa using hx) λring h=>hall _ (List.mem_map.mpr ⟨ring,h,rfl⟩)
 rw[List.nil_append,zb6] at this;exact this
theorem Q4{ls:Ls}{x:Int}(h:x∈rng ls.length):0<=x/\x<(ls.length:Int):=by
 unfold rng at h;obtain⟨k,hk,rfl⟩:=List.mem_map.mp h;have:=List.mem_range.mp hk;omega
end TN
namespace TN
open TM
def ways(ls:Ls):Nat->List Int->List Prs
 | _,[]=>[[]]
 | 0,_::_=>[]
 | n+1,x::others=>ways ls n others++others.flatMap λm=>if zH ls x m=true then (ways ls n (others.filter λc=>decide (c≠m))).map λps=>(x,m)::ps else []
theorem qT(ls:Ls):∀(n m:Nat) (free:List Int),free.length<=n->free.length<=m->ways ls n free=ways ls m free
 | n,m,[],_,_=>by cases n <;> cases m <;> rfl
 | 0,_,_::_,h,_=>absurd h (by simp)
 | _+1,0,_::_,_,h=>absurd h (by simp)
 | n+1,m+1,x::others,h1,h2=>by
  rw[List.length_cons] at h1 h2;unfold ways
  rw[qT ls n m others (by omega) (by omega)]
  congr 1;apply congrArg (List.flatMap · others);funext z;have hl:(others.filter λc=>decide (c≠z)).length<=others.length:=List.length_filter_le _ _
  rw[qT ls n m _ (by omega) (by omega)]
def wb:Nat->Nat
 | 0=>1
 | 1=>1
 | n+2=>wb (n+1)+(n+1) * wb n
theorem zaK:∀n,wb n<=wb (n+1)
 | 0=>Nat.le_refl _
 | n+1=>by rw[wb];omega
theorem zcj{n m:Nat}(h:n<=m):wb n<=wb m:=by
 induction h with
 | refl=>exact Nat.le_refl _
 | step _ ih=>exact Nat.le_trans ih (zaK _)
theorem Yz{α β:Type}{f:α->List β}{b:Nat}:∀(l:List α),(∀x∈l,(f x).length<=b)->(l.flatMap f).length<=l.length * b
 | [],_=>by simp
 | x::l,h=>by
  rw[List.flatMap_cons,List.length_append,List.length_cons,Nat.succ_mul];have h1:=h x List.mem_cons_self;have h2:=Yz l λy hy=>h y (List.mem_cons_of_mem _ hy);omega
theorem Y3{l:List Int}{m:Int}(h:m∈l):(l.filter λc=>decide (c≠m)).length+1<=l.length:=by
 induction l with
 | nil=>cases h
 | cons x l ih =>
  rw[List.filter_cons]
  by_cases e:x=m
  ·subst e
   rw[if_neg (by simp)]
   have:=List.length_filter_le (λc=>decide (c≠x)) l;rw[List.length_cons];omega
  ·rw[if_pos (decide_eq_true e),List.length_cons,List.length_cons]
   have:=ih ((List.mem_cons.mp h).resolve_left λz=>e z.symm);omega
theorem Yi(ls:Ls):∀(n:Nat) (free:List Int),(ways ls n free).length<=wb free.length
 | n,[]=>by cases n <;> exact Nat.le_refl _
 | 0,_::_=>Nat.zero_le _
 | n+1,x::others=>by
  unfold ways;rw[List.length_append,List.length_cons];have h1:=Yi ls n others
  cases others with
  | nil=>exact Nat.le_trans (by simpa using h1) (zaK 0)
  | cons y o =>
   have h2:((y::o).flatMap λm=>if zH ls x m=true then (ways ls n ((y::o).filter λc=>decide (c≠m))).map λps=>(x,m)::ps else []).length<=(y::o).length * wb o.length:=by
    refine Yz _ λm hm=>?_;split
    ·rw[List.length_map]
     have h3:=Yi ls n ((y::o).filter λc=>decide (c≠m));have h4:=Y3 hm;rw[List.length_cons] at h4
     exact Nat.le_trans h3 (zcj (by omega))
    ·exact Nat.zero_le _
   rw[List.length_cons] at h1 h2 ⊢;show _<=wb (o.length+2);rw[wb];omega
theorem wb6{n:Nat}(h:n<=6):wb n<=76:=Nat.le_trans (zcj h) (by decide)
theorem zdE(f:Int->Option Int):∀(ps:Prs) (i:Int),ps.foldl step f i=(mate ps i).or (f i):=by
 intro ps;refine Y8 (P:=λps=>∀i:Int,ps.foldl step f i=(mate ps i).or (f i)) ?_ ?_ ps
 ·intro i;rfl
 ·intro ps p ih i
  rw[yL,List.foldl_append,List.foldl_cons,List.foldl_nil]
  show (if i=p.2 then some p.1 else if i=p.1 then some p.2 else ps.foldl step f i)=_
  split
  ·rfl
  ·split
   ·rfl
   ·exact ih i
theorem jM(p:Int×Int)(ps:Prs)(i:Int):mate (p::ps) i=(mate ps i).or (if i=p.2 then some p.1 else if i=p.1 then some p.2 else none):=zdE _ ps i
theorem JP(p:Int×Int)(ps:Prs):who (p::ps)=p.1::p.2::who ps:=rfl
def zaI(ls:Ls)(free:List Int):Prop:=free.Nodup/\∀x∈free,0<=x/\x<(ls.length:Int)
theorem zW{ls:Ls}(hV:Valid ls):∀(n:Nat) (free:List Int),zaI ls free->∀ps∈ways ls n free,Pairs ls ps/\∀x∈who ps,x∈free
 | n,[],_,ps,h=>by
  have:ps=[]:=by cases n <;> exact List.mem_singleton.mp h
  subst this;exact⟨Pairs.nil ls,λx h=>nomatch h⟩
 | 0,_::_,_,ps,h=>nomatch h
 | n+1,x::others,hf,ps,h=>by
  have hn:=List.nodup_cons.mp hf.1;unfold ways at h
  rcases List.mem_append.mp h with h|h
  ·obtain⟨h1,h2⟩:=zW hV n others ⟨hn.2,λy hy=>hf.2 y (List.mem_cons_of_mem _ hy)⟩ ps h
   exact⟨h1,λy hy=>List.mem_cons_of_mem _ (h2 y hy)⟩
  ·obtain⟨m,hm,h⟩:=List.mem_flatMap.mp h
   split at h
   ·rename_i hw
    obtain⟨qs,hq,rfl⟩:=List.mem_map.mp h;obtain⟨h1,h2⟩:=zW hV n (others.filter λc=>decide (c≠m)) ⟨hn.2.sublist List.filter_sublist,λy hy=>hf.2 y (List.mem_cons_of_mem _ (List.mem_filter.mp hy).1)⟩ qs hq;have hx:=hf.2 x List.mem_cons_self;have hmr:=hf.2 m (List.mem_cons_of_mem _ hm)
    have hxm:x≠m:=λe=>hn.1 (by rw[e];exact hm)
    have nx:¬x∈who qs:=λz=>hn.1 (List.mem_filter.mp (h2 x z)).1;have nm:¬m∈who qs:=λz=>of_decide_eq_true (List.mem_filter.mp (h2 m z)).2 rfl;refine⟨Pairs.mk (λp hp=>?_) ?_,λy hy=>?_⟩
    ·rcases List.mem_cons.mp hp with rfl|hp
     ·exact⟨hx.1,hx.2,hmr.1,hmr.2,hxm,hw⟩
     ·exact h1.each p hp
    ·show (x::m::who qs).Nodup
     rw[List.nodup_cons,List.nodup_cons];refine⟨λz=>?_,nm,h1.apart⟩
     rcases List.mem_cons.mp z with z|z
     ·exact hxm z
     ·exact nx z
    ·rw[JP] at hy
     rcases List.mem_cons.mp hy with rfl|hy
     ·exact List.mem_cons_self
     ·rcases List.mem_cons.mp hy with rfl|hy
      ·exact List.mem_cons_of_mem _ hm
      ·exact List.mem_cons_of_mem _ (List.mem_filter.mp (h2 y hy)).1
   ·exact nomatch h
structure Mt(ls:Ls)(f:Int->Option Int)(free:List Int):Prop where
 symm:∀i j,i∈free->f i=some j->f j=some i
 mem:∀i j,i∈free->f i=some j->j∈free
 wd:∀i j,i∈free->f i=some j->zH ls i j=true
 ne:∀i j,i∈free->f i=some j->i≠j
theorem yx{ps:Prs}{i:Int}(h:¬i∈who ps):mate ps i=none:=jL h
theorem QZ{ls:Ls}(hV:Valid ls){f:Int->Option Int}:∀(n:Nat) (free:List Int),free.length<=n->zaI ls free->Mt ls f free->∃ps∈ways ls n free,∀i∈free,mate ps i=f i
 | n,[],_,_,_=>⟨[],by cases n <;> exact List.mem_singleton.mpr rfl,λi h=>nomatch h⟩
 | 0,_::_,h,_,_=>absurd h (by simp)
 | n+1,x::others,hl,hf,M=>by
  have hn:=List.nodup_cons.mp hf.1;rw[List.length_cons] at hl;have fo:zaI ls others:=⟨hn.2,λy hy=>hf.2 y (List.mem_cons_of_mem _ hy)⟩
  cases e:f x with
  | none =>
   obtain⟨ps,hp,he⟩:=QZ hV (f:=f) n others (by omega) fo ⟨λi j h=>M.symm i j (List.mem_cons_of_mem _ h),λi j h q=>by
     have:=M.mem i j (List.mem_cons_of_mem _ h) q
     rcases List.mem_cons.mp this with z|z
     ·have s:=M.symm i j (List.mem_cons_of_mem _ h) q
      rw[z,e] at s;cases s
     ·exact z,λi j h=>M.wd i j (List.mem_cons_of_mem _ h),λi j h=>M.ne i j (List.mem_cons_of_mem _ h)⟩
   have hw:=(zW hV n others fo ps hp).2;refine⟨ps,?_,λi hi=>?_⟩
   ·unfold ways;exact List.mem_append_left _ hp
   ·rcases List.mem_cons.mp hi with rfl|hi
    ·rw[e];exact yx λz=>hn.1 (hw _ z)
    ·exact he i hi
  | some m =>
   have hm:=M.mem x m List.mem_cons_self e;have hxm:=M.ne x m List.mem_cons_self e;have hmo:m∈others:=(List.mem_cons.mp hm).resolve_left λz=>hxm z.symm;have sm:=M.symm x m List.mem_cons_self e;have fo':zaI ls (others.filter λc=>decide (c≠m)):=⟨hn.2.sublist List.filter_sublist,λy hy=>fo.2 y (List.mem_filter.mp hy).1⟩
   have inn:∀{i},i∈others.filter (λc=>decide (c≠m))->i∈x::others/\i≠m/\i≠x:=λ{i} h=>by
    obtain⟨h1,h2⟩:=List.mem_filter.mp h;exact⟨List.mem_cons_of_mem _ h1,of_decide_eq_true h2,λz=>hn.1 (z▸h1)⟩
   obtain⟨ps,hp,he⟩:=QZ hV (f:=f) n (others.filter λc=>decide (c≠m)) (by have:=Y3 hmo;omega) fo' ⟨λi j h=>M.symm i j (inn h).1,λi j h q=>by
     have s:=M.symm i j (inn h).1 q;have:=M.mem i j (inn h).1 q
     have n1:j≠x:=λz=>by rw[z,e] at s;exact(inn h).2.1 (Option.some.inj s).symm
     have n2:j≠m:=λz=>by rw[z,sm] at s;exact(inn h).2.2 (Option.some.inj s).symm
     exact List.mem_filter.mpr ⟨(List.mem_cons.mp this).resolve_left n1,decide_eq_true n2⟩,λi j h=>M.wd i j (inn h).1,λi j h=>M.ne i j (inn h).1⟩
   have hw:=(zW hV n _ fo' ps hp).2;refine⟨(x,m)::ps,?_,λi hi=>?_⟩
   ·unfold ways
    refine List.mem_append_right _ (List.mem_flatMap.mpr ⟨m,hmo,?_⟩);rw[if_pos (M.wd x m List.mem_cons_self e)];exact List.mem_map.mpr ⟨ps,hp,rfl⟩
   ·rw[jM]
    by_cases i1:i=x
    ·subst i1
     rw[yx (λz=>hn.1 (List.mem_filter.mp (hw _ z)).1)]
     show (if i=m then some i else if i=i then some m else none)=_
     rw[if_neg hxm,if_pos rfl,e]
    ·by_cases i2:i=m
     ·subst i2
      rw[yx (λz=>(inn (hw _ z)).2.1 rfl)]
      show (if i=i then some x else _)=_
      rw[if_pos rfl,sm]
     ·have hio:i∈others.filter λc=>decide (c≠m):=List.mem_filter.mpr ⟨(List.mem_cons.mp hi).resolve_left i1,decide_eq_true i2⟩
      rw[he i hio]
      show (f i).or (if i=m then some x else if i=x then some m else none)=f i
      rw[if_neg i2,if_neg i1]
      cases f i <;> rfl
theorem Jo{ls:Ls}{ps qs:Prs}(h:∀i∈rng ls.length,mate ps i=mate qs i):breaking ls ps=breaking ls qs:=by
 unfold breaking
 have mem:∀a:Int,0<=a->a<ls.length->a∈rng ls.length:=λa h0 h1=>by
  unfold rng
  exact List.mem_map.mpr ⟨a.toNat,List.mem_range.mpr (by omega),by omega⟩
 refine qd (Nat.le_refl _) λa b h0 h1 h2=>?_;unfold brk
 rw[h a (mem a h0 (by omega)),h b (mem b (by omega) h2)]
theorem ZK(ls:Ls):zaI ls (rng ls.length):=⟨jt _,λx h=>Q4 h⟩
theorem zdi{n:Nat}{a:Int}(h0:0<=a)(h1:a<n):a∈rng n:=by
 unfold rng
 exact List.mem_map.mpr ⟨a.toNat,List.mem_range.mpr (by omega),by omega⟩
theorem zhI{ls:Ls}{ps:Prs}(P:Pairs ls ps):Mt ls (mate ps) (rng ls.length) :=
 ⟨λi j _ h=>ym P h,λi j _ h=>zdi (P.has h).2.2.1 (P.has h).2.2.2.1,λi j _ h=>(P.has h).2.2.2.2.2,λi j _ h=>(P.has h).2.2.2.2.1⟩
def zo(ls:Ls):List Prs:=(ways ls 6 (rng ls.length)).filter λps=>decide (breaking ls ps=[])
theorem jl{ls:Ls}(hV:Valid ls):zo ls=[]↔¬∃ps,Pairs ls ps/\breaking ls ps=[]:=by
 constructor
 ·rintro h ⟨ps,P,hb⟩
  obtain⟨qs,hq,he⟩:=QZ hV 6 (rng ls.length) (by rw[zM];exact hV.le) (ZK ls) (zhI P)
  have:qs∈zo ls:=List.mem_filter.mpr ⟨hq,decide_eq_true ((Jo he).trans hb)⟩;rw[h] at this;cases this
 ·intro h
  cases e:zo ls with
  | nil=>rfl
  | cons qs r =>
   have:qs∈zo ls:=by rw[e];exact List.mem_cons_self
   obtain⟨h1,h2⟩:=List.mem_filter.mp this;exact absurd ⟨qs,(zW hV 6 _ (ZK ls) qs h1).1,of_decide_eq_true h2⟩ h
end TN
namespace TX
open PySem PySem.Spec PyProof.Rows L2
theorem zdp:∀l:List Int,HT.yn l l=false
 | []=>rfl
 | x::l=>by rw[HT.ZY,if_pos rfl,zdp l]
theorem Wp:∀{a b c:List Int},HT.yn a b=true->HT.yn b c=true->HT.yn a c=true
 | [],[],_,h,_=>by rw[HT.Yu] at h;cases h
 | [],_::_,[],_,h=>by rw[HT.yg] at h;cases h
 | [],_::_,_::_,_,_=>rfl
 | _::_,[],_,h,_=>by rw[HT.yg] at h;cases h
 | _::_,_::_,[],_,h=>by rw[HT.yg] at h;cases h
 | x::a,y::b,z::c,h1,h2=>by
  rw[HT.ZY] at h1 h2 ⊢
  by_cases e1:x=y
  ·subst e1
   rw[if_pos rfl] at h1
   by_cases e2:x=z
   ·subst e2
    rw[if_pos rfl] at h2 ⊢;exact Wp h1 h2
   ·rw[if_neg e2] at h2 ⊢;exact h2
  ·rw[if_neg e1] at h1
   have h1:=of_decide_eq_true h1
   by_cases e2:y=z
   ·subst e2
    rw[if_neg e1];exact decide_eq_true h1
   ·rw[if_neg e2] at h2
    have h2:=of_decide_eq_true h2
    rw[if_neg (by omega)]
    exact decide_eq_true (by omega)
theorem Wq:∀{a b:List Int},HT.yn a b=false->HT.yn b a=false->a=b
 | [],[],_,_=>rfl
 | [],_::_,h,_=>by rw[HT.yU] at h;cases h
 | _::_,[],_,h=>by rw[HT.yU] at h;cases h
 | x::a,y::b,h1,h2=>by
  rw[HT.ZY] at h1 h2
  by_cases e:x=y
  ·subst e
   rw[if_pos rfl] at h1 h2;rw[Wq h1 h2]
  ·rw[if_neg e] at h1
   rw[if_neg (λz=>e z.symm)] at h2;have h1:=of_decide_eq_false h1;have h2:=of_decide_eq_false h2;omega
def WD(ps:List (Int×Int)):List Int:=ps.flatMap λp=>[p.1,p.2]
theorem WC:∀{a b:List (Int×Int)},WD a=WD b->a=b
 | [],[],_=>rfl
 | [],q::b,h=>by cases h
 | p::a,[],h=>by cases h
 | p::a,q::b,h=>by
  have h:p.1::p.2::WD a=q.1::q.2::WD b:=h
  injection h with h1 h
  injection h with h2 h
  rw[WC h,Prod.ext h1 h2]
theorem ja:∀a b:List (Int×Int),pLt a b=HT.yn (WD a) (WD b)
 | [],[]=>rfl
 | [],_::_=>rfl
 | _::_,[]=>rfl
 | p::a,q::b=>by
  show (if p=q then pLt a b else HT.yn [p.1,p.2] [q.1,q.2])=HT.yn (p.1::p.2::WD a) (q.1::q.2::WD b)
  rw[HT.ZY,HT.ZY,HT.ZY,HT.ZY,HT.Yu]
  by_cases e1:p.1=q.1
  ·rw[if_pos e1,if_pos e1]
   by_cases e2:p.2=q.2
   ·rw[if_pos (Prod.ext e1 e2),if_pos e2,ja a b]
   ·rw[if_neg (λz=>e2 (by rw[z])),if_neg e2,if_neg e2]
  ·rw[if_neg (λz=>e1 (by rw[z])),if_neg e1,if_neg e1]
theorem zc5(a:List (Int×Int)):pLt a a=false:=by rw[ja];exact zdp _
theorem Wc{a b c:List (Int×Int)}(h1:pLt a b=true)(h2:pLt b c=true):pLt a c=true:=by
 rw[ja] at *;exact Wp h1 h2
theorem Wd{a b:List (Int×Int)}(h1:pLt a b=false)(h2:pLt b a=false):a=b:=by
 rw[ja] at *;exact WC (Wq h1 h2)
def zcQ(l:List (List (Int×Int)))(i:Nat):Int:=((l.countP λq=>pLt q (l.getD i []):Nat):Int)
theorem J5{l:List (List (Int×Int))}{i j:Nat}(hi:i<l.length)(hj:j<l.length):(pLt (l.getD i []) (l.getD j [])=true↔zcQ l i<zcQ l j):=by
 have up:∀{i j:Nat},i<l.length->pLt (l.getD i []) (l.getD j [])=true->zcQ l i<zcQ l j:=λ{i j} hi h=>by
  unfold zcQ
  have hm:l.getD i []∈l:=by simp[List.getD,hi]
  have:=TN.jZ (p:=λq=>pLt q (l.getD j [])) (q:=λq=>pLt q (l.getD i [])) (l:=l) (λx _ hx=>Wc hx h) ⟨_,hm,h,zc5 _⟩;omega
 constructor
 ·exact up hi
 ·intro h
  cases e:pLt (l.getD i []) (l.getD j []) with
  | true=>rfl
  | false =>
   cases e2:pLt (l.getD j []) (l.getD i []) with
   | true=>have:=up hj e2;omega
   | false =>
    have:=Wd e e2;unfold zcQ at h;rw[this] at h;omega
theorem zeu{l:List (List (Int×Int))}(hn:l.Nodup){i j:Nat}(hi:i<l.length)(hj:j<l.length)(h:zcQ l i=zcQ l j):i=j:=by
 have e1:pLt (l.getD i []) (l.getD j [])=false:=by
  cases e:pLt (l.getD i []) (l.getD j []) with
  | false=>rfl
  | true=>have:=(J5 hi hj).mp e;omega
 have e2:pLt (l.getD j []) (l.getD i [])=false:=by
  cases e:pLt (l.getD j []) (l.getD i []) with
  | false=>rfl
  | true=>have:=(J5 hj hi).mp e;omega
 have e:=Wd e1 e2;simp only[List.getD,List.getElem?_eq_getElem hi,List.getElem?_eq_getElem hj,Option.getD_some] at e;exact(List.getElem_inj hn).mp e
theorem JE{e lt:Nat->Bool}:∀(a b:List (Int×Int)) (n m i:Nat),(∀j,j<a.length->j<b.length->e (i+j)=decide (a.getD j (0,0)=b.getD j (0,0))/\lt (i+j)=HT.yn [(a.getD j (0,0)).1,(a.getD j (0,0)).2] [(b.getD j (0,0)).1,(b.getD j (0,0)).2]) ->
  (n:Int)-m=(a.length:Int)-b.length->jO e lt n m (min a.length b.length) i=pLt a b
 | [],[],n,m,i,_,h=>by
  show decide (n<m)=false
  simp at h;exact decide_eq_false (by omega)
 | [],q::b,n,m,i,_,h=>by
  rw[List.length_nil,Nat.zero_min];show decide (n<m)=true
  simp at h;exact decide_eq_true (by omega)
 | p::a,[],n,m,i,_,h=>by
  rw[List.length_nil,Nat.min_zero];show decide (n<m)=false
  simp at h;exact decide_eq_false (by omega)
 | p::a,q::b,n,m,i,hj,h=>by
  rw[List.length_cons,List.length_cons,Nat.succ_min_succ]
  have h0:=hj 0 (by simp) (by simp)
  rw[Nat.add_zero] at h0
  show (if e i=true then jO e lt n m (min a.length b.length) (i+1) else lt i)=if p=q then pLt a b else HT.yn [p.1,p.2] [q.1,q.2]
  rw[h0.1,h0.2]
  by_cases z:p=q
  ·rw[if_pos (by simpa using z),if_pos z]
   refine JE a b n m (i+1) (λj h1 h2=>?_) (by simp at h;omega)
   have:=hj (j+1) (by simpa using h1) (by simpa using h2)
   rw[show i+1+j=i+(j+1) by omega]
   simpa using this
  ·rw[if_neg (by simpa using z),if_neg z]
   rfl
end TX
namespace TX
open PySem PySem.Spec PyProof.Rows L2
section
variable {prog:Program}{w:World}{A:Around}{E:Value->Shared->Prop}{s:Shared}
theorem zbF{l:Addr}{v:Value}{Q:Value->Shared->Prop}(hl:s.heap.IsList l [v].toArray)(fin:Q (.ref (s.heap.objs.size+1)) { s with heap:=sortedAll s.heap [v] #[v] }) :
  wpAny (model prog w) A (call (.builtin "sorted") [.ref l]) Q E s:=by
 refine Calls.call_function_entry kind_sorted plain_sorted entry_sorted (args_sorted1 _) ?_;unfold Builtin.«sorted»
 refine wpAny_bind (m:=checkCount "sorted" 1 1 _) (wpAny_pure (wpAny_bind (collect_list hl (wpAny_bind (wpAny_newList ?_ (by show 1<=_;decide))) (by show 1<=_;decide))))
 generalize hB:(s.heap.push (seqObj "list" #[] 0)).update s.heap.objs.size (Obj.mapSeq (·++[v].toArray))=B
 have zB:B.objs.size=s.heap.objs.size+1:=by rw[<-hB,Heap.size_update,size_push']
 have at1:(B.push (seqObj "list" [v].toArray 0)).get? (s.heap.objs.size+1)=some (seqObj "list" [v].toArray 0):=by rw[<-zB];exact Heap.get?_push_size _ rfl
 show wpAny _ _ _ _ _ { s with heap:=B.push (seqObj "list" [v].toArray 0) }
 rw[zB];refine wpAny_bind (wpAny_holding (wpAny_call_entry slot_list_sort ⟨_,at1,rfl⟩ entry_list_sort ?_ (args_list_sort _)));have lt1:s.heap.objs.size+1<(B.push (seqObj "list" [v].toArray 0)).objs.size:=Heap.lt_size at1;rw[list_sort_plain]
 refine wpAny_bind (listItems_at at1 rfl (wpAny_bind (listUpdate_at at1 rfl ?_ (by show 1<=_;decide) (Nat.zero_le _))))
 obtain⟨e1,at2⟩:∃e1,((B.push (seqObj "list" [v].toArray 0)).update (s.heap.objs.size+1) (Obj.mapSeq λ_=>(#[]:Array Value))).get? (s.heap.objs.size+1)=some (seqObj "list" #[] e1):=⟨_,get?_update_seq at1 λ_=>#[]⟩
 refine wpAny_bind (seqEpoch_at at2 rfl (wpAny_bind (wpAny_newTuple (wpAny_bind (wpAny_newList (wpAny_holding ?_) (Nat.zero_le _))) (by show 1<=_;decide))))
 generalize hC:(B.push (seqObj "list" [v].toArray 0)).update (s.heap.objs.size+1) (Obj.mapSeq λ_=>(#[]:Array Value))=C at at2
 have zC:C.objs.size=(B.push (seqObj "list" [v].toArray 0)).objs.size:=by rw[<-hC,Heap.size_update]
 have at3:((C.push (seqObj "tuple" [v].toArray 0)).push (seqObj "list" #[] 0)).get? (s.heap.objs.size+1)=some (seqObj "list" #[] e1):=Heap.get?_push_of_some _ (Heap.get?_push_of_some _ at2)
 show wpAny (model prog w) _ _ _ _ { s with heap:=(C.push (seqObj "tuple" [v].toArray 0)).push (seqObj "list" #[] 0) }
 dsimp only
 have two:[v].toArray.size<2:=by show 1<2;omega
 rw[if_pos two,if_pos two];refine wpAny_bind (wpAny_pure ?_);rw[StateT.run_pure];refine wpAny_bind (wpAny_pure ?_);dsimp only
 have one:((arrOf (SortSt.mk' general' ([v].toArray.zip [v].toArray) #[] 7 none)).map λx=>x.2)=#[v]:=by
  show ([v].toArray.zip [v].toArray).map _=#[v];simp
 refine wpAny_bind (seqEpoch_at at3 rfl (wpAny_bind (listUpdate_at at3 rfl ?_ (Nat.zero_le _) (by rw[one];show 1<=_;decide))))
 simp only[bne_self_eq_false,Bool.false_eq_true,if_false];refine wpAny_pure ⟨_,rfl,wpAny_pure ⟨_,rfl,?_⟩⟩;rw[one,<-hC,<-hB];exact fin
end
theorem zhG{h:Heap}{a:Addr}{m m':Str->Option Value}(x:h.Ns a m)(y:h.Ns a m'):m=m':=by
 obtain⟨o,es,ep,ho,hd,_,hf⟩:=x;obtain⟨o',es',ep',ho',hd',_,hf'⟩:=y;rw[ho] at ho';cases ho';rw[hd] at hd';cases hd';funext z;rw[<-hf,<-hf']
section
variable {X:Cx}{pins:List (Addr×Obj)}{σ:L2.St}{H:Hp}{s:Shared}{h':Heap}
theorem ziQ{t':Nat}(I:Inv X pins σ H s)(k:∀b u,b≠X.env.locals->s.heap.get? b=some u->h'.get? b=some u)(ns:∀m,s.heap.Ns X.env.locals m->h'.Ns X.env.locals m):Inv X pins σ H { s with heap:=h',toks:=t' }:=by
 refine I.step (g':=s.gens) (d':=s.drawn) (ch:=[]) (λ_ z=>nomatch z) (λb o n _ _ e _=>k b o n e) (λb o n _ _ e _=>⟨o.slots,k b o n e⟩) (λ_ _ _ _ n=>n) (λb o _ e=>?_) (λ_ _ e=>e) (λ_ _ _ e=>e) (λb ps e=>⟨#[],by rw[e];simp⟩) ns (λb u e=>?_) I.bare
 ·by_cases hb:b=X.env.locals
  ·obtain⟨m,hn,_⟩:=I.loc
   obtain⟨o',_,_,ho',_⟩:=ns m hn
   exact⟨o',by rw[hb];exact ho'⟩
  ·exact⟨o,k b o hb e⟩
 ·refine(I.hok b u e).stay (λc v hc q=>k c v (λz=>?_) q) (λ_ q=>q) λ_ _ q=>q
  rcases hc with rfl|hc
  ·rw[z,I.free] at e;cases e
  ·rw[z,I.free] at hc;cases hc
theorem ziO{a:Addr}{o:HO}{t':Nat}(I:Inv X pins σ H s)(k:∀b u,b≠X.env.locals->s.heap.get? b=some u->h'.get? b=some u)(ns:∀m,s.heap.Ns X.env.locals m->h'.Ns X.env.locals m)(hn:s.heap.get? a=none)
  (new:Zt X.prog X.w (upd H a o) h' a o):Inv X pins σ (upd H a o) { s with heap:=h',toks:=t' }:=by
 have nH:H a=none:=HOk.none I.hok hn
 have ne:∀b u,s.heap.get? b=some u->b≠a:=λb u e z=>by rw[z,hn] at e;cases e
 have neH:∀b u,H b=some u->b≠a:=λb u e z=>by rw[z,nH] at e;cases e
 refine I.step (g':=s.gens) (d':=s.drawn) (ch:=[]) (λ_ z=>nomatch z) (λb o n _ _ e _=>k b o n e) (λb o n _ _ e _=>⟨o.slots,k b o n e⟩) (λb o _ e n=>by rw[zq (ne b o e)];exact n) (λb o _ e=>?_)
  (λb xs e=>by rw[zq (neH b _ e)];exact e) (λb u v e=>by rw[zq (neH b _ e)];exact e) (λb ps e=>⟨#[],by rw[zq (neH b _ e),e];simp⟩) ns (λb u e=>?_) I.bare
 ·by_cases hb:b=X.env.locals
  ·obtain⟨m,hm,_⟩:=I.loc
   obtain⟨o',_,_,ho',_⟩:=ns m hm
   exact⟨o',by rw[hb];exact ho'⟩
  ·exact⟨o,k b o hb e⟩
 ·by_cases hb:b=a
  ·subst hb;rw[ze] at e;cases e;exact new
  ·rw[zq hb] at e
   refine(I.hok b u e).stay (λc v hc q=>k c v (λz=>?_) q) (λc q=>by rw[zq (neH c _ q)];exact q) λc xs q=>by rw[zq (neH c _ q)];exact q
   rcases hc with rfl|hc
   ·rw[z,I.free] at e;cases e
   ·rw[z,I.free] at hc;cases hc
end
def RPL(H:Hp)(v:V)(ps:List (Int×Int)):Prop:=∃b,v=.ref b/\TK.PL H b ps
section
variable {X:Cx}{pins:List (Addr×Obj)}{σ:L2.St}{H:Hp}{s:Shared}
theorem qH{α β:Type}{F:α->β->Prop}{xs:List α}{ys:List β}(r:Paired F xs ys)(dx:α)(dy:β):∀{p:List Nat},(∀i∈p,i<xs.length)->Paired F (p.map λi=>xs.getD i dx) (p.map λi=>ys.getD i dy)
 | [],_=>.nil
 | i::p,h=>by
  have hi:=h i List.mem_cons_self
  have hy:i<ys.length:=by rw[<-r.length];exact hi
  obtain⟨y,e,q⟩:=TK.Paired.at1 r (i:=i) (a:=xs[i]) (by simp[hi])
  refine .cons ?_ (qH r dx dy λj hj=>h j (List.mem_cons_of_mem _ hj));simp only[List.getD,List.getElem?_eq_getElem hi,e,Option.getD_some];exact q
theorem zcV(I:Inv X pins σ H s){b:Addr}{ps:List (Int×Int)}(h:TK.PL H b ps):∃(us:Array Value) (n:Nat),s.heap.get? b=some { cls:=.type "list",data:=.seq us n }/\us.size=ps.length /\
  ∀j (hj:j<us.size),∃(t:Addr) (its:List Value),us[j]=.ref t/\IsTup s.heap t its.toArray/\IntsAre its.toArray.toList [(ps.getD j (0,0)).1,(ps.getD j (0,0)).2]/\∃as,Reads s.heap us[j] (PySem.W.kqdP (TK.dP (ps.getD j (0,0)))) as:=by
 obtain⟨xs,hb,r⟩:=h;obtain⟨z,its,n,rv,hl,e⟩:=I.lstM hb;have hxl:=r.length
 refine⟨its.toArray,n,e,by rw[List.size_toArray];omega,λj hj=>?_⟩
 rw[List.size_toArray] at hj
 have hjx:j<xs.length:=by omega
 obtain⟨q,eq,t,ev,ht⟩:=TK.Paired.at1 r (i:=j) (a:=xs[j]) (by simp[hjx])
 obtain⟨u,eu,ru⟩:=rv.get (i:=j) (x:=xs[j]) (by simp[hjx])
 have eu':its[j]=u:=by simpa [hj] using eu
 rw[ev] at ru;cases ru
 have eqd:ps.getD j (0,0)=q:=by simp[List.getD,eq]
 obtain⟨its2,r2,p2,_⟩:=I.tuple (SqT.of (K:=X.K) ht)
 have dd:Dd X.K H (.ref t) (TK.dP q):=by
  refine .tup (SqT.of ht) rfl λk y f e4 e5=>?_
  match k with
  | 0=>cases e4;cases e5;exact .int _
  | 1=>cases e4;cases e5;exact .int _
  | k+2=>simp at e4
 obtain⟨as,rd⟩:=dd.reads I (u:=.ref t) rfl
 refine⟨t,its2,by simpa using eu',p2,?_,as,?_⟩
 ·rw[eqd]
  exact QD (ns:=[q.1,q.2]) r2
 ·rw[eqd]
  have:its.toArray[j]=.ref t:=by simpa using eu'
  rw[this];exact rd
def zhr:List V->Hp->VK->Prop:=λxs H Q=>∃(p:Addr) (vs:List V) (pss:List (List (Int×Int))),xs=[.ref p]/\H p=some (.lst vs)/\Paired (RPL H) vs pss/\pss.Nodup/\pss.length<64 /\
 ∀(l:Addr) (vs':List V) (pss':List (List (Int×Int))),H l=none->pss'.Perm pss->pss'.Pairwise (λa b=>pLt a b=true)->Paired (RPL H) vs' pss'->(∀v∈vs',v∈vs)->Q (.ref l) (upd H l (.lst vs'))
end
end TX
namespace TX
open PySem PySem.Spec PyProof.Rows L2
open PySem.W (kqdP)
section
variable {X:Cx}
theorem zdI(p q:Int×Int):PyData.eqv (kqdP (TK.dP p)) (kqdP (TK.dP q))=decide (p=q):=by
 have ok:∀r:Int×Int,PySem.W.kqdOk 9 (TK.dP r)=true:=λr=>by simp[TK.dP,PySem.W.kqdOk]
 rw[Bool.eq_iff_iff,PySem.W.kqd_eqv 9 _ _ 9 (ok p) (ok q),decide_eq_true_iff];constructor
 ·intro e
  unfold TK.dP at e
  injection e with e
  injection e with e1 e2
  injection e1 with e1
  injection e2 with e2 _
  injection e2 with e2
  exact Prod.ext e1 e2
 ·rintro rfl;rfl
theorem zbT{A':Around}{pins:List (Addr×Obj)}{σ:L2.St}{H:Hp}{s:Shared}{E:Value->Shared->Prop}(I:Inv X pins σ H s){a b:Addr}{ps qs:List (Int×Int)}(ha:TK.PL H a ps)(hb:TK.PL H b qs)(hu:A'.units+20<cLine){Q:Bool->Shared->Prop}(fin:Q (pLt ps qs) s) :
  wpAny (model X.prog X.w) A' (oneLt' true (.ref a) (.ref b)) Q E s:=by
 obtain⟨us,n,e1,z1,f1⟩:=zcV I ha;obtain⟨ws,m,e2,z2,f2⟩:=zcV I hb
 have lay:∀r:Int×Int,(kqdP (TK.dP r)).canLay0=true/\(kqdP (TK.dP r)).depth<=2:=λr=>PySem.W.kqd_lay 2 _ (by simp[TK.dP,PySem.W.kqdOk])
 refine zeO (e:=λj=>decide (ps.getD j (0,0)=qs.getD j (0,0))) (lt:=λj=>HT.yn [(ps.getD j (0,0)).1,(ps.getD j (0,0)).2] [(qs.getD j (0,0)).1,(qs.getD j (0,0)).2]) (by omega) e1 e2 (λA2 h2 j h1 h3=>?_) (λA2 h2 j h1 h3=>?_) ?_
 ·obtain⟨_,_,_,_,_,as,rd⟩:=f1 j h1
  obtain⟨_,_,_,_,_,bs,rd'⟩:=f2 j h3
  have:=SeqAt.eqAt_reads _ _ A2 s _ _ _ _ rd rd' (lay _).1 (lay _).1 (by
   have:=(lay (ps.getD j (0,0))).2;have:min (kqdP (TK.dP (ps.getD j (0,0)))).depth (kqdP (TK.dP (qs.getD j (0,0)))).depth<=2:=Nat.le_trans (Nat.min_le_left _ _) this
   omega)
  rw[zdI] at this;exact this
 ·obtain⟨t1,i1,q1,p1,n1,_⟩:=f1 j h1
  obtain⟨t2,i2,q2,p2,n2,_⟩:=f2 j h3;intro prog w E2 Q2 hq;rw[q1,q2]
  exact(HT.zbS p1 p2 n1 n2 (by omega) hq:wpAny (model prog w) A2 (compareOp .Lt (.ref t1) (.ref t2)) Q2 E2 s)
 ·rw[z1,z2,JE ps qs ps.length qs.length 0 (λj h1 h2=>by rw[Nat.zero_add];exact⟨rfl,rfl⟩) rfl]
  exact fin
theorem zcl{xs:List V}{us:List Value}(r:Zg xs us){i:Nat}{b:Addr}(h:xs[i]?=some (.ref b)):us.getD i Value.none=.ref b:=by
 obtain⟨u,e,q⟩:=r.get h;cases q;simp[List.getD,e]
theorem zef{xs:List V}{us:List Value}(r:Zg xs us):∀{p:List Nat},(∀i∈p,i<xs.length)->Zg (p.map λi=>xs.getD i .non) (p.map λi=>us.getD i Value.none):=λ{p} h=>qH r _ _ h
theorem QR(hu:X.A.units+64<cLine):qo X (.builtin "sorted") zhr:=by
 intro pins s σ H xs us Q I r h;obtain⟨l,vs,pss,rfl,hl,rp,nd,h64,q⟩:=h;obtain⟨u,rfl,rx⟩:=JQ r;cases rx;obtain⟨z,its,n,rv,hlen,e⟩:=I.lstM hl;have hil:s.heap.IsList l its.toArray:=⟨_,e,rfl,n,rfl⟩;have hpl:=rp.length
 by_cases h2:2<=its.length
 ·obtain⟨m,F⟩:=I.fr
  have kept:∀h',Fr X.base X.env.locals h' m->News X.base X.env.locals h' (qR X.base s.heap X.env.locals)->∀b o,b≠X.env.locals->s.heap.get? b=some o->h'.get? b=some o:=λh' F' N' b o hb hq=>by
   cases g:X.base.get? b with
   | some u =>
    have:=I.bk b u g;rw[hq] at this;cases this;exact F'.keep b _ g
   | none=>exact(N' (b,o) (jI hb g hq)).1
  have nsk:∀h',Fr X.base X.env.locals h' m->∀m',s.heap.Ns X.env.locals m'->h'.Ns X.env.locals m':=λh' F' m' hm'=>by rw[zhG hm' F.ns];exact F'.ns
  have item:∀i,i<its.length->∃b ps,vs[i]?=some (.ref b)/\pss[i]?=some ps/\TK.PL H b ps/\its.getD i Value.none=.ref b:=λi hi=>by
   obtain⟨ps,e1,b,e2,hb⟩:=TK.Paired.at1 rp (i:=i) (a:=vs[i]) (by simp[show i<vs.length by omega])
   have ev:vs[i]?=some (.ref b):=by rw[List.getElem?_eq_getElem (by omega),e2]
   exact⟨b,ps,ev,e1,hb,zcl rv ev⟩
  refine PySem.W.kas_sorted (T:=.type "list") F zeX hil h2 (by omega) (λh' F' N' v hv=>?_) (by rfl) λD e1 h' F' N' hD=>?_
  ·obtain⟨i,hi,ei⟩:=List.mem_iff_getElem.mp hv
   obtain⟨b,ps,e1,e2,hb,e3⟩:=item i hi
   have ev:v=.ref b:=by rw[<-ei,<-e3];simp[List.getD,hi]
   obtain⟨ws,hb1,_⟩:=hb;obtain⟨_,its2,n2,_,_,eo⟩:=I.lstM hb1
   have nb:b≠X.env.locals:=λz=>by rw[z,I.free] at hb1;cases hb1
   have ho:=kept h' F' N' b _ nb eo;rw[ev];exact(PySem.W.Looks.ld ho).andThen .now
  ·have N'':News X.base X.env.locals h' (qR X.base s.heap X.env.locals):=λp hp=>N' p (.tail _ hp)
   have I':Inv X pins σ H { s with heap:=h',toks:=s.toks }:=ziQ I (kept h' F' N'') (nsk h' F')
   have hDn:s.heap.get? D=none:=by
    cases g:s.heap.get? D with
    | none=>rfl
    | some o =>
     have nD:=N' (D,seqObj "list" #[] e1) (.head _);exact absurd (hD (D,o) (jI nD.2.1 nD.2.2 g)) (Nat.lt_irrefl _)
   obtain⟨p,runs,ord,up⟩:=TQ.zcI (n:=its.length) (r:=zcQ pss) (λi j hi hj=>zeu nd (by omega) (by omega)) h2
   have pin:∀i∈p.toList,i<its.length:=λi hi=>List.mem_range.mp (ord.perm.mem_iff.mp hi);refine TQ.YC.wp (b:=TQ.B (zcQ pss)) (V:=TQ.V its.length) (λi j C hi hj hC=>?_) ?_ runs
   ·obtain⟨b1,ps1,a1,a2,a3,a4⟩:=item i hi
    obtain⟨b2,ps2,c1,c2,c3,c4⟩:=item j hj;show wpAny _ _ (keyLt' oneType' (its.getD i Value.none) (its.getD j Value.none)) C _ _;rw[a4,c4,keyLt'_oneType]
    refine zbT I' a3 c3 (by show X.A.units+1+1+20<cLine;omega) ?_
    have e1:pss.getD i []=ps1:=by simp[List.getD,a2]
    have e2:pss.getD j []=ps2:=by simp[List.getD,c2]
    have:pLt ps1 ps2=TQ.B (zcQ pss) i j:=by
     rw[<-e1,<-e2,Bool.eq_iff_iff,J5 (by omega) (by omega)]
     show _↔decide _=true;rw[decide_eq_true_iff]
    rw[this];exact hC
   ·refine PySem.W.KasFin.intro F' N' (.head λp hp=>Nat.ne_of_lt (hD p hp)) λh2' c F2 N2=>?_
    have N3:News X.base X.env.locals h2' (qR X.base s.heap X.env.locals):=λp hp=>N2 p (.tail _ hp);have atD:=(N2 _ (.head _)).1
    have hv:=zef rv (p:=p.toList) (λi hi=>by have:=pin i hi;omega)
    have hr:=qH rp .non [] (p:=p.toList) (λi hi=>by have:=pin i hi;omega)
    have zl:(p.toList.map λi=>vs.getD i V.non).length=its.length:=by rw[List.length_map,Array.length_toList,ord.size]
    refine⟨.ref D,_,ziO (s:=s) (a:=D) (o:=.lst (p.toList.map λi=>vs.getD i .non)) (t':=s.toks) I (kept h2' F2 N3) (nsk h2' F2) hDn ⟨by rw[zl];omega,_,c,hv,atD⟩,rfl,?_⟩
    refine q D _ (p.toList.map λi=>pss.getD i []) (HOk.none I.hok hDn) ?_ ?_ hr λv hv=>?_
    ·have:=ord.perm.map λi=>pss.getD i []
     have e:(List.range its.length).map (λi=>pss.getD i [])=pss:=by
      apply List.ext_getElem
      ·simp;omega
      ·intro i h1 h3
       simp at h1
       simp[List.getD,show i<pss.length by omega]
     rw[e] at this;exact this
    ·rw[List.pairwise_map,List.pairwise_iff_getElem]
     intro i j hi hj hij
     have hi':i<p.size:=by simpa using hi
     have hj':j<p.size:=by simpa using hj
     have g:∀k (hk:k<p.size),p.toList[k]'(by simpa using hk)=p.getD k 0:=λk hk=>by simp[Array.getD,hk]
     rw[g i hi',g j hj'];have s1:=ord.size
     exact(J5 (by have:=ord.lt (i:=i) (by omega);omega) (by have:=ord.lt (i:=j) (by omega);omega)).mpr (up i j hij (by omega))
    ·obtain⟨i,hi,rfl⟩:=List.mem_map.mp hv
     have hil:i<vs.length:=by have:=pin i hi;omega
     show vs.getD i .non∈vs;rw[List.getD_eq_getElem?_getD,List.getElem?_eq_getElem hil];exact List.getElem_mem hil
 ·match its,hlen,hil,rv,h2 with
  | [],hlen,hil,rv,_ =>
   have ev:vs=[]:=List.length_eq_zero_iff.mp (by simpa using hlen)
   subst ev
   have ep:pss=[]:=List.length_eq_zero_iff.mp (by simpa using hpl.symm)
   subst ep
   refine sorted_ints hil (ns:=[]) .nil (by decide) λout ms ho hp hs=>?_
   have em:ms=[]:=hp.eq_nil;subst em;obtain⟨ep,he⟩:=sortedAll_at s.heap [] out
   exact⟨.ref (s.heap.objs.size+1),_,I.laid (t':=s.toks) (a:=s.heap.objs.size+1) (o:=.lst []) (λb o q=>sortedAll_old q) (Nat.le_succ _) (show Zt X.prog X.w _ _ _ (.lst []) from ⟨Nat.zero_le _,out.toList,ep,qV (ns:=[]) ho,by simpa [seqObj] using he⟩),rfl,q _ [] [] (I.hok.fresh (Nat.le_succ _)) (List.Perm.refl _) List.Pairwise.nil .nil (λ_ h=>h)⟩
  | [v],hlen,hil,rv,_ =>
   refine zbF hil ?_;obtain⟨ep,he⟩:=sortedAll_at s.heap [v] #[v]
   have l1:pss.length=1:=by simp at hlen;omega
   refine⟨.ref (s.heap.objs.size+1),_,I.laid (t':=s.toks) (a:=s.heap.objs.size+1) (o:=.lst vs) (λb o q=>sortedAll_old q) (Nat.le_succ _) (show Zt X.prog X.w _ _ _ (.lst vs) from ⟨by rw[hlen];show 1<=_;decide,[v],ep,rv,by simpa [seqObj] using he⟩),rfl,q _ vs pss (I.hok.fresh (Nat.le_succ _)) (List.Perm.refl _) ?_ rp (λ_ h=>h)⟩
   match pss,l1 with
   | [a],_=>exact List.pairwise_singleton _ _
  | _::_::_,_,_,_,h2=>exact absurd (by simp) h2
end
end TX
namespace TX
open PySem PySem.Spec PyProof.Rows L2
structure RoomN(k:Nat)(A:Around):Prop where
 dp:A.depth+3 * k+5<recursionLimit
 un:A.units+16 * k+200<cLine
theorem RoomN.of{k:Nat}{A:Around}(r:Room k A):RoomN k A:=⟨r.dp,r.un⟩
theorem RoomN.mono{j k:Nat}{A:Around}(r:RoomN k A)(h:j<=k):RoomN j A:=⟨by have:=r.dp;omega,by have:=r.un;omega⟩
theorem RoomN.deeper{k:Nat}{A:Around}(r:RoomN (k+1) A)(env:Env):RoomN k (A.deeper env) :=
 ⟨by have:=r.dp;show A.depth+1+3 * k+5<_;omega,by have:=r.un;show A.units+3+16 * k+200<_;omega⟩
theorem RoomN.mark{k:Nat}{A:Around}{v:Option Value}(r:RoomN k A):RoomN k (A.mark v):=⟨r.dp,r.un⟩
theorem RoomN.depth{k:Nat}{A:Around}(r:RoomN k A):A.depth<recursionLimit:=by have:=r.dp;omega
theorem RoomN.units{k:Nat}{A:Around}(r:RoomN k A):A.units+64<cLine:=by have:=r.un;omega
structure FnN(P:Program)(w:World)(K:PySem.W.Frag)(mg:Str->Option Value)(base:Heap)(k:Nat)(f:Addr)(fd:FuncData)(ps:List Str)(sp:Sp):Prop where
 len:∀vs H Q E,sp vs H Q E->vs.length=ps.length
 run:∀(A:Around) (outer:List Env) (s:Shared) (H:Hp) (args:Args) (us:List Value) (vs:List V) (Q:VK) (E:XK),RoomN k A->Env0 P w K mg base A outer s H->BindsTo s fd args (ps.zip us)->Zg vs us->sp vs H Q E ->
  codeAny (model P w) A (.call (.ref f) args) (CR CX0 outer P w H s Q E) s
abbrev cxN(P:Program)(w:World)(K:PySem.W.Frag)(mg:Str->Option Value)(base:Heap)(N:List Str)(qual:Str)(scope:Scope)(f:Addr)(cd:Value)(A:Around)(outer:List Env)(s:Shared)(H:Hp)(E:XK):Cx :=
 { zbn CX0 P w K mg base N qual scope f cd A outer s H E with calm:=false }
section
variable {P:Program}{w:World}{K:PySem.W.Frag}{mg:Str->Option Value}{base:Heap}{N ps:List Str}{qual:Str}{scope:Scope}{f:Addr}{cd:Value}{A:Around}{outer:List Env}{s s1:Shared}{H H':Hp}{E:XK}{σ:L2.St}
end
section
variable {X:Cx}{k:Nat}{f C:Addr}{fd:FuncData}{ps:List Str}{sp:Sp}{dvs:List V}{ds:List Value}{E:XK}{x m:Str}{p pos apos:Pos}{e o:Expr}{es:List Expr}{ta:TE}{t:TA}
end
def zie(C e:Addr)(od:Option Addr)(cx:Value):HO:=.ext λh=>∃o fs,h.get? e=some o/\o.cls=.ref C/\o.dict=od/\o.data=.fields fs/\fs[2]?=some cx
theorem zgN{P:Program}{w:World}{H:Hp}{h:Heap}{C e:Addr}{od:Option Addr}{cx:Value}{o:Obj}{fs:Array Value}(ho:h.get? e=some o)(hc:o.cls=.ref C)(hd:o.dict=od)(hf:o.data=.fields fs)(hx:fs[2]?=some cx):Zt P w H h e (zie C e od cx) :=
 ⟨⟨o,fs,ho,hc,hd,hf,hx⟩,⟨o,ho⟩,λh1 h2 ⟨u,v,a,b⟩ k=>⟨u,v,k _ a,b⟩⟩
end TX
namespace PySem.W
open PySem PySem.Spec PySem.Calls PyProof.Rows Builtin Builtin.ObjectAttr Builtin.Getset_descriptor
section
variable {prog:Program}{w:World}{A:Around}{E:Value->Shared->Prop}{s:Shared}{K:Frag}{x D:Addr}{o:Obj}{name:Str}{R:Result->Shared->Prop}
theorem tyx{M:Model}{h:Heap}{o:Obj}(h1:h.get? x=some o)(h2:o.cls=.ref D):Looks M h (typeOf (.ref x)) (.ref D):=h2▸(Looks.ld h1).andThen .now
theorem ziX{M:Model}{h:Heap}{a g:Value}(X:K.In h)(ha:findIn K (.ref D) name=some (some a))(hg:specialIn K a "__get__"=some (some g))(ht:takesIn K a=some true):Looks M h (find (.ref x) (.ref D) name) (.bind g a):=by
 have L1:=looks_findIn (M:=M) X ha;have L2:Looks M h (getOf (some a)) (some g):=looks_specialIn X hg;have L3:=looks_takesIn (M:=M) X ht;refine L1.andThen (L2.andThen ?_)
 exact(show Looks M h (dataDescriptor? (some a) (some g)) (some (g,a)) from L3.andThen .now).andThen (Looks.tag .now)
theorem zh3{tp:Value}(X:K.In s.heap)(h1:s.heap.get? x=some o)(h2:o.cls=.ref D)(hm:mroIn K D (.type "object")=some true)
  (h:R (.ok (.ret (.ref D))) s):codeAny (model prog w) A (.call (.builtin "getset_descriptor.__get__") ⟨[.builtin "object.__class__",.ref x,tp],[]⟩) R s:=by
 obtain⟨hh,g,dr,t,os⟩:=s;have L0:=tyx (M:=model prog w) h1 h2;have L1:=looks_mroIn (M:=model prog w) X hm;refine codeAny_call_builtin KF.slot_gs.plain KF.entry_gs (KF.slot_gs.check _ _ _ _ _ _ _ _ KF.type_class (KF.args_gs _ _ _) ?_);unfold Builtin.«getset_descriptor.__get__» descrGet;rw[dga_obj];refine wpAny_bind (wpAny_pure ?_);unfold descrGetter descrCheckInstance descrNameAndClass isInstance;simp only[KF.owner_class]
 repeat lk
 refine⟨Code.quiet_builtin _ (by decide +kernel),codeAny_builtin KF.entry_class ?_⟩
 unfold Builtin.«object.__class__» shownTypeOf
 repeat lk
 exact h
end
end PySem.W
namespace TX
open PySem PySem.Spec PyProof.Rows L2
structure FnH(P:Program)(w:World)(K:PySem.W.Frag)(mg:Str->Option Value)(base:Heap)(k:Nat)(f:Addr)(fd:FuncData)(ps:List Str)(sp:Sp):Prop where
 len:∀vs H Q E,sp vs H Q E->vs.length=ps.length
 run:∀(A:Around) (outer:List Env) (s:Shared) (H:Hp) (args:Args) (us:List Value) (vs:List V) (Q:VK) (E:XK),RoomN k A->HdH A H->Env0 P w K mg base A outer s H->BindsTo s fd args (ps.zip us)->Zg vs us->sp vs H Q E ->
  codeAny (model P w) A (.call (.ref f) args) (CR CX0 outer P w H s Q E) s
section
variable {P:Program}{w:World}{K:PySem.W.Frag}{mg:Str->Option Value}{base:Heap}{j k:Nat}{f:Addr}{fd:FuncData}{ps:List Str}{sp sp':Sp}
theorem FnH.ok(F:FnH P w K mg base k f fd ps sp):FnOk P w K mg base CX0 k f fd ps sp :=
 ⟨F.len,λA outer s H args us vs Q E hr=>F.run A outer s H args us vs Q E (RoomN.of hr) (.inl hr.hd)⟩
theorem FnH.mono(F:FnH P w K mg base j f fd ps sp)(h:j<=k):FnH P w K mg base k f fd ps sp :=
 ⟨F.len,λA outer s H args us vs Q E hr=>F.run A outer s H args us vs Q E (hr.mono h)⟩
theorem zhX{N:List Str}{name qual:Str}{params:Arguments}{body:List Stmt}{scope:Scope}{dV kV doc pm cdv ct oc:Value}{an od:Option Addr}
  {osl:Array (Option Value)} (lk:K.lookup f=some ⟨oc,od,.func (PySem.W.fnOf name qual params body scope dV kV doc pm an cdv ct),osl⟩) (hcd:PySem.W.codeIn K cdv qual=true) (S:FnScope N ps scope)
  (len:∀vs H Q E,sp vs H Q E->vs.length=ps.length)
  (hbody:∀(A:Around) (outer:List Env) (s:Shared) (H:Hp) (vs:List V) (Q:VK) (E:XK),RoomN k (A.deeper (envOfC qual scope s.heap.objs.size f cdv))->sp vs H Q E ->
   ∃t,PSs (zbn CX0 P w K mg base N qual scope f cdv A outer s H E) body t/\t { nx:=λ_ H'=>Q .non H',rt:=Q } (qY N vs) H) :
  FnH P w K mg base (k+1) f (PySem.W.fnOf name qual params body scope dV kV doc pm an cdv ct) ps sp:=by
 refine⟨len,λA outer s H args us vs Q E hr hd e0 hb r hsp=>?_⟩;have hl:=len _ _ _ _ hsp;have KX:K.In s.heap:=e0.mod.kin.keeps λb o e=>(e0.bs b o e).1;have lim:s.heap.NoLimit:=e0.mod.nolimit.keeps λb o e=>(e0.bs b o e).1
 have kd:∀y∈ps.zip us,scope.names.lookup y.1=some .local\/(scope.names.lookup y.1=some .cell/\((cellsFrom (s.heap.objs.size+1) scope.names []).lookup y.1).isSome=true):=λ⟨n,v⟩ hy=>by
  rcases S.par n (List.of_mem_zip hy).1 with q|q
  ·exact .inl q
  ·exact .inr ⟨q,PySem.W.cellsFrom_some _ _ _ (.inl q)⟩
 refine codeAny_call_function hr.depth (KX _ _ lk) rfl S.co S.gen rfl (PySem.W.codeRec_of KX hcd) (hb _ _ _ _ ?_);refine wpAny_newFunctionEnv_cells S.kind kd λenv he s1 x=>?_;subst he;refine⟨lim.keeps x.toInCall.keep,codeAny_func ?_⟩;obtain⟨t,ht,hq⟩:=hbody A outer s H vs Q E (hr.deeper _) hsp;have I:Inv (zbn CX0 P w K mg base N qual scope f cdv A outer s H E) [] (qY N vs) H s1:=Wx S hd e0 hl r x;refine wpAny_mono (ht [] s1 (qY N vs) H _ I hq) (λfl s' hs=>?_) λe s' hs=>hs
 have fin:∀{σ':L2.St} {H':Hp} {v:V} {u:Value},Inv (zbn CX0 P w K mg base N qual scope f cdv A outer s H E) [] σ' H' s'->Zo v u->Q v H'->CE outer P w H s Q u s' :=
  λ{σ' H' v u} J rv q=>⟨v,H',J.os,J.bare,J.base,J.hok,rv,q⟩
 cases fl with
 | ret u =>
  obtain⟨v,σ',H',J,rv,q⟩:=hs;exact fin J rv q
 | next =>
  obtain⟨σ',H',J,q⟩:=hs;exact fin (v:=V.non) (u:=Value.none) J rfl q
 | brk =>
  obtain⟨_,_,_,q⟩:=hs;exact False.elim q
 | cont =>
  obtain⟨_,_,_,q⟩:=hs;exact False.elim q
theorem _root_.L2.Fun.okH{x qual:Str}{st:Stmt}{N:List Str}(F:Fun K x qual st f fd)(S:FnScope N ps (zk st))(len:∀vs H Q E,sp vs H Q E->vs.length=ps.length)
  (hbody:∀(cdv:Value) (A:Around) (outer:List Env) (s:Shared) (H:Hp) (vs:List V) (Q:VK) (E:XK),RoomN k (A.deeper (envOfC qual (zk st) s.heap.objs.size f cdv))->sp vs H Q E ->
   ∃t,PSs (zbn CX0 P w K mg base N qual (zk st) f cdv A outer s H E).nox (yY st) t/\t { nx:=λ_ H'=>Q .non H',rt:=Q } (qY N vs) H):FnH P w K mg base (k+1) f fd ps sp:=by
 obtain⟨oc,od,kV,doc,pm,an,cdv,ct,osl,rfl,lk,hcd⟩:=F.ex;refine zhX lk hcd S len λA outer s H vs Q E hr hsp=>?_;obtain⟨t,h,q⟩:=hbody cdv A outer s H vs Q E hr hsp;exact⟨t,h.nox,q⟩
end
section
variable {X:Cx}{k:Nat}{f:Addr}{fd:FuncData}{ps:List Str}{sp:Sp}{dvs:List V}{ds:List Value}{E:XK}{x:Str}{p pos:Pos}{e:Expr}{es:List Expr}{t:TA}
theorem zcM{pins:List (Addr×Obj)}{σ:L2.St}{H:Hp}{s:Shared}{Q:VK}{us:List Value}{vs:List V}(F:FnH X.prog X.w X.K X.mg X.base k f fd ps sp)(hr:RoomN k X.A)(hb:qp X.K fd ps ds)(hd:Zg dvs ds)
  (I:Inv X pins σ H s) (hh:HdH X.A H) (r:Zg vs us) (h:sp (vs++dvs) H Q E):wpAny (model X.prog X.w) X.A (call (.ref f) us) (EP X pins σ Q) X.xe s:=by
 have r2:Zg (vs++dvs) (us++ds):=r.append hd
 have hl:(us++ds).length=ps.length:=by rw[<-r2.length];exact F.len _ _ _ _ h
 refine wpAny_call (codeAny_mono (F.run X.A X.stack s H ⟨us,[]⟩ (us++ds) (vs++dvs) Q E hr hh I.env0 (hb s us I.kIn hl) r2 h) λr s' hq=>?_)
 cases r with
 | error e=>exact False.elim hq
 | ok fl =>
  cases fl with
  | ret u=>exact I.after hq
  | next=>exact False.elim hq
  | brk=>exact False.elim hq
  | cont=>exact False.elim hq
theorem Yo(F:FnH X.prog X.w X.K X.mg X.base k f fd ps sp)(hr:RoomN k X.A)(hc:X.calm=true)(hg:Gl X x)(hm:X.mg x=some (.ref f))(hk:PySem.W.keepIn X.K (.ref f)=true)(hb:qp X.K fd ps ds)(hd:Zg dvs ds)
  (ha:PA X (e::es) t) (hdb:(x==("__debug__":Str))=false:=by decide) (he:starEach (e::es) X.env=(false,eval e X.env)::starEach es X.env:=by rfl) (hpl:(backTo pos (starEach es X.env)).any (·.1)=false:=by rfl) :
  PE X (.Call (.Name x p) (e::es) [] pos) (Qu sp dvs E t):=by
 intro pins s σ H Q I h;refine wpAny_Call_Name_kw (YY I hg hm ?_ hdb);refine PySem.W.callWith_K (h₀:=X.base) I.ok.mod.kin hk (thn (ha pos pins s σ H _ I h) λus s1 ⟨vs,H1,I1,r,q⟩=>⟨I1.kIn,?_⟩) he hpl;exact zcM F hr hb hd I1 (I1.hdh hc) r q
end
end TX
namespace TX
open PySem PySem.Spec PyProof.Rows L2
section
variable {M:Model}{A:Around}{E:Value->Shared->Prop}{h:Heap}{g:Array GenState}{d:Drawn}{t:Nat}{os:OsState}
variable {nm q nm' q':Str}{C N B N':Addr}{bs bm bs' bm':List Value}{hdct hdct':Bool}{sn sn':List Str}{sub sub':List Value}{ab ab':Bool}{col col':Option Bool}{dd dd':Option Addr}{k0 k1 k2 k3 k5 j0 j1 j2 j3 j5:Option Value}{newId newId':String}
theorem zaA{e:Addr}{oe:Obj}{Q:Bool->Shared->Prop}
  (hC:h.get? C=some (excClassObj nm q C N bs bm hdct sn sub ab col dd k0 k1 k2 k3 k5 newId)) (hB:h.get? B=some (excClassObj nm' q' B N' bs' bm' hdct' sn' sub' ab' col' dd' j0 j1 j2 j3 j5 newId'))
  (he:h.get? e=some oe) (hcls:oe.cls=.ref C) (hbase:bm'.contains (.type "BaseException")=true) (hsub:(Value.ref C::bm).contains (.ref B)=true)
  (hq:Q true ⟨h,g,d,t,os⟩):wpAny M A (excMatches (.ref e) (.ref B)) Q E ⟨h,g,d,t,os⟩:=by
 have hcB:(Value.ref B::bm').contains (.type "BaseException")=true:=by rw[List.contains_cons,hbase,Bool.or_true]
 have f:=tc_notTuple;unfold excMatches
 repeat (first|(with_reducible refine wpAny_loadPart_at he ?_;rw[hcls])|with_reducible refine wpAny_loadPart_at hB ?_|(with_reducible refine wpAny_isSubtype_exc hB ?_;rw[hcB])|(with_reducible refine wpAny_isSubtype_exc hC ?_;rw[hsub])|wp_step)
 exact hq
end
section
variable {X:Cx}{pins:List (Addr×Obj)}{σ:L2.St}{H:Hp}{s:Shared}
theorem zgG{M:Model}{A:Around}{E:Value->Shared->Prop}{x:Str}{pos:Pos}{Q:Unit->Shared->Prop}(I:Inv X pins σ H s)(hk:X.env.scope.names.lookup x=some .local)
  (h:∀s',Inv X pins (List.replicate X.N.length none) H s'->Q () s'):wpAny M A (do bindName X.env x .none;unbindBehindTheSuite X.env x pos) Q E s:=by
 obtain⟨m,hn,hl⟩:=id I.loc
 have hcls:(X.env.scope.kind==.class||(X.env.scope.kind==.module&&X.env.locals != X.env.globals))=false:=by rw[I.ok.kind];rfl
 have cne:=I.cne;refine wpAny_nameGoes hk hn hcls λh' m' hn' hs=>?_;obtain⟨oL,_,_,hoL,_⟩:=id hn
 have tracked:HOk X.prog X.w H h':=λb ob e=>by
  refine(I.hok b ob e).stay (λc w' hc q=>(hs.2 c ?_).trans q) (λ_ q=>q) λ_ _ q=>q;rintro rfl
  rcases hc with rfl|hc
  ·rw[I.free] at e;cases e
  ·rw[I.free] at hc;cases hc
 refine h _ ⟨I.ok,I.os,I.bare,⟨λb o e n hb hx=>?_,λb o e n hb hx=>?_,I.base.free,λb o e hx=>?_,I.base.tups,I.base.frzs,I.base.tbls⟩,⟨_,hn',λj y v' e1 e2 e3=>?_⟩,λy c e=>?_,I.free,I.freeC,λp hp=>?_,tracked,by simp⟩
 ·exact(hs.2 b (Nat.ne_of_lt (Nat.lt_of_lt_of_le (Heap.lt_size e) I.ok.above))).trans (I.base.keep b o e n hb hx)
 ·obtain⟨sl,e1⟩:=I.base.slot b o e n hb hx
  exact⟨sl,(hs.2 b (Nat.ne_of_lt (Nat.lt_of_lt_of_le (Heap.lt_size e) I.ok.above))).trans e1⟩
 ·obtain⟨o',e1⟩:=I.base.there b o e hx
  exact⟨o',(hs.2 b (Nat.ne_of_lt (Nat.lt_of_lt_of_le (Heap.lt_size e) I.ok.above))).trans e1⟩
 ·rw[List.getElem?_replicate] at e2
  split at e2 <;> cases e2
 ·obtain⟨w',z⟩:=I.cell y c e
  exact⟨w',z.sameBut hs (cne y c e)⟩
 ·obtain⟨e,n,ne,nf,d⟩:=I.pin p hp
  exact⟨(hs.2 p.1 ne).trans e,n,ne,nf,d⟩
theorem zfU{σ0:L2.St}{H0:Hp}{s0:Shared}{e:Addr}{o:HO}(I0:Inv X pins σ0 H0 s0)(I:Inv X pins σ H s)(hex:X.ex=[])(e0:s0.heap.get? e=none)(hn:H e=none)(ok:Zt X.prog X.w (upd H e o) s.heap e o):Inv X pins σ (upd H e o) s:=by
 have ne1:∀b ob,s0.heap.get? b=some ob->b≠e:=λb ob q z=>by rw[z,e0] at q;cases q
 have ne0:∀b ob,X.s₀.heap.get? b=some ob->b≠e:=λb ob q=>by
  obtain⟨o',z⟩:=I0.base.there b ob q (by rw[hex];simp)
  exact ne1 b o' z
 have neH:∀b u,H b=some u->b≠e:=λb u q z=>by rw[z,hn] at q;cases q
 obtain⟨m0,⟨oL,_,_,hoL,_⟩,_⟩:=id I0.loc;refine⟨I.ok,I.os,I.bare,⟨I.base.keep,I.base.slot,λb ob q n hx=>?_,I.base.there,λb xs q=>?_,λb ob u q=>?_,λb ps q=>?_⟩,I.loc,I.cell,?_,λx c q=>?_,λp hp=>?_,λb u q=>?_,I.len⟩
 ·rw[zq (ne0 b ob q)];exact I.base.free b ob q n hx
 ·have z:=I.base.tups b xs q
  rw[zq (neH b _ z)];exact z
 ·have z:=I.base.frzs b ob u q
  rw[zq (neH b _ z)];exact z
 ·obtain⟨more,z⟩:=I.base.tbls b ps q
  exact⟨more,by rw[zq (neH b _ z)];exact z⟩
 ·rw[zq (ne1 _ _ hoL)];exact I.free
 ·obtain⟨v,⟨oc,hoc,_⟩⟩:=I0.cell x c q
  rw[zq (ne1 _ _ hoc)];exact I.freeC x c q
 ·obtain⟨a,b,c⟩:=I.pin p hp
  exact⟨a,by rw[zq (ne1 _ _ (I0.pin p hp).1)];exact b,c⟩
 ·by_cases hb:b=e
  ·subst hb;rw[ze] at q;cases q;exact ok
  ·rw[zq hb] at q
   exact(I.hok b u q).stay (λc v _ z=>z) (λc z=>by rw[zq (neH c _ z)];exact z) λc xs z=>by rw[zq (neH c _ z)];exact z
abbrev cxS(X:Cx)(e:Addr)(xe:Value->Shared->Prop):Cx:={ X with A:=X.A.mark (some (.ref e)),calm:=false,xe:=xe }
theorem ziT{e:Addr}{xe:Value->Shared->Prop}(I:Inv X pins σ H s):Inv (cxS X e xe) pins σ H s :=
 ⟨⟨I.ok.mod,I.ok.kind,I.ok.glob,I.ok.blt,I.ok.above,I.ok.inj,I.ok.has,I.ok.cab,λz=>absurd (show false=true from z) (by decide),I.ok.frames,I.ok.stk,I.ok.exf,I.ok.bs,I.ok.bsz,I.ok.noex,I.ok.exfs,I.ok.funs,I.ok.frf⟩,
  I.os,I.bare,I.base,I.loc,I.cell,I.free,I.freeC,I.pin,I.hok,I.len⟩
theorem zgB{e:Addr}{xe:Value->Shared->Prop}(ok:X.Ok)(I:Inv (cxS X e xe) pins σ H s):Inv X pins σ H s :=
 ⟨ok,I.os,I.bare,I.base,I.loc,I.cell,I.free,I.freeC,I.pin,I.hok,I.len⟩
end
section
variable {X:Cx}{C B:Addr}
def zaH(H:Hp)(C e:Addr)(od:Option Addr):Prop:=∃(o:Obj) (fs:Array Value),o.data=.fields fs/\fs[2]?=some .none/\H e=some (.frz o (zie C e od .none))
theorem zaH.hdh{A:Around}{H:Hp}{C e:Addr}{od:Option Addr}(x:zaH H C e od)(ha:A.handled=some (.ref e)):HdH A H:=by
 obtain⟨o,fs,h1,h2,h3⟩:=x
 exact .inr ⟨e,[(e,o)],ha,.inl ⟨o,fs,rfl,h1,h2⟩,λp hp=>by rw[List.mem_singleton.mp hp];exact⟨_,h3⟩⟩
abbrev cxU(X:Cx)(C:Addr)(pn:List (Addr×Obj))(E:L2.St->XK):Cx:={ X with pn:=pn,xe:=λev s'=>∃(σ:L2.St) (H0:Hp) (s1:Shared),Inv { X with pn:=pn } [] σ H0 s1/\CXb false X.prog X.w C X.stack H0 s1 (E σ) ev s' }
def zg6(i n:Nat)(C:Addr)(tb:(L2.St->XK)->TS)(ts:Addr->TS):TS:=λD σ H=>tb (λσ' _ od H'=>∀ex:Addr,H' ex=none->∀H2:Hp,(∀b o,H' b=some o->H2 b=some o)->zaH H2 C ex od->ts ex { nx:=λ_ _=>False,rt:=D.rt } (σ'.set i (some (.ref ex))) H2) D σ H
def j7(K:PySem.W.Frag)(C B:Addr):Bool:=(PySem.W.clsIn K C).any λcd=>cd.mro.contains (.ref B)
theorem zfi{K:PySem.W.Frag}{h:Heap}(kin:K.In h)(q:j7 K C B=true){nm qn:Str}{Na:Addr}{bs bm:List Value}{hdct:Bool}{sn:List Str}{sub:List Value}{ab:Bool}{col:Option Bool}{dd:Option Addr}{k0 k1 k2 k3 k5:Option Value}{newId:String}
  (hC:h.get? C=some (excClassObj nm qn C Na bs bm hdct sn sub ab col dd k0 k1 k2 k3 k5 newId)):(Value.ref C::bm).contains (.ref B)=true:=by
 unfold j7 at q;obtain⟨cd,h1,h2⟩:=PySem.W.any_some q;unfold PySem.W.clsIn at h1;split at h1
 ·rename_i c' d' cd' sl' ho
  cases h1;have z:=(kin _ _ ho).symm.trans hC;unfold excClassObj at z;cases z;exact h2
 ·cases h1
theorem zex{body:List Stmt}{x y:Str}{b0:Stmt}{suite:List Stmt}{np p3 pos:Pos}{i:Nat}{tb:(L2.St->XK)->TS}{ts:Addr->TS}(qC:PySem.W.ktsIn X.K C "BaseException"=true)(qB:PySem.W.ktsIn X.K B "BaseException"=true)(hsub:j7 X.K C B=true)(hg:Gl X x)(hm:X.mg x=some (.ref B))
  (hst:X.stack=X.env::X.outer/\X.env.frame=some X.env.locals) (hex:X.ex=[]) (hN:X.N.Nodup) (hi:X.N[i]?=some y) (hly:X.env.scope.names.lookup y=some .local)
  (hb:∀(pn:List (Addr×Obj)) (E:L2.St->XK),PSs (cxU X C pn E) body (tb E)) (hr:∀(e:Addr) (xe:Value->Shared->Prop),PSs (cxS X e xe) (b0::suite) (ts e)) (hd:(x==("__debug__":Str))=false:=by decide) :
  PS X (.Try body [.ExceptHandler (some (.Name x np)) (some y) (b0::suite) p3] [] [] pos) (zg6 i X.N.length C tb ts):=by
 intro pins s σ H D I h;refine wpAny_Try_except (wpAny_mono (hb (X.pn++pins) _ [] s σ H D (zhT I _) h) (λf s1 r=>?_) λev s1 r=>?_)
 ·have r':=zf2 r
  cases f with
  | next=>exact wpAny_execs_nil r'
  | ret v=>exact r'
  | brk=>exact r'
  | cont=>exact r'
 ·obtain⟨σ1,H0,s0,I0,e,H',od,rfl,hos,hgn,un,hok,⟨cx,oe,vs,T,oT,tz,g1,g2,g3,g4,g5,g6,g7,g8,g9,g10,g11,g12,g13⟩,hE⟩:=r
  have hcx:cx=.none:=g13.elim id λz=>absurd z.1 (by decide)
  subst hcx;have I0':Inv X pins σ1 H0 s0:=Qm I0;have I1:Inv X pins σ1 H' s1:=Inv.after0 I0' hos un hok hgn;have hin:∀env∈X.stack,∀b,env.frame=some b->b∈[e,T]++frs X.stack:=λenv he b hb=>List.mem_append_right _ (List.mem_filterMap.mpr ⟨env,he,hb⟩)
  have hfr:X.A.frames=some (X.env::X.outer):=by rw[<-hst.1];exact I1.ok.frames
  have fF:=PySem.W.funFrames_hide I1.stack hin
  have tr:TrD s1.heap (PySem.W.hideAll s1.heap ([e,T]++frs X.stack)) e (.ref C) .none .none od:=⟨oe,vs,T,oT,tz,g1,g2,g3,g4,PySem.W.hideAll_none _ (by simp),g5,g6,g7,g8⟩
  have again:∀h',(PySem.W.hideAll s1.heap ([e,T]++frs X.stack)).StaysIn h'->s1.heap.UpToSlots h'->Inv X pins σ1 H' { s1 with heap:=h' }:=λh' k u=>by
   have kp:Kp (frs X.stack) [e,T] s1.heap h':=Kp.of k (zay I1.stack u)
   have hex:∀b∈[e,T],H' b=none/\s0.heap.get? b=none:=λb hb=>by
    rcases List.mem_cons.mp hb with rfl|hb
    ·exact⟨g9,g11⟩
    ·obtain rfl:=List.mem_singleton.mp hb
     exact⟨g10,g12⟩
   exact Inv.after0 (s':={ s1 with heap:=h' }) I0' hos (kp.un un λb hb=>(hex b hb).2) (kp.hok hok (λb hb=>I1.stkFree b hb) λb hb=>(hex b hb).1) hgn
  refine zdh hfr (by rw[<-hst.1];exact fF) hst.2 tr (λb o q=>PySem.W.of_hideAll _ q) (PySem.W.hideAll_none _ (by simp)) λh4 n4=>?_
  refine qa n4.1 n4.2.1 n4.2.2.1 λh5 n5=>?_;have us:=n4.2.2.2.trans n5.2.2.2;have I5:=again h5 n5.1 us;obtain⟨ob,_,_,_,_,hob,⟨hobc,_⟩,_⟩:=n5.2.2.1;obtain⟨nm,q',Na,bs,bm,hdct,sn,sub,ab,col,dd,k0,k1,k2,k3,k5,newId,hC,hbase,hbT⟩:=PySem.W.kts_cls I5.kIn qC;obtain⟨nm',q'',Na',bs',bm',hdct',sn',sub',ab',col',dd',j0,j1,j2,j3,j5,newId',hB,hbaseB,hbTB⟩:=PySem.W.kts_cls I5.kIn qB
  refine wpAny_handleBy_cons (codeAny_handlers_test (Calls.Name_function_global I5.ok.kind hg (Calls.loadGlobal_global (by rw[I5.ok.glob];exact I5.mod.glob.keeps I5.bk) hm ?_) hd)) (by intro z;cases z)
  refine zaA hC hB hob hobc hbaseB (zfi I5.kIn hsub hC) (codeAny_handlers_suite_as ?_);refine qa n5.1 n5.2.1 n5.2.2.1 λh6 n6=>?_;have I6:=again h6 n6.1 (us.trans n6.2.2.2);obtain⟨ob6,fs6,_,_,_,hob6,⟨hobc6,hx6,hd6⟩,hf6,_⟩:=n6.2.2.1
  have I7:Inv X pins σ1 (upd H' e (.frz ob6 (zie C e od .none))) { s1 with heap:=h6 }:=zfU I0' I6 hex g11 g9 ⟨hob6,zgN hob6 hobc6 hd6 hf6 hx6⟩
  refine JU (i:=i) (v:=.ref e) I7 hN hi (.inl hly) rfl (λs8 I8=>?_) (.inr hly)
  refine wpAny_mono (hr e _ pins s8 _ _ { nx:=λ_ _=>False,rt:=D.rt } (ziT I8) (hE e g9 _ (λb o q=>by rw[zq (zx q g9)];exact q) ⟨ob6,fs6,hf6,hx6,ze⟩)) (λfl s9 r=>?_) λ_ _ z=>z
  cases fl with
  | ret u =>
   obtain⟨z,σ9,H9,I9,r9,q9⟩:=r;exact zgG (zgB I.ok I9) hly λs' I'=>⟨z,_,H9,I',r9,q9⟩
  | next=>obtain⟨_,_,_,q⟩:=r;exact False.elim q
  | brk=>obtain⟨_,_,_,q⟩:=r;exact False.elim q
  | cont=>obtain⟨_,_,_,q⟩:=r;exact False.elim q
end
end TX
namespace TX
open PySem PySem.Spec PyProof.Rows L2
section
variable {prog:Program}{w:World}{A:Around}{E:Value->Shared->Prop}{h:Heap}{g:Array GenState}{d:Drawn}{t:Nat}{os:OsState}
variable {nm q:Str}{C N:Addr}{bs bm bmB:List Value}{hdct:Bool}{sn:List Str}{sub:List Value}{ab:Bool}{col:Option Bool}{dd:Option Addr}{k0 k1 k2 k3 k5:Option Value}{B Bn newId nid initId inN:String}{bmN:List Value}
theorem WV(Fn:ExcBaseFacts Bn newId inN bmN)(hBn:bmB.contains (.type Bn)=true)(F:ExcBaseFacts B nid initId bmB)(T:OwnTail h bmB bm){mN:Str->Option Value}{rest:List Value}{fI:Addr}{oI:Obj}{Q:Fin->Shared->Prop}
  (hC:h.get? C=some (excClassObj nm q C N bs bm hdct sn sub ab col dd k0 k1 k2 k3 k5 newId)) (hn:h.Ns N mN) (hi:mN "__init__"=some (.ref fI)) (hfI:h.get? fI=some oI) (hfc:oI.cls=.type "function")
  (hq:∀h' e,Heap.MadeExcOf h h' e (.ref C) rest->wpAny (model prog w) A (call (.ref fI) (.ref e::rest)) (λr s'=>r=.none/\Q (.done (.ret (.ref e))) s') E ⟨h',g,d,t,os⟩) (hrest:rest.length<=sizeLine:=by size_fits) :
  wpAny (model prog w) A (Builtin.«type.__call__» ⟨.ref C::rest,[]⟩) Q E ⟨h,g,d,t,os⟩:=by
 repeat (first|with_reducible refine wpAny_loadPart_at hC ?_|with_reducible refine wpAny_madeBy_exc hC ?_|wp_step)
 refine codeAny_call_builtin_code (Code.quiet_builtin _ Fn.quiet) (wpAny_check_new_subU Fn hBn T hC ?_);refine codeAny_exc_new_subU Fn hBn F T hC ?_ hrest;show wpAny _ _ _ _ _ _
 have hC₁:=Heap.get?_push_of_some { cls:=.ref C,data:=.fields #[.ref h.objs.size,.none,.none,.none,.bool false,.none] }
  (Heap.get?_push_of_some { cls:=.type "tuple",data:=.seq rest.toArray } hC)
 have hfI₁:=Heap.get?_push_of_some { cls:=.ref C,data:=.fields #[.ref h.objs.size,.none,.none,.none,.bool false,.none] }
  (Heap.get?_push_of_some { cls:=.type "tuple",data:=.seq rest.toArray } hfI)
 have hn₁:((h.push { cls:=.type "tuple",data:=.seq rest.toArray }).push { cls:=.ref C,data:=.fields #[.ref h.objs.size,.none,.none,.none,.bool false,.none] }).Ns N mN :=
  let ⟨o,es,ep,e,r⟩:=hn;⟨o,es,ep,Heap.get?_push_of_some _ (Heap.get?_push_of_some _ e),r⟩
 have hget:((h.push { cls:=.type "tuple",data:=.seq rest.toArray }).push
   { cls:=.ref C,data:=.fields #[.ref h.objs.size,.none,.none,.none,.bool false,.none] }).get? (h.objs.size+1)=some
   { cls:=.ref C,data:=.fields #[.ref h.objs.size,.none,.none,.none,.bool false,.none] }:=by heap_get
 have hcC:(Value.ref C::bm).contains (.ref C)=true:=by simp
 have T₁:=T.keeps (h':=(h.push { cls:=.type "tuple",data:=.seq rest.toArray }).push { cls:=.ref C,data:=.fields #[.ref h.objs.size,.none,.none,.none,.bool false,.none] })
  λb o e=>Heap.get?_push_of_some _ (Heap.get?_push_of_some _ e)
 unfold isInstance
 repeat (first|with_reducible refine wpAny_loadPart_at hget ?_|(with_reducible refine wpAny_isSubtype_exc hC₁ ?_;rw[hcC])|wp_step)
 show wpAny _ _ (typeLookup (.ref C) _) _ _ _;refine wpAny_typeLookup_tail hC₁ hn₁ T₁ F.mroIs F.init.lookup ?_;rw[hi];refine wpAny_holding (wpAny_bind ?_);unfold bindSpecial;refine wpAny_bind (wpAny_typeOf (T:="function") ⟨_,hfI₁,hfc⟩ ?_)
 rw[if_pos (by decide)]
 refine wpAny_pure (wpAny_bind (wpAny_mono (hq _ (h.objs.size+1) ⟨λb o hb=>Heap.get?_push_of_some _ (Heap.get?_push_of_some _ hb),Heap.get?_none_of_le (Nat.le_succ _),h.objs.size,hget,Heap.get?_none_of_le (Nat.le_refl _),?_⟩) (λr s' hr=>?_) λ_ _ x=>x))
 ·exact Heap.get?_push_of_some _ (Heap.get?_push_at rfl rfl)
 ·obtain⟨rfl,hQ⟩:=hr
  wp_walk
  exact hQ
theorem zb8(Fn:ExcBaseFacts Bn newId inN bmN)(hBn:bmB.contains (.type Bn)=true)(F:ExcBaseFacts B nid initId bmB)(T:OwnTail h bmB bm){mN:Str->Option Value}{rest:List Value}{fI:Addr}{oI:Obj}{Q:Value->Shared->Prop}
  (hC:h.get? C=some (excClassObj nm q C N bs bm hdct sn sub ab col dd k0 k1 k2 k3 k5 newId)) (hn:h.Ns N mN) (hi:mN "__init__"=some (.ref fI)) (hfI:h.get? fI=some oI) (hfc:oI.cls=.type "function")
  (hq:∀h' e,Heap.MadeExcOf h h' e (.ref C) rest->wpAny (model prog w) (A.under (.builtin "type.__call__" ⟨.ref C::rest,[]⟩)) (call (.ref fI) (.ref e::rest)) (λr s'=>r=.none/\Q (.ref e) s') E ⟨h',g,d,t,os⟩) (hrest:rest.length<=sizeLine:=by size_fits) :
  wpAny (model prog w) A (call (.ref C) rest) Q E ⟨h,g,d,t,os⟩:=by
 have f1:=tc_lookup;have f2:=tc_bind (.ref C);have hT:(⟨h,g,d,t,os⟩:Shared).TypeIs (.ref C) "type":=⟨_,hC,rfl⟩;refine wpAny_call (codeAny_of_tree ?_);show wpAny _ _ (callAny (.ref C) _) _ _ _
 repeat (any_goals (first|assumption|with_reducible refine wpAny_loadPart_at hC ?_|wp_step))
 refine⟨rfl,?_⟩
 refine codeAny_call_builtin_at (Code.quiet_builtin _ (by decide +kernel)) entry_typeCall (wpAny_check_type_call_sub hC (WV (hrest:=hrest) Fn hBn F T hC hn hi hfI hfc λh' e hm=>?_))
 exact hq h' e hm
end
section
variable {prog:Program}{w:World}{A:Around}{E:Value->Shared->Prop}{s:Shared}{env:Env}
variable {nm q:Str}{C N:Addr}{bs bm bmB:List Value}{hdct:Bool}{sn:List Str}{sub:List Value}{ab:Bool}{col:Option Bool}{dd:Option Addr}{k0 k1 k2 k3 k5:Option Value}{B Bn newId nid initId inN:String}{bmN:List Value}
theorem zaf{x:Sem Value}{Q:Flow->Shared->Prop}(hbase:bm.contains (.type "BaseException")=true)(hh:A.handled=none)
  (h:wpAny (model prog w) A x (λv s₁=>∃e t oe,v=.ref e/\s₁.heap.get? C=some (excClassObj nm q C N bs bm hdct sn sub ab col dd k0 k1 k2 k3 k5 newId) /\
   s₁.heap.get? e=some oe/\oe.cls=.ref C/\oe.data=.fields #[.ref t,.none,.none,.none,.bool false,.none]/\E (.ref e) s₁) E s) :
  wpAny (model prog w) A (raiseStmt env (some x) none) Q E s:=by
 have hcB:(Value.ref C::bm).contains (.type "BaseException")=true:=by rw[List.contains_cons,hbase,Bool.or_true]
 unfold raiseStmt;refine wpAny_bind (wpAny_mono h (λv s₁ h₁=>?_) λ_ _ x=>x);obtain⟨e,t,oe,rfl,hC,he,hcl,hda,hE⟩:=h₁;obtain⟨hp,g,d,tk,os⟩:=s₁;obtain⟨oc,od,oda,osl⟩:=oe;dsimp only at hcl hda;subst hcl;subst hda
 repeat (first|with_reducible refine wpAny_loadPart_at he ?_|with_reducible refine wpAny_loadPart_at hC ?_|(with_reducible refine wpAny_isSubtype_exc hC ?_;rw[hcB])|wp_step)
 exact wpAny_raiseNew_none hh hE
theorem zbK(Fn:ExcBaseFacts Bn newId inN bmN)(hBn:bmB.contains (.type Bn)=true)(F:ExcBaseFacts B nid initId bmB){mN:Str->Option Value}{x:Str}{np cpos pos:Pos}{args:List Expr}{fI:Addr}{Q:Flow->Shared->Prop}
  (hbase:bm.contains (.type "BaseException")=true) (hh:A.handled=none) (hplain:(backTo cpos (starEach args env)).any (·.1)=false) (hi:mN "__init__"=some (.ref fI))
  (h:wpAny (model prog w) A (eval (.Name x np) env) (λf s₁=>f=.ref C/\wpAny (model prog w) A (evalArgs (.ref C) true (backTo cpos (starEach args env)) [])
   (λa s₂=>a.kw=[]/\a.pos.length<=sizeLine/\s₂.heap.get? C=some (excClassObj nm q C N bs bm hdct sn sub ab col dd k0 k1 k2 k3 k5 newId)/\s₂.heap.Ns N mN/\OwnTail s₂.heap bmB bm/\(∃oI,s₂.heap.get? fI=some oI/\oI.cls=.type "function") /\
    ∀h' e,Heap.MadeExcOf s₂.heap h' e (.ref C) a.pos->wpAny (model prog w) (A.under (.builtin "type.__call__" ⟨.ref C::a.pos,[]⟩)) (call (.ref fI) (.ref e::a.pos)) (λr s₃=>r=.none/\∃t oe,
     s₃.heap.get? C=some (excClassObj nm q C N bs bm hdct sn sub ab col dd k0 k1 k2 k3 k5 newId)/\s₃.heap.get? e=some oe/\oe.cls=.ref C/\oe.data=.fields #[.ref t,.none,.none,.none,.bool false,.none]/\E (.ref e) s₃) E { s₂ with heap:=h' }) E s₁) E s) :
  wpAny (model prog w) A (exec (.Raise (some (.Call (.Name x np) args [] cpos)) none pos) env) Q E s:=by
 rw[arm_exec_Raise];refine wpAny_bind (wpAny_standAt (zaf (C:=C) (nm:=nm) (q:=q) (N:=N) (bs:=bs) (bm:=bm) (hdct:=hdct) (sn:=sn) (sub:=sub) (ab:=ab) (col:=col) (dd:=dd) (k0:=k0) (k1:=k1) (k2:=k2) (k3:=k3) (k5:=k5) (newId:=newId) hbase hh (wpAny_bind (wpAny_mono (wpAny_Call_ofName (wpAny_mono h (λf s₁ h₁=>?_) λ_ _ x=>x)) (λv s₃ h₃=>wpAny_bind (wpAny_standAt (wpAny_pure h₃))) λ_ _ x=>x))));obtain⟨rfl,h₁⟩:=h₁;unfold callWith;refine wpAny_bind (wpAny_holding (wpAny_mono h₁ (λa s₂ h₂=>wpAny_bind (wpAny_standAt ?_)) λ_ _ x=>x));obtain⟨apos,akw⟩:=a;obtain⟨hkw,hlen,hC,hn,T,⟨oI,hI,hIc⟩,h₂⟩:=h₂;obtain rfl:akw=[]:=hkw;obtain⟨hp,g,d,tk,os⟩:=s₂;simp only[hplain];refine wpAny_bind (wpAny_keeperOf_exc hC ?_);refine wpAny_bind (zb8 (hrest:=hlen) Fn hBn F T hC hn hi hI hIc λh' e hm=>wpAny_mono (h₂ h' e hm) (λr s₃ ⟨h1,t,oe,h2,h3,h4,h5,h6⟩=>⟨h1,wpAny_bind (wpAny_holding (wpAny_point (wpAny_pure ?_)))⟩) λ_ _ z=>z);exact⟨e,t,oe,rfl,h2,h3,h4,h5,h6⟩
end
end TX
namespace PySem.W
open PySem PySem.Spec PySem.Calls PyProof.Rows Builtin Builtin.ObjectAttr Builtin.Getset_descriptor
section
variable {prog:Program}{w:World}{A:Around}{E:Value->Shared->Prop}{h:Heap}{g:Array GenState}{d:Drawn}{t:Nat}{os:OsState}{K:Frag}
variable {nm q:Str}{C N e:Addr}{o:Obj}{bs bm:List Value}{hdct:Bool}{sn:List Str}{sub:List Value}{ab:Bool}{col:Option Bool}{dd:Option Addr}{k0 k1 k2 k3 k5:Option Value}{newId:String}{name:Str}{v:Value}
abbrev bmV:List Value:=[.type "ValueError",.type "Exception",.type "BaseException",.type "object"]
theorem zci{M:Model}{nameV:Value}{Q:Unit->Shared->Prop}(hC:h.get? C=some (excClassObj nm q C N bs bm hdct sn sub ab col dd k0 k1 k2 k3 k5 newId))(hb:bm.contains (.type "BaseException")=true)
  (hx:h.get? e=some o) (hc:o.cls=.ref C) (hq:Q () ⟨h,g,d,t,os⟩):wpAny M A (checkBuiltinCall "BaseException.__getattribute__" ⟨[.ref e,nameV],[]⟩) Q E ⟨h,g,d,t,os⟩:=by
 have hk:builtinKind "BaseException.__getattribute__"=some .slot:=by decide +kernel
 have hsplit:splitId "BaseException.__getattribute__"=some ("BaseException","__getattribute__"):=by decide +kernel
 have hcB:(Value.ref C::bm).contains (.type "BaseException")=true:=by rw[List.contains_cons,hb];simp
 have ha:=F.args_bexc_ga (.ref e) nameV;simp only[checkBuiltinCall,hk,hsplit];refine wpAny_bind ?_;unfold isInstance
 repeat (first|(with_reducible refine wpAny_loadPart_at hx ?_;rw[hc])|(with_reducible refine wpAny_isSubtype_exc hC ?_;rw[hcB])|wp_step)
 exact hq
theorem xga_by{tk:Tok}{fill expr:Bool}{Q:Value->Shared->Prop}(X:K.In h)(hC:h.get? C=some (excClassObj nm q C N bs bm hdct sn sub ab col dd k0 k1 k2 k3 k5 newId))(hb:bm.contains (.type "BaseException")=true)
  (hx:h.get? e=some o) (hc:o.cls=.ref C) (hga:findIn K (.ref C) "__getattribute__"=some (some (.builtin "BaseException.__getattribute__"))) (hk:findIn K (.ref C) "__getattr__"=some none)
  (hq:∀A':Around,wpAny (model prog w) A' (Builtin.«object.__getattribute__» ⟨[.ref e,.str name tk],[]⟩) (λfin s'=>match fin with|.done (.ret v)=>wpAny (model prog w) A (handedOut v) Q E s'|_=>False) (λ_ _=>False) ⟨h,g,d,t,os⟩) :
  wpAny (model prog w) A (getAttrBy (.ref e) (.str name tk) fill expr) Q E ⟨h,g,d,t,os⟩:=by
 have L1:=looks_findIn (M:=model prog w) X hga;have L2:=looks_findIn (M:=model prog w) X hk
 have hx0:(expr&&onTheHeap (Value.builtin "BaseException.__getattribute__"))=false:=by cases expr <;> rfl
 have hx2:(Value.builtin "BaseException.__getattribute__"==Value.builtin "object.__getattribute__")=false:=by decide +kernel
 have hx1:(onTheHeap (Value.ref C)&&Value.builtin "BaseException.__getattribute__"==Value.builtin "object.__getattribute__")=false:=by rw[hx2];rfl
 have hcB:(Value.ref C::bm).contains (.type "BaseException")=true:=by rw[List.contains_cons,hb];simp
 have L0:=tyx (M:=model prog w) hx hc;unfold getAttrBy;refine wpAny_holding (wpAny_bind (L0.at (wpAny_bind (L1.at ?_))));dsimp only
 rw[if_neg (by rw[hx1];decide)]
 unfold getAttrByItsOwn;refine wpAny_bind ?_;show wpAny _ _ (typeLookup (.ref C) "__getattr__") _ _ _;refine L2.at (wpAny_bind (wpAny_attempt (wpAny_holding ?_)));unfold callGetattribute
 rw[if_neg (by rw[hx0];decide)]
 unfold boundAndCalled;refine wpAny_bind (wpAny_of_eq (F.excAttr_ValueError.ga.bind (.ref e)) ?_);refine wpAny_call (codeAny_call_builtin F.excAttr_ValueError.ga.plain F.entry_bexc_ga (zci hC hb hx hc ?_));refine wpAny_mono (hq _) (λfin s' z=>?_) λ_ _ z=>z.elim
 rcases fin with (_|_|_|_)|_ <;> first|exact z.elim|exact z
theorem zeT{tk:Tok}{a gg:Value}{Q:Fin->Shared->Prop}(X:K.In h)(hx:h.get? e=some o)(hc:o.cls=.ref C)(ha:findIn K (.ref C) name=some (some a))(hg:specialIn K a "__get__"=some (some gg))(ht:takesIn K a=some true)
  (hq:wpAny (model prog w) A (call gg [a,.ref e,.ref C]) (λv s'=>Q (.done (.ret v)) s') E ⟨h,g,d,t,os⟩) :
  wpAny (model prog w) A (Builtin.«object.__getattribute__» ⟨[.ref e,.str name tk],[]⟩) Q E ⟨h,g,d,t,os⟩:=by
 have L0:=tyx (M:=model prog w) hx hc;have L1:=ziX (M:=model prog w) (x:=e) X ha hg ht;refine wpAny_bind (wpAny_pure (wpAny_bind (wpAny_pure (wpAny_bind (L0.at (wpAny_bind (L1.at ?_)))))));show wpAny _ _ (holding [a] (call gg [a,.ref e,.ref C])>>=ret) _ _ _;exact wpAny_bind (wpAny_holding (wpAny_mono hq (λv s' z=>wpAny_pure z) λ_ _ z=>z))
theorem oga_own{tk:Tok}{dx:Addr}{mA:Str->Option Value}{Q:Fin->Shared->Prop}(X:K.In h)(hC:h.get? C=some (excClassObj nm q C N bs bm true sn sub ab col dd k0 k1 k2 k3 k5 newId))(hx:h.get? e=some o)(hc:o.cls=.ref C)(hnc:∀c,o.data≠.cls c)(ha:findIn K (.ref C) name=some none)
  (hdx:o.dict=some dx) (hns:h.Ns1 dx mA) (hv:mA name=some v) (hq:Q (.done (.ret v)) ⟨h,g,d,t,os⟩) :
  wpAny (model prog w) A (Builtin.«object.__getattribute__» ⟨[.ref e,.str name tk],[]⟩) Q E ⟨h,g,d,t,os⟩:=by
 have L0:=tyx (M:=model prog w) hx hc;have L1:=looks_findIn (M:=model prog w) X ha;refine wpAny_bind (wpAny_pure (wpAny_bind (wpAny_pure (wpAny_bind (L0.at (wpAny_bind ?_))))));unfold find;refine wpAny_bind (L1.at (wpAny_bind (wpAny_pure (wpAny_bind (wpAny_pure ?_)))));show wpAny _ _ (ownThenClass _ _ _ _) _ _ _;unfold ownThenClass inOwnDict Builtin.ObjectAttr.ownDict
 repeat (first|(with_reducible refine wpAny_loadPart_at hx ?_;try rw[hc])|wp_step)
 split
 ·rename_i c hcd
  exact absurd hcd (hnc c)
 unfold instanceDict
 repeat (first|(with_reducible refine wpAny_loadPart_at hx ?_;rw[hc])|with_reducible refine wpAny_loadPart_at hC ?_|wp_step)
 rw[hdx]
 repeat (first|(with_reducible refine wpAny_nsGet hns.ns ?_;rw[hv])|wp_step)
 exact hq
theorem kitx_xc(qB:ktsIn K C "BaseException"=true)(hga:findIn K (.ref C) "__getattribute__"=some (some (.builtin "BaseException.__getattribute__")))(hk:findIn K (.ref C) "__getattr__"=some none)(hdct:(clsIn K C).isSome=true)(ha:findIn K (.ref C) "__class__"=some (some (.builtin "object.__class__")))
  (hn:specialIn K (.builtin "object.__class__") "__get__"=some (some (.builtin "getset_descriptor.__get__"))) (htk:takesIn K (.builtin "object.__class__")=some true) (hm:mroIn K C (.type "object")=some true) :
  KitX K (.ref e) (.ref C) (λh=>∃o,h.get? e=some o/\o.cls=.ref C) where
 ty:=λ_ _ _ ⟨_,h1,h2⟩=>tyx h1 h2
 it:=λ_ _ X _=>by
  obtain⟨cdD,hcD⟩:=Option.isSome_iff_exists.mp hdct;unfold clsIn at hcD;split at hcD
  ·rename_i c' d' cd' sl' ho
   intro A' Q' E' s' k q;unfold isType loadHead;exact wpAny_bind (wpAny_loadPart (k _ _ (X _ _ ho)) (wpAny_pure q))
  ·cases hcD
 ne:=λh tp dd its n sl X htp=>by
  obtain⟨cdD,hcD⟩:=Option.isSome_iff_exists.mp hdct;refine Bool.eq_false_iff.mpr λq=>?_;have e:C=tp:=Value.ref.inj (beq_iff_eq.mp q);subst e;unfold clsIn at hcD;split at hcD
  ·rename_i c' d' cd' sl' ho
   have z:=(X _ _ ho).symm.trans htp;cases z
  ·cases hcD
 ca:=λ{prog w A E Q s} X ⟨o,h1,h2⟩ k=>by
  obtain⟨hh,g,d,t,os⟩:=s;obtain⟨nm,q',Na,bs,bm,hdct,sn,sub,ab,col,dd,k0,k1,k2,k3,k5,newId,hC,hbase,hbT⟩:=kts_cls X qB;unfold getAttr? getAttrBy?;refine wpAny_bind (wpAny_mkText (wpAny_bind (wpAny_attempt ?_)));refine xga_by X hC hbT h1 h2 hga hk λA'=>zeT X h1 h2 ha hn htk (wpAny_call (zh3 (s:=⟨hh,g,d,t+1,os⟩) X h1 h2 hm ?_));exact handed_on rfl (wpAny_pure k)
end
end PySem.W
namespace PySem.W
open PySem PySem.Spec PySem.Calls PyProof.Rows Builtin Builtin.ObjectAttr
section
variable {prog:Program}{w:World}{A:Around}{E:Value->Shared->Prop}{h:Heap}{g:Array GenState}{d:Drawn}{t:Nat}{os:OsState}{K:Frag}
variable {nm q:Str}{C N e B:Addr}{o:Obj}{bs bm:List Value}{hdct:Bool}{sn:List Str}{sub:List Value}{ab:Bool}{col:Option Bool}{dd:Option Addr}{k0 k1 k2 k3 k5:Option Value}{newId:String}{name:Str}{v:Value}
theorem base_init{rest:List Value}{Q:Value->Shared->Prop}{t0:Addr}(T:OwnTail h bmV bm)(hC:h.get? C=some (excClassObj nm q C N bs bm hdct sn sub ab col dd k0 k1 k2 k3 k5 newId))
  (hx:h.get? e=some o) (hc:o.cls=.ref C) (hd:o.data=.fields #[.ref t0,.none,.none,.none,.bool false,.none]) (hrest:rest.length<=sizeLine)
  (hq:∀h' tp,(∀b u,b≠e->h.get? b=some u->h'.get? b=some u)->h.get? tp=none->h'.get? e=some { o with data:=.fields #[.ref tp,.none,.none,.none,.bool false,.none] }->Q .none ⟨h',g,d,t,os⟩) :
  wpAny (model prog w) A (call (.builtin "ValueError.__init__") (.ref e::rest)) Q E ⟨h,g,d,t,os⟩:=by
 have F:=PySem.F.excBase_ValueError;obtain⟨oc,od,oda,osl⟩:=o;dsimp only at hc hd;subst hc;subst hd;refine wpAny_call (codeAny_call_builtin F.init.plain F.initEntry (wpAny_check_init_subU F T hC hx rfl ?_))
 wp_walk
 refine hq _ h.objs.size (λb u hb hu=>?_) (Heap.get?_none_of_le (Nat.le_refl _)) ?_
 ·rw[Heap.get?_update_other _ _ (Ne.symm hb)]
  exact Heap.get?_push_of_some _ hu
 ·rw[Heap.get?_update_self _ (Heap.get?_push_of_some _ hx) rfl]
  rfl
theorem zbs{tk:Tok}{Q:Fin->Shared->Prop}(X:K.In h)(hC:h.get? C=some (excClassObj nm q C N bs (.ref B::bmV) true sn sub ab col dd k0 k1 k2 k3 k5 newId))(ha:findIn K (.ref C) name=some none)
  (hx:h.get? e=some o) (hc:o.cls=.ref C) (hnc:∀c,o.data≠.cls c) (hdn:o.dict=none)
  (hq:∀h' dx tk',(∀b u,b≠e->h.get? b=some u->h'.get? b=some u)->h.get? dx=none->dx≠e->h'.get? e=some { o with dict:=some dx }->h'.Ns1 dx (λy=>if y=name then some v else none)->Q (.done (.ret .none)) ⟨h',g,d,tk',os⟩) :
  wpAny (model prog w) A (Builtin.«object.__setattr__» ⟨[.ref e,.str name tk,v],[]⟩) Q E ⟨h,g,d,t,os⟩:=by
 have hpass:=PySem.F.store_ValueError.passes (.ref e);have L1:=looks_findIn (M:=model prog w) X ha;unfold Builtin.«object.__setattr__»
 repeat (first|rw[refuse_eq]|(rw[refuseLoop_ref,refuseLoop_ref,hpass])|(with_reducible refine wpAny_loadPart_at hx ?_;rw[hc])|with_reducible refine wpAny_mroOf_exc hC ?_|with_reducible refine Looks.at L1 ?_|wp_step)
 rw[hdn,if_neg (by simp[typeHasDict])]
 split
 ·rename_i hcd
  cases hcd
 split
 ·rename_i c hcd
  exact absurd hcd (hnc c)
 ·have hx₁:(h.push { cls:=.type "dict",data:=.dict #[] }).get? e=some o:=Heap.get?_push_of_some _ hx
  have hxs:e≠h.objs.size:=Nat.ne_of_lt (Heap.lt_size hx);refine wpAny_bind (wpAny_alloc' ?_);refine wpAny_bind (wpAny_update' hx₁ ?_);refine wpAny_pure ?_
  have hgd:((h.push { cls:=.type "dict",data:=.dict #[] }).update e λo=>{ cls:=o.cls,dict:=some h.objs.size,data:=o.data,slots:=o.slots }).get? h.objs.size
    = some { cls:=.type "dict",data:=.dict #[] } :=
   (Heap.get?_update_ne _ _ _ _ hxs.symm).trans (Heap.get?_push_at rfl rfl)
  have hnd:((h.push { cls:=.type "dict",data:=.dict #[] }).update e λo=>{ cls:=o.cls,dict:=some h.objs.size,data:=o.data,slots:=o.slots }).Ns h.objs.size (λ_=>none) :=
   ⟨_,#[],_,hgd,rfl,λe he=>absurd he (by simp),λ_=>rfl⟩
  show wpAny _ _ (storeInDict h.objs.size (.str name tk) name v) _ _ _;unfold storeInDict newKeyGuard;refine wpAny_bind (wpAny_pure (wpAny_bind (wpAny_nsSet1 (Heap.Ns1.of_empty hnd) λh' hn' hs=>?_)));obtain⟨oD,esD,epD,hoD,hdD,hcD⟩:=hn'.count (Within.cons name v Within.nil)
  refine wpAny_bind (wpAny_lookBehind hoD (by rw[hdD];exact pastItsLine_dict (Nat.le_trans hcD (by rw[List.length_cons,List.length_nil,sizeLine_eq];omega))) ?_)
  wp_walk
  have hx':h'.get? e=some { cls:=o.cls,dict:=some h.objs.size,data:=o.data,slots:=o.slots }:=by
   refine(hs.2 e hxs).trans (Heap.get?_update_self _ hx₁ ?_);have hfr:=(Heap.get?_some_iff.mp hx).2;obtain⟨oc,od,odt,osl⟩:=o
   cases odt <;> first|rfl|exact hfr
  exact hq h' h.objs.size _ (λb u hb hu=>(hs.2 b (Nat.ne_of_lt (Heap.lt_size hu))).trans ((Heap.get?_update_ne _ _ _ _ hb).trans (Heap.get?_push_of_some _ hu))) (Heap.get?_none_of_le (Nat.le_refl _)) hxs.symm hx' hn'
theorem xset_attr{Q:Unit->Shared->Prop}(X:K.In h)(hC:h.get? C=some (excClassObj nm q C N bs (.ref B::bmV) true sn sub ab col dd k0 k1 k2 k3 k5 newId))(hsa:findIn K (.ref C) "__setattr__"=some (some (.builtin "object.__setattr__")))(ha:findIn K (.ref C) name=some none)
  (hx:h.get? e=some o) (hc:o.cls=.ref C) (hnc:∀c,o.data≠.cls c) (hdn:o.dict=none)
  (hq:∀h' dx tk',(∀b u,b≠e->h.get? b=some u->h'.get? b=some u)->h.get? dx=none->dx≠e->h'.get? e=some { o with dict:=some dx }->h'.Ns1 dx (λy=>if y=name then some v else none)->Q () ⟨h',g,d,tk',os⟩) :
  wpAny (model prog w) A (setAttr (.ref e) name v) Q E ⟨h,g,d,t,os⟩:=by
 have SF:=PySem.F.store_ValueError;have f3:=SF.slot.bind (.ref e);have L0:=tyx (M:=model prog w) hx hc;have L1:=looks_findIn (M:=model prog w) X hsa
 have hcB:(Value.ref C::.ref B::bmV).contains (.type "object")=true:=by simp
 have chk:∀{M:Model} {A:Around} {E:Value->Shared->Prop} {Q:Unit->Shared->Prop} {nameV:Value} {t:Nat},Q () ⟨h,g,d,t,os⟩->wpAny M A (checkBuiltinCall "object.__setattr__" ⟨[.ref e,nameV,v],[]⟩) Q E ⟨h,g,d,t,os⟩:=λ{M A E Q nameV t} hq=>by
  have ha:=SF.args (.ref e) nameV v;simp only[checkBuiltinCall,SF.kind,SF.split];refine wpAny_bind ?_;unfold isInstance
  repeat (first|(with_reducible refine wpAny_loadPart_at hx ?_;rw[hc])|(with_reducible refine wpAny_isSubtype_exc hC ?_;rw[hcB])|wp_step)
  exact hq
 unfold setAttr callSpecial? specialOf
 repeat (any_goals (first|assumption|(with_reducible refine wpAny_loadPart_at hx ?_;rw[hc])|with_reducible refine Looks.at L1 ?_|wp_step))
 refine codeAny_call_builtin SF.slot.plain SF.entry (chk (zbs X hC ha hx hc hnc hdn λh' dx tk' h1 h2 h3 h4 h5=>?_))
 repeat (any_goals (first|assumption|wp_step))
 exact hq h' dx tk' h1 h2 h3 h4 h5
end
end PySem.W
namespace TX
open PySem PySem.Spec PyProof.Rows L2
theorem zgt{K:PySem.W.Frag}{h:Heap}{N:Addr}{mN:Str->Option Value}{n:Str}{v:Value}(X:K.In h)(G:h.Ns N mN)(e:PySem.W.nsIn K N n=some (some v)):mN n=some v:=by
 obtain⟨o,es,ep,ho,hd,_,hf⟩:=G;unfold PySem.W.nsIn at e;split at e
 ·rename_i c d es' n' sl q
  have:=X _ _ q;rw[ho] at this;cases this;cases hd;split at e
  ·rename_i en he
   cases e;rw[<-hf];unfold nsFind findBy;rw[<-Array.find?_toList,he];rfl
  ·split at e <;> cases e
 ·cases e
def zd7(C e:Addr):HO:=.ext λh=>∃o tp,h.get? e=some o/\o.cls=.ref C/\o.dict=none/\o.data=.fields #[.ref tp,.none,.none,.none,.bool false,.none]
def zfa(C e dx:Addr):HO:=.ext λh=>∃o tp,h.get? e=some o/\o.cls=.ref C/\o.dict=some dx/\o.data=.fields #[.ref tp,.none,.none,.none,.bool false,.none]
theorem zdH{P:Program}{w:World}{H:Hp}{h:Heap}{C e:Addr}{o:Obj}{tp:Addr}(ho:h.get? e=some o)(hc:o.cls=.ref C)(hd:o.dict=none)(hf:o.data=.fields #[.ref tp,.none,.none,.none,.bool false,.none]):Zt P w H h e (zd7 C e) :=
 ⟨⟨o,tp,ho,hc,hd,hf⟩,⟨o,ho⟩,λh1 h2 ⟨u,t,a,b⟩ k=>⟨u,t,k _ a,b⟩⟩
theorem zgO{P:Program}{w:World}{H:Hp}{h:Heap}{C e dx:Addr}{o:Obj}{tp:Addr}(ho:h.get? e=some o)(hc:o.cls=.ref C)(hd:o.dict=some dx)(hf:o.data=.fields #[.ref tp,.none,.none,.none,.bool false,.none]):Zt P w H h e (zfa C e dx) :=
 ⟨⟨o,tp,ho,hc,hd,hf⟩,⟨o,ho⟩,λh1 h2 ⟨u,t,a,b⟩ k=>⟨u,t,k _ a,b⟩⟩
def zd5(H:Hp)(e:Addr):Hp:=λb=>if b=e then none else H b
theorem jW{H:Hp}{e:Addr}:zd5 H e e=none:=if_pos rfl
theorem Yx{H:Hp}{e b:Addr}(n:b≠e):zd5 H e b=H b:=if_neg n
def WE(K:PySem.W.Frag)(C B fI:Addr):Bool:=match K.lookup C with
 | some ⟨.type "type",_,.cls cd,sl⟩=>(match cd.mro,sl.toList with
  | .ref C'::bm,[_,_,_,_,some (.builtin n),_]=>C'==C&&n=="ValueError.__new__"&&!cd.hasDel&&(bm==.ref B::PySem.W.bmV)&&cd.hasDict&&PySem.W.tailIn K PySem.W.bmV bm&&PySem.W.nsOkIn K cd.ns&&PySem.W.nsIn K cd.ns "__init__"==some (some (.ref fI))
  | _,_=>false)
 | _=>false
theorem jc{K:PySem.W.Frag}{C B fI:Addr}{h:Heap}(kin:K.In h)(q:WE K C B fI=true) :
  ∃(Na:Addr) (nm qn:Str) (bs:List Value) (sn:List Str) (sub:List Value) (ab:Bool) (col:Option Bool) (dd:Option Addr) (k0 k1 k2 k3 k5:Option Value) (mN:Str->Option Value),
   h.get? C=some (excClassObj nm qn C Na bs (.ref B::PySem.W.bmV) true sn sub ab col dd k0 k1 k2 k3 k5 "ValueError.__new__")/\h.Ns Na mN/\mN "__init__"=some (.ref fI)/\OwnTail h PySem.W.bmV (.ref B::PySem.W.bmV):=by
 unfold WE at q;split at q
 case h_2=>cases q
 case h_1 dd cl sl look =>
  split at q
  case h_2=>cases q
  case h_1 C2 bm k0 k1 k2 k3 nid k5 mro slots =>
   simp only[Bool.and_eq_true,beq_iff_eq,Bool.not_eq_true'] at q;obtain⟨⟨⟨⟨⟨⟨⟨q1,q2⟩,q3⟩,q4⟩,q5⟩,q6⟩,q7⟩,q8⟩:=q;subst q1;subst q2;subst q4;have there:=kin _ _ look;have own:=PySem.W.tail_of_in kin q6;have ns:h.Ns cl.ns (h.nsMap cl.ns):=.of_isNs (PySem.W.isNs_of_in kin q7);have no:=zgt kin ns q8;cases cl;have esl:sl=#[k0,k1,k2,k3,some (.builtin "ValueError.__new__"),k5]:=Array.toList_inj.mp slots;simp only at mro q3 q5 own ns no;subst esl;rw[mro,q3,q5] at there;exact⟨_,_,_,_,_,_,_,_,dd,k0,k1,k2,k3,k5,_,there,ns,no,own⟩
section
variable {X:Cx}{pins:List (Addr×Obj)}{σ:L2.St}{H:Hp}{s:Shared}
theorem zfT{e:Addr}{φ:Heap->Prop}(I:Inv X pins σ H s)(q:H e=some (.ext φ)):Inv X pins σ (zd5 H e) s:=by
 have ne:∀b u,H b=some u->u≠.ext φ->b≠e:=λb u h1 h2 z=>by rw[z,q] at h1;exact h2 (Option.some.inj h1).symm
 refine⟨I.ok,I.os,I.bare,⟨I.base.keep,I.base.slot,λb ob e1 n hx=>?_,I.base.there,λb xs e1=>?_,λb ob u e1=>?_,λb ps e1=>?_⟩,I.loc,I.cell,?_,λx c e1=>?_,λp hp=>?_,λb u e1=>?_,I.len⟩
 ·unfold zd5;split
  ·rfl
  ·exact I.base.free b ob e1 n hx
 ·have z:=I.base.tups b xs e1
  rw[Yx (ne b _ z (by intro h;cases h))];exact z
 ·have z:=I.base.frzs b ob u e1
  rw[Yx (ne b _ z (by intro h;cases h))];exact z
 ·obtain⟨more,z⟩:=I.base.tbls b ps e1
  exact⟨more,by rw[Yx (ne b _ z (by intro h;cases h))];exact z⟩
 ·unfold zd5;split
  ·rfl
  ·exact I.free
 ·unfold zd5;split
  ·rfl
  ·exact I.freeC x c e1
 ·obtain⟨a,b,c⟩:=I.pin p hp
  refine⟨a,?_,c⟩;unfold zd5;split
  ·rfl
  ·exact b
 ·by_cases hb:b=e
  ·rw[hb,jW] at e1;cases e1
  ·rw[Yx hb] at e1
   exact(I.hok b u e1).stay (λc v _ z=>z) (λc z=>by rw[Yx (ne c _ z (by intro h;cases h))];exact z) λc xs z=>by rw[Yx (ne c _ z (by intro h;cases h))];exact z
def zil(C:Addr)(t:TA):TE:=λσ H Q=>t σ H λvs H1=>∃e ys,vs=.ref e::ys/\ys.length<=100/\H1 e=some (zd7 C e)/\Q .non H1
theorem zg0{H:Hp}{e:Addr}{o:HO}(h:H e=some o):upd H e o=H:=by
 funext b
 by_cases hb:b=e
 ·rw[hb,ze,h]
 ·rw[zq hb]
theorem zgl{C B fI:Addr}{x:Str}{np apos pos:Pos}{a:Expr}{es:List Expr}{t:TA}{pl:Sem Bool}(qC:WE X.K C B fI=true)(hg:Gl X x)(hm:X.mg x=some (.ref B))(hgB:PySem.W.specialIn X.K (.ref B) "__getattribute__"=some (some (.builtin "type.__getattribute__")))
  (hrB:PySem.W.readsIn X.K B (.type "type")=true) (hfB:PySem.W.findCls X.K (.ref B) (.type "type") "__init__"=some (.val (.builtin "ValueError.__init__"))) (ha:PA X (a::es) t)
  (hd:(x==("__debug__":Str))=false:=by decide) (he:starEach (a::es) X.env=(false,eval a X.env)::starEach es X.env:=by rfl) (hpl:(backTo pos (starEach es X.env)).any (·.1)=false:=by rfl)
  (ht:eval (.Call (.Attribute (.Name x np) "__init__" apos) (a::es) [] pos) X.env=(do
   let ov <-eval (.Name x np) X.env
   standAt apos.atName
   let (f,first) <-holding [ov] (getMethod ov "__init__" pl)
   callWith pos f first (backTo pos (starEach (a::es) X.env)) (backToKw pos (keywordEach [] X.env))):=by rfl) :
  PE X (.Call (.Attribute (.Name x np) "__init__" apos) (a::es) [] pos) (zil C t):=by
 intro pins s σ H Q I h;refine PySem.W.methodCall_KW (pl:=pl) (YY I hg hm ?_ hd) ht;refine PySem.W.method_cls I.kIn hgB (PySem.W.cls_value (mc:=.type "type") I.kIn hrB hfB rfl ?_)
 have I0:Inv X pins σ H { s with toks:=s.toks+1 }:=I.tok _
 refine PyProof.Rows.callWith_builtin1 (thn (ha pos pins _ σ H _ I0 h) λus s1 ⟨vs,H1,I1,r1,q1⟩=>?_) he hpl;obtain⟨e,ys,rfl,hl,h1,hq⟩:=q1
 cases r1 with
 | cons ra rb =>
  obtain rfl:=(show _=Value.ref e from ra)
  obtain⟨Na,nm,qn,bs,sn,sub,ab,col,dd,k0,k1,k2,k3,k5,mN,hC,hN,hi,TL⟩:=jc I1.kIn qC;obtain⟨⟨o,tp,ho,hc,hdn,hf⟩,_⟩:=I1.hok e _ h1;obtain⟨hp,g,d,tk,os⟩:=s1
  refine PySem.W.base_init TL hC ho hc hf (by rw[<-rb.length,sizeLine_eq];omega) λh' tp' k1 k2 k3=>?_
  have I2:=I1.write (x:=e) (e:=e) (o:=zd7 C e) (h':=h') (t':=tk) (by rw[h1];exact True.intro) (.inl rfl) k1 ⟨_,k3⟩ (zdH k3 hc hdn rfl)
  rw[zg0 h1] at I2;exact⟨.non,H1,I2,rfl,hq⟩
def zhn(C:Addr)(ta tv:TE)(f:Str):TS:=λD σ H=>tv σ H λy H1=>ta σ H1 λx H2=>∃e,x=.ref e/\H2 e=some (zd7 C e)/\∀dx,H2 dx=none->dx≠e->D.nx σ (upd (upd H2 e (zfa C e dx)) dx (.xd [(f,y)]))
theorem zgi{C B fI:Addr}{o value:Expr}{f:Str}{pos pos':Pos}{ta tv:TE}(qC:WE X.K C B fI=true)(hsa:PySem.W.findIn X.K (.ref C) "__setattr__"=some (some (.builtin "object.__setattr__")))(hf:PySem.W.findIn X.K (.ref C) f=some none)(hex:X.ex=[])
  (ha:PE X o ta) (hv:PE X value tv) (hs:swapsWith value (some (.Attribute o f pos')) pos.line X.env=pure false):PS X (.Assign [.Attribute o f pos'] value pos) (zhn C ta tv f):=by
 intro pins s σ H D I h;refine plainObj_wpAny_Assign_Attribute (thn (hv pins s σ H _ I h) λu s1 ⟨y,H1,I1,ry,q⟩=>thn (ha pins s1 σ H1 _ I1 q) λov s2 ⟨x,H2,I2,rx,e,ex,h2,q2⟩=>?_) hs;subst ex;obtain rfl:ov=Value.ref e:=rx;obtain⟨Na,nm,qn,bs,sn,sub,ab,col,dd,k0,k1,k2,k3,k5,mN,hC,hN,hi,TL⟩:=jc I2.kIn qC;obtain⟨⟨ob,tp,ho,hc,hdn,hfl⟩,_⟩:=I2.hok e _ h2;obtain⟨hp,g,d,tk,os⟩:=s2
 refine PySem.W.xset_attr I2.kIn hC hsa hf ho hc (λc z=>by rw[hfl] at z;cases z) hdn λh' dx tk' k1 k2 k3 k4 k5=>?_
 have I3:=I2.write (x:=e) (e:=e) (o:=zfa C e dx) (h':=h') (t':=tk') (by rw[h2];exact True.intro) (.inl rfl) k1 ⟨_,k4⟩ (zgO k4 hc rfl hfl)
 have hnx:H2 dx=none:=HOk.none I2.hok k2
 have I4:Inv X pins σ (upd (upd H2 e (zfa C e dx)) dx (.xd [(f,y)])) ⟨h',g,d,tk',os⟩:=zfU I2 I3 hex k2 (by rw[zq k3];exact hnx) ⟨_,k5,λz=>by
  show WS (List.lookup z [(f,y)]) (if z=f then some u else none)
  by_cases hz:z=f
  ·subst hz;rw[if_pos rfl];simp only[List.lookup,beq_self_eq_true];exact ry
  ·rw[if_neg hz]
   have:(z==f)=false:=by simpa using hz
   simp only[List.lookup,this];exact True.intro⟩
 exact⟨σ,_,I4,q2 dx hnx k3⟩
end
end TX
namespace TX
open PySem PySem.Spec PyProof.Rows L2
section
variable {P:Program}{w:World}{K:PySem.W.Frag}{mg:Str->Option Value}{base:Heap}{N:List Str}{qual:Str}{scope:Scope}{f:Addr}{cd:Value}{A:Around}{outer:List Env}{s₀:Shared}{H₀:Hp}{E:XK}{C:Addr}{lo:Bool}
theorem zav{pins:List (Addr×Obj)}{σ:L2.St}{H:Hp}{s:Shared}{e dx:Addr}(I:Inv (cxb lo C P w K mg base N qual scope f cd A outer s₀ H₀ E) pins σ H s)(q:H e=some (zfa C e dx))(e0:s₀.heap.get? e=none)(hE:E (.ref C) (some dx) (zd5 H e)) :
  (cxb lo C P w K mg base N qual scope f cd A outer s₀ H₀ E).xe (.ref e) s:=by
 have hin:∀env∈(cxb lo C P w K mg base N qual scope f cd A outer s₀ H₀ E).stack,∀b,env.frame=some b->b∈[e]++frs (cxb lo C P w K mg base N qual scope f cd A outer s₀ H₀ E).stack:=λenv he b hb=>List.mem_append_right _ (List.mem_filterMap.mpr ⟨env,he,hb⟩);have I':=zfT (φ:=_) I q;obtain⟨⟨o,tp,ho,hc,hd,hf⟩,_⟩:=I.hok e _ q
 have hex:∀b∈[e],zd5 H e b=none/\s₀.heap.get? b=none:=λb hb=>by
  obtain rfl:=List.mem_singleton.mp hb;exact⟨jW,e0⟩
 have ff:=PySem.W.funFrames_hide I.stack hin
 refine zas (base:=PySem.W.hideAll s.heap ([e]++frs (cxb lo C P w K mg base N qual scope f cd A outer s₀ H₀ E).stack)) I.ok.frames ff rfl ho (λb o q=>PySem.W.of_hideAll _ q) (PySem.W.hideAll_none _ (by simp)) hf rfl rfl λh2 L=>?_
 have tr:=L.2.2.1;rw[hc,hd] at tr;refine left (ex:=[e]) (h1:=s.heap) I' rfl rfl (λb o q _=>q) L.1 L.2.2.2 hex ?_ hE;refine zdF (h:=s.heap) (ex:=[e]) (l:=(cxb lo C P w K mg base N qual scope f cd A outer s₀ H₀ E).stack) rfl ?_ tr (.inl rfl) jW hex e0 (λb q=>HOk.none I'.hok q) (zaM I')
 exact ff.of_keeps λb o q hn=>by
  obtain⟨sl,z⟩:=L.2.2.2 b o q hn;exact⟨_,z,rfl⟩
def zfV(E:XK)(C:Addr)(sp:Sp)(ta:TE):TS:=λ_ σ H=>ta σ H λy H1=>∀e,H1 e=none->sp [.ref e,y] (upd H1 e (zd7 C e)) (λv H2=>v=.non/\∃dx,H2 e=some (zfa C e dx)/\E (.ref C) (some dx) (zd5 H2 e)) λ_ _ _=>False
theorem zcS{x:Str}{np cpos pos:Pos}{a:Expr}{ta:TE}{k:Nat}{B fI:Addr}{fd:FuncData}{ps:List Str}{sp:Sp}(q:WE K C B fI=true)(hfn:PySem.W.isFn K (.ref fI)=true)(F:FnOk P w K mg base CX0 k fI fd ps sp)(hr:Room (k+1) (cxb lo C P w K mg base N qual scope f cd A outer s₀ H₀ E).A)(hb:qp K fd ps [])
  (hg:Gl (cxb lo C P w K mg base N qual scope f cd A outer s₀ H₀ E) x) (hm:mg x=some (.ref C)) (ha:PE (cxb lo C P w K mg base N qual scope f cd A outer s₀ H₀ E) a ta)
  (hd:(x==("__debug__":Str))=false:=by decide) (hs:starEach [a] (cxb lo C P w K mg base N qual scope f cd A outer s₀ H₀ E).env=[(false,eval a (cxb lo C P w K mg base N qual scope f cd A outer s₀ H₀ E).env)]:=by rfl) :
  PS (cxb lo C P w K mg base N qual scope f cd A outer s₀ H₀ E) (.Raise (some (.Call (.Name x np) [a] [] cpos)) none pos) (zfV E C sp ta):=by
 intro pins s σ H D I h;obtain⟨Na,nm,qn,bs,sn,sub,ab,col,dd,k0,k1,k2,k3,k5,mN,hC,hN,hi,TL⟩:=jc I.mod.kin q
 refine zbK (C:=C) (nm:=nm) (q:=qn) (N:=Na) (bs:=bs) (bm:=.ref B::PySem.W.bmV) (hdct:=true) (sn:=sn) (sub:=sub) (ab:=ab) (col:=col) (dd:=dd) (k0:=k0) (k1:=k1) (k2:=k2) (k3:=k3) (k5:=k5) (fI:=fI) PySem.F.excBase_ValueError (by decide) PySem.F.excBase_ValueError (mN:=mN) (by rw[List.contains_cons];simp) hr.hd (by rw[hs];rfl) hi (YY I hg hm ⟨rfl,?_⟩ hd)
 rw[hs];refine Calls.evalArgs_plain (Calls.spliced_cons (thn (ha pins s σ H _ I h) λv s1 ⟨y,H1,I1,r1,q1⟩=>Calls.spliced_nil ?_))
 have hfo:∃oI,s1.heap.get? fI=some oI/\oI.cls=.type "function":=by
  have z:=beq_iff_eq.mp hfn;obtain⟨o,ho,hc⟩:=Option.map_eq_some_iff.mp z;exact⟨o,I1.kIn _ _ ho,hc⟩
 refine⟨rfl,(by show 1<=sizeLine;decide),I1.bk _ _ hC,hN.keeps I1.bk,TL.keeps I1.bk,hfo,λh' e hx=>?_⟩
 have hne:H1 e=none:=HOk.none I1.hok hx.new;obtain⟨tp,htp,_,_⟩:=hx.there
 have Ik:Inv (cxb lo C P w K mg base N qual scope f cd A outer s₀ H₀ E) pins σ H1 { s1 with heap:=h' }:=I1.kept (t':=s1.toks) hx.keeps
 have I2:Inv (cxb lo C P w K mg base N qual scope f cd A outer s₀ H₀ E) pins σ (upd H1 e (zd7 C e)) { s1 with heap:=h' }:=zfU I1 Ik rfl hx.new hne (zdH htp rfl rfl rfl)
 have hsp:=q1 e hne
 have e0:s₀.heap.get? e=none:=by
  cases z:s₀.heap.get? e with
  | none=>rfl
  | some o=>obtain⟨o',z'⟩:=zaM I1 e o z;rw[hx.new] at z';cases z'
 have r2:Zg [.ref e,y] [Value.ref e,v]:=.cons rfl (.cons r1 .nil)
 have hl:[Value.ref e,v].length=ps.length:=by rw[<-r2.length];exact F.len _ _ _ _ hsp
 refine wpAny_call (codeAny_mono (F.run _ _ _ _ ⟨[Value.ref e,v],[]⟩ [Value.ref e,v] _ _ _ (hr.make C [v] []) (I2.env0.make C [v] []) (by simpa using hb _ [Value.ref e,v] I2.kIn (by simpa using hl)) r2 hsp) λr s3 hq=>?_)
 cases r with
 | error e=>exact False.elim hq
 | ok fl =>
  cases fl with
  | next=>exact False.elim hq
  | brk=>exact False.elim hq
  | cont=>exact False.elim hq
  | ret u =>
   obtain⟨z,H3,I3,r3,rfl,dx,h3,hE⟩:=I2.after hq
   obtain rfl:=(show u=Value.none from r3)
   obtain⟨⟨o,tp',ho,hc,hd',hf⟩,_⟩:=I3.hok e _ h3;exact⟨rfl,tp',o,I3.bk _ _ hC,ho,hc,hf,zav I3 h3 e0 hE⟩
end
end TX
namespace TX
open PySem PySem.Spec PyProof.Rows L2
structure XC(K:PySem.W.Frag)(C:Addr):Prop where
 kt:PySem.W.ktsIn K C "BaseException"=true
 ga:PySem.W.findIn K (.ref C) "__getattribute__"=some (some (.builtin "BaseException.__getattribute__"))
 gt:PySem.W.findIn K (.ref C) "__getattr__"=some none
 cl:(PySem.W.clsIn K C).isSome=true
 ca:PySem.W.findIn K (.ref C) "__class__"=some (some (.builtin "object.__class__"))
 hn:PySem.W.specialIn K (.builtin "object.__class__") "__get__"=some (some (.builtin "getset_descriptor.__get__"))
 tk:PySem.W.takesIn K (.builtin "object.__class__")=some true
 mr:PySem.W.mroIn K C (.type "object")=some true
section
variable {X:Cx}
def zka(K:PySem.W.Frag):List V->Hp->VK->Prop:=λxs H Q=>∃e c C cv b od cx,xs=[.ref e,c]/\(∀u,Zo c u->u=cv)/\H e=some (zie C e od cx)/\XC K C/\PySem.W.kitOne K (.ref C) cv=some b/\Q (.bl b) H
def isB(b:Bool):Value->Bool
 | .bool a=>a==b
 | _=>false
def ziE(K:PySem.W.Frag):V->List V->Hp->VK->Prop:=λx vs H Q=>∃(l:Addr) (bs:List Bool) (b:Bool),x=.ref l/\vs=[.bl b]/\SqL K H l (bs.map V.bl)/\Q (.int (bs.count b:Nat)) H
def ziC(K:PySem.W.Frag):V->List V->Hp->VK->Prop:=λx vs H Q=>∃(l:Addr) (bs:List Bool) (b:Bool),x=.ref l/\vs=[.bl b]/\SqL K H l (bs.map V.bl)/\b∈bs/\bs.length<=1000/\Q (.int (bs.idxOf b:Nat)) H
end
end TX
namespace TX
open PySem PySem.Spec PyProof.Rows L2
theorem zaH.full{P:Program}{w:World}{H:Hp}{h:Heap}{C e:Addr}{od:Option Addr}(x:HOk P w H h)(q:zaH H C e od):∃o fs,h.get? e=some o/\o.cls=.ref C/\o.dict=od/\o.data=.fields fs/\fs[2]?=some .none:=by
 obtain⟨o,fs,h1,h2,h3⟩:=q;exact(x e _ h3).2.1
theorem zaH.same{H H':Hp}{C e:Addr}{od:Option Addr}(q:zaH H C e od)(k:∀b o,H b=some o->H' b=some o):zaH H' C e od:=by
 obtain⟨o,fs,h1,h2,h3⟩:=q;exact⟨o,fs,h1,h2,k _ _ h3⟩
theorem zaH.upd{H:Hp}{C e a:Addr}{od:Option Addr}{o:HO}(q:zaH H C e od)(n:a≠e):zaH (L2.upd H a o) C e od:=by
 obtain⟨u,fs,h1,h2,h3⟩:=q
 exact⟨u,fs,h1,h2,by rw[zq (Ne.symm n)];exact h3⟩
section
variable {X:Cx}
def zjF(K:PySem.W.Frag):List V->Hp->VK->Prop:=λxs H Q=>∃e c C cv b od,xs=[.ref e,c]/\(∀u,Zo c u->u=cv)/\zaH H C e od/\XC K C/\PySem.W.kitOne K (.ref C) cv=some b/\Q (.bl b) H
theorem qj{ea:Addr}{xe:Value->Shared->Prop}:qo (cxS X ea xe) (.builtin "isinstance") (zjF X.K):=by
 intro pins s σ H xs us Q I r h;obtain⟨e,c,C,cv,b,od,rfl,hc,he,xc,k,q⟩:=h;obtain⟨u,w,rfl,rx,rc⟩:=zfR r;rw[hc w rc]
 obtain rfl:=(show u=Value.ref e from rx)
 obtain⟨o,fs,g1,g2,_⟩:=he.full I.hok;exact PySem.W.kia_one (PySem.W.kitx_xc xc.kt xc.ga xc.gt xc.cl xc.ca xc.hn xc.tk xc.mr) I.kIn ⟨o,g1,g2⟩ k (λz=>nomatch z) λtk=>⟨.bl b,H,I.tok tk,rfl,q⟩
def ziF(K:PySem.W.Frag)(e:Addr):List V->Hp->VK->Prop:=λxs H Q=>∃(p:Addr) (bs:List Bool) (C:Addr) (od:Option Addr),xs=[.ref p]/\SqL K H p (bs.map V.bl)/\zaH H C e od/\Q (.bl (bs.any id)) H
theorem zdX{e:Addr}{xe:Value->Shared->Prop}:qo (cxS X e xe) (.builtin "any") (ziF X.K e):=by
 intro pins s σ H xs us Q I r h;obtain⟨p,bs,C,od,rfl,hq,he,q⟩:=h;obtain⟨u,rfl,rx⟩:=JQ r;cases rx;obtain⟨its,r',pl,hz⟩:=I.list hq
 have hlt:p<s.heap.objs.size:=by obtain⟨o,e,_⟩:=pl.isList;exact Heap.lt_size e
 have hl:=r'.length;rw[List.length_map] at hl;obtain⟨oe,fe,ge,_,_,de,xe'⟩:=he.full I.hok;refine call_any_walk (wpAny_pyIter_list pl.isList ?_)
 refine⟨s.heap.objs.size,_,[s.heap.objs.size],_,_,_,λi=>bs.getD i false,rfl,qy (A:=(cxS X e xe).A.in1) s.heap.objs.size p e [(e,oe)] rfl (.inl ⟨oe,fe,rfl,de,xe'⟩) (λx hx=>by rw[List.mem_singleton.mp hx];exact Nat.ne_of_lt (Heap.lt_size ge)) (Nat.ne_of_lt hlt) its.toArray,
  ⟨⟨_,Heap.get?_push_size _ rfl,rfl,rfl⟩,pl.isList.push _,λx hx=>by rw[List.mem_singleton.mp hx];exact Heap.get?_push_of_some _ ge⟩,yE r',λh' tk hk=>?_⟩
 have e2:(List.range its.toArray.size).any (λi=>bs.getD i false)=bs.any id:=by
  rw[List.size_toArray,<-hl];exact j9 bs
 rw[e2]
 exact⟨.bl _,H,I.kept (t':=tk) λb o eb=>hk b o (by simpa using Nat.ne_of_lt (Heap.lt_size eb)) (Heap.get?_push_of_some _ eb),rfl,q⟩
theorem zfg{e:Addr}{xe:Value->Shared->Prop}:qo (cxS X e xe) (.builtin "isinstance") (zht X.K):=zZ
def zis(C:Addr)(ta:TE)(f:Str):TE:=λσ H Q=>ta σ H λx H1=>∃e dx fs v,x=.ref e/\zaH H1 C e (some dx)/\H1 dx=some (.xd fs)/\fs.lookup f=some v/\Q v H1
theorem wc{C B fI:Addr}{o:Expr}{f:Str}{pos:Pos}{ta:TE}(qC:WE X.K C B fI=true)(xc:XC X.K C)(hf:PySem.W.findIn X.K (.ref C) f=some none)(he:PE X o ta)(hb:attributeBase o f X.env (eval o X.env)=eval o X.env) :
  PE X (.Attribute o f pos) (zis C ta f):=by
 intro pins s σ H Q I h;refine zdY hb (thn (he pins s σ H _ I h) λu s1 ⟨x,H1,I1,rx,e,dx,fs,v,ex,h1,h2,h3,q⟩=>?_);subst ex;obtain rfl:u=Value.ref e:=rx;obtain⟨ob,fe,ho,hc,hd,hda,_⟩:=h1.full I1.hok;obtain⟨mA,hns,hrel⟩:=I1.hok dx _ h2;have hrf:=hrel f;rw[h3] at hrf
 cases hm:mA f with
 | none=>rw[hm] at hrf;exact hrf.elim
 | some u' =>
  rw[hm] at hrf;obtain⟨Na,nm,qn,bs,sn,sub,ab,col,dd,k0,k1,k2,k3,k5,mN,hC,hN,hi,TL⟩:=jc I1.kIn qC
  have I2:Inv X pins σ H1 { s1 with toks:=s1.toks+1 }:=I1.tok _
  obtain⟨hp,g,d,tk,os⟩:=s1;unfold getAttr;refine wpAny_bind (wpAny_mkText ?_)
  refine PySem.W.xga_by I1.kIn hC (by rw[List.contains_cons];simp) ho hc xc.ga xc.gt λA'=>PySem.W.oga_own I1.kIn hC ho hc (λc z=>by rw[hda] at z;cases z) hf hd hns hm ?_
  exact PySem.W.handed_on (Wz hrf) ⟨v,H1,I2,hrf,q⟩
def zhe(ea:Addr)(sp:Sp)(dvs:List V)(E:XK)(t:TA):TE:=λσ H Q=>t σ H λvs H1=>(∃C od,zaH H1 C ea od)/\sp (vs++dvs) H1 Q E
variable {k:Nat}{f:Addr}{fd:FuncData}{ps:List Str}{sp:Sp}{dvs:List V}{ds:List Value}{E:XK}{x:Str}{p pos:Pos}{e:Expr}{es:List Expr}{t:TA}
theorem zeG{ea:Addr}{xe:Value->Shared->Prop}(F:FnH X.prog X.w X.K X.mg X.base k f fd ps sp)(hr:RoomN k (cxS X ea xe).A)(hg:Gl (cxS X ea xe) x)(hm:X.mg x=some (.ref f))(hk:PySem.W.keepIn X.K (.ref f)=true)(hb:qp X.K fd ps ds)(hd:Zg dvs ds)
  (ha:PA (cxS X ea xe) (e::es) t) (hdb:(x==("__debug__":Str))=false:=by decide) (he:starEach (e::es) X.env=(false,eval e X.env)::starEach es X.env:=by rfl) (hpl:(backTo pos (starEach es X.env)).any (·.1)=false:=by rfl) :
  PE (cxS X ea xe) (.Call (.Name x p) (e::es) [] pos) (zhe ea sp dvs E t):=by
 intro pins s σ H Q I h;refine wpAny_Call_Name_kw (YY I hg hm ?_ hdb);refine PySem.W.callWith_K (h₀:=X.base) I.ok.mod.kin hk (thn (ha pos pins s σ H _ I h) λus s1 ⟨vs,H1,I1,r,⟨C,od,hz⟩,q⟩=>⟨I1.kIn,?_⟩) he hpl;exact zcM (X:=cxS X ea xe) F hr hb hd I1 (hz.hdh rfl) r q
end
structure FnV(P:Program)(w:World)(K:PySem.W.Frag)(mg:Str->Option Value)(base:Heap)(CX:CXT)(k:Nat)(f:Addr)(sp:Sp):Prop where
 fn:PySem.W.FnAt f base
 run:∀(A:Around) (outer:List Env) (s:Shared) (H:Hp) (us:List Value) (vs:List V) (Q:VK) (E:XK),Room k A->Env0 P w K mg base A outer s H->Zg vs us->sp vs H Q E->codeAny (model P w) A (.call (.ref f) ⟨us,[]⟩) (CR CX outer P w H s Q E) s
theorem FnV.of{P:Program}{w:World}{K:PySem.W.Frag}{mg:Str->Option Value}{base:Heap}{CX:CXT}{k:Nat}{f:Addr}{fd:FuncData}{ps:List Str}{sp:Sp}{oc:Value}{od:Option Addr}{fo:FuncData}{sl:Array (Option Value)}
  (F:FnOk P w K mg base CX k f fd ps sp) (hb:qp K fd ps []) (kin:K.In base) (lk:K.lookup f=some ⟨oc,od,.func fo,sl⟩):FnV P w K mg base CX k f sp:=by
 refine⟨⟨oc,od,fo,sl,kin _ _ lk⟩,λA outer s H us vs Q E hr e0 r h=>?_⟩
 have hl:(us++[]).length=ps.length:=by rw[List.append_nil,<-r.length];exact F.len _ _ _ _ h
 have:=hb s us (e0.mod.kin.keeps λb o e=>(e0.bs b o e).1) hl;rw[List.append_nil] at this;exact F.run A outer s H ⟨us,[]⟩ us vs Q E hr e0 this r h
def zh5(CX:CXT)(X:Cx)(E:L2.St->XK):Prop:=∀(pins:List (Addr×Obj)) (σ:L2.St) (H:Hp) (s:Shared) (e:Value) (s':Shared),Inv X pins σ H s->CX X.stack H s (E σ) e s'->X.xe e s'
section
variable {X:Cx}{CX:CXT}{C:Addr}{k:Nat}{f:Addr}{sp:Sp}{E:L2.St->XK}{x:Str}{p pos:Pos}{e:Expr}{es:List Expr}{t:TA}{i:Nat}
theorem ziH{pn:List (Addr×Obj)}:zh5 (CXb false X.prog X.w C) (cxU X C pn E) E:=λpins σ H s e s' I hx=>⟨σ,H,s,ze6 I,hx⟩
def zhc(f:Addr)(sp:Sp)(E:L2.St->XK)(i:Nat)(t:TA):TE:=λσ H Q=>σ[i]?=some (some (.ref f))/\t σ H λvs H1=>sp vs H1 Q (E σ)
theorem zeE(F:FnV X.prog X.w X.K X.mg X.base CX k f sp)(hr:Room k X.A)(hN:X.N[i]?=some x)(hv:Vis X.env.scope x)(hx:zh5 CX X E)(ha:PA X (e::es) t)(hd:(x==("__debug__":Str))=false:=by decide)(hcd:(x==("__classdict__":Str))=false:=by decide)
  (he:starEach (e::es) X.env=(false,eval e X.env)::starEach es X.env:=by rfl) (hpl:(backTo pos (starEach es X.env)).any (·.1)=false:=by rfl) :
  PE X (.Call (.Name x p) (e::es) [] pos) (zhc f sp E i t):=by
 intro pins s σ H Q I h;obtain⟨hσ,h⟩:=h;refine wpAny_Call_Name_kw (thn (zfw hN hv hd hcd pins s σ H (λv H1=>v=.ref f/\t σ H1 λvs H2=>sp vs H2 Q (E σ)) I ⟨_,hσ,rfl,h⟩) λu s1 ⟨v,H1,I1,rv,ev,h1⟩=>?_);subst ev;obtain rfl:u=Value.ref f:=rv
 have fat:∀{σ':L2.St} {H':Hp} {s':Shared},Inv X pins σ' H' s'->PySem.W.FnAt f s'.heap:=λI'=>by
  obtain⟨oc,od,fd,sl,z⟩:=F.fn;exact⟨oc,od,fd,sl,(I'.bs _ _ z).1⟩
 refine PySem.W.callWith_F (fat I1) (thn (ha pos pins s1 σ H1 _ I1 h1) λus s2 ⟨vs,H2,I2,r,q⟩=>⟨fat I2,?_⟩) he hpl;refine wpAny_call (codeAny_mono (F.run X.A X.stack s2 H2 us vs Q (E σ) hr I2.env0 r q) λrr s' hq=>?_)
 cases rr with
 | error e=>exact hx pins σ H2 s2 e s' I2 hq
 | ok fl =>
  cases fl with
  | ret u=>exact I2.after hq
  | next=>exact False.elim hq
  | brk=>exact False.elim hq
  | cont=>exact False.elim hq
end
end TX
namespace TX
open PySem PySem.Spec PyProof.Rows L2
section
variable {P:Program}{w:World}{K:PySem.W.Frag}{mg:Str->Option Value}{base:Heap}{N:List Str}{qual:Str}{scope:Scope}{f:Addr}{cd:Value}{cl:List (Str×Addr)}{A:Around}{outer:List Env}{s₀:Shared}{H₀:Hp}{E:XK}{C:Addr}{lo:Bool}
abbrev cxL(lo:Bool)(C:Addr)(P:Program)(w:World)(K:PySem.W.Frag)(mg:Str->Option Value)(base:Heap)(N:List Str)(qual:Str)(scope:Scope)(f:Addr)(cd:Value)(cl:List (Str×Addr))(A:Around)(outer:List Env)(s:Shared)(H:Hp)(E:XK):Cx where
 prog:=P
 w:=w
 K:=K
 mg:=mg
 base:=base
 A:=A.deeper (PySem.W.envX qual scope s.heap.objs.size f cd cl)
 N:=N
 s₀:=s
 H₀:=H
 env:=PySem.W.envX qual scope s.heap.objs.size f cd cl
 outer:=outer
 stack:=PySem.W.envX qual scope s.heap.objs.size f cd cl::outer
 ex:=[]
 calm:=true
 fn:=λ_=>false
 pn:=[]
 xe:=λe s'=>wpAny (model P w) (A.deeper (PySem.W.envX qual scope s.heap.objs.size f cd cl)) (leaving (PySem.W.envX qual scope s.heap.objs.size f cd cl) e) (λ_ s''=>CXb lo P w C outer H s E e s'') (λe' s''=>CXb lo P w C outer H s E e' s'') s'
theorem zco{pins:List (Addr×Obj)}{σ:L2.St}{H:Hp}{s:Shared}(I:Inv (cxL lo C P w K mg base N qual scope f cd cl A outer s₀ H₀ E) pins σ H s):∀b o,s₀.heap.get? b=some o->∃o',s.heap.get? b=some o':=λb o q =>
 I.base.there b o q λz=>absurd z (by simp[cxL])
theorem zhH{pins:List (Addr×Obj)}{σ:L2.St}{H:Hp}{s:Shared}(I:Inv (cxL lo C P w K mg base N qual scope f cd cl A outer s₀ H₀ E) pins σ H s){b:Addr}{o:Obj}(q:s₀.heap.get? b=some o):b≠(cxL lo C P w K mg base N qual scope f cd cl A outer s₀ H₀ E).env.locals :=
 Nat.ne_of_lt (Nat.lt_of_lt_of_le (Heap.lt_size q) I.ok.above)
theorem ziN{pins:List (Addr×Obj)}{σ:L2.St}{H:Hp}{s s'':Shared}{ex:List Addr}{e:Addr}{od:Option Addr}{h1:Heap}(I:Inv (cxL lo C P w K mg base N qual scope f cd cl A outer s₀ H₀ E) pins σ H s)
  (hos:s''.os=s.os) (hg:s''.gens=s.gens) (k1:∀b o,s.heap.get? b=some o->b∉ex->h1.get? b=some o)
  (kb:(PySem.W.hideAll h1 (ex++frs (cxL lo C P w K mg base N qual scope f cd cl A outer s₀ H₀ E).stack)).StaysIn s''.heap) (us:h1.UpToSlots s''.heap) (hex:∀b∈ex,H b=none/\s₀.heap.get? b=none)
  (fl:Fly lo H s₀.heap s''.heap C e od) (hE:E (.ref C) od H):CXb lo P w C outer H₀ s₀ E (.ref e) s'':=by
 have nil:∀b:Addr,b∉(cxL lo C P w K mg base N qual scope f cd cl A outer s₀ H₀ E).ex:=λb z=>absurd (show b∈([]:List Addr) from z) (by simp)
 have nex:∀b o,s₀.heap.get? b=some o->b∉ex:=λb o q z=>by rw[(hex b z).2] at q;cases q
 have hin:∀b∈frs outer,b∈frs (cxL lo C P w K mg base N qual scope f cd cl A outer s₀ H₀ E).stack:=λb hb=>by
  show b∈frs (_::outer);unfold frs at hb ⊢;rw[List.filterMap_cons];split
  ·exact hb
  ·exact List.mem_cons_of_mem _ hb
 have keep:∀b o,s.heap.get? b=some o->b∉ex->b∉frs (cxL lo C P w K mg base N qual scope f cd cl A outer s₀ H₀ E).stack->s''.heap.get? b=some o:=λb o q n1 n2 =>
  kb b o (PySem.W.hideAll_get _ (k1 b o q n1) λz=>(List.mem_append.mp z).elim n1 n2)
 have nst:∀b o,s₀.heap.get? b=some o->b∉frs outer->b∉frs (cxL lo C P w K mg base N qual scope f cd cl A outer s₀ H₀ E).stack:=λb o q n z=>by
  rcases List.mem_cons.mp (I.stkSub b z) with r|r
  ·exact zhH I q r
  ·exact n r
 have fr:s.heap.FunFrames base outer:=I.funs
 have frk:∀b o,s.heap.get? b=some o->b∉ex->b∈frs outer->∃sl,s''.heap.get? b=some { o with slots:=sl }:=λb o q n hb=>by
  obtain⟨_,o',ho,hn⟩:=fr.mem hb;rw[q] at ho;cases ho;exact us b o (k1 b o q n) hn
 have un:Un (frs outer) [] H₀ H s₀.heap s''.heap:=by
  refine⟨λb o q n hb _=>keep b o (I.base.keep b o q n hb (nil b)) (nex b o q) (nst b o q hb),λb o q n hb _=>?_,λb o q n _=>I.base.free b o q n (nil b),λb o q _=>?_,I.base.tups,I.base.frzs,I.base.tbls⟩
  ·obtain⟨sl,e1⟩:=I.base.slot b o q n hb (nil b)
   obtain⟨sl',e2⟩:=frk b _ e1 (nex b o q) hb;exact⟨sl',e2⟩
  ·obtain⟨o',e1⟩:=I.base.there b o q (nil b)
   by_cases hb:b∈frs outer
   ·obtain⟨sl',e2⟩:=frk b _ e1 (nex b o q) hb
    exact⟨_,e2⟩
   ·exact⟨o',keep b o' e1 (nex b o q) (nst b o q hb)⟩
 refine⟨e,H,od,rfl,hos.trans I.os,by rw[hg];exact I.bare,un,λa o q=>?_,fl,hE⟩
 refine(I.hok a o q).stay (λc v hc r=>keep c v r (λz=>?_) λz=>?_) (λ_ r=>r) λ_ _ r=>r
 ·have hz:=(hex c z).1
  rcases hc with rfl|hc
  ·rw[hz] at q;cases q
  ·rw[hz] at hc;cases hc
 ·have hz:=I.stkFree c z
  rcases hc with rfl|hc
  ·rw[hz] at q;cases q
  ·rw[hz] at hc;cases hc
theorem zeH:QT (CXb lo P w C) (cxL lo C P w K mg base N qual scope f cd cl A outer s₀ H₀ E) E:=by
 intro pins σ H s ev s' I hx;obtain⟨e,H',od,rfl,hos,hg,un,hok,⟨cx,oe,vs,T,oT,ts,g1,g2,g3,g4,g5,g6,g7,g8,g9,g10,g11,g12,g13⟩,hE⟩:=hx;have I':Inv (cxL lo C P w K mg base N qual scope f cd cl A outer s₀ H₀ E) pins σ H' s':=Inv.after0 I hos un hok hg;have hin:∀env∈(cxL lo C P w K mg base N qual scope f cd cl A outer s₀ H₀ E).stack,∀b,env.frame=some b->b∈[e,T]++frs (cxL lo C P w K mg base N qual scope f cd cl A outer s₀ H₀ E).stack:=λenv he b hb=>List.mem_append_right _ (List.mem_filterMap.mpr ⟨env,he,hb⟩)
 have old:∀b,s.heap.get? b=none->s₀.heap.get? b=none:=λb q=>by
  cases z:s₀.heap.get? b with
  | none=>rfl
  | some o=>obtain⟨o',z'⟩:=zco I b o z;rw[q] at z';cases z'
 have hex:∀b∈[e,T],H' b=none/\s₀.heap.get? b=none:=λb hb=>by
  rcases List.mem_cons.mp hb with rfl|hb
  ·exact⟨g9,old _ g11⟩
  ·obtain rfl:=List.mem_singleton.mp hb
   exact⟨g10,old _ g12⟩
 have ff:=PySem.W.funFrames_hide I'.stack hin
 have tr:TrD s'.heap (PySem.W.hideAll s'.heap ([e,T]++frs (cxL lo C P w K mg base N qual scope f cd cl A outer s₀ H₀ E).stack)) e (.ref C) cx .none od:=⟨oe,vs,T,oT,ts,g1,g2,g3,g4,PySem.W.hideAll_none _ (by simp),g5,g6,g7,g8⟩
 refine zbh I'.ok.frames ff rfl tr (λb o q=>PySem.W.of_hideAll _ q) (PySem.W.hideAll_none _ (by simp)) λh2 k=>?_
 refine ziN (ex:=[e,T]) (h1:=s'.heap) I' rfl rfl (λb o q _=>q) k.1 k.2.2.2 hex ?_ hE;refine zdF (h:=s'.heap) (ex:=[e,T]) (l:=(cxL lo C P w K mg base N qual scope f cd cl A outer s₀ H₀ E).stack) rfl ?_ k.2.2.1 g13 g9 hex (old _ g11) (λb q=>HOk.none hok q) (zco I')
 exact ff.of_keeps λb o q hn=>by
  obtain⟨sl,z⟩:=k.2.2.2 b o q hn;exact⟨_,z,rfl⟩
theorem zbX{h1:Heap}{tk:Nat}{m:Str->Option Value}{σ:L2.St}(hk:scope.kind=.function)(hd:HdH A H₀)(e0:Env0 P w K mg base A outer s₀ H₀)(inj:∀x y c,cl.lookup x=some c->cl.lookup y=some c->x=y)
  (has:∀x,(scope.names.lookup x=some .cell\/scope.names.lookup x=some .free)->∃c,cl.lookup x=some c) (hns:h1.Ns s₀.heap.objs.size m) (kp:∀b o,s₀.heap.get? b=some o->h1.get? b=some o)
  (hcell:∀x c,cl.lookup x=some c->H₀ c=none/\∃v,s₀.heap.IsCell c v) (hlen:σ.length=N.length)
  (hloc:∀(i:Nat) (x:Str) (v:V),N[i]?=some x->σ[i]?=some (some v)->Vis scope x->∃u,Zo v u/\zjp (PySem.W.envX qual scope s₀.heap.objs.size f cd cl) h1 m x u) :
  Inv (cxL lo C P w K mg base N qual scope f cd cl A outer s₀ H₀ E) [] σ H₀ { s₀ with heap:=h1,toks:=tk }:=by
 have noA:∀b:Addr,b∉(cxL lo C P w K mg base N qual scope f cd cl A outer s₀ H₀ E).ex:=λb z=>absurd (show b∈([]:List Addr) from z) (by simp)
 refine⟨⟨e0.mod,hk,rfl,rfl,Nat.le_refl _,inj,has,λx c z=>absurd (show false=true from z) (by decide),λ_=>hd,Around.frames_deeper e0.frames,.inr ⟨rfl,rfl⟩,λb z=>absurd z (noA b),e0.bs,e0.bsz,λb _ _=>noA b,λb z=>absurd z (noA b),e0.funs,e0.frf⟩,
  rfl,e0.bare,Un.kept kp,⟨m,hns,hloc⟩,λx c e=>?_,e0.hok.fresh (Nat.le_refl _),λx c e=>(hcell x c e).1,λp hp=>absurd (show p∈([]:List (Addr×Obj)) from hp) (by simp),e0.hok.kept kp,hlen⟩
 obtain⟨v,z⟩:=(hcell x c e).2;exact⟨v,z.keeps kp⟩
end
def zdU(c:Addr)(o:Obj):HO:=.ext λh=>h.get? c=some o
theorem zfd{P:Program}{w:World}{H:Hp}{h:Heap}{c:Addr}{o:Obj}(e:h.get? c=some o):Zt P w H h c (.frz o (zdU c o)):=⟨e,e,⟨o,e⟩,λh1 h2 z k=>k _ z⟩
section
variable {X:Cx}{pins:List (Addr×Obj)}{σ:L2.St}{H:Hp}{s:Shared}
theorem Inv.grown{h':Heap}{Pt c':Addr}{ps more:Array Value}{oc:Obj}{t':Nat}(I:Inv X pins σ H s)(hP:H Pt=some (.tbl ps))(k:Heap.ExtBut Pt s.heap h')(hz:s.heap.objs.size<=c')(hc:h'.get? c'=some oc)(ht:h'.get? Pt=some (PySem.W.tabObj (ps++more))) :
  Inv X pins σ (upd (upd H Pt (.tbl (ps++more))) c' (.frz oc (zdU c' oc))) { s with heap:=h',toks:=t' }:=by
 have hn:H c'=none:=I.hok.fresh hz;have nPc:Pt≠c':=zx hP hn;have old:∀b o,s.heap.get? b=some o->b≠c':=λb o e=>Nat.ne_of_lt (Nat.lt_of_lt_of_le (Heap.lt_size e) hz)
 have nP:∀b,H b=none->b≠Pt:=λb n z=>by rw[z,hP] at n;cases n
 have oth:∀b u,H b=some u->(∀qs,u≠.tbl qs)->upd (upd H Pt (.tbl (ps++more))) c' (.frz oc (zdU c' oc)) b=some u:=λb u e n=>by
  rw[zq (zx e hn),zq (λz=>?_)]
  ·exact e
  ·rw[z,hP] at e;cases e;exact n _ rfl
 refine I.un ⟨λb o e n _ _=>k b o (nP b n) e,λb o e n _ _=>⟨o.slots,k b o (nP b n) e⟩,λb o e n _=>?_,λb o e _=>?_,λb xs e=>oth b _ e (λqs z=>nomatch z),λb o u e=>oth b _ e (λqs z=>nomatch z),λb qs e=>?_⟩ λb u e=>?_
 ·rw[zq (old b o e),zq (nP b n)];exact n
 ·by_cases z:b=Pt
  ·rw[z];exact⟨_,ht⟩
  ·exact⟨o,k b o z e⟩
 ·by_cases z:b=Pt
  ·subst z
   rw[hP] at e;cases e
   exact⟨more,by rw[zq nPc,ze]⟩
  ·exact⟨#[],by rw[zq (zx e hn),zq z,e];simp⟩
 ·by_cases zc:b=c'
  ·subst zc
   rw[ze] at e;cases e;exact zfd hc
  ·rw[zq zc] at e
   by_cases zP:b=Pt
   ·subst zP
    rw[ze] at e;cases e;exact ht
   ·rw[zq zP] at e
    refine(I.hok b u e).stay (λc v hc' q=>k c v ?_ q) (λc q=>oth c _ q λqs z=>nomatch z) λc xs q=>oth c _ q λqs z=>nomatch z
    rcases hc' with rfl|hc'
    ·exact zP
    ·exact λz=>by rw[z,hP] at hc';cases hc'
def QS(X:Cx)(h:Heap)(H:Hp):Heap:=zce (PySem.W.hideAll h (frs X.stack)) H
theorem QG{h:Heap}{b:Addr}{o:Obj}(e:h.get? b=some o)(n:H b=none)(hb:b∉frs X.stack):(QS X h H).get? b=some o:=zbj (PySem.W.hideAll_get _ e hb) n
theorem zdg{h:Heap}{b:Addr}{o:Obj}(e:(QS X h H).get? b=some o):h.get? b=some o/\H b=none:=⟨PySem.W.of_hideAll _ (wn e).1,(wn e).2⟩
theorem Qp{h b b':Heap}(k:∀x,b.get? x=none->b'.get? x=none):∀{l:List Env},h.FunFrames b l->h.FunFrames b' l
 | [],_=>trivial
 | _::_,⟨hk,⟨L,o,hf,hn,ho,hd⟩,hr⟩=>⟨hk,⟨L,o,hf,k L hn,ho,hd⟩,Qp k hr⟩
theorem ze4(I:Inv X pins σ H s){b:Addr}{o:Obj}(e:X.base.get? b=some o):b∉frs X.stack:=λhb=>by
 have:=(I.stack.mem hb).1;rw[e] at this;cases this
theorem wt(I:Inv X pins σ H s):∀b o,X.base.get? b=some o->(QS X s.heap H).get? b=some o:=λb o e=>QG (I.bs b o e).1 (I.bs b o e).2 (ze4 I e)
theorem ze5(I:Inv X pins σ H s):Env0 X.prog X.w X.K X.mg (QS X s.heap H) X.A X.stack s H:=by
 refine⟨I.ok.frames,⟨I.ok.mod.kin.keeps (wt I),I.ok.mod.glob.keeps (wt I),?_,I.ok.mod.nolimit.keeps (wt I)⟩,λb o e=>zdg e,?_,?_,I.stkFree,I.hok,I.bare⟩
 ·obtain⟨mb,h1,h2⟩:=I.ok.mod.blt
  exact⟨mb,h1.keeps (wt I),h2⟩
 ·unfold QS
  rw[Wy,PySem.W.hideAll_size];exact Nat.le_refl _
 ·refine Qp (b:=PySem.W.hideAll s.heap (frs X.stack)) (λx hx=>?_) (PySem.W.funFrames_hide I.stack λenv he b hb=>List.mem_filterMap.mpr ⟨env,he,hb⟩)
  cases q:(QS X s.heap H).get? x with
  | none=>rfl
  | some o=>have:=(wn q).1;rw[hx] at this;cases this
end
def Jc(H:Hp)(c:Addr)(qual:Str):Prop:=∃(oc:Obj) (vs:Array Value) (t:Tok) (u:HO),H c=some (.frz oc u)/\oc.data=.fields vs/\vs[1]?=some (.str qual t)
def yP(H:Hp)(Pt:Addr)(pos:Pos)(qual:Str):Prop:=∃ps,H Pt=some (.tbl ps)/\(ps=#[]\/∃c,ps=#[rawInt pos.line,rawInt pos.col,.ref c]/\Jc H c qual)
theorem Jc.same{H H':Hp}{c:Addr}{qual:Str}(x:Jc H c qual)(e:∀b o,H b=some o->H' b=some o):Jc H' c qual:=let ⟨oc,vs,t,u,h1,h2⟩:=x;⟨oc,vs,t,u,e _ _ h1,h2⟩
theorem yP.same{H H':Hp}{Pt:Addr}{pos:Pos}{qual:Str}(x:yP H Pt pos qual)(e:∀b o,H b=some o->H' b=some o):yP H' Pt pos qual:=by
 obtain⟨ps,h1,h2⟩:=x;refine⟨ps,e _ _ h1,h2.imp id ?_⟩;rintro⟨c,h3,h4⟩;exact⟨c,h3,h4.same e⟩
theorem jj:TriplesOk ([]:List Value):=by first|exact trivial|simp[TriplesOk]|decide
theorem WU(a b:Int)(c:Value):TriplesOk [rawInt a,rawInt b,c]:=by first|exact trivial|simp[TriplesOk]|(unfold TriplesOk;simp)
theorem Jc.rec{P:Program}{w:World}{H:Hp}{h:Heap}{c:Addr}{qual:Str}(x:Jc H c qual)(ok:HOk P w H h):h.CodeRec (.ref c) qual:=by
 obtain⟨oc,vs,t,u,h1,h2,h3⟩:=x;exact⟨c,oc,vs,t,rfl,(ok c _ h1).1,h2,h3⟩
section
variable {X:Cx}{k:Nat}{f:Addr}{fd:FuncData}{ps:List Str}{x:Str}{p pos lpos:Pos}{e1 e2 lb:Expr}{lar:Arguments}{lsc:Scope}{i1 i2:Nat}{x1 x2:Str}{c1 c2 c Pt:Addr}{clos:List (Str×Addr)}{pm:Value}{t1 t2:TE}
def zhd(i1 i2:Nat)(Pt:Addr)(lpos:Pos)(qual:Str)(sp:Addr->Addr->Addr->Addr->Sp)(t1 t2:TE):TE:=λσ H Q=>t1 σ H λv1 H1=>t2 σ H1 λv2 H2=>∃a b,σ[i1]?=some (some (.ref a))/\σ[i2]?=some (some (.ref b))/\yP H2 Pt lpos qual /\
 ∀g c' H',(∀z o,H2 z=some o->z≠Pt->H' z=some o)->yP H' Pt lpos qual->Jc H' c' qual->sp g c' a b [v1,v2,.ref g] H' Q E0
theorem zeF{sp:Addr->Addr->Addr->Addr->Sp}(hg:Gl X x)(hm:X.mg x=some (.ref f))(hk:PySem.W.keepIn X.K (.ref f)=true)(hb:qp X.K fd ps [])(hr:Room k X.A)
  (F:∀(base':Heap) (g c' a b:Addr) (ctv:Value),c1≠c2->base'.get? g=some (PySem.W.kla_obj "<lambda>" (X.env.qual++"<lambda>") lar lb lsc clos pm c' ctv)->base'.IsCell c1 (some (.ref a))->base'.IsCell c2 (some (.ref b))->FnOk X.prog X.w X.K X.mg base' CX0 k f fd ps (sp g c' a b))
  (hcode:X.env.code=.ref c) (hC:PySem.W.CodeHd X.base c Pt) (hB:X.base.BuiltinsAt X.mg Pt) (hpm:pm=(X.mg "__name__").getD .none) (hcl:closureFor lsc X.env=pure clos) (hdef:defaultsOf lar X.env=([],[]))
  (h1:PE X e1 t1) (h2:PE X e2 t2) (n1:X.N[i1]?=some x1) (n2:X.N[i2]?=some x2) (k1:X.env.kindOf x1=some .cell) (k2:X.env.kindOf x2=some .cell) (l1:X.env.cells.lookup x1=some c1) (l2:X.env.cells.lookup x2=some c2)
  (hfn:∀y,X.fn y=true) (hx12:x1≠x2:=by decide)
  (hs:starEach [e1,e2,.Lambda lar lb lsc lpos] X.env=[(false,eval e1 X.env),(false,eval e2 X.env),(false,eval (.Lambda lar lb lsc lpos) X.env)]:=by rfl) (he:starEach (e1::[e2,.Lambda lar lb lsc lpos]) X.env=(false,eval e1 X.env)::starEach [e2,.Lambda lar lb lsc lpos] X.env:=by rfl) (hdb:(x==("__debug__":Str))=false:=by decide) :
  PE X (.Call (.Name x p) [e1,e2,.Lambda lar lb lsc lpos] [] pos) (zhd i1 i2 Pt lpos (X.env.qual++"<lambda>") sp t1 t2):=by
 intro pins s σ H Q I h;refine wpAny_Call_Name_kw (YY I hg hm ?_ hdb)
 have nf:∀y z,X.env.cells.lookup y=some z->z∉frs X.stack:=λy z e hz=>by
  rcases List.mem_cons.mp (I.stkSub z hz) with r|r
  ·exact I.cne y z e r
  ·obtain⟨_,o,ho,_⟩:=I.ok.funs.mem r
   exact absurd (Heap.lt_size ho) (Nat.not_lt.mpr (I.ok.cab y z (hfn y) e))
 have he2:starEach [e2,.Lambda lar lb lsc lpos] X.env=[(false,eval e2 X.env),(false,eval (.Lambda lar lb lsc lpos) X.env)]:=by
  rw[he] at hs;injection hs
 have hpl:(backTo pos (starEach [e2,.Lambda lar lb lsc lpos] X.env)).any (·.1)=false:=by rw[he2];rfl
 refine PySem.W.callWith_K (h₀:=X.base) I.ok.mod.kin hk ?_ he hpl;rw[hs];refine Calls.spliced_cons (thn (h1 pins s σ H _ I h) λu1 s1 ⟨v1,H1,I1,r1,q1⟩=>?_);refine Calls.spliced_cons (thn (h2 pins s1 σ H1 _ I1 q1) λu2 s2 ⟨v2,H2,I2,r2,a,b,sa,sb,⟨tb,hT,hcase⟩,q2⟩=>?_);obtain⟨m,hn,hl⟩:=id I2.loc;obtain⟨ua,ra,la⟩:=hl i1 x1 _ n1 sa (.inr (.inl k1));obtain⟨ub,rb,lb'⟩:=hl i2 x2 _ n2 sb (.inr (.inl k2));obtain rfl:ua=Value.ref a:=ra;obtain rfl:ub=Value.ref b:=rb
 have ca:s2.heap.IsCell c1 (some (.ref a)):=by
  rcases la with ⟨z,_⟩|⟨_,cc,z,y⟩
  ·rw[k1] at z;cases z
  ·rw[l1] at z;cases z;exact y
 have cb:s2.heap.IsCell c2 (some (.ref b)):=by
  rcases lb' with ⟨z,_⟩|⟨_,cc,z,y⟩
  ·rw[k2] at z;cases z
  ·rw[l2] at z;cases z;exact y
 have hP:s2.heap.get? Pt=some (PySem.W.tabObj tb):=I2.hok Pt _ hT
 have hTr:TriplesOk tb.toList:=by
  rcases hcase with rfl|⟨c',rfl,_⟩
  ·exact jj
  ·exact WU _ _ _
 have hG:s2.heap.Ns mainGlobals X.mg:=I2.mod.glob.keeps I2.bk;have hCd:PySem.W.CodeHd s2.heap c Pt:=hC.keeps I2.bk;have hBi:s2.heap.BuiltinsAt X.mg Pt:=hB.keeps I2.bk
 have hgP:mainGlobals≠Pt:=λz=>by
  obtain⟨o,es,ep,e,hd,_⟩:=hG;rw[z,hP] at e;cases e;cases hd
 have go:∀(h':Heap) (g c':Addr) (ctv:Value) (H':Hp) (tk:Nat),Inv X pins σ H' { s2 with heap:=h',toks:=tk }->h'.get? g=some (PySem.W.kla_obj "<lambda>" (X.env.qual++"<lambda>") lar lb lsc clos pm c' ctv)->H' g=none->g∉frs X.stack ->
   (∀z o,H2 z=some o->z≠Pt->H' z=some o)->yP H' Pt lpos (X.env.qual++"<lambda>")->Jc H' c' (X.env.qual++"<lambda>") ->
   wpAny (model X.prog X.w) X.A (spliced []) (λvs s₁=>X.K.In s₁.heap/\wpAny (model X.prog X.w) X.A (call (.ref f) ([]++(u1::u2::.ref g::vs))) (EP X pins σ Q) X.xe s₁) X.xe { s2 with heap:=h',toks:=tk }:=by
  intro h' g c' ctv H' tk I' hgf hgn hgs hold hlt hcf;refine Calls.spliced_nil ⟨I'.kIn,?_⟩;have cell':∀{y cc:_} {vv:Option Value},X.env.cells.lookup y=some cc->h'.IsCell cc vv->(QS X h' H').IsCell cc vv:=λ{y cc vv} e ⟨o,z1,z2⟩=>⟨o,QG z1 (I'.freeC y cc e) (nf y cc e),z2⟩
  have ca':h'.IsCell c1 (some (.ref a)):=by
   obtain⟨m',_,hl'⟩:=id I'.loc;obtain⟨u',r',l'⟩:=hl' i1 x1 _ n1 sa (.inr (.inl k1));obtain rfl:u'=Value.ref a:=r'
   rcases l' with ⟨z,_⟩|⟨_,cc,z,y⟩
   ·rw[k1] at z;cases z
   ·rw[l1] at z;cases z;exact y
  have cb':h'.IsCell c2 (some (.ref b)):=by
   obtain⟨m',_,hl'⟩:=id I'.loc;obtain⟨u',r',l'⟩:=hl' i2 x2 _ n2 sb (.inr (.inl k2));obtain rfl:u'=Value.ref b:=r'
   rcases l' with ⟨z,_⟩|⟨_,cc,z,y⟩
   ·rw[k2] at z;cases z
   ·rw[l2] at z;cases z;exact y
  have FF:=F (QS X h' H') g c' a b ctv (λz=>hx12 (I.ok.inj x1 x2 c1 l1 (z▸l2))) (QG hgf hgn hgs) (cell' l1 ca') (cell' l2 cb');have hsp:=q2 g c' H' hold hlt hcf;have r3:Zg [v1,v2,.ref g] [u1,u2,.ref g]:=.cons r1 (.cons r2 (.cons rfl .nil))
  have hlen:([u1,u2,Value.ref g]++[]).length=ps.length:=by rw[List.append_nil,<-r3.length];exact FF.len _ _ _ _ hsp
  have hbb:=hb { s2 with heap:=h',toks:=tk } [u1,u2,.ref g] I'.kIn hlen
  rw[List.append_nil] at hbb
  refine wpAny_call (codeAny_mono (FF.run X.A X.stack { s2 with heap:=h',toks:=tk } H' ⟨[u1,u2,.ref g],[]⟩ [u1,u2,.ref g] [v1,v2,.ref g] Q E0 hr (ze5 I') hbb r3 hsp) λrr s' hq=>?_)
  cases rr with
  | error e=>exact False.elim hq
  | ok fl =>
   cases fl with
   | ret u=>exact I'.after hq
   | next=>exact False.elim hq
   | brk=>exact False.elim hq
   | cont=>exact False.elim hq
 have fsz:∀z∈frs X.stack,z<s2.heap.objs.size:=λz hz=>by
  obtain⟨_,o,ho,_⟩:=I2.stack.mem hz;exact Heap.lt_size ho
 refine Calls.spliced_cons (PySem.W.kla_eval hdef ?_)
 rcases hcase with rfl|⟨c',rfl,hcf⟩
 ·have hnf:codeAmong lpos (#[]:Array Value).toList=none:=rfl
  refine PySem.W.kla_makeFunction (mg:=X.mg) hcl I2.ok.glob hG hcode hCd hP hTr hnf hgP hBi λc' ctv h' tk hx hge hlt hrec htb=>?_;obtain⟨c₂,oc,vs,t,e2',hoc,hd,hv⟩:=hrec;cases e2';have I3:=Inv.grown (t':=tk) I2 hT hx hge hoc htb;have hgN:upd (upd H2 Pt (.tbl (#[]++#[rawInt lpos.line,rawInt lpos.col,.ref c']))) c' (.frz oc (zdU c' oc)) h'.objs.size=none:=I3.hok.fresh (Nat.le_refl _);have hn':H2 c'=none:=I2.hok.fresh hge;have hcf:Jc (upd (upd H2 Pt (.tbl (#[]++#[rawInt lpos.line,rawInt lpos.col,.ref c']))) c' (.frz oc (zdU c' oc))) c' (X.env.qual++"<lambda>"):=⟨oc,vs,t,_,ze,hd,hv⟩;subst hpm
  refine go _ h'.objs.size c' ctv _ tk (I3.kept (t':=tk) λb o e=>Heap.get?_push_of_some _ e) (Heap.get?_push_size _ rfl) hgN (λz=>?_) (λz o e n=>?_) ⟨_,by rw[zq (zx hT hn'),ze],.inr ⟨c',by simp,hcf⟩⟩ hcf
  ·exact absurd (fsz _ z) (Nat.not_lt.mpr (Nat.le_of_lt (Nat.lt_of_le_of_lt hge hlt)))
  ·rw[zq (zx e hn'),zq n];exact e
 ·have hf:codeAmong lpos (#[rawInt lpos.line,rawInt lpos.col,.ref c']:Array Value).toList=some (.ref c'):=codeAmong_snoc [] jj rfl
  refine PySem.W.kla_makeFunctionHit (mg:=X.mg) hcl I2.ok.glob hG hcode hCd hP hTr hf hBi λctv h' tk hk' hsz=>?_
  have I3:Inv X pins σ H2 { s2 with heap:=h',toks:=tk }:=I2.kept (t':=tk) hk'
  subst hpm;refine go _ h'.objs.size c' ctv _ tk (I3.kept (t':=tk) λb o e=>Heap.get?_push_of_some _ e) (Heap.get?_push_size _ rfl) (I3.hok.fresh (Nat.le_refl _)) (λz=>?_) (λz o e n=>e) ⟨_,hT,.inr ⟨c',rfl,hcf⟩⟩ hcf;exact absurd (fsz _ z) (Nat.not_lt.mpr hsz)
end
end TX
namespace TX
open PySem PySem.Spec PyProof.Rows L2
theorem zjJ{P:Program}{w:World}{K:PySem.W.Frag}{mg:Str->Option Value}{base:Heap}{k:Nat}{g c' a b ca cb C:Addr}{qual:Str}{lar:Arguments}{lb:Expr}{lsc:Scope}{clos:List (Str×Addr)}{pm ctv:Value}{x0 xa xb:Str}{sp:Sp}
  (hg:base.get? g=some (PySem.W.kla_obj "<lambda>" qual lar lb lsc clos pm c' ctv)) (h1:base.IsCell ca (some (.ref a))) (h2:base.IsCell cb (some (.ref b)))
  (la:clos.lookup xa=some ca) (lb':clos.lookup xb=some cb) (hall:∀x c,clos.lookup x=some c->(x=xa/\c=ca)\/(x=xb/\c=cb)) (hne:ca≠cb)
  (hk:lsc.kind=.function) (hco:lsc.isCoroutine=false) (hgen:lsc.isGenerator=false) (hnc:∀x∈lsc.names,x.2≠.cell) (k0:lsc.names.lookup x0=some .local) (ka:lsc.names.lookup xa=some .free) (kb:lsc.names.lookup xb=some .free)
  (hfree:∀x,(lsc.names.lookup x=some .cell\/lsc.names.lookup x=some .free)->x=xa\/x=xb)
  (hbind:∀u,bindArgs (PySem.W.kla_fn "<lambda>" qual lar lb lsc clos pm (.ref c') ctv) ⟨[u],[]⟩=pure [(x0,u)])
  (len:∀vs H Q E,sp vs H Q E->∃v,vs=[v]/\Jc H c' qual)
  (hbody:∀(A:Around) (outer:List Env) (s:Shared) (H:Hp) (v:V) (Q:VK) (E:XK),Room k (A.deeper (PySem.W.envX qual lsc s.heap.objs.size g (.ref c') clos))->sp [v] H Q E ->
   ∃t,PE (cxL false C P w K mg base [x0,xa,xb] qual lsc g (.ref c') clos A outer s H E) lb t/\t [some v,some (.ref a),some (.ref b)] H Q) :
  FnV P w K mg base (CXb false P w C) (k+1) g sp:=by
 refine⟨⟨_,_,_,_,hg⟩,λA outer s H us vs Q E hr e0 r h=>?_⟩;obtain⟨v,rfl,hcf⟩:=len _ _ _ _ h;obtain⟨u,rfl,rv⟩:=JQ r;have up:∀b o,base.get? b=some o->s.heap.get? b=some o:=λb o e=>(e0.bs b o e).1;refine PySem.W.kla_callFunE hr.depth (up _ _ hg) rfl hco hgen rfl (hcf.rec e0.hok) ?_;rw[hbind]
 refine wpAny_pure (wpAny_newFunctionEnv hnc (λy hy=>by rw[List.mem_singleton.mp hy];exact k0) (λh₁ hns hsb=>?_) hk)
 have kp:∀b o,s.heap.get? b=some o->h₁.get? b=some o:=λb o e=>hsb.extBut b o (Nat.ne_of_lt (Heap.lt_size e)) (Heap.get?_push_of_some _ e);refine⟨(e0.mod.nolimit.keeps up).keeps kp,?_⟩;show codeAny _ _ (.expr lb (PySem.W.envX qual lsc s.heap.objs.size g (.ref c') clos)) _ _;obtain⟨t,ht,hq⟩:=hbody A outer s H v Q E (hr.deeper _) h;have cl1:h₁.IsCell ca (some (.ref a)):=(h1.keeps up).keeps kp;have cl2:h₁.IsCell cb (some (.ref b)):=(h2.keeps up).keeps kp
 have I:Inv (cxL false C P w K mg base [x0,xa,xb] qual lsc g (.ref c') clos A outer s H E) [] [some v,some (.ref a),some (.ref b)] H { s with heap:=h₁,toks:=s.toks+[(x0,u)].length }:=by
  refine zbX hk (.inl hr.hd) e0 (λx y c e1 e2=>?_) (λx hx=>?_) hns kp (λx c e=>?_) rfl λi x v' e1 e2 e3=>?_
  ·rcases hall x c e1 with ⟨rfl,rfl⟩|⟨rfl,rfl⟩ <;> rcases hall y _ e2 with ⟨rfl,z⟩|⟨rfl,z⟩
   ·rfl
   ·exact absurd z hne
   ·exact absurd z.symm hne
   ·rfl
  ·rcases hfree x hx with rfl|rfl
   ·exact⟨_,la⟩
   ·exact⟨_,lb'⟩
  ·rcases hall x c e with ⟨rfl,rfl⟩|⟨rfl,rfl⟩
   ·obtain⟨o,z1,z2⟩:=h1
    exact⟨(e0.bs _ _ z1).2,_,o,up _ _ z1,z2⟩
   ·obtain⟨o,z1,z2⟩:=h2
    exact⟨(e0.bs _ _ z1).2,_,o,up _ _ z1,z2⟩
  ·match i,e1,e2 with
   | 0,e1,e2 =>
    cases e1;cases e2
    exact⟨u,rv,.inl ⟨k0,by simp⟩⟩
   | 1,e1,e2 =>
    cases e1;cases e2;exact⟨_,rfl,.inr ⟨.inr ka,_,la,cl1⟩⟩
   | 2,e1,e2 =>
    cases e1;cases e2;exact⟨_,rfl,.inr ⟨.inr kb,_,lb',cl2⟩⟩
   | n+3,e1,e2=>cases e1
 refine PySem.W.kla_codeExpr (wpAny_mono (ht [] _ _ H Q I hq) (λu' s' z=>?_) λe s' z=>z);obtain⟨v',H',J,rv',q'⟩:=z;exact⟨v',H',J.os,J.bare,J.base,J.hok,rv',q'⟩
theorem zgJ{P:Program}{w:World}{K:PySem.W.Frag}{mg:Str->Option Value}{base:Heap}{x qual:Str}{st:Stmt}{f c:Addr}{fd:FuncData}{N ps:List Str}{k:Nat}{sp:Sp}(F:Fun K x qual st f fd)(hc:fd.code=.ref c)(S:FnScope N ps (zk st))(len:∀vs H Q E,sp vs H Q E->vs.length=ps.length)
  (hbody:∀(A:Around) (outer:List Env) (s:Shared) (H:Hp) (vs:List V) (Q:VK) (E:XK),Room k (A.deeper (envOfC qual (zk st) s.heap.objs.size f (.ref c)))->sp vs H Q E ->
   ∃t,PSs (zbn CX0 P w K mg base N qual (zk st) f (.ref c) A outer s H E).nox (yY st) t/\t { nx:=λ_ H'=>Q .non H',rt:=Q } (qY N vs) H):FnOk P w K mg base CX0 (k+1) f fd ps sp:=by
 obtain⟨oc,od,kV,doc,pm,an,cdv,ct,osl,rfl,lk,hcd⟩:=F.ex;obtain rfl:cdv=.ref c:=hc;refine zgM lk hcd S len λA outer s H vs Q E hr hsp=>?_;obtain⟨t,h,q⟩:=hbody A outer s H vs Q E hr hsp;exact⟨t,h.nox,q⟩
theorem zdq{P:Program}{w:World}{K:PySem.W.Frag}{mg mb:Str->Option Value}{k:Nat}{fa a c Pt:Addr}{fd:FuncData}{x:Str}{sp:Sp}{s₁:Shared}{vs:List Value}{ns:List Int}
  (KX:K.In s₁.heap) (hns:s₁.heap.Ns mainGlobals mg) (hb:s₁.heap.Ns builtinsNs mb) (hbb:∀x:Str,x≠"__name__"->mb x=bootBuiltins x) (hlim:s₁.heap.NoLimit) (hg:s₁.gens=#[])
  (ha:s₁.heap.get? a=some { cls:=.type "list",data:=.seq vs.toArray }) (hi:IntsAre vs ns) (hl:ns.length<=sizeLine) (hr:Room k callerA)
  (hKP:K.lookup Pt=none) (hCd:PySem.W.CodeHd s₁.heap c Pt) (hPt:s₁.heap.get? Pt=some (PySem.W.tabObj #[])) (hBi:s₁.heap.BuiltinsAt mg Pt)
  (F:∀base:Heap,K.In base->base.Ns mainGlobals mg->PySem.W.CodeHd base c Pt->base.BuiltinsAt mg Pt->FnOk P w K mg base CX0 k fa fd [x] sp) (hbind:∀(s:Shared) (u:Value),BindsTo s fd ⟨[u],[]⟩ [(x,u)])
  (hsp:∀H:Hp,H Pt=some (.tbl #[])->SqL K H a (ns.map V.int)->sp [.ref a] H (λv _=>v=.bl true) λ_ _ _=>False) :
  codeAny (model P w) callerA (.call (.ref fa) ⟨[.ref a],[]⟩) (λr s'=>r=.ok (.ret (.bool true))/\OldK s₁.heap s'.heap/\s'.os=s₁.os/\AllBare s'.gens) s₁:=by
 have rv:=qV hi;have lenV:=hi.length
 have nPa:a≠Pt:=λz=>by rw[z,hPt] at ha;cases ha
 have core:∀H:Hp,H Pt=some (.tbl #[])->(H a=none\/∃o xs,H a=some (.frz o (.lst xs)))->SqL K H a (ns.map V.int)->HOk P w H s₁.heap->(∀b,H b≠none->b=a\/b=Pt)->(H a≠none->K.lookup a=none) ->
   codeAny (model P w) callerA (.call (.ref fa) ⟨[.ref a],[]⟩) (λr s'=>r=.ok (.ret (.bool true))/\OldK s₁.heap s'.heap/\s'.os=s₁.os/\AllBare s'.gens) s₁:=by
  intro H hHP hO hS hok hA hK;have bget:∀{b:Addr} {o:Obj},s₁.heap.get? b=some o->H b=none->(zce s₁.heap H).get? b=some o:=λe n=>zbj e n
  have noH:∀{b:Addr} {o:Obj},s₁.heap.get? b=some o->b≠Pt->(∀q n,o.data≠.seq q n)->H b=none:=λ{b o} e np d=>by
   cases q:H b with
   | none=>rfl
   | some u =>
    rcases hA b (by rw[q];simp) with z|z
    ·subst z
     rw[ha] at e;cases e;exact absurd rfl (d _ _)
    ·exact absurd z np
  have nP:∀{b:Addr} {o:Obj},s₁.heap.get? b=some o->o.cls≠.none->b≠Pt:=λ{b o} e hc z=>by
   rw[z,hPt] at e;cases e;exact hc rfl
  have noD:∀{b:Addr} {o:Obj} {es:Array DictEntry} {ep:Nat},s₁.heap.get? b=some o->o.data=.dict es ep->H b=none:=λ{b o es ep} e d=>by
   refine noH e (λz=>?_) λq n z=>by rw[d] at z;cases z
   rw[z,hPt] at e;cases e;cases d
  have nsK:∀{b:Addr} {m:Str->Option Value},s₁.heap.Ns b m->(zce s₁.heap H).Ns b m:=λ{b m} ⟨o,es,ep,e,d,r⟩=>⟨o,es,ep,bget e (noD e d),d,r⟩
  have hKb:K.In (zce s₁.heap H):=λb o e=>bget (KX b o e) (by
   cases q:H b with
   | none=>rfl
   | some u =>
    rcases hA b (by rw[q];simp) with z|z
    ·subst z
     rw[hK (by rw[q];simp)] at e;cases e
    ·subst z
     rw[hKP] at e;cases e)
  have hM:Mod K mg (zce s₁.heap H):=⟨hKb,nsK hns,⟨mb,nsK hb,hbb⟩,let ⟨mc,h1,h2⟩:=hlim;⟨mc,nsK h1,h2⟩⟩
  have e0:Env0 P w K mg (zce s₁.heap H) callerA [] s₁ H:=⟨rfl,hM,λb o e=>wn e,Nat.le_of_eq (Wy _ _),trivial,λb hb=>absurd (show b∈([]:List Addr) from hb) (by simp),hok,.of_eq hg⟩
  have hCd':PySem.W.CodeHd (zce s₁.heap H) c Pt:=by
   obtain⟨o,vs',file,tf,flags,tg,inF,text,tt,e1,e2,e3,rest⟩:=hCd
   exact⟨o,vs',file,tf,flags,tg,inF,text,tt,bget e1 (noH e1 (nP e1 (by rw[e2];simp)) λq n z=>by rw[e3] at z;cases z),e2,e3,rest⟩
  have hBi':(zce s₁.heap H).BuiltinsAt mg Pt:=by
   obtain⟨bm,ob,b1,b2,b3,b4,b5,b6,b7,b8⟩:=hBi
   exact⟨bm,ob,b1,b2,b3,b4,bget b5 (noH b5 b4 λq n z=>by rw[b8] at z;cases z),b6,b7,b8⟩
  refine codeAny_mono ((F _ hKb (nsK hns) hCd' hBi').run callerA [] s₁ H ⟨[.ref a],[]⟩ [.ref a] [.ref a] _ _ hr e0 (hbind s₁ (.ref a)) (.cons rfl .nil) (hsp H hHP hS)) λr s' h=>?_
  cases r with
  | error e=>exact False.elim h
  | ok fl =>
   cases fl with
   | next=>exact False.elim h
   | brk=>exact False.elim h
   | cont=>exact False.elim h
   | ret u =>
    obtain⟨v,H',os,bare,un,hok',r',q⟩:=h;have q':v=.bl true:=q;subst q';obtain rfl:u=Value.bool true:=r';obtain⟨more,hmore⟩:=un.tbls Pt _ hHP;have hP':s'.heap.get? Pt=some (PySem.W.tabObj (#[]++more)):=hok' Pt _ hmore
    have keep:∀b o,b≠Pt->s₁.heap.get? b=some o->s'.heap.get? b=some o:=λb o np e=>by
     cases q:H b with
     | none=>exact un.keep b o e q (by intro z;exact absurd (show b∈([]:List Addr) from z) (by simp)) (by simp)
     | some u =>
      rcases hA b (by rw[q];simp) with z|z
      ·subst z
       rcases hO with z|⟨ob,xs,z⟩
       ·rw[q] at z;cases z
       ·have z2:=un.frzs b ob _ z
        obtain⟨e1,_⟩:=hok b _ z;obtain⟨e2,_⟩:=hok' b _ z2;rw[e] at e1;cases e1;exact e2
      ·exact absurd z np
    refine⟨rfl,⟨λb o e=>?_,λb o e=>?_⟩,os,bare⟩
    ·by_cases np:b=Pt
     ·subst np
      rw[hPt] at e;cases e;exact .inr (.inl ⟨(hCd.tab hPt).isCodeTable,rfl,#[],more,rfl,hP'⟩)
     ·exact .inl (keep b o np e)
    ·by_cases np:b=Pt
     ·subst np;exact⟨_,hP'⟩
     ·exact⟨o,keep b o np e⟩
 cases hk:K.lookup a with
 | some o =>
  have e:=KX a o hk;rw[ha] at e;cases e
  refine core (λb=>if b=Pt then some (.tbl #[]) else none) (if_pos rfl) (.inl (if_neg nPa)) (.inr ⟨_,vs.toArray,_,hk,rfl,rfl,rfl,by rw[List.size_toArray,lenV];exact hl,by simpa using rv⟩) (λb u z=>?_) (λb z=>?_) λz=>absurd (if_neg nPa) z
  ·by_cases hb:b=Pt
   ·have z':=(if_pos hb).symm.trans z
    cases z';subst hb;exact hPt
   ·have z':=(if_neg hb).symm.trans z
    cases z'
  ·by_cases hb:b=Pt
   ·exact .inr hb
   ·exact absurd (if_neg hb) z
 | none =>
  have hHa:(λb:Addr=>if b=Pt then some (HO.tbl #[]) else if b=a then some (.frz { cls:=.type "list",data:=.seq vs.toArray } (.lst (ns.map V.int))) else none) a=some (.frz { cls:=.type "list",data:=.seq vs.toArray } (.lst (ns.map V.int))):=by
   show (if a=Pt then _ else if a=a then _ else _)=_
   rw[if_neg nPa,if_pos rfl]
  refine core (λb=>if b=Pt then some (.tbl #[]) else if b=a then some (.frz { cls:=.type "list",data:=.seq vs.toArray } (.lst (ns.map V.int))) else none) (if_pos rfl) (.inr ⟨_,_,hHa⟩) (.inl (.inr ⟨{ cls:=.type "list",data:=.seq vs.toArray },hHa⟩)) (λb u z=>?_) (λb z=>?_) λ_=>hk
  ·by_cases hb:b=Pt
   ·have z':=(if_pos hb).symm.trans z
    cases z';subst hb;exact hPt
   ·have z':=(if_neg hb).symm.trans z
    by_cases hb2:b=a
    ·have z'':=(if_pos hb2).symm.trans z'
     cases z'';subst hb2
     exact⟨ha,by rw[List.length_map];exact hl,vs,_,rv,ha⟩
    ·have z'':=(if_neg hb2).symm.trans z'
     cases z''
  ·by_cases hb:b=Pt
   ·exact .inr hb
   ·by_cases hb2:b=a
    ·exact .inl hb2
    ·exact absurd ((if_neg hb).trans (if_neg hb2)) z
theorem zg4{K:PySem.W.Frag}{x:Str}{f c P:Addr}{oc oc2:Value}{od od2:Option Addr}{fd:FuncData}{sl sl2:Array (Option Value)}{vs:Array Value}(ha:PySem.W.nsIn K mainGlobals x=some (some (.ref f)))(hl:K.lookup f=some ⟨oc,od,.func fd,sl⟩)(hc:fd.code=.ref c)
  (h2:K.lookup c=some ⟨oc2,od2,.fields vs,sl2⟩) (h3:vs[11]?=some (.ref P)):PySem.W.tabIn K x=some (c,P):=by
 unfold PySem.W.tabIn;simp only[ha,hl,hc,h2,h3]
theorem zij{l:PySem.W.OpenLaw}{n k:Nat}{q:Program}{loose:List Str}{XP:(Str->Option Value)->Heap->Prop}{YP:World->Heap->Prop}{d:DefRec}{K:Params->PySem.W.Frag}{sp:PySem.W.Frag->Addr->Sp}{x:Str}
  (hn:l.most=some n) (hn2:n<=sizeLine) (hdf:d.params.defaults=[]) (hr:Room k callerA)
  (hY:∀(w:World) (h:Heap),YP w h->(K w.params).In h) (hrec:(recsOf q).find? (λe=>e.name==d.name)=some d)
  (F:∀(w:World) (mg:Str->Option Value) (fa:Addr) (h:Heap),(K w.params).In h->h.Ns mainGlobals mg->mg d.name=some (.ref fa) ->
   ∃(fd:FuncData) (c Pt:Addr),PySem.W.tabIn (K w.params) d.name=some (c,Pt)/\(K w.params).lookup Pt=none/\(∀(s:Shared) (u:Value),BindsTo s fd ⟨[u],[]⟩ [(x,u)]) /\
    ∀base:Heap,(K w.params).In base->base.Ns mainGlobals mg->PySem.W.CodeHd base c Pt->base.BuiltinsAt mg Pt->FnOk l.prog w (K w.params) mg base CX0 k fa fd [x] (sp (K w.params) Pt))
  (hsp:∀(K:PySem.W.Frag) (Pt:Addr) (H:Hp) (a:Addr) (ns:List Int),ns.length<=n->H Pt=some (.tbl #[])->SqL K H a (ns.map V.int)->sp K Pt [.ref a] H (λv _=>v=.bl true) λ_ _ _=>False) :
  PySem.W.WalkO q loose XP YP l.row.toRowW d [] (λf vs=>PySem.call f vs):=by
 refine Att.zaG hn hdf λw s₀ s₁ mg mb fa o pm cd doc a vs ns G Y ho hd hcd hmg hobj hints hlen hg=>?_;have KX:=hY w _ Y;obtain⟨fd,c,Pt,ht,hKP,hb,hF⟩:=F w mg fa _ KX G.T.g hmg;obtain⟨hCd,hPt⟩:=PySem.W.tab_of G.T KX hrec ht
 have hBi:s₁.heap.BuiltinsAt mg Pt:=by
  obtain⟨bm,ob,b1,b2,b3,b4,b5,b6⟩:=G.T.bmain;refine⟨bm,ob,b1,b2,λz=>?_,λz=>?_,b3,b4,b5,b6⟩
  ·obtain⟨o',es,ep,e,hd',_⟩:=G.T.g
   rw[z,e] at b3;cases b3;rw[hd'] at b6;cases b6
  ·rw[z,hPt] at b3;cases b3;cases b4
 exact zdq KX G.T.g G.T.b G.T.builtins G.T.nolimit hg hobj hints (Nat.le_trans hlen hn2) hr hKP hCd hPt hBi hF hb λH hH hS=>hsp (K w.params) Pt H a ns hlen hH hS
end TX
namespace TX
open PySem PySem.Spec PyProof.Rows L2
section
variable {M:Model}{A:Around}{E:Value->Shared->Prop}{s:Shared}
end
abbrev cxO(X:Cx)(y0:Str)(scope:Scope)(q C:Addr)(fp:List Addr)(s₂:Shared)(H₂:Hp):Cx where
 prog:=X.prog
 w:=X.w
 K:=X.K
 mg:=X.mg
 base:=X.base
 A:=X.A
 N:=[y0]
 s₀:=s₂
 H₀:=H₂
 env:=compEnvC scope [(y0,q)] C X.env
 outer:=X.stack
 stack:=X.stack
 ex:=fp
 fn:=λx=>x==y0
 calm:=X.calm
 pn:=X.pn
 xe:=λ_ _=>False
section
variable {X:Cx}{pins:List (Addr×Obj)}{σ:L2.St}{H:Hp}{s:Shared}
end
section
variable {X:Cx}
end
end TX
namespace TN
open TM
theorem JB{α β:Type}{f:α->List β}:∀{l:List α},l.Nodup->(∀x∈l,(f x).Nodup)->(∀x∈l,∀y∈l,∀b,b∈f x->b∈f y->x=y)->(l.flatMap f).Nodup
 | [],_,_,_=>List.nodup_nil
 | x::l,hn,h1,h2=>by
  have hn':=List.nodup_cons.mp hn;rw[List.flatMap_cons,List.nodup_append];refine⟨h1 x List.mem_cons_self,JB hn'.2 (λy hy=>h1 y (List.mem_cons_of_mem _ hy)) (λy hy z hz=>h2 y (List.mem_cons_of_mem _ hy) z (List.mem_cons_of_mem _ hz)),λa ha b hb e=>?_⟩;obtain⟨y,hy,hb⟩:=List.mem_flatMap.mp hb;subst e;have:=h2 x List.mem_cons_self y (List.mem_cons_of_mem _ hy) a ha hb;exact hn'.1 (this▸hy)
theorem QC{α β:Type}{f:α->β}(hf:∀a b,f a=f b->a=b):∀{l:List α},l.Nodup->(l.map f).Nodup
 | [],_=>List.nodup_nil
 | x::l,h=>by
  have h:=List.nodup_cons.mp h;rw[List.map_cons,List.nodup_cons];refine⟨λhm=>?_,QC hf h.2⟩;obtain⟨y,hy,e⟩:=List.mem_map.mp hm;exact h.1 (hf _ _ e▸hy)
theorem Y6{ls:Ls}(hV:Valid ls):∀(n:Nat) (free:List Int),zaI ls free->(ways ls n free).Nodup
 | n,[],_=>by cases n <;> exact List.nodup_cons.mpr ⟨λh=>(nomatch h),List.nodup_nil⟩
 | 0,_::_,_=>List.nodup_nil
 | n+1,x::others,hf=>by
  have hn:=List.nodup_cons.mp hf.1;have fo:zaI ls others:=⟨hn.2,λy hy=>hf.2 y (List.mem_cons_of_mem _ hy)⟩;have fl:∀m,zaI ls (others.filter λc=>decide (c≠m)):=λm=>⟨hn.2.sublist List.filter_sublist,λy hy=>fo.2 y (List.mem_filter.mp hy).1⟩;unfold ways;rw[List.nodup_append];refine⟨Y6 hV n others fo,JB hn.2 (λm _=>?_) (λm _ m' _ b hb hb'=>?_),λa ha b hb e=>?_⟩
  ·split
   ·exact QC (λa b e=>by injection e) (Y6 hV n _ (fl m))
   ·exact List.nodup_nil
  ·split at hb
   ·split at hb'
    ·obtain⟨p,_,e⟩:=List.mem_map.mp hb
     obtain⟨p',_,e'⟩:=List.mem_map.mp hb';rw[<-e] at e'
     injection e' with e1 _
     injection e1 with _ e1
     exact e1.symm
    ·cases hb'
   ·cases hb
  ·subst e
   obtain⟨m,hm,hb⟩:=List.mem_flatMap.mp hb;split at hb
   ·obtain⟨p,_,e⟩:=List.mem_map.mp hb
    have hw:=(zW hV n others fo a ha).2 x (by rw[<-e,JP];exact List.mem_cons_self)
    exact hn.1 hw
   ·cases hb
def pb:Nat->Nat
 | 0=>1
 | 1=>1
 | n+2=>max (pb (n+1)) ((n+1) * pb n)
theorem za7:∀n,pb n<=pb (n+1)
 | 0=>Nat.le_refl _
 | n+1=>by rw[pb];exact Nat.le_max_left _ _
theorem zc2{n m:Nat}(h:n<=m):pb n<=pb m:=by
 induction h with
 | refl=>exact Nat.le_refl _
 | step _ ih=>exact Nat.le_trans ih (za7 _)
open Classical in
theorem Yh{ls:Ls}(hV:Valid ls)(A:Int->Prop):∀(n:Nat) (free:List Int),zaI ls free->((ways ls n free).filter λps=>decide (∀x∈free,mate ps x=none↔A x)).length<=pb free.length
 | n,[],_=>by
  have:((ways ls n []).filter λps=>decide (∀x∈([]:List Int),mate ps x=none↔A x)).length<=(ways ls n []).length:=List.length_filter_le _ _;refine Nat.le_trans this ?_
  cases n <;> exact Nat.le_refl _
 | 0,_::_,_=>Nat.zero_le _
 | n+1,x::others,hf=>by
  have hn:=List.nodup_cons.mp hf.1;have fo:zaI ls others:=⟨hn.2,λy hy=>hf.2 y (List.mem_cons_of_mem _ hy)⟩;have fl:∀m,zaI ls (others.filter λc=>decide (c≠m)):=λm=>⟨hn.2.sublist List.filter_sublist,λy hy=>fo.2 y (List.mem_filter.mp hy).1⟩
  have le:∀{α:Type} (l:List α) (p q:α->Bool),(∀a∈l,p a=true->q a=true)->(l.filter p).length<=(l.filter q).length:=λl p q h=>by
   rw[<-List.countP_eq_length_filter,<-List.countP_eq_length_filter];exact List.countP_mono_left h
  have zero:∀{α:Type} (l:List α) (p:α->Bool),(∀a∈l,p a=false)->(l.filter p).length=0:=λl p h=>by
   rw[List.length_eq_zero_iff,List.filter_eq_nil_iff];intro a ha;rw[h a ha];decide
  unfold ways;rw[List.filter_append,List.length_append,List.length_cons]
  by_cases hA:A x
  ·have h2:((others.flatMap λm=>if zH ls x m=true then (ways ls n (others.filter λc=>decide (c≠m))).map λps=>(x,m)::ps else []).filter λps=>decide (∀y∈x::others,mate ps y=none↔A y)).length=0:=by
    refine zero _ _ λa ha=>decide_eq_false λhq=>?_;obtain⟨m,hm,ha⟩:=List.mem_flatMap.mp ha;split at ha
    ·obtain⟨p,_,rfl⟩:=List.mem_map.mp ha
     have:=(hq x List.mem_cons_self).mpr hA;rw[jM] at this;have hxm:x≠m:=λe=>hn.1 (e▸hm)
     cases e:mate p x with
     | none=>rw[e] at this;simp[hxm] at this
     | some j=>rw[e] at this;cases this
    ·cases ha
   have h1:((ways ls n others).filter λps=>decide (∀y∈x::others,mate ps y=none↔A y)).length<=pb others.length:=by
    refine Nat.le_trans (le _ _ (λps=>decide (∀y∈others,mate ps y=none↔A y)) λa _ h=>?_) (Yh hV A n others fo);exact decide_eq_true λy hy=>of_decide_eq_true h y (List.mem_cons_of_mem _ hy)
   have:=za7 others.length;omega
  ·have h1:((ways ls n others).filter λps=>decide (∀y∈x::others,mate ps y=none↔A y)).length=0:=by
    refine zero _ _ λa ha=>decide_eq_false λhq=>?_;have hw:=(zW hV n others fo a ha).2;exact hA ((hq x List.mem_cons_self).mp (yx λz=>hn.1 (hw _ z)))
   have h2:((others.flatMap λm=>if zH ls x m=true then (ways ls n (others.filter λc=>decide (c≠m))).map λps=>(x,m)::ps else []).filter λps=>decide (∀y∈x::others,mate ps y=none↔A y)).length<=others.length * pb (others.length-1):=by
    rw[List.filter_flatMap];refine Yz _ λm hm=>?_;split
    ·rw[List.filter_map,List.length_map]
     have hlt:=Y3 hm
     refine Nat.le_trans (le _ _ (λps=>decide (∀y∈others.filter (λc=>decide (c≠m)),mate ps y=none↔A y)) λa _ h=>?_) (Nat.le_trans (Yh hV A n _ (fl m)) (zc2 (by omega)))
     refine decide_eq_true λy hy=>?_;have hy':=List.mem_filter.mp hy;have nm:y≠m:=of_decide_eq_true hy'.2;have nx:y≠x:=λe=>hn.1 (e▸hy'.1);have:=of_decide_eq_true h y (List.mem_cons_of_mem _ hy'.1);rw[jM] at this
     rw[show (if y=(x,m).2 then some (x,m).1 else if y=(x,m).1 then some (x,m).2 else none)=none by simp[nm,nx],Option.or_none] at this
     exact this
    ·exact Nat.zero_le _
   cases others with
   | nil =>
    rw[h1,Nat.zero_add];refine Nat.le_trans h2 ?_;rw[List.length_nil,Nat.zero_mul];exact Nat.zero_le _
   | cons y o =>
    rw[List.length_cons,Nat.add_sub_cancel] at h2;rw[List.length_cons]
    have:pb (o.length+2)=max (pb (o.length+1)) ((o.length+1) * pb o.length):=by rw[pb]
    show _<=pb (o.length+2);rw[this];omega
theorem pb6{n:Nat}(h:n<=6):pb n<=15:=Nat.le_trans (zc2 h) (by decide)
theorem QJ{ls:Ls}(hV:Valid ls){ps:Prs}(h:ps∈zo ls):Pairs ls ps/\breaking ls ps=[]:=by
 obtain⟨h1,h2⟩:=List.mem_filter.mp h;exact⟨(zW hV 6 _ (ZK ls) ps h1).1,of_decide_eq_true h2⟩
theorem YM{ls:Ls}(hV:Valid ls):(zo ls).Nodup:=(Y6 hV 6 _ (ZK ls)).sublist List.filter_sublist
open Classical in
theorem y1{ls:Ls}(hV:Valid ls):(zo ls).length<=15:=by
 cases hq:zo ls with
 | nil=>exact Nat.zero_le _
 | cons p0 r =>
  have h0:p0∈zo ls:=by rw[hq];exact List.mem_cons_self
  obtain⟨P0,b0⟩:=QJ hV h0;have h1:=Yh hV (λx=>mate p0 x=none) 6 (rng ls.length) (ZK ls);rw[zM] at h1;refine Nat.le_trans ?_ (Nat.le_trans h1 (pb6 hV.le));rw[<-hq];unfold zo;rw[<-List.countP_eq_length_filter,<-List.countP_eq_length_filter];refine List.countP_mono_left λa ha hb=>?_;simp only[decide_eq_true_eq];intro x hx;have ha':a∈zo ls:=List.mem_filter.mpr ⟨ha,hb⟩;obtain⟨Pa,ba⟩:=QJ hV ha';obtain⟨x0,x1⟩:=Q4 hx
  have e:((x.toNat:Nat):Int)=x:=by omega
  constructor
  ·intro h;have:=qc hV Pa P0 ba b0 (i:=x.toNat) (by omega) (by rw[e];exact h);rwa [e] at this
  ·intro h;have:=qc hV P0 Pa b0 ba (i:=x.toNat) (by omega) (by rw[e];exact h);rwa [e] at this
end TN
namespace TN
open TM
def zig(ps:Prs):Prop:=(∀p∈ps,p.1<p.2)/\ps.Pairwise (λa b=>a.1<b.1)
theorem qU(ls:Ls):∀(n:Nat) (free:List Int),free.Pairwise (·<·)->∀ps∈ways ls n free,zig ps/\∀p∈ps,p.1∈free
 | n,[],_,ps,h=>by
  have:ps=[]:=by cases n <;> exact List.mem_singleton.mp h
  subst this;exact⟨⟨λp hp=>(nomatch hp),List.Pairwise.nil⟩,λp hp=>(nomatch hp)⟩
 | 0,_::_,_,ps,h=>nomatch h
 | n+1,x::others,hf,ps,h=>by
  have hn:=List.pairwise_cons.mp hf;unfold ways at h
  rcases List.mem_append.mp h with h|h
  ·obtain⟨h1,h2⟩:=qU ls n others hn.2 ps h
   exact⟨h1,λp hp=>List.mem_cons_of_mem _ (h2 p hp)⟩
  ·obtain⟨m,hm,h⟩:=List.mem_flatMap.mp h
   split at h
   ·obtain⟨qs,hq,rfl⟩:=List.mem_map.mp h
    obtain⟨h1,h2⟩:=qU ls n (others.filter λc=>decide (c≠m)) (hn.2.sublist List.filter_sublist) qs hq;have hx:∀p∈qs,p.1∈others:=λp hp=>(List.mem_filter.mp (h2 p hp)).1;refine⟨⟨λp hp=>?_,List.pairwise_cons.mpr ⟨λp hp=>hn.1 _ (hx p hp),h1.2⟩⟩,λp hp=>?_⟩
    ·rcases List.mem_cons.mp hp with rfl|hp
     ·exact hn.1 m hm
     ·exact h1.1 p hp
    ·rcases List.mem_cons.mp hp with rfl|hp
     ·exact List.mem_cons_self
     ·exact List.mem_cons_of_mem _ (hx p hp)
   ·exact nomatch h
theorem zaZ:∀{ps qs:Prs},ps.Pairwise (λa b=>a.1<b.1)->qs.Pairwise (λa b=>a.1<b.1)->(∀p,p∈ps↔p∈qs)->ps=qs
 | [],[],_,_,_=>rfl
 | [],q::qs,_,_,h=>absurd ((h q).mpr List.mem_cons_self) (by simp)
 | p::ps,[],_,_,h=>absurd ((h p).mp List.mem_cons_self) (by simp)
 | p::ps,q::qs,hp,hq,h=>by
  have hp':=List.pairwise_cons.mp hp;have hq':=List.pairwise_cons.mp hq
  have e:p=q:=by
   rcases List.mem_cons.mp ((h p).mp List.mem_cons_self) with z|z
   ·exact z
   ·rcases List.mem_cons.mp ((h q).mpr List.mem_cons_self) with y|y
    ·exact y.symm
    ·have h1:=hq'.1 p z
     have h2:=hp'.1 q y;omega
  subst e;rw[zaZ hp'.2 hq'.2 λx=>?_];constructor
  ·intro hx
   rcases List.mem_cons.mp ((h x).mp (List.mem_cons_of_mem _ hx)) with z|z
   ·subst z;exact absurd (hp'.1 x hx) (by omega)
   ·exact z
  ·intro hx
   rcases List.mem_cons.mp ((h x).mpr (List.mem_cons_of_mem _ hx)) with z|z
   ·subst z;exact absurd (hq'.1 x hx) (by omega)
   ·exact z
theorem zbf{ls:Ls}{ps:Prs}(P:Pairs ls ps)(R:∀p∈ps,p.1<p.2){a b:Int}:(a,b)∈ps↔a<b/\mate ps a=some b:=by
 constructor
 ·intro h;exact⟨R _ h,(jK P h).1⟩
 ·rintro⟨h1,h2⟩
  rcases Qk h2 with h|h
  ·exact h
  ·have:=R _ h;exact absurd (show b<a from this) (by omega)
theorem JD{ls:Ls}{ps:Prs}(P:Pairs ls ps){i j:Int}(h:mate ps i=some j):i∈rng ls.length:=zdi (P.has h).1 (P.has h).2.1
theorem zgc{ls:Ls}{ps qs:Prs}(P:Pairs ls ps)(Q:Pairs ls qs)(R:zig ps)(S:zig qs)(h:∀i∈rng ls.length,mate ps i=mate qs i):ps=qs:=by
 refine zaZ R.2 S.2 λ⟨a,b⟩=>?_;rw[zbf P R.1,zbf Q S.1];constructor
 ·rintro⟨h1,h2⟩;exact⟨h1,by rw[<-h a (JD P h2)];exact h2⟩
 ·rintro⟨h1,h2⟩;exact⟨h1,by rw[h a (JD Q h2)];exact h2⟩
def ww(x:Int)(p:Int×Int):Bool:=decide (x=p.1)||decide (x=p.2)
def Y5(p:Int×Int)(ps:Prs):Bool:=!(ps.any λo=>ww p.1 o||ww p.2 o)
def Yr(found:List Prs)(p:Int×Int):List Prs:=found++(found.filter (Y5 p)).map λps=>ps++[p]
def zN(L:Prs):List Prs:=L.foldl Yr [[]]
theorem Yq(L:Prs)(p:Int×Int):zN (L++[p])=Yr (zN L) p:=by
 unfold zN;rw[List.foldl_append];rfl
theorem WQ{p:Int×Int}{ps:Prs}:Y5 p ps=true↔p.1∉who ps/\p.2∉who ps:=by
 unfold Y5 ww;rw[Bool.not_eq_true',List.any_eq_false];constructor
 ·intro h
  refine⟨λz=>?_,λz=>?_⟩ <;>
  ·obtain⟨o,ho,hx⟩:=List.mem_flatMap.mp z
   have:=h o ho;simp at hx
   rcases hx with hx|hx <;> simp[hx] at this
 ·intro ⟨h1,h2⟩ o ho
  have n1:p.1≠o.1/\p.1≠o.2:=⟨λz=>h1 (List.mem_flatMap.mpr ⟨o,ho,by simp[z]⟩),λz=>h1 (List.mem_flatMap.mpr ⟨o,ho,by simp[z]⟩)⟩
  have n2:p.2≠o.1/\p.2≠o.2:=⟨λz=>h2 (List.mem_flatMap.mpr ⟨o,ho,by simp[z]⟩),λz=>h2 (List.mem_flatMap.mpr ⟨o,ho,by simp[z]⟩)⟩
  simp[n1,n2]
theorem qq{ps:Prs}{p:Int×Int}(hne:p.1≠p.2):(who (ps++[p])).Nodup↔(who ps).Nodup/\p.1∉who ps/\p.2∉who ps:=by
 rw[JO,List.nodup_append];constructor
 ·rintro⟨h1,_,h3⟩
  exact⟨h1,λz=>h3 _ z p.1 (by simp) rfl,λz=>h3 _ z p.2 (by simp) rfl⟩
 ·rintro⟨h1,h2,h3⟩
  refine⟨h1,by simp[hne],λx hx y hy e=>?_⟩
  subst e;simp at hy
  rcases hy with rfl|rfl
  ·exact h2 hx
  ·exact h3 hx
theorem yQ:∀(L:Prs),(∀p∈L,p.1≠p.2)->∀ps,ps∈zN L↔ps.Sublist L/\(who ps).Nodup:=by
 intro L
 induction L using Y8 with
 | h0 =>
  intro _ ps;show ps∈[[]]↔_;rw[List.mem_singleton];constructor
  ·rintro rfl;exact⟨List.Sublist.refl _,List.nodup_nil⟩
  ·rintro⟨h,_⟩;exact List.sublist_nil.mp h
 | h1 L p ih =>
  intro hL ps;have ih:=ih λq hq=>hL q (List.mem_append_left _ hq);have hp:p.1≠p.2:=hL p (List.mem_append_right _ (List.mem_singleton.mpr rfl));rw[Yq];unfold Yr;rw[List.mem_append,List.mem_map];constructor
  ·rintro(h|⟨qs,hq,rfl⟩)
   ·obtain⟨h1,h2⟩:=(ih ps).mp h
    exact⟨h1.trans (List.sublist_append_left _ _),h2⟩
   ·obtain⟨h1,h2⟩:=List.mem_filter.mp hq
    obtain⟨h3,h4⟩:=(ih qs).mp h1;exact⟨h3.append (List.Sublist.refl _),(qq hp).mpr ⟨h4,WQ.mp h2⟩⟩
  ·rintro⟨h1,h2⟩
   obtain⟨l1,l2,rfl,h3,h4⟩:=List.sublist_append_iff.mp h1
   rcases List.sublist_cons_iff.mp h4 with h5|⟨r,rfl,h5⟩
   ·have:=List.sublist_nil.mp h5
    subst this;rw[List.append_nil] at h2 ⊢;exact .inl ((ih l1).mpr ⟨h3,h2⟩)
   ·have:=List.sublist_nil.mp h5
    subst this;have h6:=(qq hp).mp h2;exact .inr ⟨l1,List.mem_filter.mpr ⟨(ih l1).mpr ⟨h3,h6.1⟩,WQ.mpr h6.2⟩,rfl⟩
theorem qr:∀(L:Prs),(∀p∈L,p.1≠p.2)->L.Nodup->(zN L).Nodup:=by
 intro L
 induction L using Y8 with
 | h0=>intro _ _;show [([]:Prs)].Nodup;simp
 | h1 L p ih =>
  intro hL hn;have hL':∀q∈L,q.1≠q.2:=λq hq=>hL q (List.mem_append_left _ hq);obtain⟨n1,_,n3⟩:=List.nodup_append.mp hn;rw[Yq];unfold Yr;rw[List.nodup_append];refine⟨ih hL' n1,QC (λa b e=>List.append_cancel_right e) ((ih hL' n1).sublist List.filter_sublist),λx hx y hy e=>?_⟩;subst e;obtain⟨qs,_,rfl⟩:=List.mem_map.mp hy;have:=((yQ L hL' _).mp hx).1.subset (List.mem_append_right _ (List.mem_singleton.mpr rfl));exact n3 p this p (List.mem_singleton.mpr rfl) rfl
theorem zho(f:Int->Int->Bool)(i k:Nat):(row f i k).Pairwise (λa b=>a.1=b.1/\a.2<b.2):=by
 unfold row;refine List.Pairwise.sublist List.filter_sublist ?_;rw[List.pairwise_map];refine List.Pairwise.imp (λ{a b} h=>?_) List.pairwise_lt_range
 exact⟨rfl,by show (i:Int)+1+(a:Int)<(i:Int)+1+(b:Int);omega⟩
theorem zab(f:Int->Int->Bool)(n i:Nat):(Qs f n i).Pairwise (λa b=>a.1<b.1\/(a.1=b.1/\a.2<b.2)):=by
 unfold Qs;rw[List.pairwise_flatMap];refine⟨λa _=>(zho f a _).imp λh=>.inr h,List.Pairwise.imp (λ{a b} h=>?_) List.pairwise_lt_range⟩;intro x hx y hy;have h1:=(zac hx).1;have h2:=(zac hy).1
 exact .inl (by omega)
theorem QB{ls:Ls}:∀p∈Zw ls,p.1<p.2:=λp hp=>(YT hp).2.1
theorem Jv(ls:Ls):(Zw ls).Nodup:=by
 refine List.Pairwise.imp (λ{a b} h e=>?_) (zab (zH ls) ls.length ls.length);subst e
 rcases h with h|h <;> omega
theorem zek{ls:Ls}{ps:Prs}(h:ps.Sublist (Zw ls))(hn:(who ps).Nodup):zig ps:=by
 refine⟨λp hp=>QB p (h.subset hp),?_⟩;have pw:=(zab (zH ls) ls.length ls.length).sublist h
 have go:∀{qs:Prs},qs.Pairwise (λa b=>a.1<b.1\/(a.1=b.1/\a.2<b.2))->(who qs).Nodup->qs.Pairwise (λa b=>a.1<b.1):=by
  intro qs
  induction qs with
  | nil=>intro _ _;exact List.Pairwise.nil
  | cons q qs ih =>
   intro h1 h2;obtain⟨a1,a2⟩:=List.pairwise_cons.mp h1;rw[JP] at h2;have b:=List.nodup_cons.mp h2;have c:=List.nodup_cons.mp b.2;refine List.pairwise_cons.mpr ⟨λx hx=>?_,ih a2 c.2⟩
   rcases a1 x hx with z|z
   ·exact z
   ·exfalso
    refine b.1 (List.mem_cons_of_mem _ (List.mem_flatMap.mpr ⟨x,hx,?_⟩));simp[z.1]
 exact go pw hn
theorem zcv{ls:Ls}{ps:Prs}(h:ps.Sublist (Zw ls))(hn:(who ps).Nodup):Pairs ls ps :=
 ⟨λp hp=>by
  obtain⟨h1,h2,h3,h4⟩:=YT (h.subset hp)
  exact⟨h1,by omega,by omega,h3,by omega,h4⟩,hn⟩
theorem zft(n:Nat):(rng n).Pairwise (·<·):=by
 unfold rng;rw[List.pairwise_map]
 exact List.Pairwise.imp (λ{a b} h=>by omega) List.pairwise_lt_range
theorem zeM{ls:Ls}{a b:Int}(h0:0<=a)(h1:a<b)(h2:b<ls.length)(hw:zH ls a b=true):(a,b)∈Zw ls:=by
 unfold Zw Qs
 refine List.mem_flatMap.mpr ⟨a.toNat,List.mem_range.mpr (by omega),?_⟩
 unfold row
 refine List.mem_filter.mpr ⟨List.mem_map.mpr ⟨(b-a-1).toNat,List.mem_range.mpr (by omega),?_⟩,hw⟩
 refine Prod.ext ?_ ?_
 ·show ((a.toNat:Nat):Int)=a;omega
 ·show ((a.toNat:Nat):Int)+1+(((b-a-1).toNat:Nat):Int)=b;omega
theorem zcw:∀{L ps:Prs},L.Pairwise (λa b=>a.1<b.1\/(a.1=b.1/\a.2<b.2))->ps.Pairwise (λa b=>a.1<b.1)->(∀p∈ps,p∈L)->ps.Sublist L
 | _,[],_,_,_=>List.nil_sublist _
 | [],p::ps,_,_,h=>absurd (h p List.mem_cons_self) (by simp)
 | q::L,p::ps,hL,hp,h=>by
  obtain⟨l1,l2⟩:=List.pairwise_cons.mp hL;obtain⟨p1,p2⟩:=List.pairwise_cons.mp hp
  by_cases e:p=q
  ·subst e
   refine List.Sublist.cons₂ _ (zcw l2 p2 λx hx=>?_)
   rcases List.mem_cons.mp (h x (List.mem_cons_of_mem _ hx)) with z|z
   ·subst z;exact absurd (p1 x hx) (by omega)
   ·exact z
  ·refine List.Sublist.cons _ (zcw l2 hp λx hx=>?_)
   rcases List.mem_cons.mp (h x hx) with z|z
   ·exfalso
    subst z
    have hpL:p∈L:=by
     rcases List.mem_cons.mp (h p List.mem_cons_self) with y|y
     ·exact absurd y e
     ·exact y
    have h1:=l1 p hpL
    rcases List.mem_cons.mp hx with y|y
    ·exact e y.symm
    ·have h2:=p1 x y
     rcases h1 with h1|h1 <;> omega
   ·exact z
theorem Yp{ls:Ls}(hV:Valid ls)(ps:Prs):ps∈zN (Zw ls)↔ps∈ways ls 6 (rng ls.length):=by
 rw[yQ _ λp hp=>by have:=QB p hp;omega]
 have h6:(rng ls.length).length<=6:=by rw[zM];exact hV.le
 constructor
 ·rintro⟨h1,h2⟩
  have P:=zcv h1 h2;obtain⟨qs,hq,hm⟩:=QZ hV 6 (rng ls.length) h6 (ZK ls) (zhI P);have e:=zgc (zW hV 6 _ (ZK ls) qs hq).1 P (qU ls 6 _ (zft _) qs hq).1 (zek h1 h2) hm;rw[<-e];exact hq
 ·intro h
  obtain⟨P,_⟩:=zW hV 6 _ (ZK ls) ps h;obtain⟨R,_⟩:=qU ls 6 _ (zft _) ps h;refine⟨zcw (zab (zH ls) ls.length ls.length) R.2 λp hp=>?_,P.apart⟩;obtain⟨a1,_,_,a4,_,a6⟩:=P.each p hp;exact zeM a1 (R.1 p hp) a4 a6
theorem wj{ls:Ls}(hV:Valid ls):((zN (Zw ls)).filter λps=>decide (breaking ls ps=[])).Perm (zo ls):=by
 refine(List.perm_ext_iff_of_nodup ((qr _ (λp hp=>by have:=QB p hp;omega) (Jv ls)).sublist List.filter_sublist) (YM hV)).mpr λps=>?_
 unfold zo;rw[List.mem_filter,List.mem_filter,Yp hV]
end TN
namespace Tp
open PySem PySem.Spec PyProof.Rows L2 TX TM TK
seal PySem.Sem.wp
def zjj(sc:Scope)(x:Str):Bool:=match sc.names.lookup x with
 | some .local=>true
 | some .cell=>true
 | _=>false
theorem loc{sc:Scope}{x:Str}(h:zjj sc x=true):Loc sc x:=by
 unfold zjj at h;split at h
 ·exact Or.inl (by assumption)
 ·exact Or.inr (by assumption)
 ·cases h
def top(i:Nat):Stmt:=PySem.Challenge.pw_tentpairs_k03_whole_all_steady.main.body.getD i (.Pass ⟨0,0,0,0⟩)
abbrev zL:Stmt:=wx (top 5) 0
abbrev yI:Stmt:=top 9
abbrev ZM:Stmt:=top 10
abbrev Z5:Stmt:=top 11
abbrev Zp:Stmt:=wx (top 12) 0
abbrev Zh:Stmt:=wx (top 12) 2
abbrev Za:Stmt:=wx (top 12) 3
abbrev yl:Stmt:=top 13
abbrev y4:Stmt:=top 14
abbrev Z2:Stmt:=top 15
abbrev Ya:Stmt:=top 16
abbrev y9:Stmt:=top 17
abbrev z6:Stmt:=top 20
abbrev zX:Stmt:=top 21
abbrev ZL:Stmt:=top 22
abbrev yh:Stmt:=top 23
abbrev yH:Stmt:=top 24
abbrev yC:Stmt:=top 25
abbrev yb:Stmt:=top 26
abbrev yF:Stmt:=top 27
abbrev ZW:Stmt:=top 28
abbrev y3:Stmt:=top 29
abbrev Zm:Stmt:=top 31
abbrev ZX:Stmt:=top 32
abbrev z9:Stmt:=top 33
abbrev Qy:Stmt:=top 34
abbrev Qx:Stmt:=top 35
abbrev Z4:Stmt:=top 37
abbrev y8:Stmt:=top 38
abbrev Zu:Stmt:=top 39
abbrev yG:Stmt:=top 40
abbrev yj:Stmt:=top 41
abbrev y6:Stmt:=top 42
abbrev yk:Stmt:=top 43
abbrev y7:Stmt:=top 44
abbrev yi:Stmt:=top 45
abbrev yB:Stmt:=top 46
abbrev ZD:Stmt:=top 47
abbrev Z3:Stmt:=top 48
abbrev yA:Stmt:=top 49
abbrev yc:Stmt:=top 50
abbrev QW:Stmt:=top 51
theorem YH:FnScope ["self","rings"] ["self","rings"] (zk zL):=⟨rfl,rfl,rfl,by decide +kernel,rfl,by decide +kernel,by decide +kernel⟩
theorem w4:FnScope ["value","size"] ["value","size"] (zk yI):=⟨rfl,rfl,rfl,by decide +kernel,rfl,by decide +kernel,by decide +kernel⟩
theorem jq:FnScope ["camper","wishes","size","seen","other"] ["camper","wishes","size"] (zk ZM):=⟨rfl,rfl,rfl,by decide +kernel,rfl,by decide +kernel,by decide +kernel⟩
theorem Jh:FnScope ["lists","camper","wishes"] ["lists"] (zk Z5):=⟨rfl,rfl,rfl,by decide +kernel,rfl,by decide +kernel,by decide +kernel⟩
theorem QV:FnScope ["self","lists"] ["self","lists"] (zk Zp):=⟨rfl,rfl,rfl,by decide +kernel,rfl,by decide +kernel,by decide +kernel⟩
theorem qD:FnScope ["self","one","other"] ["self","one","other"] (zk Zh):=⟨rfl,rfl,rfl,by decide +kernel,rfl,by decide +kernel,by decide +kernel⟩
theorem qk:FnScope ["self","camper","other","had","wishes"] ["self","camper","other","had"] (zk Za):=⟨rfl,rfl,rfl,by decide +kernel,rfl,by decide +kernel,by decide +kernel⟩
theorem J3:FnScope ["camp","pair","camper"] ["camp","pair"] (zk yl):=⟨rfl,rfl,rfl,by decide +kernel,rfl,by decide +kernel,by decide +kernel⟩
theorem W2:FnScope ["camp","pairs","found","pair"] ["camp","pairs"] (zk y4):=⟨rfl,rfl,rfl,by decide +kernel,rfl,by decide +kernel,by decide +kernel⟩
theorem Je:FnScope ["camp","having","one","other"] ["camp","having","one","other"] (zk Z2):=⟨rfl,rfl,rfl,by decide +kernel,rfl,by decide +kernel,by decide +kernel⟩
theorem W8:FnScope ["camp","having","found","lesser","greater"] ["camp","having"] (zk Ya):=⟨rfl,rfl,rfl,by decide +kernel,rfl,by decide +kernel,by decide +kernel⟩
theorem W7:FnScope ["camp","pairs"] ["camp","pairs"] (zk y9):=⟨rfl,rfl,rfl,by decide +kernel,rfl,by decide +kernel,by decide +kernel⟩
theorem Qa:FnScope ["camp","ring"] ["camp","ring"] (zk z6):=⟨rfl,rfl,rfl,by decide +kernel,rfl,by decide +kernel,by decide +kernel⟩
theorem qA:FnScope ["camp","ring"] ["camp","ring"] (zk zX):=⟨rfl,rfl,rfl,by decide +kernel,rfl,by decide +kernel,by decide +kernel⟩
theorem jp:FnScope ["camp","ring"] ["camp","ring"] (zk ZL):=⟨rfl,rfl,rfl,by decide +kernel,rfl,by decide +kernel,by decide +kernel⟩
theorem JZ:FnScope ["camp","rings","standing","ring"] ["camp","rings"] (zk yh):=⟨rfl,rfl,rfl,by decide +kernel,rfl,by decide +kernel,by decide +kernel⟩
theorem wZ:FnScope ["rings","found","ring","place","camper"] ["rings"] (zk yH):=⟨rfl,rfl,rfl,by decide +kernel,rfl,by decide +kernel,by decide +kernel⟩
theorem W9:FnScope ["camp","rings"] ["camp","rings"] (zk yC):=⟨rfl,rfl,rfl,by decide +kernel,rfl,by decide +kernel,by decide +kernel⟩
theorem wV:FnScope ["camp","rings"] ["camp","rings"] (zk yb):=⟨rfl,rfl,rfl,by decide +kernel,rfl,by decide +kernel,by decide +kernel⟩
theorem wU:FnScope ["camp","closed","free"] ["camp","closed","free"] (zk yF):=⟨rfl,rfl,rfl,by decide +kernel,rfl,by decide +kernel,by decide +kernel⟩
theorem JY:FnScope ["camp","closed","ring","free","found","other","left"] ["camp","closed","ring","free"] (zk ZW):=⟨rfl,rfl,rfl,by decide +kernel,rfl,by decide +kernel,by decide +kernel⟩
theorem W1:FnScope ["camp"] ["camp"] (zk y3):=⟨rfl,rfl,rfl,by decide +kernel,rfl,by decide +kernel,by decide +kernel⟩
theorem jm:FnScope ["camp","free","first","others","found","mate","left"] ["camp","free"] (zk Zm):=⟨rfl,rfl,rfl,by decide +kernel,rfl,by decide +kernel,by decide +kernel⟩
theorem J4:FnScope ["camp","ways"] ["camp"] (zk ZX):=⟨rfl,rfl,rfl,by decide +kernel,rfl,by decide +kernel,by decide +kernel⟩
theorem yt:FnScope ["camp","found"] ["camp"] (zk z9):=⟨rfl,rfl,rfl,by decide +kernel,rfl,by decide +kernel,by decide +kernel⟩
theorem zaU:FnScope ["camp","having"] ["camp"] (zk Qy):=⟨rfl,rfl,rfl,by decide +kernel,rfl,by decide +kernel,by decide +kernel⟩
theorem zaT:FnScope ["camp","camper","found","pairs"] ["camp","camper"] (zk Qx):=⟨rfl,rfl,rfl,by decide +kernel,rfl,by decide +kernel,by decide +kernel⟩
theorem Jg:FnScope ["_law_script","_law_k"] ["_law_script","_law_k"] (zk Z4):=⟨rfl,rfl,rfl,by decide +kernel,rfl,by decide +kernel,by decide +kernel⟩
theorem W6:FnScope ["_law_cell","_law_k","_law_many","_law_primes","_law_blend"] ["_law_cell","_law_k","_law_many"] (zk y8):=⟨rfl,rfl,rfl,by decide +kernel,rfl,by decide +kernel,by decide +kernel⟩
theorem wY:FnScope ["_law_script","_law_first","_law_cell","_law_other","_law_many","_law_kind","_law_lists_here","_law_camper","_law_left","_law_told","_law_ring","_law_first_two","_law_shift","_law_turned"] ["_law_script","_law_first"] (zk Zu):=⟨rfl,rfl,rfl,by decide +kernel,rfl,by decide +kernel,by decide +kernel⟩
theorem wW:FnScope ["_law_lists_here","_law_one","_law_other"] ["_law_lists_here","_law_one","_law_other"] (zk yG):=⟨rfl,rfl,rfl,by decide +kernel,rfl,by decide +kernel,by decide +kernel⟩
theorem J1:FnScope ["_law_lists_here","_law_camper","_law_one","_law_other"] ["_law_lists_here","_law_camper","_law_one","_law_other"] (zk yj):=⟨rfl,rfl,rfl,by decide +kernel,rfl,by decide +kernel,by decide +kernel⟩
theorem W3:FnScope ["_law_lists_here","_law_found","_law_one","_law_other"] ["_law_lists_here"] (zk y6):=⟨rfl,rfl,rfl,by decide +kernel,rfl,by decide +kernel,by decide +kernel⟩
theorem J2:FnScope ["_law_lists_here","_law_have_here","_law_found","_law_one","_law_other","_law_first"] ["_law_lists_here","_law_have_here"] (zk yk):=⟨rfl,rfl,rfl,by decide +kernel,rfl,by decide +kernel,by decide +kernel⟩
theorem jo:FnScope ["_law_lists_here","_law_pairs_here","_law_have_here","_law_one","_law_other","_law_alike"] ["_law_lists_here","_law_pairs_here"] (zk y7):=⟨rfl,rfl,rfl,by decide +kernel,rfl,by decide +kernel,by decide +kernel⟩
theorem J0:FnScope ["_law_lists_here","_law_pairs_here","_law_have_here"] ["_law_lists_here","_law_pairs_here"] (zk yi):=⟨rfl,rfl,rfl,by decide +kernel,rfl,by decide +kernel,by decide +kernel⟩
theorem W5:FnScope ["_law_lists_here","_law_rings","_law_every","_law_ring","_law_odd","_law_last","_law_k","_law_here"] ["_law_lists_here","_law_rings"] (zk yB):=⟨rfl,rfl,rfl,by decide +kernel,rfl,by decide +kernel,by decide +kernel⟩
theorem jn:FnScope ["_law_lists_here","_law_found","_law_pair","_law_more","_law_some"] ["_law_lists_here"] (zk ZD):=⟨rfl,rfl,rfl,by decide +kernel,rfl,by decide +kernel,by decide +kernel⟩
theorem Jf:FnScope ["_law_lists_here","_law_camp","_law_ask","error","_law_others"] ["_law_lists_here","_law_camp","_law_ask"] (zk Z3):=⟨rfl,rfl,rfl,by decide +kernel,rfl,by decide +kernel,by decide +kernel⟩
theorem W4:FnScope ["_law_found","_law_due"] ["_law_found","_law_due"] (zk yA):=⟨rfl,rfl,rfl,by decide +kernel,rfl,by decide +kernel,by decide +kernel⟩
theorem wX:FnScope ["_law_found","_law_some"] ["_law_found"] (zk yc):=⟨rfl,rfl,rfl,by decide +kernel,rfl,by decide +kernel,by decide +kernel⟩
theorem zhm:FnScope ["_law_script","_law_lists_here","_law_camp","_law_due","_law_again","_law_found","_law_single","_law_some","_law_have_here","_law_k","_law_camper","_law_had"] ["_law_script"] (zk QW):=⟨rfl,rfl,rfl,by decide +kernel,rfl,by decide +kernel,by decide +kernel⟩
structure Adr where
 C:Addr
 X_CampError:Addr
 X_BadCamp:Addr
 X_BadPairs:Addr
 X_NoCamper:Addr
 X_NoneSteady:Addr
 X_BadText:Addr
 tT:Addr
 NoneSteady___init__:Addr
 fd_NoneSteady___init__:FuncData
 is_camper:Addr
 fd_is_camper:FuncData
 check_wishes:Addr
 fd_check_wishes:FuncData
 check_lists:Addr
 fd_check_lists:FuncData
 Camp___init__:Addr
 fd_Camp___init__:FuncData
 Camp_would_share:Addr
 fd_Camp_would_share:FuncData
 Camp_would_rather:Addr
 fd_Camp_would_rather:FuncData
 check_pair:Addr
 fd_check_pair:FuncData
 partners:Addr
 fd_partners:FuncData
 would_break:Addr
 fd_would_break:FuncData
 breakers:Addr
 fd_breakers:FuncData
 breaking:Addr
 fd_breaking:FuncData
 would_all_share:Addr
 fd_would_all_share:FuncData
 would_all_rather:Addr
 fd_would_all_rather:FuncData
 is_good_ring:Addr
 fd_is_good_ring:FuncData
 stand_once:Addr
 fd_stand_once:FuncData
 last_ones:Addr
 fd_last_ones:FuncData
 are_good:Addr
 fd_are_good:FuncData
 tell_none:Addr
 fd_tell_none:FuncData
 with_free:Addr
 fd_with_free:FuncData
 with_begun:Addr
 fd_with_begun:FuncData
 rings_of:Addr
 fd_rings_of:FuncData
 ways_to_pair:Addr
 fd_ways_to_pair:FuncData
 all_steady:Addr
 fd_all_steady:FuncData
 steady_or_refused:Addr
 fd_steady_or_refused:FuncData
 alone:Addr
 fd_alone:FuncData
 mates:Addr
 fd_mates:FuncData
 law_cell_at:Addr
 fd_law_cell_at:FuncData
 law_draw:Addr
 fd_law_draw:FuncData
 law_lists:Addr
 fd_law_lists:FuncData
 law_would:Addr
 fd_law_would:FuncData
 law_rather:Addr
 fd_law_rather:FuncData
 law_open:Addr
 fd_law_open:FuncData
 law_broken:Addr
 fd_law_broken:FuncData
 law_have:Addr
 fd_law_have:FuncData
 law_steady:Addr
 fd_law_steady:FuncData
 law_good:Addr
 fd_law_good:FuncData
 law_pairings:Addr
 fd_law_pairings:FuncData
 law_refused:Addr
 fd_law_refused:FuncData
 law_ones:Addr
 fd_law_ones:FuncData
 law_pairs:Addr
 fd_law_pairs:FuncData
 law:Addr
 fd_law:FuncData
 tM:Tok
structure Txt(K:PySem.W.Frag)(mg:Str->Option Value)(t:Adr):Prop where
 cl:Cls K t.C
 n_size:qw K t.C "size"
 n_wishes:qw K t.C "wishes"
 mk_Camp:Mk K t.C t.Camp___init__
 mg_Camp:mg "Camp"=some (.ref t.C)
 mg_M:mg "MOST_CAMPERS"=some (.int 6 t.tM)
 b_len:mg "len"=none
 b_list:mg "list"=none
 b_isinstance:mg "isinstance"=none
 b_range:mg "range"=none
 b_enumerate:mg "enumerate"=none
 b_min:mg "min"=none
 b_any:mg "any"=none
 b_all:mg "all"=none
 b_int:mg "int"=none
 b_bool:mg "bool"=none
 b_tuple:mg "tuple"=none
 b_sorted:mg "sorted"=none
 b_ValueError:mg "ValueError"=none
 mg_CampError:mg "CampError"=some (.ref t.X_CampError)
 mg_BadCamp:mg "BadCamp"=some (.ref t.X_BadCamp)
 mg_BadPairs:mg "BadPairs"=some (.ref t.X_BadPairs)
 mg_NoCamper:mg "NoCamper"=some (.ref t.X_NoCamper)
 mg_NoneSteady:mg "NoneSteady"=some (.ref t.X_NoneSteady)
 mg_BadText:mg "BadText"=some (.ref t.X_BadText)
 kt_CampError:PySem.W.ktsIn K t.X_CampError "BaseException"=true
 sp_CampError:PySem.W.specialIn K (.ref t.X_CampError) "__getattribute__"=some (some (.builtin "type.__getattribute__"))
 rd_CampError:PySem.W.readsIn K t.X_CampError (.type "type")=true
 fc_CampError:PySem.W.findCls K (.ref t.X_CampError) (.type "type") "__init__"=some (.val (.builtin "ValueError.__init__"))
 xc_NoneSteady:TX.XC K t.X_NoneSteady
 be_NoneSteady:TX.j7 K t.X_NoneSteady t.X_CampError=true
 kx_NoneSteady_BadCamp:PySem.W.kitOne K (.ref t.X_NoneSteady) (.ref t.X_BadCamp)=some false
 kx_NoneSteady_BadPairs:PySem.W.kitOne K (.ref t.X_NoneSteady) (.ref t.X_BadPairs)=some false
 kx_NoneSteady_NoCamper:PySem.W.kitOne K (.ref t.X_NoneSteady) (.ref t.X_NoCamper)=some false
 kx_NoneSteady_NoneSteady:PySem.W.kitOne K (.ref t.X_NoneSteady) (.ref t.X_NoneSteady)=some true
 kx_NoneSteady_BadText:PySem.W.kitOne K (.ref t.X_NoneSteady) (.ref t.X_BadText)=some false
 kv_NoneSteady:PySem.W.kitOne K (.ref t.X_NoneSteady) (.type "ValueError")=some true
 ii_NoneSteady:TX.WE K t.X_NoneSteady t.X_CampError t.NoneSteady___init__=true
 fn_NoneSteady:PySem.W.isFn K (.ref t.NoneSteady___init__)=true
 sa_NoneSteady:PySem.W.findIn K (.ref t.X_NoneSteady) "__setattr__"=some (some (.builtin "object.__setattr__"))
 nx_rings:PySem.W.findIn K (.ref t.X_NoneSteady) "rings"=some none
 mg_T:mg "TELLING_SIZES"=some (.ref t.tT)
 k_T:∀H,SqT K H t.tT [.int 3,.int 5]
 NoneSteady___init__:TK.MeP K t.X_NoneSteady "__init__" "NoneSteady.__init__" zL ["self","rings"] t.NoneSteady___init__ t.fd_NoneSteady___init__
 is_camper:TK.FnP K mg "is_camper" "is_camper" yI ["value","size"] t.is_camper t.fd_is_camper
 check_wishes:TK.FnP K mg "check_wishes" "check_wishes" ZM ["camper","wishes","size"] t.check_wishes t.fd_check_wishes
 check_lists:TK.FnP K mg "check_lists" "check_lists" Z5 ["lists"] t.check_lists t.fd_check_lists
 Camp___init__:TK.MeP K t.C "__init__" "Camp.__init__" Zp ["self","lists"] t.Camp___init__ t.fd_Camp___init__
 Camp_would_share:TK.MeP K t.C "would_share" "Camp.would_share" Zh ["self","one","other"] t.Camp_would_share t.fd_Camp_would_share
 Camp_would_rather:TK.MeP K t.C "would_rather" "Camp.would_rather" Za ["self","camper","other","had"] t.Camp_would_rather t.fd_Camp_would_rather
 check_pair:TK.FnP K mg "check_pair" "check_pair" yl ["camp","pair"] t.check_pair t.fd_check_pair
 partners:TK.FnP K mg "partners" "partners" y4 ["camp","pairs"] t.partners t.fd_partners
 would_break:TK.FnP K mg "would_break" "would_break" Z2 ["camp","having","one","other"] t.would_break t.fd_would_break
 breakers:TK.FnP K mg "breakers" "breakers" Ya ["camp","having"] t.breakers t.fd_breakers
 breaking:TK.FnP K mg "breaking" "breaking" y9 ["camp","pairs"] t.breaking t.fd_breaking
 would_all_share:TK.FnP K mg "would_all_share" "would_all_share" z6 ["camp","ring"] t.would_all_share t.fd_would_all_share
 would_all_rather:TK.FnP K mg "would_all_rather" "would_all_rather" zX ["camp","ring"] t.would_all_rather t.fd_would_all_rather
 is_good_ring:TK.FnP K mg "is_good_ring" "is_good_ring" ZL ["camp","ring"] t.is_good_ring t.fd_is_good_ring
 stand_once:TK.FnP K mg "stand_once" "stand_once" yh ["camp","rings"] t.stand_once t.fd_stand_once
 last_ones:TK.FnP K mg "last_ones" "last_ones" yH ["rings"] t.last_ones t.fd_last_ones
 are_good:TK.FnP K mg "are_good" "are_good" yC ["camp","rings"] t.are_good t.fd_are_good
 tell_none:TK.FnP K mg "tell_none" "tell_none" yb ["camp","rings"] t.tell_none t.fd_tell_none
 with_free:TK.FnP K mg "with_free" "with_free" yF ["camp","closed","free"] t.with_free t.fd_with_free
 with_begun:TK.FnP K mg "with_begun" "with_begun" ZW ["camp","closed","ring","free"] t.with_begun t.fd_with_begun
 rings_of:TK.FnP K mg "rings_of" "rings_of" y3 ["camp"] t.rings_of t.fd_rings_of
 ways_to_pair:TK.FnP K mg "ways_to_pair" "ways_to_pair" Zm ["camp","free"] t.ways_to_pair t.fd_ways_to_pair
 all_steady:TK.FnP K mg "all_steady" "all_steady" ZX ["camp"] t.all_steady t.fd_all_steady
 steady_or_refused:TK.FnP K mg "steady_or_refused" "steady_or_refused" z9 ["camp"] t.steady_or_refused t.fd_steady_or_refused
 alone:TK.FnP K mg "alone" "alone" Qy ["camp"] t.alone t.fd_alone
 mates:TK.FnP K mg "mates" "mates" Qx ["camp","camper"] t.mates t.fd_mates
 law_cell_at:TK.FnP K mg "_law_cell_at" "_law_cell_at" Z4 ["_law_script","_law_k"] t.law_cell_at t.fd_law_cell_at
 law_draw:TK.FnP K mg "_law_draw" "_law_draw" y8 ["_law_cell","_law_k","_law_many"] t.law_draw t.fd_law_draw
 law_lists:TK.FnP K mg "_law_lists" "_law_lists" Zu ["_law_script","_law_first"] t.law_lists t.fd_law_lists
 law_would:TK.FnP K mg "_law_would" "_law_would" yG ["_law_lists_here","_law_one","_law_other"] t.law_would t.fd_law_would
 law_rather:TK.FnP K mg "_law_rather" "_law_rather" yj ["_law_lists_here","_law_camper","_law_one","_law_other"] t.law_rather t.fd_law_rather
 law_open:TK.FnP K mg "_law_open" "_law_open" y6 ["_law_lists_here"] t.law_open t.fd_law_open
 law_broken:TK.FnP K mg "_law_broken" "_law_broken" yk ["_law_lists_here","_law_have_here"] t.law_broken t.fd_law_broken
 law_have:TK.FnP K mg "_law_have" "_law_have" y7 ["_law_lists_here","_law_pairs_here"] t.law_have t.fd_law_have
 law_steady:TK.FnP K mg "_law_steady" "_law_steady" yi ["_law_lists_here","_law_pairs_here"] t.law_steady t.fd_law_steady
 law_good:TK.FnP K mg "_law_good" "_law_good" yB ["_law_lists_here","_law_rings"] t.law_good t.fd_law_good
 law_pairings:TK.FnP K mg "_law_pairings" "_law_pairings" ZD ["_law_lists_here"] t.law_pairings t.fd_law_pairings
 law_refused:TK.FnP K mg "_law_refused" "_law_refused" Z3 ["_law_lists_here","_law_camp","_law_ask"] t.law_refused t.fd_law_refused
 law_ones:TK.FnP K mg "_law_ones" "_law_ones" yA ["_law_found","_law_due"] t.law_ones t.fd_law_ones
 law_pairs:TK.FnP K mg "_law_pairs" "_law_pairs" yc ["_law_found"] t.law_pairs t.fd_law_pairs
 law:TK.FnP K mg "law" "law" QW ["_law_script"] t.law t.fd_law
end Tp
namespace Tp
open PySem PySem.Spec PyProof.Rows L2 TX TM TK
seal PySem.Sem.wp
theorem zbm{l:List Int}:dZ l=.list []↔l=[]:=by
 constructor
 ·intro h
  unfold dZ at h
  injection h with h
  simpa using h
 ·rintro rfl;rfl
section
variable {P:Program}{w:World}{K:PySem.W.Frag}{mg:Str->Option Value}{base:Heap}{t:Adr}
theorem wD(i j:Int):decide (V.int i=V.int j)=decide (i=j):=by
 by_cases e:i=j
 ·subst e;simp
 ·rw[decide_eq_false e,decide_eq_false (λz=>e (by injection z))]
theorem qE(n:Nat):zgb 0 (n:Int)=(rng n).map V.int:=by
 unfold zgb rng
 rw[List.map_map,show ((n:Int)-0).toNat=n by omega]
 apply List.map_congr_left;intro k _;show V.int (0+(k:Int))=V.int (k:Int);rw[Int.zero_add]
theorem jU{n:Nat}{i:Int}(h0:0<=i)(h1:i<n):ixN n i=some i.toNat:=by
 unfold ixN;rw[if_pos h0,if_pos h1]
theorem ziy{z:Int}{n:Nat}(h0:0<=z)(h1:z<n):seqIndex? z n=some z.toNat:=(zat (jU h0 h1)).1
theorem Ys:PySem.W.kqdOk 9 (.list [])=true:=by simp[PySem.W.kqdOk]
theorem yW{hv:List Int}{i:Int}(h0:0<=i)(h1:i<hv.length):atI (hv.map V.int) i=some (.int (hv.getD i.toNat 0)):=by
 have hi:i.toNat<hv.length:=by omega
 exact qu h0 (by simp[List.getD,hi])
end
section
variable {P:Program}{w:World}{K:PySem.W.Frag}{mg:Str->Option Value}{base:Heap}{t:Adr}
theorem Y4{ps:Prs}:dPL ps=.list []↔ps=[]:=by
 constructor
 ·intro h
  unfold dPL at h
  injection h with h
  simpa using h
 ·rintro rfl;rfl
theorem j8{l:List Int}{k:Nat}(hk:k<l.length):atI (l.map V.int) ((0:Int)+(k:Int))=some (.int (ra l k)):=by
 rw[Int.zero_add];refine wF ?_;unfold ra;simp[List.getD,hk]
theorem QH{l:List Int}{k:Nat}(hk:k<l.length):atI (l.map V.int) ((0:Int)+(k:Int)-1)=some (.int (rp l k)):=by
 unfold rp
 by_cases h0:k=0
 ·subst h0
  rw[if_pos rfl];have hl:(l.map V.int).length=l.length:=List.length_map ..
  have e:atI (l.map V.int) ((0:Int)+((0:Nat):Int)-1)=(l.map V.int)[l.length-1]?:=by
   unfold atI ixN
   rw[hl,if_neg (by omega),if_pos (by omega)]
   show (l.map V.int)[((0:Int)+((0:Nat):Int)-1+(l.length:Int)).toNat]?=_;congr 1;omega
  rw[e]
  simp[List.getD,show l.length-1<l.length by omega]
 ·rw[if_neg h0,show (0:Int)+(k:Int)-1=((k-1:Nat):Int) by omega]
  refine wF ?_
  simp[List.getD,show k-1<l.length by omega]
theorem zcR{l:List Int}{k:Nat}(hk:k<l.length):ra l k∈l:=by
 have:ra l k=l[k]:=by unfold ra;simp[List.getD,hk]
 rw[this];exact List.getElem_mem _
theorem zaW{l:List Int}{k:Nat}(hk:k<l.length):rp l k∈l:=by
 unfold rp
 have h:(if k=0 then l.length-1 else k-1)<l.length:=by split <;> omega
 have:l.getD (if k=0 then l.length-1 else k-1) 0=l[if k=0 then l.length-1 else k-1]:=by simp[List.getD,h]
 rw[this];exact List.getElem_mem _
theorem zjl(n:Nat):inV (.int (n:Int)) [.int 3,.int 5]=(decide ((n:Int)=3)||decide ((n:Int)=5)):=by
 show (((3:Int)==(n:Int))||(((5:Int)==(n:Int))||false))=_;rw[Bool.or_false];congr 1
 ·rw[Bool.eq_iff_iff];simp;omega
 ·rw[Bool.eq_iff_iff];simp;omega
theorem zdS{ls:Ls}:dLL ls=.list []↔ls=[]:=by
 constructor
 ·intro h
  unfold dLL at h
  injection h with h
  simpa using h
 ·rintro rfl;rfl
end
section
variable {P:Program}{w:World}{K:PySem.W.Frag}{mg:Str->Option Value}{base:Heap}{t:Adr}
theorem QQ{A B:Prop}{b:Bool}(h:b=true)(q:B):if (!b)=true then A else B:=by subst h;exact q
theorem Yw{A B:Prop}{b:Bool}(h:b=false)(q:B):if b=true then A else B:=by subst h;exact q
theorem zdA{A B:Prop}{b:Bool}(h:b=true)(q:A):if b=true then A else B:=by subst h;exact q
def zbD:Sp:=λvs H Q _=>∃v n:Int,vs=[.int v,.int n]/\Q (.bl (decide (0<=v)&&decide (v<n))) H
theorem yR(T:Txt K mg t):FnOk P w K mg base CX0 1 t.is_camper t.fd_is_camper ["value","size"] zbD:=by
 have S:=w4;refine T.is_camper.fn.ok S (λvs H Q E h=>?_) (λcdv A outer s H vs Q E hr h=>?_)
 ·obtain⟨v,n,rfl,_⟩:=h;rfl
 ·obtain⟨v,n,rfl,q⟩:=h
  refine⟨_,(zg (zO (Qd (zI (zn TX.zZ (by rfl) T.b_isinstance TK.zw (zd (pv 0) (zd (ye (v:=.ty "bool") (by rfl) T.b_bool TK.WK (by rfl)) zf)))) (YE (zQ (zI (zn TX.zZ (by rfl) T.b_isinstance TK.zw (zd (pv 0) (zd (ye (v:=.ty "int") (by rfl) T.b_int TK.zbq (by rfl)) zf))))))).pt (zh (zy Z8)) zv)
   (zh (zy (zeD zgo Wh zm (pv 0) (pv 1))))),?_⟩
  refine⟨_,rfl,_,_,_,_,_,rfl,Z9,.int _,QP,_,rfl,yp ?_⟩;refine⟨_,rfl,_,_,_,_,_,rfl,Z9,.int _,jS,_,rfl,yp ?_⟩;refine⟨_,rfl,_,_,rfl,rfl,_,rfl,qm (λe=>⟨_,rfl,_,_,rfl,rfl,?_⟩) (λe=>?_)⟩
  ·rw[e,Bool.true_and] at q;exact q
  ·rw[e,Bool.false_and] at q;exact q
def JV:Sp:=λvs H Q _=>∃(c:Int) (a:Addr) (ns:List Int) (n:Nat),vs=[.int c,.ref a,.int n]/\H a=some (.lst (ns.map V.int))/\QY n c ns/\ns.length<=100/\∀H',zj H H'->Q .non H'
theorem Qn{ns:List Int}{i:Nat}{x:V}(h:(ns.map V.int)[i]?=some x):∃z,ns[i]?=some z/\x=.int z:=by
 rw[List.getElem?_map] at h
 cases e:ns[i]? with
 | none=>rw[e] at h;cases h
 | some z=>rw[e] at h;exact⟨z,rfl,(Option.some.inj h).symm⟩
theorem Wk{ns:List Int}(hn:ns.Nodup){i:Nat}{z:Int}(e:ns[i]?=some z):¬z∈ns.take i:=by
 intro h;obtain⟨j,hj⟩:=List.mem_iff_getElem?.mp h;rw[List.getElem?_take] at hj;split at hj
 ·rename_i hji
  obtain⟨h1,e1⟩:=List.getElem?_eq_some_iff.mp e;obtain⟨h2,e2⟩:=List.getElem?_eq_some_iff.mp hj;have:=(List.getElem_inj hn).mp (e2.trans e1.symm);omega
 ·cases hj
theorem jD(T:Txt K mg t):FnOk P w K mg base CX0 2 t.check_wishes t.fd_check_wishes ["camper","wishes","size"] JV:=by
 have S:=jq;have G_is_camper:=yR (P:=P) (w:=w) (base:=base) T;refine T.check_wishes.fn.ok S (λvs H Q E h=>?_) (λcdv A outer s H vs Q E hr h=>?_)
 ·obtain⟨c,a,ns,n,rfl,_⟩:=h;rfl
 ·obtain⟨c,a,ns,n,rfl,ha,ok,hlen,q⟩:=h
  have hu:=zaw hr
  refine⟨_,(zg (zO (zQ (zI (zn TX.zZ (by rfl) T.b_isinstance TK.zw (zd (pv 1) (zd (ye (v:=.ty "list") (by rfl) T.b_list TK.zV (by rfl)) zf))))) (zh ZI) zv)
   (zg (zz (i:=3) S.nd rfl (loc rfl) (zgn (zeA (pv 0) Z8 zgj) rfl rfl (by simp) (by decide)))
   (zh (Zc PassesOwn.never rfl (zE (pv 1)) (zt (i:=4) S.nd rfl (loc rfl)) (zg (zO (zQ (zI (zp (k:=1) G_is_camper hr (by rfl) T.is_camper.mg T.is_camper.fn.kp T.is_camper.b .nil zG (zd (pv 4) (zd (pv 2) zf))))) (zh ZI) zv)
   (zg (zO (QK (za6 hu (pv 4) (pv 3))) (zh ZI) zv)
   (zh (jw hu (pv 3) (pv 4) Z8 rfl)))))))),?_⟩
  refine⟨_,rfl,_,_,_,_,_,rfl,Z9,.lst ha,ZJ,_,rfl,yp ?_⟩;intro p hp
  refine⟨_,rfl,ze,[(Sum.inl c,.bl true)],rfl,(by show 1<=15;decide),?_⟩
  rw[zfS];have s1:zj H (upd H p (.dK (JC [] [(Sum.inl c,.bl true)]))):=TX.zj.upd (zj.refl H) hp
  refine⟨_,rfl,a,rfl,⟨_,SqL.of (s1 _ _ ha)⟩,Zj (K:=K) (a:=a) (xs:=ns.map V.int) (λi σ H2=>∃(kvs:List (Key×V)) (v:Option V),σ=[some (.int c),some (.ref a),some (.int n),some (.ref p),v]/\zj H H2 /\
   H2 p=some (.dK kvs)/\kvs.length<=i+1/\∀x:Int,(YD kvs (Sum.inl x)).isSome=true↔x=c\/x∈ns.take i)
   ⟨_,none,rfl,s1,ze,(by show 1<=0+1;decide),λx=>?_⟩ (λi σ H2 _ ⟨_,_,_,s2,_⟩=>SqL.of (s2 _ _ ha)) ?_ ?_⟩
  ·show (YD (Jd [] (Sum.inl c) (.bl true)) (Sum.inl x)).isSome=true↔_
   rw[Y7]
   by_cases e:(Sum.inl x:Key)=Sum.inl c
   ·rw[if_pos e];injection e with e;simp[e]
   ·rw[if_neg e]
    have:x≠c:=λz=>e (by rw[z])
    simp[zeg,this]
  ·rintro i y σ H2 hi ⟨kvs,v,rfl,s2,hd,hl,hk⟩
   obtain⟨z,hz,rfl⟩:=Qn hi;have hzm:=List.mem_of_getElem? hz;obtain⟨z1,z2,z3⟩:=ok.1 z hzm
   refine⟨_,rfl,_,rfl,z,_,rfl,_,rfl,QQ (by rw[Bool.and_eq_true];exact⟨decide_eq_true z1,decide_eq_true z2⟩) ?_⟩
   have hno:YD kvs (Sum.inl z)=none:=by
    cases e:YD kvs (Sum.inl z:Key) with
    | none=>rfl
    | some u =>
     have:=(hk z).mp (by rw[e];rfl)
     rcases this with h|h
     ·exact absurd h z3
     ·exact absurd h (Wk ok.2 hz)
   refine⟨_,rfl,_,rfl,p,_,rfl,wJ.k (k:=Sum.inl z) hd,_,rfl,Yw (by rw[hno];rfl) ?_⟩
   have hil:i<ns.length:=(List.getElem?_eq_some_iff.mp hz).1
   refine⟨_,rfl,_,rfl,p,_,rfl,zch.k (k:=Sum.inl z) hd (zr (by omega)),?_⟩
   have hHp:H p=none:=hp;refine⟨_,_,rfl,TX.zj.upd s2 hHp,ze,?_,λx=>?_⟩
   ·have:=ZH kvs (Sum.inl z:Key) (V.bl true)
    omega
   ·rw[Y7]
    have et:ns.take (i+1)=ns.take i++[z]:=by rw[List.take_add_one,hz];rfl
    rw[et]
    by_cases e:(Sum.inl x:Key)=Sum.inl z
    ·rw[if_pos e];injection e with e;simp[e]
    ·rw[if_neg e,hk x]
     have:x≠z:=λq=>e (by rw[q])
     simp[this]
  ·rintro σ H2 ⟨kvs,v,rfl,s2,_⟩
   exact q H2 s2
end
section
variable {P:Program}{w:World}{K:PySem.W.Frag}{mg:Str->Option Value}{base:Heap}{t:Adr}
def wR:Sp:=λvs H Q _=>∃(a:Addr) (ls:Ls),vs=[.ref a]/\LL H a ls/\Valid ls/\∀H',zj H H'->Q .non H'
theorem Jk(T:Txt K mg t):FnOk P w K mg base CX0 3 t.check_lists t.fd_check_lists ["lists"] wR:=by
 have S:=Jh;have G_check_wishes:=jD (P:=P) (w:=w) (base:=base) T;have h_MOST_CAMPERS:=T.mg_M;refine T.check_lists.fn.ok S (λvs H Q E h=>?_) (λcdv A outer s H vs Q E hr h=>?_)
 ·obtain⟨a,ls,rfl,_⟩:=h;rfl
 ·obtain⟨a,ls,rfl,hL,hV,q⟩:=h
  obtain⟨xs,ha,r⟩:=id hL;have hl:=r.length;have v1:=hV.pos;have v2:=hV.le
  refine⟨_,(zg (zO (zQ (zI (zn TX.zZ (by rfl) T.b_isinstance TK.zw (zd (pv 0) (zd (ye (v:=.ty "list") (by rfl) T.b_list TK.zV (by rfl)) zf))))) (zh ZI) zv)
   (zg (zO (zQ (zev zgo zgo zm (zn zu (by rfl) T.b_len TK.zD (zd (pv 0) zf)) (YS (v:=.int 6) (by rfl) h_MOST_CAMPERS (by first|exact⟨_,rfl⟩|rfl)))) (zh ZI) zv)
   (zh (Zc PassesOwn.never rfl (TX.zcW rfl T.b_enumerate (zd (pv 0) zf)) (Wb rfl (yf (zt (i:=1) S.nd rfl (loc rfl)) (yf (zt (i:=2) S.nd rfl (loc rfl)) jx))) (zh (Zq (zp (k:=2) G_check_wishes hr (by rfl) T.check_wishes.mg T.check_wishes.fn.kp T.check_wishes.b .nil zG (zd (pv 1) (zd (pv 2) (zd (zn zu (by rfl) T.b_len TK.zD (zd (pv 0) zf)) zf)))))))))),?_⟩
  refine⟨_,rfl,_,_,_,_,_,rfl,Z9,.lst ha,ZJ,_,rfl,yp ?_⟩
  refine⟨_,rfl,a,_,rfl,.inl (SqL.of ha),_,_,rfl,rfl,_,rfl,zdA (decide_eq_true (by omega)) ?_⟩
  refine⟨_,_,rfl,rfl,_,rfl,QQ (decide_eq_true (by omega)) ?_⟩
  refine⟨_,rfl,a,rfl,⟨_,SqL.of ha⟩,zbk (K:=K) (a:=a) (xs:=xs) (λi σ H2=>∃v u,σ=[some (.ref a),v,u]/\zj H H2) ⟨none,none,rfl,zj.refl H⟩ (λi σ H2 _ ⟨_,_,_,s2⟩=>SqL.of (s2 _ _ ha)) ?_ ?_⟩
  ·rintro i x σ H2 p hi ⟨v,u,rfl,s2⟩ hp
   obtain⟨l,hl2,b,rfl,hb⟩:=Paired.at1 r hi;have s3:zj H (upd H2 p (.tup [.int (i:Nat),.ref b])):=TX.zj.upd s2 (s2.free hp);refine⟨p,_,rfl,SqT.of ze,rfl,_,_,rfl,_,_,rfl,rfl,?_⟩;have okl:=hV.mem i l hl2;refine⟨_,rfl,_,rfl,_,rfl,a,_,rfl,.inl (SqL.of (s3 _ _ ha)),i,b,l,ls.length,?_,s3 _ _ hb,okl,?_,λH3 s4=>?_⟩
   ·show [V.int _,V.ref b,V.int _]++[]=_
    rw[hl];rfl
   ·have:=ZP (n:=ls.length) (i:=i) okl
    omega
   ·exact⟨_,_,rfl,s3.trans s4⟩
  ·rintro σ H2 ⟨v,u,rfl,s2⟩
   exact q H2 s2
def zd6(n:Int)(a:Addr):List (Str×V):=Q5 "wishes" (.ref a) (Q5 "size" (.int n) [])
theorem nws:¬(("size":Str)="wishes"):=by decide +kernel
theorem Z7(n:Int)(a:Addr):(zd6 n a).lookup ("size":Str)=some (.int n):=by
 unfold zd6;rw[ZU,if_neg nws,ZU,if_pos rfl]
theorem Yy(n:Int)(a:Addr):(zd6 n a).lookup ("wishes":Str)=some (.ref a):=by
 unfold zd6;rw[ZU,if_pos rfl]
theorem qQ(n:Int)(a:Addr){m:Str}(h1:¬m="wishes")(h2:¬m="size"):(zd6 n a).lookup m=none:=by
 unfold zd6;rw[ZU,if_neg h1,ZU,if_neg h2];rfl
def zY(C:Addr)(H:Hp)(p:Addr)(ls:Ls):Prop:=∃dx a,H p=some (.ins C dx (zd6 ls.length a))/\LL H a ls
theorem zY.same{C:Addr}{H H':Hp}{p:Addr}{ls:Ls}(h:zY C H p ls)(e:zj H H'):zY C H' p ls:=by
 obtain⟨dx,a,h1,h2⟩:=h;exact⟨dx,a,e _ _ h1,Of.same mI h2 e⟩
def zh6(H H':Hp)(p:Addr)(ls:Ls):Prop:=H p=none/\zj H H'/\∃xs,H' p=some (.lst xs)/\Paired (λv l=>∃b,v=V.ref b/\H b=none/\H' b=some (.lst (l.map V.int))) xs ls
theorem jh{A B:Hp->Prop}{σ:L2.St}{H:Hp}(h:A H):zcr σ H (λb H3=>if b=true then A H3 else B H3):=Qt (B:=B H) h
theorem zaD{H:Hp}{a:Addr}{ls:Ls}{xs:List V}{Q:VK}(ha:H a=some (.lst xs))(r:Paired (RI H) xs ls)(hz:ls.length<=100)(q:∀p H',zh6 H H' p ls->Q (.ref p) H') :
  ∃W:Nat->Nat->List V->Hp->Prop,(∃m,W 0 m [] H)/\∀i m ys H1,W i m ys H1 ->
   ((Itl K a).stop i H1/\∀p,H1 p=none->Q (.ref p) (upd H1 p (.lst ys))) \/
   ((Itl K a).go i H1/\ys.length<sizeLine/\∀x H',(Itl K a).yld i H1 x H'->yX 0 x [none] H' λσ2 H2=>Kps [none] σ2/\zcr σ2 H2 λb H3 =>
    if b=true then tCB (TX.qG K) (zS (z7 0) YL) σ2 H3 λy H4=>∃m',m'<m/\W (i+1) m' (ys++[y]) H4 else ∃m',m'<m/\W (i+1) m' ys H3):=by
 have hl:=r.length
 refine⟨λi m ys H1=>m=xs.length-i/\i<=xs.length/\zj H H1/\Paired (λv l=>∃b,v=V.ref b/\H b=none/\H1 b=some (.lst (l.map V.int))) ys (ls.take i),⟨_,rfl,Nat.zero_le _,zj.refl H,by rw[List.take_zero];exact .nil⟩,?_⟩
 rintro i m ys H1 ⟨rfl,hi,s1,ry⟩;have hyl:=ry.length
 by_cases hlt:i<xs.length
 ·refine .inr ⟨⟨xs,xs[i],SqL.of (s1 _ _ ha),by simp[hlt]⟩,?_,λx H' y=>?_⟩
  ·rw[hyl,List.length_take]
   exact zr (by omega)
  ·obtain⟨rfl,y⟩:=y
   have hx:=y xs (SqL.of (s1 _ _ ha));obtain⟨l,hl2,b,rfl,hb⟩:=Paired.at1 r hx;refine⟨Kps.own,?_⟩
   refine jh ⟨_,rfl,b,_,rfl,.inl (SqL.of (s1 _ _ hb)),λc hc=>⟨xs.length-(i+1),by omega,rfl,hlt,TX.zj.upd s1 (s1.free hc),?_⟩⟩
   rw[List.take_add_one,hl2];refine Paired.app (Paired.impl (λv l' ⟨d,e,h1,h2⟩=>⟨d,e,h1,Zk h2 hc⟩) ry) (.cons ⟨c,rfl,s1.free hc,ze⟩ .nil)
 ·have e:i=xs.length:=by omega
  subst e;refine .inl ⟨⟨xs,SqL.of (s1 _ _ ha),Nat.le_refl _⟩,λp hp=>q p _ ⟨s1.free hp,TX.zj.upd s1 (s1.free hp),ys,ze,?_⟩⟩
  rw[List.take_of_length_le (by omega)] at ry
  exact Paired.impl (λv l ⟨b,e,h1,h2⟩=>⟨b,e,h1,Zk h2 hp⟩) ry
theorem zfJ{H:Hp}{σ:L2.St}{tl:TE}{a:Addr}{ls:Ls}{xs:List V}{Q:VK}(ha:H a=some (.lst xs))(r:Paired (RI H) xs ls)(hz:ls.length<=100)(htl:∀R:VK,R (.ref a) H->tl σ H R)(q:∀p H',zh6 H H' p ls->Q (.ref p) H') :
  yZ [none] (qM K tl) (yX 0) zcr (tCB (TX.qG K) (zS (z7 0) YL)) σ H Q :=
 htl _ ⟨a,rfl,⟨_,SqL.of ha⟩,zaD ha r hz q⟩
def zcF(C:Addr):Sp:=λvs H Q _=>∃(p dx a:Addr) (ls:Ls),vs=[.ref p,.ref a]/\H p=some (.ins C dx [])/\LL H a ls/\Valid ls /\
 ∀H' wa xs,(∀b o,H b=some o->b≠p->H' b=some o)->H wa=none->H' p=some (.ins C dx (zd6 ls.length wa))->H' wa=some (.lst xs)->Paired (λv l=>∃b,v=V.ref b/\H b=none/\H' b=some (.lst (l.map V.int))) xs ls->Q .non H'
theorem zgr(T:Txt K mg t):FnOk P w K mg base CX0 4 t.Camp___init__ t.fd_Camp___init__ ["self","lists"] (zcF t.C):=by
 have S:=QV;have G_check_lists:=Jk (P:=P) (w:=w) (base:=base) T;refine T.Camp___init__.fn.ok S (λvs H Q E h=>?_) (λcdv A outer s H vs Q E hr h=>?_)
 ·obtain⟨p,dx,a,ls,rfl,_⟩:=h;rfl
 ·obtain⟨p,dx,a,ls,rfl,hp,hL,hV,q⟩:=h
  refine⟨_,(zg (Zq (zp (k:=3) G_check_lists hr (by rfl) T.check_lists.mg T.check_lists.fn.kp T.check_lists.b .nil zG (zd (pv 1) zf)))
   (zg (zfv (pv 0) (zn zu (by rfl) T.b_len TK.zD (zd (pv 1) zf)) rfl)
   (zh (zfv (pv 0) (TX.Zv (te:=tCB (TX.qG K) (zS (z7 0) YL)) ["wishes"] [none] rfl (zE (pv 1)) (λ_ _ _ _ _=>(zt (i:=0) (show (["wishes"]:List Str).Nodup by decide +kernel) rfl (loc rfl))) (λ_ _ _ _ _=>TX.yd) (λ_ _ _ _ _=>(ZG TX.YA (by rfl) T.b_list TK.zV (zd (pv 0) zf))) rfl (by decide +kernel) (by decide +kernel) (No:=["self","lists"]) (sc:=zk Zp) rfl rfl (by decide +kernel) rfl (by decide +kernel)) rfl)))),?_⟩
  refine⟨_,rfl,a,ls,rfl,hL,hV,λH1 s1=>?_⟩;have hL1:=Of.same mI hL s1;obtain⟨xs,ha,r⟩:=id hL1
  have npa:a≠p:=Wm ha (s1 _ _ hp) (by intro z;cases z)
  refine⟨_,rfl,a,xs,rfl,.inl (SqL.of ha),?_⟩
  refine⟨_,rfl,p,t.C,dx,[],rfl,s1 _ _ hp,T.cl,T.n_size,(by show 0<1000;decide),?_⟩
  have hlen:=r.length;rw[hlen];have key:∀b o,H1 b=some o->b≠p->upd H1 p (.ins t.C dx (Q5 "size" (.int ls.length) [])) b=some o:=λb o e n=>z8 e n
  have r2:Paired (RI (upd H1 p (.ins t.C dx (Q5 "size" (.int ls.length) [])))) xs ls:=Paired.impl (λv l ⟨b,e,h⟩=>⟨b,e,key _ _ h (Wm h (s1 _ _ hp) (by intro z;cases z))⟩) r
  have hz:ls.length<=100:=Nat.le_trans hV.le (by decide)
  dsimp only;refine zf8 ?_
  refine zfJ (K:=K) (tl:=z7 1) (key _ _ ha npa) r2 hz (λR z=>by exact⟨_,rfl,z⟩) λwa H2 N=>?_
  have hp2:H2 p=some (.ins t.C dx (Q5 "size" (.int ls.length) [])):=N.2.1 _ _ ze
  refine⟨_,rfl,p,t.C,dx,_,rfl,hp2,T.cl,T.n_wishes,(by show 1<1000;decide),?_⟩
  have free:∀c,upd H1 p (.ins t.C dx (Q5 "size" (.int ls.length) [])) c=none->c≠p/\H c=none:=λc hc=>by
   have n:c≠p:=λe=>by rw[e,ze] at hc;cases hc
   rw[zq n] at hc;exact⟨n,s1.free hc⟩
  obtain⟨nwa,_,xs2,hwa,rx⟩:=id N;refine q _ wa xs2 (λb o e n=>z8 (N.2.1 _ _ (z8 (s1 _ _ e) n)) n) (free _ nwa).2 ze (z8 hwa (free _ nwa).1) (Paired.impl (λv l ⟨b,e,h1,h2⟩=>⟨b,e,(free _ h1).2,z8 h2 (free _ h1).1⟩) rx)
end
section
variable {P:Program}{w:World}{K:PySem.W.Frag}{mg:Str->Option Value}{base:Heap}{t:Adr}
def zcC(C:Addr):Sp:=λvs H Q _=>∃(p:Addr) (ls:Ls) (i j:Int),vs=[.ref p,.int i,.int j]/\zY C H p ls/\(0<=i/\i<ls.length)/\(0<=j/\j<ls.length)/\Q (.bl (zH ls i j)) H
theorem ZO(T:Txt K mg t):FnOk P w K mg base CX0 1 t.Camp_would_share t.fd_Camp_would_share ["self","one","other"] (zcC t.C):=by
 have S:=qD;refine T.Camp_would_share.fn.ok S (λvs H Q E h=>?_) (λcdv A outer s H vs Q E hr h=>?_)
 ·obtain⟨p,ls,i,j,rfl,_⟩:=h;rfl
 ·obtain⟨p,ls,i,j,rfl,⟨dx,a,hp,hL⟩,hi,hj,q⟩:=h
  obtain⟨xs,b,ha,hb,hb'⟩:=LL.at hL hi.1 hi.2;obtain⟨xs',c,ha',hc,hc'⟩:=LL.at hL hj.1 hj.2
  refine⟨_,(zh (zy (jy (Zr Z6 (pv 2) (zU zA (Yb (pv 0) rfl) (pv 1) (λ_ _=>rfl)) (by with_unfolding_all rfl)) (YQ (Zr Z6 (pv 1) (zU zA (Yb (pv 0) rfl) (pv 2) (λ_ _=>rfl)) (by with_unfolding_all rfl)))))),?_⟩
  refine⟨_,rfl,_,rfl,p,t.C,dx,_,_,rfl,hp,T.cl,T.n_wishes,Yy _ _,_,rfl,a,xs,i,_,rfl,rfl,SqL.of ha,hb,b,_,rfl,.inl (SqL.of hb'),rfl,Yf _,_,rfl,?_⟩
  show if inV (.int j) ((lof ls i).map V.int)=true then _ else _
  rw[qh];unfold zH at q;refine qm (λe=>?_) (λe=>?_)
  ·refine⟨_,rfl,_,rfl,p,t.C,dx,_,_,rfl,hp,T.cl,T.n_wishes,Yy _ _,_,rfl,a,xs',j,_,rfl,rfl,SqL.of ha',hc,c,_,rfl,.inl (SqL.of hc'),rfl,Yf _,?_⟩
   rw[e,Bool.true_and] at q;show Q (.bl (inV (.int i) ((lof ls j).map V.int))) H;rw[qh];exact q
  ·rw[e,Bool.false_and] at q
   exact q
def zeL:Option Int->V
 | none=>.non
 | some x=>.int x
def zaP(C:Addr):Sp:=λvs H Q _=>∃(p:Addr) (ls:Ls) (c o:Int) (had:Option Int),vs=[.ref p,.int c,.int o,zeL had]/\zY C H p ls/\Valid ls/\(0<=c/\c<ls.length)/\o∈lof ls c/\(∀x,had=some x->x∈lof ls c)/\Q (.bl (wr ls c o had)) H
theorem YV(T:Txt K mg t):FnOk P w K mg base CX0 1 t.Camp_would_rather t.fd_Camp_would_rather ["self","camper","other","had"] (zaP t.C):=by
 have S:=qk;refine T.Camp_would_rather.fn.ok S (λvs H Q E h=>?_) (λcdv A outer s H vs Q E hr h=>?_)
 ·obtain⟨p,ls,c,o,had,rfl,_⟩:=h;rfl
 ·obtain⟨p,ls,c,o,had,rfl,⟨dx,a,hp,hL⟩,hV,hc,ho,hh,q⟩:=h
  obtain⟨xs,b,ha,hb,hb'⟩:=LL.at hL hc.1 hc.2
  have hz:(lof ls c).length<=1000:=by
   have:=ZP (YX hV hc.1 hc.2);have:=hV.le;omega
  refine⟨_,(zg (zO (QK (zhB (pv 3))) (zh (zy Z8)) zv)
   (zg (zz (i:=4) S.nd rfl (loc rfl) (zU zA (Yb (pv 0) rfl) (pv 1) (λ_ _=>rfl)))
   (zh (zy (Zr Wh (YI PySem.F.plainAttrs_list PySem.F.slot_list_index PySem.F.type_list_index TX.jb (pv 4) (zd (pv 2) zf)) (YI PySem.F.plainAttrs_list PySem.F.slot_list_index PySem.F.type_list_index TX.jb (pv 4) (zd (pv 3) zf)) (zJ _)))))),?_⟩
  cases had with
  | none=>exact⟨_,rfl,_,rfl,Qt q⟩
  | some x =>
   refine⟨_,rfl,_,rfl,Yw (decide_eq_false (λz=>by cases z)) ?_⟩
   refine⟨_,rfl,p,t.C,dx,_,_,rfl,hp,T.cl,T.n_wishes,Yy _ _,_,rfl,a,xs,c,_,rfl,rfl,SqL.of ha,hb,?_⟩;refine⟨_,rfl,.inl ⟨rfl,_,SqL.of hb'⟩,_,rfl,b,_,o,rfl,rfl,SqL.of hb',ho,hz,?_⟩;refine⟨_,rfl,.inl ⟨rfl,_,SqL.of hb'⟩,_,rfl,b,_,x,rfl,rfl,SqL.of hb',hh x rfl,hz,_,_,rfl,rfl,?_⟩
   have e:(decide (((lof ls c).idxOf o:Nat)<(lof ls c).idxOf x))=decide ((((lof ls c).idxOf o:Nat):Int)<(((lof ls c).idxOf x:Nat):Int)):=by
    rw[decide_eq_decide];omega
   show Q (.bl (decide ((((lof ls c).idxOf o:Nat):Int)<(((lof ls c).idxOf x:Nat):Int)))) H;rw[<-e];exact q
end
section
variable {P:Program}{w:World}{K:PySem.W.Frag}{mg:Str->Option Value}{base:Heap}{t:Adr}
def zcb(H:Hp)(d:Addr)(hv:Int->Option Int):Prop:=∃kvs,H d=some (.dK kvs)/\∀i:Int,(YD kvs (Sum.inl i)).getD .non=zeL (hv i)
theorem zcb.same{H H':Hp}{d:Addr}{hv:Int->Option Int}(h:zcb H d hv)(e:zj H H'):zcb H' d hv:=let ⟨kvs,h1,h2⟩:=h;⟨kvs,e _ _ h1,h2⟩
def zgV(ls:Ls)(hv:Int->Option Int):Prop:=∀i:Int,0<=i->i<ls.length->∀x,hv i=some x->x∈lof ls i
def zcg(ls:Ls)(hv:Int->Option Int)(i j:Int):Bool:=zH ls i j&&(wr ls i j (hv i)&&wr ls j i (hv j))
def breakers(ls:Ls)(hv:Int->Option Int):Prs:=Qs (zcg ls hv) ls.length ls.length
theorem zbZ{ls:Ls}{ps:Prs}(pr:Pairs ls ps):zgV ls (mate ps):=λi _ _ x e=>(zT (pr.has e).2.2.2.2.2).1
theorem zeK(o:Option Int):(o.map V.int).getD .non=zeL o:=by cases o <;> rfl
def wP(C:Addr):Sp:=λvs H Q _=>∃(p d:Addr) (ls:Ls) (hv:Int->Option Int) (i j:Int),vs=[.ref p,.ref d,.int i,.int j]/\zY C H p ls/\Valid ls/\zgV ls hv/\zcb H d hv /\
 (0<=i/\i<ls.length)/\(0<=j/\j<ls.length)/\Q (.bl (zcg ls hv i j)) H
theorem Jj(T:Txt K mg t):FnOk P w K mg base CX0 2 t.would_break t.fd_would_break ["camp","having","one","other"] (wP t.C):=by
 have S:=Je;have G_would_share:=ZO (P:=P) (w:=w) (base:=base) T;have G_would_rather:=YV (P:=P) (w:=w) (base:=base) T;refine T.would_break.fn.ok S (λvs H Q E h=>?_) (λcdv A outer s H vs Q E hr h=>?_)
 ·obtain⟨p,d,ls,hv,i,j,rfl,_⟩:=h;rfl
 ·obtain⟨p,d,ls,hv,i,j,rfl,hC,hV,ho,⟨kvs,hd,hk⟩,hi,hj,q⟩:=h
  have hu:=zaw hr;obtain⟨dx,la,hp,hL⟩:=id hC
  have nI:(zd6 ls.length la).lookup ("would_share":Str)=none:=qQ _ _ (by decide +kernel) (by decide +kernel)
  have nR:(zd6 ls.length la).lookup ("would_rather":Str)=none:=qQ _ _ (by decide +kernel) (by decide +kernel)
  refine⟨_,(zg (zO (zQ (zI (YR (k:=1) (pv 0) T.cl T.Camp_would_share.me G_would_share hr T.Camp_would_share.b .nil zG (zd (pv 2) (zd (pv 3) zf))))) (zh (zy Z8)) zv)
   (zg (zO (zQ (zI (YR (k:=1) (pv 0) T.cl T.Camp_would_rather.me G_would_rather hr T.Camp_would_rather.b .nil zG (zd (pv 2) (zd (pv 3) (zd (we hu (pv 1) (pv 2) ⟨rfl,rfl,rfl,rfl⟩) zf)))))) (zh (zy Z8)) zv)
   (zh (zy (YR (k:=1) (pv 0) T.cl T.Camp_would_rather.me G_would_rather hr T.Camp_would_rather.b .nil zG (zd (pv 3) (zd (pv 2) (zd (we hu (pv 1) (pv 3) ⟨rfl,rfl,rfl,rfl⟩) zf)))))))),?_⟩
  refine⟨_,rfl,p,dx,_,rfl,hp,nI,_,rfl,_,rfl,p,ls,i,j,rfl,hC,hi,hj,_,rfl,?_⟩;unfold zcg at q
  cases hw:zH ls i j with
  | false =>
   rw[hw,Bool.false_and] at q;exact q
  | true =>
   rw[hw,Bool.true_and] at q;obtain⟨w1,w2⟩:=zT hw;refine yp ?_;refine⟨_,rfl,p,dx,_,rfl,hp,nR,_,rfl,_,rfl,_,rfl,d,rfl,.inl ⟨_,.inl hd⟩,_,rfl,_,wJ.k (k:=Sum.inl i) hd,p,ls,i,j,hv i,?_,hC,hV,hi,w1,ho i hi.1 hi.2,_,rfl,?_⟩
   ·rw[hk];rfl
   ·cases hw2:wr ls i j (hv i) with
    | false =>
     rw[hw2,Bool.false_and] at q;exact q
    | true =>
     rw[hw2,Bool.true_and] at q;refine yp ?_;refine⟨_,rfl,p,dx,_,rfl,hp,nR,_,rfl,_,rfl,_,rfl,d,rfl,.inl ⟨_,.inl hd⟩,_,rfl,_,wJ.k (k:=Sum.inl j) hd,p,ls,j,i,hv j,?_,hC,hV,hj,w2,ho j hj.1 hj.2,q⟩;rw[hk];rfl
theorem PL.push{H:Hp}{f tp:Addr}{xs:List V}{ps:Prs}{i j:Int}(hf:H f=some (.lst xs))(r:Paired (RP H) xs ps)(ht:H tp=none) :
  PL (upd (upd H tp (.tup [.int i,.int j])) f (.lst (xs++[.ref tp]))) f (ps++[(i,j)]):=by
 have nft:tp≠f:=λz=>by rw[z,hf] at ht;cases ht
 refine⟨_,ze,Paired.app (Paired.impl (λv q ⟨b,e,hb⟩=>⟨b,e,z8 (Zk hb ht) (Wm hb hf (by intro z;cases z))⟩) r) (.cons ⟨tp,rfl,z8 ze nft⟩ .nil)⟩
theorem zad{f:Int->Int->Bool}(i k:Nat):(row f i k).length<=k:=by
 unfold row;refine Nat.le_trans (List.length_filter_le _ _) ?_;simp
theorem Q3{f:Int->Int->Bool}(n:Nat):∀i:Nat,(Qs f n i).length<=i * n
 | 0=>by simp[zcN]
 | i+1=>by
  rw[jr,List.length_append];have h1:=Q3 (f:=f) n i;have h2:=zad (f:=f) i (n-(i+1));rw[Nat.succ_mul];omega
def zbE(C:Addr):Sp:=λvs H Q _=>∃(p d:Addr) (ls:Ls) (hv:Int->Option Int),vs=[.ref p,.ref d]/\zY C H p ls/\Valid ls/\zgV ls hv/\zcb H d hv /\
 ∀q H',H q=none->zj H H'->PL H' q (breakers ls hv)->Q (.ref q) H'
theorem jE(T:Txt K mg t):FnOk P w K mg base CX0 3 t.breakers t.fd_breakers ["camp","having"] (zbE t.C):=by
 have S:=W8;have G_would_break:=Jj (P:=P) (w:=w) (base:=base) T;refine T.breakers.fn.ok S (λvs H Q E h=>?_) (λcdv A outer s H vs Q E hr h=>?_)
 ·obtain⟨p,d,ls,hv,rfl,_⟩:=h;rfl
 ·obtain⟨p,d,ls,hv,rfl,hC,hV,ho,hd,fin⟩:=h
  refine⟨_,(zg (zz (i:=2) S.nd rfl (loc rfl) (z4 zf))
   (zg (Zc PassesOwn.never rfl (Zi rfl T.b_range (zd (Yb (pv 0) rfl) zf)) (zt (i:=3) S.nd rfl (loc rfl)) (zh (Zc PassesOwn.never rfl (Wa rfl T.b_range (zd (zR Yc (pv 3) zm) (zd (Yb (pv 0) rfl) zf))) (zt (i:=4) S.nd rfl (loc rfl)) (zh (zO (zI (zp (k:=2) G_would_break hr (by rfl) T.would_break.mg T.would_break.fn.kp T.would_break.b .nil zG (zd (pv 0) (zd (pv 1) (zd (pv 3) (zd (pv 4) zf)))))) (zh (Zq (YI PySem.F.plainAttrs_list PySem.F.slot_list_append PySem.F.type_list_append ZQ (pv 2) (zd (Qe (zd (pv 3) (zd (pv 4) zf))) zf)))) zv)))))
   (zh (zy (pv 2))))),?_⟩
  refine⟨Nat.zero_le _,λf hf=>?_⟩;have s2:zj H (upd H f (.lst [])):=TX.zj.upd (zj.refl H) hf;obtain⟨dx,la,hp,hL⟩:=id hC;have hl6:=hV.le
  refine⟨_,rfl,p,t.C,dx,_,_,rfl,s2 _ _ hp,T.cl,T.n_size,Z7 _ _,_,rfl,by omega,by omega,ZR (lo:=0) (n:=ls.length) (λi σ H2=>∃v u,σ=[some (.ref p),some (.ref d),some (.ref f),v,u]/\zj H H2/\PL H2 f (Qs (zcg ls hv) ls.length i))
   ⟨none,none,rfl,s2,[],ze,.nil⟩ ?_ ?_⟩
  ·rintro i σ H2 hi ⟨v,u,rfl,s3,hF⟩
   have hp2:=s3 _ _ hp
   have e0:(0:Int)+(i:Int)=(i:Int):=by omega
   refine⟨_,rfl,_,_,rfl,rfl,_,rfl,p,t.C,dx,_,_,rfl,hp2,T.cl,T.n_size,Z7 _ _,_,_,rfl,⟨by omega,by omega,by omega,by omega⟩,?_⟩
   refine ZR (lo:=0+(i:Int)+1) (n:=((ls.length:Int)-(0+(i:Int)+1)).toNat) (λk σ H2=>∃u,σ=[some (.ref p),some (.ref d),some (.ref f),some (.int (0+(i:Int))),u]/\zj H H2/\PL H2 f (Qs (zcg ls hv) ls.length i++row (zcg ls hv) i k))
    ⟨u,rfl,s3,by rw[zaX,List.append_nil];exact hF⟩ ?_ ?_
   ·rintro k σ H3 hk3 ⟨u,rfl,s4,hF3⟩
    have hk4:(i:Int)+1+(k:Int)<ls.length:=by omega
    refine⟨_,rfl,_,rfl,_,rfl,_,rfl,p,d,ls,hv,0+(i:Int),0+(i:Int)+1+(k:Int),rfl,hC.same s4,hV,ho,hd.same s4,⟨by omega,by omega⟩,⟨by omega,by omega⟩,_,rfl,?_⟩
    rw[e0];rw[zaY,<-List.append_assoc]
    cases hb:zcg ls hv (i:Int) ((i:Int)+1+(k:Int)) with
    | false =>
     refine yp ⟨_,rfl,s4,?_⟩
     simpa using hF3
    | true =>
     refine Qt ?_;obtain⟨xs,hf3,r⟩:=hF3;have hxl:=r.length
     refine⟨_,rfl,.inl ⟨rfl,_,SqL.of hf3⟩,_,rfl,_,rfl,(by show 2<=sizeLine;decide),λtp ht=>?_⟩
     refine⟨f,xs,_,rfl,rfl,Zk hf3 ht,zr ?_,?_⟩
     ·have q1:=Q3 (f:=zcg ls hv) ls.length i
      have q2:=zad (f:=zcg ls hv) i k;rw[hxl,List.length_append]
      have q3:i * ls.length<=6 * 6:=Nat.mul_le_mul (by omega) hl6
      omega
     ·have hf1:H f=none:=hf
      refine⟨_,rfl,TX.zj.upd (TX.zj.upd s4 (s4.free ht)) hf1,?_⟩;exact PL.push hf3 r ht
   ·rintro σ H3 ⟨u,rfl,s4,hF3⟩
    refine⟨_,_,rfl,s4,?_⟩;rw[jr]
    have e:((ls.length:Int)-(0+(i:Int)+1)).toNat=ls.length-(i+1):=by omega
    rw[e] at hF3;exact hF3
  ·rintro σ H2 ⟨v,u,rfl,s3,hF⟩
   refine⟨_,rfl,?_⟩;exact fin f H2 hf s3 hF
end
end Tp
namespace Tp
open PySem PySem.Spec PyProof.Rows L2 TX TM TK
seal PySem.Sem.wp
section
variable {P:Program}{w:World}{K:PySem.W.Frag}{mg:Str->Option Value}{base:Heap}{t:Adr}
def zhk(K:PySem.W.Frag):Sp:=λvs H Q _=>∃(a:Addr) (ns:List Int) (k:Int),vs=[.ref a,.int k]/\SqL K H a (ns.map V.int)/\0<=k/\∀z:Int,Q (.int z) H
theorem zak(T:Txt K mg t):FnOk P w K mg base CX0 1 t.law_cell_at t.fd_law_cell_at ["_law_script","_law_k"] (zhk K):=by
 have S:=Jg;refine T.law_cell_at.fn.ok S (λvs H Q E h=>?_) (λcdv A outer s H vs Q E hr h=>?_)
 ·obtain⟨a,ns,k,rfl,_⟩:=h;rfl
 ·obtain⟨a,ns,k,rfl,ha,hk,q⟩:=h
  refine⟨_,(zg (zO (zF Wh (pv 1) (zn zu (by rfl) T.b_len TK.zD (zd (pv 0) zf)) (zJ _)) (zh (zy (zU zA (pv 0) (pv 1) (λ_ _=>rfl)))) zv)
   (zh (zy zm))),?_⟩
  refine⟨_,rfl,_,rfl,a,_,rfl,.inl ha,_,_,rfl,rfl,_,rfl,qm (λe=>?_) (λe=>q 0)⟩;have hlt:k<((ns.map V.int).length:Int):=of_decide_eq_true e;rw[List.length_map] at hlt
  have hi:k.toNat<ns.length:=by omega
  exact⟨_,rfl,_,rfl,a,_,k,.int ns[k.toNat],rfl,rfl,ha,qu hk (by simp[hi]),q _⟩
def zhj:Sp:=λvs H Q _=>∃c k m:Int,vs=[.int c,.int k,.int m]/\0<m/\∀(z:Int) (H':Hp),0<=z->z<m->zj H H'->Q (.int z) H'
theorem zey(i:Int)(h0:0<=i)(h1:i<8):∃z:Int,0<z/\atI ([.int 1000003,.int 1000033,.int 1000037,.int 1000039,.int 1000081,.int 1000099,.int 1000117,.int 1000121]:List V) i=some (.int z):=by
 have:i=0\/i=1\/i=2\/i=3\/i=4\/i=5\/i=6\/i=7:=by omega
 rcases this with rfl|rfl|rfl|rfl|rfl|rfl|rfl|rfl
 ·exact⟨1000003,by decide,rfl⟩
 ·exact⟨1000033,by decide,rfl⟩
 ·exact⟨1000037,by decide,rfl⟩
 ·exact⟨1000039,by decide,rfl⟩
 ·exact⟨1000081,by decide,rfl⟩
 ·exact⟨1000099,by decide,rfl⟩
 ·exact⟨1000117,by decide,rfl⟩
 ·exact⟨1000121,by decide,rfl⟩
set_option maxHeartbeats 4000000 in
theorem zdd(T:Txt K mg t):FnOk P w K mg base CX0 1 t.law_draw t.fd_law_draw ["_law_cell","_law_k","_law_many"] zhj:=by
 have S:=W6;refine T.law_draw.fn.ok S (λvs H Q E h=>?_) (λcdv A outer s H vs Q E hr h=>?_)
 ·obtain⟨c,k,m,rfl,_⟩:=h;rfl
 ·obtain⟨c,k,m,rfl,hm,q⟩:=h
  refine⟨_,(zg (zz (i:=3) S.nd rfl (loc rfl) (Qe (zd zm (zd zm (zd zm (zd zm (zd zm (zd zm (zd zm (zd zm zf))))))))))
   (zg (zz (i:=4) S.nd rfl (loc rfl) (zR Yc (zR Yc (zR Jw (pv 0) zm) (zR Jw (pv 1) zm)) (zR Jw (zR yK (zR YU (pv 0) zm) zm) zm)))
   (zh (zy (zR yK (zR yK (pv 4) (zU Ye (pv 3) (zR yK (pv 1) zm) (λ_ _=>rfl))) (pv 2)))))),?_⟩
  refine⟨(by show 8<=sizeLine;decide),λp hp=>?_⟩
  refine⟨_,rfl,_,_,rfl,rfl,.inr ⟨by omega,by omega⟩,?_⟩
  refine⟨_,rfl,_,_,rfl,rfl,.inr ⟨by omega,by omega⟩,?_⟩
  refine⟨_,_,rfl,rfl,?_⟩
  refine⟨_,rfl,_,_,rfl,rfl,⟨by decide,by decide⟩,?_⟩
  refine⟨_,_,rfl,rfl,(by show (0:Int)<1000003;decide),?_⟩
  refine⟨_,_,rfl,rfl,.inr ⟨by omega,by omega⟩,?_⟩
  refine⟨_,_,rfl,rfl,?_⟩
  obtain⟨z,hz,ez⟩:=zey (k % 8) (Int.emod_nonneg _ (by decide)) (Int.emod_lt_of_pos _ (by decide))
  refine⟨_,rfl,_,rfl,_,rfl,_,_,rfl,rfl,(by show (0:Int)<8;decide),?_⟩
  refine⟨p,_,_,_,rfl,rfl,SqT.of ze,ez,?_⟩;refine⟨_,_,rfl,rfl,hz,?_⟩;refine⟨_,rfl,_,_,rfl,rfl,hm,?_⟩
  exact q _ _ (Int.emod_nonneg _ (by omega)) (Int.emod_lt_of_pos _ hm) (TX.zj.upd (zj.refl H) hp)
end
section
variable {P:Program}{w:World}{K:PySem.W.Frag}{mg:Str->Option Value}{base:Heap}{t:Adr}
def zcA:Sp:=λvs H Q _=>∃(a:Addr) (ls:Ls) (i j:Int),vs=[.ref a,.int i,.int j]/\LL H a ls/\(0<=i/\i<ls.length)/\(0<=j/\j<ls.length)/\Q (.bl (zH ls i j)) H
theorem jF(T:Txt K mg t):TX.FnH P w K mg base 1 t.law_would t.fd_law_would ["_law_lists_here","_law_one","_law_other"] zcA:=by
 have S:=wW;refine T.law_would.fn.okH S (λvs H Q E h=>?_) (λcdv A outer s H vs Q E hr h=>?_)
 ·obtain⟨a,ls,i,j,rfl,_⟩:=h;rfl
 ·obtain⟨a,ls,i,j,rfl,hL,hi,hj,q⟩:=h
  obtain⟨xs,b,ha,hb,hb'⟩:=LL.at hL hi.1 hi.2;obtain⟨xs',c,ha',hc,hc'⟩:=LL.at hL hj.1 hj.2
  refine⟨_,(zh (zy (jy (Zr Z6 (pv 2) (zU zA (pv 0) (pv 1) (λ_ _=>rfl)) (by with_unfolding_all rfl)) (YQ (Zr Z6 (pv 1) (zU zA (pv 0) (pv 2) (λ_ _=>rfl)) (by with_unfolding_all rfl)))))),?_⟩
  refine⟨_,rfl,_,rfl,_,rfl,a,xs,i,_,rfl,rfl,SqL.of ha,hb,b,_,rfl,.inl (SqL.of hb'),rfl,Yf _,_,rfl,?_⟩
  show if inV (.int j) ((lof ls i).map V.int)=true then _ else _
  rw[qh];unfold zH at q;refine qm (λe=>?_) (λe=>?_)
  ·refine⟨_,rfl,_,rfl,_,rfl,a,xs',j,_,rfl,rfl,SqL.of ha',hc,c,_,rfl,.inl (SqL.of hc'),rfl,Yf _,?_⟩
   rw[e,Bool.true_and] at q;show Q (.bl (inV (.int i) ((lof ls j).map V.int))) H;rw[qh];exact q
  ·rw[e,Bool.false_and] at q
   exact q
theorem za9(T:Txt K mg t):FnOk P w K mg base CX0 1 t.law_would t.fd_law_would ["_law_lists_here","_law_one","_law_other"] zcA:=(jF T).ok
def zcE:Sp:=λvs H Q _=>∃(a:Addr) (ls:Ls) (c x y:Int),vs=[.ref a,.int c,.int x,.int y]/\LL H a ls/\Valid ls/\(0<=c/\c<ls.length)/\x∈lof ls c/\(y=c\/y∈lof ls c)/\Q (.bl (ZN ls c x y)) H
theorem jG(T:Txt K mg t):TX.FnH P w K mg base 1 t.law_rather t.fd_law_rather ["_law_lists_here","_law_camper","_law_one","_law_other"] zcE:=by
 have S:=J1;refine T.law_rather.fn.okH S (λvs H Q E h=>?_) (λcdv A outer s H vs Q E hr h=>?_)
 ·obtain⟨a,ls,c,x,y,rfl,_⟩:=h;rfl
 ·obtain⟨a,ls,c,x,y,rfl,hL,hV,hc,hx,hy,q⟩:=h
  obtain⟨xs,b,ha,hb,hb'⟩:=LL.at hL hc.1 hc.2
  have hz:(lof ls c).length<=1000:=by
   have:=ZP (YX hV hc.1 hc.2);have:=hV.le;omega
  unfold ZN at q
  refine⟨_,(zg (zO (Qd (zF Qg (pv 2) (pv 1) (zJ _)) (YE (zF Qg (pv 2) (pv 3) (zJ _)))).pt (zh (zy Z8)) zv)
   (zh (zy (zeC (Zr Qg (pv 3) (pv 1) (zJ _)) (YQ (Zr Wh (YI PySem.F.plainAttrs_list PySem.F.slot_list_index PySem.F.type_list_index TX.jb (zU zA (pv 0) (pv 1) (λ_ _=>rfl)) (zd (pv 2) zf)) (YI PySem.F.plainAttrs_list PySem.F.slot_list_index PySem.F.type_list_index TX.jb (zU zA (pv 0) (pv 1) (λ_ _=>rfl)) (zd (pv 3) zf)) (zJ _))))))),?_⟩
  refine⟨_,rfl,_,rfl,rfl,_,rfl,?_⟩;rw[wD];refine qm (λe=>?_) (λe=>⟨_,rfl,_,rfl,rfl,_,rfl,?_⟩)
  ·rw[if_pos (.inl (of_decide_eq_true e))] at q
   exact Qt q
  ·rw[wD]
   refine qm (λe2=>?_) (λe2=>?_)
   ·rw[if_pos (.inr (of_decide_eq_true e2))] at q
    exact q
   ·rw[if_neg (by rintro(z|z);exact of_decide_eq_false e z;exact of_decide_eq_false e2 z)] at q
    refine⟨_,rfl,_,rfl,rfl,_,rfl,?_⟩;rw[wD];refine qm (λe3=>?_) (λe3=>?_)
    ·rw[e3,Bool.true_or] at q
     exact q
    ·rw[e3,Bool.false_or] at q
     have hy':y∈lof ls c:=hy.resolve_left (of_decide_eq_false e3);refine⟨_,rfl,_,rfl,a,xs,c,_,rfl,rfl,SqL.of ha,hb,.inl ⟨rfl,_,SqL.of hb'⟩,_,rfl,b,_,x,rfl,rfl,SqL.of hb',hx,hz,?_⟩;refine⟨_,rfl,_,rfl,a,xs,c,_,rfl,rfl,SqL.of ha,hb,.inl ⟨rfl,_,SqL.of hb'⟩,_,rfl,b,_,y,rfl,rfl,SqL.of hb',hy',hz,_,_,rfl,rfl,?_⟩;show Q (.bl (decide ((((lof ls c).idxOf x:Nat):Int)<(((lof ls c).idxOf y:Nat):Int)))) H
     have e4:(decide (((lof ls c).idxOf x:Nat)<(lof ls c).idxOf y))=decide ((((lof ls c).idxOf x:Nat):Int)<(((lof ls c).idxOf y:Nat):Int)):=by
      rw[decide_eq_decide];omega
     rw[<-e4];exact q
def zfq:Sp:=λvs H Q _=>∃(a:Addr) (ls:Ls),vs=[.ref a]/\LL H a ls/\Valid ls/\∀q H',H q=none->zj H H'->PL H' q (Zw ls)->Q (.ref q) H'
theorem zbc(T:Txt K mg t):TX.FnH P w K mg base 2 t.law_open t.fd_law_open ["_law_lists_here"] zfq:=by
 have S:=W3;have G_law_would:=jF (P:=P) (w:=w) (base:=base) T;refine T.law_open.fn.okH S (λvs H Q E h=>?_) (λcdv A outer s H vs Q E hr h=>?_)
 ·obtain⟨a,ls,rfl,_⟩:=h;rfl
 ·obtain⟨a,ls,rfl,hL,hV,fin⟩:=h
  obtain⟨ys,ha,ry⟩:=id hL;have hyl:=ry.length;have hl6:=hV.le
  refine⟨_,(zg (zz (i:=1) S.nd rfl (loc rfl) (z4 zf))
   (zg (Zc PassesOwn.never rfl (Zi rfl T.b_range (zd (zn zu (by rfl) T.b_len TK.zD (zd (pv 0) zf)) zf)) (zt (i:=2) S.nd rfl (loc rfl)) (zh (Zc PassesOwn.never rfl (Wa rfl T.b_range (zd (zR Yc (pv 2) zm) (zd (zn zu (by rfl) T.b_len TK.zD (zd (pv 0) zf)) zf))) (zt (i:=3) S.nd rfl (loc rfl)) (zh (zO (zI (TX.Yo (k:=1) (E:=E0) G_law_would hr rfl (by rfl) T.law_would.mg T.law_would.fn.kp T.law_would.b .nil (zd (pv 0) (zd (pv 2) (zd (pv 3) zf))))) (zh (Zq (YI PySem.F.plainAttrs_list PySem.F.slot_list_append PySem.F.type_list_append ZQ (pv 1) (zd (Qe (zd (pv 2) (zd (pv 3) zf))) zf)))) zv)))))
   (zh (zy (pv 1))))),?_⟩
  refine⟨Nat.zero_le _,λf hf=>?_⟩;have s2:zj H (upd H f (.lst [])):=TX.zj.upd (zj.refl H) hf
  refine⟨_,rfl,a,_,rfl,.inl (SqL.of (s2 _ _ ha)),_,rfl,by omega,by omega,?_⟩
  rw[hyl]
  refine ZR (lo:=0) (n:=ls.length) (λi σ H2=>∃v u,σ=[some (.ref a),some (.ref f),v,u]/\zj H H2/\PL H2 f (Qs (zH ls) ls.length i))
   ⟨none,none,rfl,s2,[],ze,.nil⟩ ?_ ?_
  ·rintro i σ H2 hi ⟨v,u,rfl,s3,hF⟩
   have e0:(0:Int)+(i:Int)=(i:Int):=by omega
   refine⟨_,rfl,_,_,rfl,rfl,_,rfl,a,_,rfl,.inl (SqL.of (s3 _ _ ha)),_,_,rfl,⟨by omega,by omega,by omega,by omega⟩,?_⟩
   rw[hyl]
   refine ZR (lo:=0+(i:Int)+1) (n:=((ls.length:Int)-(0+(i:Int)+1)).toNat) (λk σ H2=>∃u,σ=[some (.ref a),some (.ref f),some (.int (0+(i:Int))),u]/\zj H H2/\PL H2 f (Qs (zH ls) ls.length i++row (zH ls) i k))
    ⟨u,rfl,s3,by rw[zaX,List.append_nil];exact hF⟩ ?_ ?_
   ·rintro k σ H3 hk3 ⟨u,rfl,s4,hF3⟩
    refine⟨_,rfl,_,rfl,_,rfl,a,ls,0+(i:Int),0+(i:Int)+1+(k:Int),rfl,Of.same mI hL s4,⟨by omega,by omega⟩,⟨by omega,by omega⟩,_,rfl,?_⟩
    rw[e0];rw[zaY,<-List.append_assoc]
    cases hb:zH ls (i:Int) ((i:Int)+1+(k:Int)) with
    | false =>
     refine yp ⟨_,rfl,s4,?_⟩
     simpa using hF3
    | true =>
     refine Qt ?_;obtain⟨xs,hf3,r⟩:=hF3;have hxl:=r.length
     refine⟨_,rfl,.inl ⟨rfl,_,SqL.of hf3⟩,_,rfl,_,rfl,(by show 2<=sizeLine;decide),λtp ht=>?_⟩
     refine⟨f,xs,_,rfl,rfl,Zk hf3 ht,zr ?_,?_⟩
     ·have q1:=Q3 (f:=zH ls) ls.length i
      have q2:=zad (f:=zH ls) i k;rw[hxl,List.length_append]
      have q3:i * ls.length<=6 * 6:=Nat.mul_le_mul (by omega) hl6
      omega
     ·refine⟨_,rfl,TX.zj.upd (TX.zj.upd s4 (s4.free ht)) hf,?_⟩
      exact PL.push hf3 r ht
   ·rintro σ H3 ⟨u,rfl,s4,hF3⟩
    refine⟨_,_,rfl,s4,?_⟩;rw[jr]
    have e:((ls.length:Int)-(0+(i:Int)+1)).toNat=ls.length-(i+1):=by omega
    rw[e] at hF3;exact hF3
  ·rintro σ H2 ⟨v,u,rfl,s3,hF⟩
   refine⟨_,rfl,?_⟩;exact fin f H2 hf s3 hF
theorem zgq(T:Txt K mg t):FnOk P w K mg base CX0 2 t.law_open t.fd_law_open ["_law_lists_here"] zfq:=(zbc T).ok
def zfO(ls:Ls)(hv:List Int):Prop:=hv.length=ls.length/\∀i:Nat,i<ls.length->hv.getD i 0=(i:Int)\/hv.getD i 0∈lof ls i
def zaR:Sp:=λvs H Q _=>∃(a h:Addr) (ls:Ls) (hv:List Int),vs=[.ref a,.ref h]/\LL H a ls/\Valid ls/\H h=some (.lst (hv.map V.int))/\zfO ls hv/\∀q H',H q=none->zj H H'->PL H' q (yO ls hv)->Q (.ref q) H'
theorem We{ls:Ls}(hV:Valid ls):(Zw ls).length<=36:=by
 have:=Q3 (f:=zH ls) ls.length ls.length;have h6:=hV.le;have q3:ls.length * ls.length<=6 * 6:=Nat.mul_le_mul h6 h6;unfold Zw;omega
theorem JA(T:Txt K mg t):TX.FnH P w K mg base 3 t.law_broken t.fd_law_broken ["_law_lists_here","_law_have_here"] zaR:=by
 have S:=J2;have G_law_open:=zbc (P:=P) (w:=w) (base:=base) T;have G_law_rather:=jG (P:=P) (w:=w) (base:=base) T;refine T.law_broken.fn.okH S (λvs H Q E h=>?_) (λcdv A outer s H vs Q E hr h=>?_)
 ·obtain⟨a,h,ls,hv,rfl,_⟩:=h;rfl
 ·obtain⟨a,h,ls,hv,rfl,hL,hV,hh,ho,fin⟩:=h
  refine⟨_,(zg (zz (i:=2) S.nd rfl (loc rfl) (z4 zf))
   (zg (Zc PassesOwn.never rfl (zE (TX.Yo (k:=2) (E:=E0) G_law_open hr rfl (by rfl) T.law_open.mg T.law_open.fn.kp T.law_open.b .nil (zd (pv 0) zf))) (Wb rfl (yf (zt (i:=3) S.nd rfl (loc rfl)) (yf (zt (i:=4) S.nd rfl (loc rfl)) jx))) (zg (zz (i:=5) S.nd rfl (loc rfl) (TX.Yo (k:=2) (E:=E0) (G_law_rather.mono (by decide)) hr rfl (by rfl) T.law_rather.mg T.law_rather.fn.kp T.law_rather.b .nil (zd (pv 0) (zd (pv 3) (zd (pv 4) (zd (zU zA (pv 1) (pv 3) (λ_ _=>rfl)) zf))))))
   (zh (zO (za2 (zI (pv 5)) (J6 (zI (TX.Yo (k:=2) (E:=E0) (G_law_rather.mono (by decide)) hr rfl (by rfl) T.law_rather.mg T.law_rather.fn.kp T.law_rather.b .nil (zd (pv 0) (zd (pv 4) (zd (pv 3) (zd (zU zA (pv 1) (pv 4) (λ_ _=>rfl)) zf)))))))).pt (zh (Zq (YI PySem.F.plainAttrs_list PySem.F.slot_list_append PySem.F.type_list_append ZQ (pv 2) (zd (Qe (zd (pv 3) (zd (pv 4) zf))) zf)))) zv))))
   (zh (zy (pv 2))))),?_⟩
  refine⟨Nat.zero_le _,λf hf=>?_⟩;have s1:zj H (upd H f (.lst [])):=TX.zj.upd (zj.refl H) hf;refine⟨_,rfl,a,ls,rfl,Of.same mI hL s1,hV,λo H2 hoN s2 hO=>?_⟩;obtain⟨xs,ho2,r⟩:=id hO;have hxl:=r.length;have s12:=s1.trans s2
  refine⟨o,rfl,⟨_,SqL.of ho2⟩,Zj (K:=K) (a:=o) (xs:=xs) (λi σ H3=>∃v u x,σ=[some (.ref a),some (.ref h),some (.ref f),v,u,x]/\zj H H3/\(∀b q,H2 b=some q->b≠f->H3 b=some q)/\PL H3 f (((Zw ls).take i).filter λp=>zcf ls hv p.1 p.2))
   ⟨none,none,none,rfl,s12,λb q e _=>e,by rw[List.take_zero];exact⟨[],s2 _ _ ze,.nil⟩⟩ (λi σ H3 _ ⟨_,_,_,_,_,k3,_⟩=>SqL.of (k3 _ _ ho2 (λz=>?_))) ?_ ?_⟩
  ·rw[z,ze] at hoN;cases hoN
  ·rintro i x σ H3 hi ⟨v,u,x0,rfl,s3,k3,hF⟩
   obtain⟨⟨za,zb⟩,hz,b,rfl,hb⟩:=Paired.at1 r hi;obtain⟨o1,o2,o3,o4⟩:=YT (List.mem_of_getElem? hz);have o1:0<=za:=o1;have o2:za<zb:=o2;have o3:zb<(ls.length:Int):=o3;have o4:zH ls za zb=true:=o4;obtain⟨w1,w2⟩:=zT o4
   have hbf:b≠f:=λz=>by
    rw[z] at hb;have:=s2 f _ ze;rw[this] at hb;cases hb
   have hb3:H3 b=some (.tup [.int za,.int zb]):=k3 _ _ hb hbf;refine⟨b,_,rfl,SqT.of hb3,rfl,_,_,rfl,_,_,rfl,rfl,?_⟩;have hL3:=Of.same mI hL s3;have hh3:=s3 _ _ hh;obtain⟨hl1,hl2⟩:=ho
   have ga:hv.getD za.toNat 0=za\/hv.getD za.toNat 0∈lof ls za:=by
    have:=hl2 za.toNat (by omega)
    rwa [show ((za.toNat:Nat):Int)=za by omega] at this
   have gb:hv.getD zb.toNat 0=zb\/hv.getD zb.toNat 0∈lof ls zb:=by
    have:=hl2 zb.toNat (by omega)
    rwa [show ((zb.toNat:Nat):Int)=zb by omega] at this
   refine⟨_,rfl,_,rfl,_,rfl,_,rfl,_,rfl,h,_,za,_,rfl,rfl,SqL.of hh3,yW o1 (by omega),a,ls,za,zb,_,rfl,hL3,hV,⟨o1,by omega⟩,w1,ga,?_⟩
   have et:(Zw ls).take (i+1)=(Zw ls).take i++[(za,zb)]:=by rw[List.take_add_one,hz];rfl
   have ef:((Zw ls).take (i+1)).filter (λp=>zcf ls hv p.1 p.2)=((Zw ls).take i).filter (λp=>zcf ls hv p.1 p.2)++(if zcf ls hv za zb=true then [(za,zb)] else []):=by
    rw[et,List.filter_append,List.filter_cons,List.filter_nil]
   rw[ef]
   rw[show zcf ls hv za zb=(ZN ls za zb (hv.getD za.toNat 0)&&ZN ls zb za (hv.getD zb.toNat 0)) from rfl]
   refine⟨_,rfl,_,rfl,qm (λe1=>?_) (λe1=>yp ?_)⟩
   ·rw[e1,Bool.true_and]
    refine⟨_,rfl,_,rfl,_,rfl,_,rfl,_,rfl,h,_,zb,_,rfl,rfl,SqL.of hh3,yW (by omega) (by omega),a,ls,zb,za,_,rfl,hL3,hV,⟨by omega,by omega⟩,w2,gb,_,rfl,qm (λe2=>?_) (λe2=>?_)⟩
    ·rw[e2]
     obtain⟨ys,hf3,ry⟩:=hF;have hyl:=ry.length
     refine⟨_,rfl,.inl ⟨rfl,_,SqL.of hf3⟩,_,rfl,_,rfl,(by show 2<=sizeLine;decide),λtp ht=>?_⟩
     refine⟨f,ys,_,rfl,rfl,Zk hf3 ht,zr ?_,?_⟩
     ·have q1:=List.length_filter_le (λp:Int×Int=>zcf ls hv p.1 p.2) ((Zw ls).take i)
      have q2:=We hV
      have q3:((Zw ls).take i).length<=(Zw ls).length:=by rw[List.length_take];exact Nat.min_le_right _ _
      omega
     ·exact⟨_,_,_,rfl,TX.zj.upd (TX.zj.upd s3 (s3.free ht)) hf,λc q e n=>z8 (Zk (k3 _ _ e n) ht) n,PL.push hf3 ry ht⟩
    ·rw[e2]
     refine⟨_,_,_,rfl,s3,k3,?_⟩
     simpa using hF
   ·rw[e1,Bool.false_and]
    refine⟨_,_,_,rfl,s3,k3,?_⟩
    simpa using hF
  ·rintro σ H3 ⟨v,u,x,rfl,s3,k3,hF⟩
   refine⟨_,rfl,?_⟩;rw[hxl,List.take_length] at hF;exact fin f H3 hf s3 hF
theorem zde(T:Txt K mg t):FnOk P w K mg base CX0 3 t.law_broken t.fd_law_broken ["_law_lists_here","_law_have_here"] zaR:=(JA T).ok
end
section
variable {P:Program}{w:World}{K:PySem.W.Frag}{mg:Str->Option Value}{base:Heap}{t:Adr}
theorem PL.oth{H:Hp}{f l:Addr}{ps:Prs}{ys:List V}{o:HO}(h:PL H f ps)(hl:H l=some (.lst ys))(hne:f≠l):PL (upd H l o) f ps:=by
 obtain⟨xs,h1,r⟩:=h
 exact⟨xs,z8 h1 hne,Paired.impl (λv q ⟨b,e,hb⟩=>⟨b,e,z8 hb (Wm hb hl (by intro z;cases z))⟩) r⟩
theorem zgD{ls:Ls}{ps:Prs}(pr:Pairs ls ps):zfO ls (z5 ls.length ps):=by
 refine⟨ZA _ _,λi hi=>?_⟩
 rw[Y2 (λp hp=>by obtain⟨h1,h2,h3,h4,_⟩:=pr.each p hp;exact⟨h1,h2,h3,h4⟩) i hi]
 cases e:mate ps (i:Int) with
 | none=>exact .inl rfl
 | some j=>exact .inr (zT (pr.has e).2.2.2.2.2).1
theorem Y1{ls:Ls}{ps:Prs}(pr:Pairs ls ps){i:Int}(h0:0<=i)(h1:i<ls.length):(z5 ls.length ps).getD i.toNat 0=(mate ps i).getD i:=by
 have:=Y2 (ls:=ls) (ps:=ps) (λp hp=>by obtain⟨h1,h2,h3,h4,_⟩:=pr.each p hp;exact⟨h1,h2,h3,h4⟩) i.toNat (by omega)
 rwa [show ((i.toNat:Nat):Int)=i by omega] at this
theorem zaS(hv:List Int)(a b:Int):((hv.map V.int).set a.toNat (.int b)).set b.toNat (.int a)=(zd4 hv (a,b)).map V.int:=by
 unfold zd4;rw[List.map_set,List.map_set]
def zcG:Sp:=λvs H Q _=>∃(a b:Addr) (ls:Ls) (ps:Prs),vs=[.ref a,.ref b]/\LL H a ls/\Valid ls/\PL H b ps/\Pairs ls ps/\∀q H',H q=none->zj H H'->H' q=some (.lst ((z5 ls.length ps).map V.int))->Q (.ref q) H'
set_option maxHeartbeats 1000000 in
theorem zgs(T:Txt K mg t):FnOk P w K mg base CX0 2 t.law_have t.fd_law_have ["_law_lists_here","_law_pairs_here"] zcG:=by
 have S:=jo;have G_law_would:=za9 (P:=P) (w:=w) (base:=base) T;refine T.law_have.fn.ok S (λvs H Q E h=>?_) (λcdv A outer s H vs Q E hr h=>?_)
 ·obtain⟨a,b,ls,ps,rfl,_⟩:=h;rfl
 ·obtain⟨a,b,ls,ps,rfl,hL,hV,hP,pr,fin⟩:=h
  obtain⟨ys,ha,ry⟩:=id hL;have hyl:=ry.length;obtain⟨xs,hb,r⟩:=id hP;have hxl:=r.length;have hl6:=hV.le
  refine⟨_,(zg (zz (i:=2) S.nd rfl (loc rfl) (ZG (TX.ZC rfl) (by rfl) T.b_list TK.zV (zd (TX.yJ (by rfl) T.b_range (zd (zn zu (by rfl) T.b_len TK.zD (zd (pv 0) zf)) zf)) zf)))
   (zg (Zc PassesOwn.never rfl (zE (pv 1)) (Wb rfl (yf (zt (i:=3) S.nd rfl (loc rfl)) (yf (zt (i:=4) S.nd rfl (loc rfl)) jx))) (zg (zz (i:=5) S.nd rfl (loc rfl) (jy (Zr Qg (zU zA (pv 2) (pv 3) (λ_ _=>rfl)) (pv 3) (zJ _)) (YQ (Zr Qg (zU zA (pv 2) (pv 4) (λ_ _=>rfl)) (pv 4) (zJ _)))))
   (zg (zO (Qd (zQ (zI (pv 5))) (YE (zQ (zI (zp (k:=1) G_law_would hr (by rfl) T.law_would.mg T.law_would.fn.kp T.law_would.b .nil zG (zd (pv 0) (zd (pv 3) (zd (pv 4) zf)))))))).pt (zh (zy (z4 zf))) zv)
   (zg (Jt (pv 4) (Ju (pv 2) (pv 3) Y9))
   (zh (Jt (pv 3) (Ju (pv 2) (pv 4) Y9)))))))
   (zh (zy (pv 2))))),?_⟩
  refine⟨_,rfl,a,_,rfl,.inl (SqL.of ha),_,rfl,λrq hrq=>?_⟩
  refine⟨rq,0,_,rfl,ze,⟨by omega,by omega,by omega,by omega⟩,by omega,λl hl=>?_⟩
  rw[hyl,qE];have s1:zj H (upd H rq (.rng 0 (ls.length:Int))):=TX.zj.upd (zj.refl H) hrq
  have hlH:H l=none:=s1.free (by rw[hyl] at hl;exact hl)
  have s2:zj H (upd (upd H rq (.rng 0 (ls.length:Int))) l (.lst ((rng ls.length).map V.int))):=TX.zj.upd s1 hlH
  refine⟨_,rfl,b,rfl,⟨_,SqL.of (s2 _ _ hb)⟩,Zj (K:=K) (a:=b) (xs:=xs) (λi σ H2=>∃v u x,σ=[some (.ref a),some (.ref b),some (.ref l),v,u,x]/\zj H H2/\H2 l=some (.lst ((z5 ls.length (ps.take i)).map V.int)))
   ⟨none,none,none,rfl,s2,by rw[List.take_zero];exact ze⟩ (λi σ H2 _ ⟨_,_,_,_,s3,_⟩=>SqL.of (s3 _ _ hb)) ?_ ?_⟩
  ·rintro i y σ H2 hi ⟨v,u,x,rfl,s3,hl2⟩
   obtain⟨⟨za,zb⟩,hz,c,rfl,hc⟩:=Paired.at1 r hi;obtain⟨pr2,et,m1,m2,e1,e2,e3,e4,e5,e6⟩:=pr.at hz;have hc3:H2 c=some (.tup [.int za,.int zb]):=s3 _ _ hc;have e1:0<=za:=e1;have e2:za<ls.length:=e2;have e3:0<=zb:=e3;have e4:zb<ls.length:=e4;have e6:zH ls za zb=true:=e6;have hvl:=ZA ls.length (ps.take i);have ga:=Y1 pr2 e1 e2;have gb:=Y1 pr2 e3 e4
   rw[show mate (ps.take i) za=none from m1] at ga
   rw[show mate (ps.take i) zb=none from m2] at gb
   refine⟨c,_,rfl,SqT.of hc3,rfl,_,_,rfl,_,_,rfl,rfl,?_⟩
   refine⟨_,rfl,_,rfl,l,_,za,_,rfl,rfl,SqL.of hl2,yW e1 (by omega),_,rfl,rfl,_,rfl,zdA (by rw[ga];exact decide_eq_true rfl) ?_⟩
   refine⟨_,rfl,_,rfl,l,_,zb,_,rfl,rfl,SqL.of hl2,yW e3 (by omega),_,rfl,rfl,?_⟩
   refine⟨_,rfl,_,rfl,QQ (by rw[gb];exact decide_eq_true rfl) ?_⟩
   refine⟨_,rfl,_,rfl,_,rfl,a,ls,za,zb,rfl,Of.same mI hL s3,⟨e1,e2⟩,⟨e3,e4⟩,_,rfl,QQ e6 ?_⟩
   refine⟨_,rfl,_,rfl,_,rfl,l,_,za,_,rfl,rfl,hl2,jU e1 (by rw[List.length_map];omega),?_⟩
   refine⟨_,rfl,_,rfl,_,rfl,l,_,zb,_,rfl,rfl,ze,jU e3 (by rw[List.length_set,List.length_map];omega),?_⟩
   refine⟨_,_,_,rfl,TX.zj.upd (TX.zj.upd s3 hlH) hlH,?_⟩;rw[ze,et,qN,zaS]
  ·rintro σ H2 ⟨v,u,x,rfl,s3,hl2⟩
   refine⟨_,rfl,?_⟩;rw[hxl,List.take_length] at hl2;exact fin l H2 hlH s3 hl2
end
section
variable {P:Program}{w:World}{K:PySem.W.Frag}{mg:Str->Option Value}{base:Heap}{t:Adr}
theorem zes(n:Nat):rng (n+1)=rng n++[(n:Int)]:=by
 unfold rng;rw[List.range_succ,List.map_append];rfl
theorem others{H:Hp}{σ:L2.St}{ta:TA}{ixs:List (Option Nat)}{n:Nat}{c:Int}{Q:VK}(hn:n<=100)(hσ:Ym σ ixs=[none,some (.int c)])(hta:∀R:List V->Hp->Prop,R [.int n] H->ta σ H R)
  (q:∀p,H p=none->Q (.ref p) (upd H p (.lst (((rng n).filter λx=>decide (x≠c)).map V.int)))) :
  yZ ixs (ze7 ta) (yX 0) (Yj (tOp rNe (z7 0) (z7 1))) (z7 0) σ H Q:=by
 refine hta _ ⟨(n:Int),rfl,by omega,by omega,λi m ys H1=>m=n-i/\i<=n/\ys=((rng i).filter λx=>decide (x≠c)).map V.int/\H1=H,⟨_,rfl,Nat.zero_le _,rfl,rfl⟩,?_⟩
 rintro i m ys H1 ⟨rfl,hi,rfl,rfl⟩
 by_cases hlt:i<n
 ·refine .inr ⟨hlt,zr ?_,λx H' y=>?_⟩
  ·rw[List.length_map]
   refine Nat.le_trans (List.length_filter_le _ _) ?_;rw[zM];omega
  ·obtain⟨rfl,rfl⟩:=y
   rw[hσ];refine⟨Kps.own,_,rfl,_,rfl,rfl,_,rfl,?_⟩;rw[wD]
   have e:((rng (i+1)).filter λx=>decide (x≠c)).map V.int=((rng i).filter λx=>decide (x≠c)).map V.int++(if decide ((i:Int)≠c)=true then [V.int (i:Int)] else []):=by
    rw[zes,List.filter_append,List.map_append,List.filter_cons,List.filter_nil]
    split <;> rfl
   have e0:(0:Int)+(i:Int)=(i:Int):=by omega
   rw[e0];refine qm (λh=>?_) (λh=>?_)
   ·refine⟨_,rfl,n-(i+1),by omega,rfl,hlt,?_,rfl⟩
    rw[e,if_pos (by simpa using h)]
   ·refine⟨n-(i+1),by omega,rfl,hlt,?_,rfl⟩
    rw[e,if_neg (by simpa using h),List.append_nil]
 ·have e:i=n:=by omega
  subst e;exact .inl ⟨Nat.le_refl _,q⟩
theorem zee{H:Hp}{σ:L2.St}{tl:TE}{ixs:List (Option Nat)}{p r:Addr}{l f:List Int}{Q:VK}(hn:l.length<=100)(hσ:Ym σ ixs=[none,some (.ref r)])(hp:H p=some (.lst (l.map V.int)))(hr:H r=some (.lst (f.map V.int)))
  (htl:∀R:VK,R (.ref p) H->tl σ H R) (q:∀c,H c=none->Q (.ref c) (upd H c (.lst ((l.filter λx=>decide (¬x∈f)).map V.int)))) :
  yZ ixs (qM K tl) (yX 0) (Yj (tOp (rIn K true) (z7 0) (z7 1))) (z7 0) σ H Q:=by
 refine htl _ ⟨p,rfl,⟨_,SqL.of hp⟩,λi m ys H1=>m=l.length-i/\i<=l.length/\ys=((l.take i).filter λx=>decide (¬x∈f)).map V.int/\H1=H,⟨_,rfl,Nat.zero_le _,by rw[List.take_zero];rfl,rfl⟩,?_⟩
 rintro i m ys H1 ⟨rfl,hi,rfl,rfl⟩
 by_cases hlt:i<l.length
 ·refine .inr ⟨⟨_,.int l[i],SqL.of hp,by simp[hlt]⟩,zr ?_,λx H' y=>?_⟩
  ·rw[List.length_map]
   refine Nat.le_trans (List.length_filter_le _ _) ?_;rw[List.length_take];omega
  ·obtain⟨rfl,y⟩:=y
   obtain⟨z,hz,rfl⟩:=Qn (y _ (SqL.of hp));rw[hσ];refine⟨Kps.own,_,rfl,_,rfl,r,_,rfl,.inl (SqL.of hr),rfl,Yf _,_,rfl,?_⟩
   show if (!inV (.int z) (f.map V.int))=true then _ else _
   rw[qh]
   have e:((l.take (i+1)).filter λx=>decide (¬x∈f)).map V.int=((l.take i).filter λx=>decide (¬x∈f)).map V.int++(if decide (¬z∈f)=true then [V.int z] else []):=by
    rw[List.take_add_one,hz,Option.toList_some,List.filter_append,List.map_append,List.filter_cons,List.filter_nil]
    split <;> rfl
   refine qm (λh=>?_) (λh=>?_)
   ·refine⟨_,rfl,l.length-(i+1),by omega,rfl,hlt,?_,rfl⟩
    rw[e,if_pos (by simpa using h)]
   ·refine⟨l.length-(i+1),by omega,rfl,hlt,?_,rfl⟩
    rw[e,if_neg (by simpa using h),List.append_nil]
 ·have e:i=l.length:=by omega
  subst e;rw[List.take_length]
  exact .inl ⟨⟨_,SqL.of hp,by simp⟩,q⟩
theorem zgP{H:Hp}{σ:L2.St}{tl:TE}{p:Addr}{xs:List V}{Q:VK}(hn:xs.length<=100)(hp:H p=some (.lst xs))(htl:∀R:VK,R (.ref p) H->tl σ H R)
  (q:∀c H',H c=none->zj H H'->LL H' c (List.replicate xs.length [])->Q (.ref c) H') :
  yZ [none] (qM K tl) (yX 0) zcr (zf0 YL) σ H Q:=by
 refine htl _ ⟨p,rfl,⟨_,SqL.of hp⟩,λi m ys H1=>m=xs.length-i/\i<=xs.length/\zj H H1/\Paired (RI H1) ys (List.replicate i []),⟨_,rfl,Nat.zero_le _,zj.refl H,.nil⟩,?_⟩;rintro i m ys H1 ⟨rfl,hi,s1,r⟩;have hl:=r.length;rw[List.length_replicate] at hl
 by_cases hlt:i<xs.length
 ·refine .inr ⟨⟨_,xs[i],SqL.of (s1 _ _ hp),by simp[hlt]⟩,zr (by omega),λx H' y=>?_⟩
  obtain⟨rfl,y⟩:=y;refine⟨Kps.own,?_⟩
  refine jh ⟨Nat.zero_le _,λc hc=>⟨xs.length-(i+1),by omega,rfl,hlt,TX.zj.upd s1 (s1.free hc),?_⟩⟩
  rw[List.replicate_succ'];exact Paired.app (Paired.impl (λv d ⟨b,e,hb⟩=>⟨b,e,Zk hb hc⟩) r) (.cons ⟨c,rfl,ze⟩ .nil)
 ·have e:i=xs.length:=by omega
  subst e;refine .inl ⟨⟨_,SqL.of (s1 _ _ hp),Nat.le_refl _⟩,λc hc=>q c _ (s1.free hc) (TX.zj.upd s1 (s1.free hc)) ⟨ys,ze,Paired.impl (λv d ⟨b,e,hb⟩=>⟨b,e,Zk hb hc⟩) r⟩⟩
theorem zf6{H:Hp}{σ:L2.St}{tl:TE}{ixs:List (Option Nat)}{p:Addr}{l:List Int}{m s:Int}{Q:VK}(hm:0<m)(hn:l.length<=100)(hσ:Ym σ ixs=[none,some (.int m),some (.int s)])(hp:H p=some (.lst (l.map V.int)))
  (htl:∀R:VK,R (.ref p) H->tl σ H R) (q:∀c,H c=none->Q (.ref c) (upd H c (.lst ((l.map λx=>(x+s) % m).map V.int)))) :
  yZ ixs (qM K tl) (yX 0) zcr (tOp (rI (λ_ j=>0<j) λi j=>.int (i % j)) (tOp (rI0 λi j=>.int (i+j)) (z7 0) (z7 2)) (z7 1)) σ H Q:=by
 refine htl _ ⟨p,rfl,⟨_,SqL.of hp⟩,λi m' ys H1=>m'=l.length-i/\i<=l.length/\ys=((l.take i).map λx=>(x+s) % m).map V.int/\H1=H,⟨_,rfl,Nat.zero_le _,by rw[List.take_zero];rfl,rfl⟩,?_⟩
 rintro i m' ys H1 ⟨rfl,hi,rfl,rfl⟩
 by_cases hlt:i<l.length
 ·refine .inr ⟨⟨_,.int l[i],SqL.of hp,by simp[hlt]⟩,zr (by simp;omega),λx H' y=>?_⟩
  obtain⟨rfl,y⟩:=y;obtain⟨z,hz,rfl⟩:=Qn (y _ (SqL.of hp));rw[hσ];refine⟨Kps.own,?_⟩
  refine jh ⟨_,rfl,_,rfl,_,_,rfl,rfl,_,rfl,_,_,rfl,rfl,hm,l.length-(i+1),by omega,rfl,hlt,?_,rfl⟩
  rw[List.take_add_one,hz,Option.toList_some,List.map_append,List.map_append];rfl
 ·have e:i=l.length:=by omega
  subst e;rw[List.take_length]
  exact .inl ⟨⟨_,SqL.of hp,by simp⟩,q⟩
end
end Tp
namespace Tp
open PySem PySem.Spec PyProof.Rows L2 TX TM TK
seal PySem.Sem.wp
section
variable {P:Program}{w:World}{K:PySem.W.Frag}{mg:Str->Option Value}{base:Heap}{t:Adr}
theorem zcp{α:Type}(l:List α)(i:Nat):l=l.take i++l.drop i:=(List.take_append_drop i l).symm
def zf4:Sp:=λvs H Q _=>∃(a b:Addr) (ls:Ls) (ps:Prs),vs=[.ref a,.ref b]/\LL H a ls/\Valid ls/\PL H b ps/\(∀p∈ps,InR ls p)/\∀q H',H q=none->zj H H'->H' q=some (.lst (((qP ls ps).getD []).map V.int))->Q (.ref q) H'
set_option maxHeartbeats 1000000 in
theorem zeQ(T:Txt K mg t):FnOk P w K mg base CX0 2 t.law_have t.fd_law_have ["_law_lists_here","_law_pairs_here"] zf4:=by
 have S:=jo;have G_law_would:=za9 (P:=P) (w:=w) (base:=base) T;refine T.law_have.fn.ok S (λvs H Q E h=>?_) (λcdv A outer s H vs Q E hr h=>?_)
 ·obtain⟨a,b,ls,ps,rfl,_⟩:=h;rfl
 ·obtain⟨a,b,ls,ps,rfl,hL,hV,hP,hin,fin⟩:=h
  obtain⟨ys,ha,ry⟩:=id hL;have hyl:=ry.length;obtain⟨xs,hb,r⟩:=id hP;have hxl:=r.length;have hl6:=hV.le
  refine⟨_,(zg (zz (i:=2) S.nd rfl (loc rfl) (ZG (TX.ZC rfl) (by rfl) T.b_list TK.zV (zd (TX.yJ (by rfl) T.b_range (zd (zn zu (by rfl) T.b_len TK.zD (zd (pv 0) zf)) zf)) zf)))
   (zg (Zc PassesOwn.never rfl (zE (pv 1)) (Wb rfl (yf (zt (i:=3) S.nd rfl (loc rfl)) (yf (zt (i:=4) S.nd rfl (loc rfl)) jx))) (zg (zz (i:=5) S.nd rfl (loc rfl) (jy (Zr Qg (zU zA (pv 2) (pv 3) (λ_ _=>rfl)) (pv 3) (zJ _)) (YQ (Zr Qg (zU zA (pv 2) (pv 4) (λ_ _=>rfl)) (pv 4) (zJ _)))))
   (zg (zO (Qd (zQ (zI (pv 5))) (YE (zQ (zI (zp (k:=1) G_law_would hr (by rfl) T.law_would.mg T.law_would.fn.kp T.law_would.b .nil zG (zd (pv 0) (zd (pv 3) (zd (pv 4) zf)))))))).pt (zh (zy (z4 zf))) zv)
   (zg (Jt (pv 4) (Ju (pv 2) (pv 3) Y9))
   (zh (Jt (pv 3) (Ju (pv 2) (pv 4) Y9)))))))
   (zh (zy (pv 2))))),?_⟩
  refine⟨_,rfl,a,_,rfl,.inl (SqL.of ha),_,rfl,λrq hrq=>?_⟩
  refine⟨rq,0,_,rfl,ze,⟨by omega,by omega,by omega,by omega⟩,by omega,λl hl=>?_⟩
  rw[hyl,qE];have s1:zj H (upd H rq (.rng 0 (ls.length:Int))):=TX.zj.upd (zj.refl H) hrq
  have hlH:H l=none:=s1.free (by rw[hyl] at hl;exact hl)
  have s2:zj H (upd (upd H rq (.rng 0 (ls.length:Int))) l (.lst ((rng ls.length).map V.int))):=TX.zj.upd s1 hlH
  refine⟨_,rfl,b,rfl,⟨_,SqL.of (s2 _ _ hb)⟩,Zj (K:=K) (a:=b) (xs:=xs) (λi σ H2=>∃v u x h,σ=[some (.ref a),some (.ref b),some (.ref l),v,u,x]/\zj H H2/\qP ls (ps.take i)=some h/\h.length=ls.length/\H2 l=some (.lst (h.map V.int)))
   ⟨none,none,none,_,rfl,s2,by rw[List.take_zero];rfl,zM _,ze⟩ (λi σ H2 _ ⟨_,_,_,_,_,s3,_⟩=>SqL.of (s3 _ _ hb)) ?_ ?_⟩
  ·rintro i y σ H2 hi ⟨v,u,x,h,rfl,s3,hG,hhl,hl2⟩
   obtain⟨⟨za,zb⟩,hz,c,rfl,hc⟩:=Paired.at1 r hi;obtain⟨e1,e2,e3,e4⟩:=hin _ (List.mem_of_getElem? hz);have e1:0<=za:=e1;have e2:za<ls.length:=e2;have e3:0<=zb:=e3;have e4:zb<ls.length:=e4;have hc3:H2 c=some (.tup [.int za,.int zb]):=s3 _ _ hc
   have et:ps.take (i+1)=ps.take i++[(za,zb)]:=by rw[List.take_add_one,hz];rfl
   have eg:qP ls (ps.take (i+1))=zgC ls (some h) (za,zb):=by rw[et,QE,hG]
   have out:¬((h.getD za.toNat 0=za/\h.getD zb.toNat 0=zb)/\zH ls za zb=true)->∀q,H2 q=none->Q (.ref q) (upd H2 q (.lst [])):=λhno q hq=>by
    refine fin q _ (s3.free hq) (TX.zj.upd s3 (s3.free hq)) ?_
    have:qP ls (ps.take (i+1))=none:=by
     rw[eg]
     show (if _ then _ else _)=_
     rw[if_neg hno]
    rw[zcp ps (i+1),zbY this];exact ze
   refine⟨c,_,rfl,SqT.of hc3,rfl,_,_,rfl,_,_,rfl,rfl,?_⟩
   refine⟨_,rfl,_,rfl,l,_,za,_,rfl,rfl,SqL.of hl2,yW e1 (by omega),_,rfl,rfl,_,rfl,?_⟩
   rw[wD];refine qm (λd1=>?_) (λd1=>?_)
   ·refine⟨_,rfl,_,rfl,l,_,zb,_,rfl,rfl,SqL.of hl2,yW e3 (by omega),_,rfl,rfl,?_⟩
    rw[wD];refine⟨_,rfl,_,rfl,?_⟩
    cases d2:decide (h.getD zb.toNat 0=zb) with
    | false=>exact Qt (Qt ⟨Nat.zero_le _,out λz=>of_decide_eq_false d2 z.1.2⟩)
    | true =>
     refine yp ⟨_,rfl,_,rfl,_,rfl,a,ls,za,zb,rfl,Of.same mI hL s3,⟨e1,e2⟩,⟨e3,e4⟩,_,rfl,?_⟩
     cases hw:zH ls za zb with
     | false=>exact Qt ⟨Nat.zero_le _,out λz=>by rw[hw] at z;exact absurd z.2 (by decide)⟩
     | true =>
      refine yp ?_
      refine⟨_,rfl,_,rfl,_,rfl,l,_,za,_,rfl,rfl,hl2,jU e1 (by rw[List.length_map];omega),?_⟩
      refine⟨_,rfl,_,rfl,_,rfl,l,_,zb,_,rfl,rfl,ze,jU e3 (by rw[List.length_set,List.length_map];omega),?_⟩
      refine⟨_,_,_,zd4 h (za,zb),rfl,TX.zj.upd (TX.zj.upd s3 hlH) hlH,?_,by unfold zd4;rw[List.length_set,List.length_set];exact hhl,?_⟩
      ·rw[eg]
       show (if _ then _ else _)=_
       rw[if_pos ⟨⟨of_decide_eq_true d1,of_decide_eq_true d2⟩,hw⟩]
      ·rw[ze,zaS]
   ·refine⟨_,rfl,_,rfl,Qt (Qt ⟨Nat.zero_le _,out λz=>of_decide_eq_false d1 z.1.1⟩)⟩
  ·rintro σ H2 ⟨v,u,x,h,rfl,s3,hG,hhl,hl2⟩
   refine⟨_,rfl,?_⟩;rw[hxl,List.take_length] at hG;refine fin l H2 hlH s3 ?_;rw[hG];exact hl2
def Q1:Sp:=λvs H Q _=>∃(a b:Addr) (ls:Ls) (ps:Prs),vs=[.ref a,.ref b]/\LL H a ls/\Valid ls/\PL H b ps/\(∀p∈ps,InR ls p)/\∀H',zj H H'->Q (.bl (YN ls ps)) H'
theorem zc9(T:Txt K mg t):FnOk P w K mg base CX0 4 t.law_steady t.fd_law_steady ["_law_lists_here","_law_pairs_here"] Q1:=by
 have S:=J0;have G_law_have:=zeQ (P:=P) (w:=w) (base:=base) T;have G_law_broken:=zde (P:=P) (w:=w) (base:=base) T;refine T.law_steady.fn.ok S (λvs H Q E h=>?_) (λcdv A outer s H vs Q E hr h=>?_)
 ·obtain⟨a,b,ls,ps,rfl,_⟩:=h;rfl
 ·obtain⟨a,b,ls,ps,rfl,hL,hV,hP,hin,fin⟩:=h
  have hu64:=hr.units;have hl1:=hV.pos
  refine⟨_,(zg (zz (i:=2) S.nd rfl (loc rfl) (zp (k:=3) (G_law_have.mono (by decide)) hr (by rfl) T.law_have.mg T.law_have.fn.kp T.law_have.b .nil zG (zd (pv 0) (zd (pv 1) zf))))
   (zh (zy (jy (Zr (TX.jA hu64) (pv 2) (z4 zf) (zJ _)) (YQ (Zr (TX.jB hu64) (zp (k:=3) G_law_broken hr (by rfl) T.law_broken.mg T.law_broken.fn.kp T.law_broken.b .nil zG (zd (pv 0) (zd (pv 2) zf))) (z4 zf) (zJ _))))))),?_⟩
  refine⟨_,rfl,_,rfl,a,b,ls,ps,rfl,hL,hV,hP,hin,λh H1 hh s1 hh1=>?_⟩;refine⟨_,rfl,Nat.zero_le _,λe he=>?_⟩;have s2:zj H1 (upd H1 e (.lst [])):=TX.zj.upd (zj.refl _) he;unfold YN at fin;refine⟨_,_,yN (s2 _ _ hh1),qt ze,jC _ 8,Ys,λd=>⟨_,rfl,yp ?_⟩,λd=>⟨_,rfl,Qt ?_⟩⟩
  ·rcases qO hV hin with ⟨e,pr⟩|⟨e,_⟩
   ·rw[e] at d
    have:=zbm.mp d;have hl:=ZA ls.length ps
    rw[show (some (z5 ls.length ps)).getD []=z5 ls.length ps from rfl] at this
    rw[this] at hl;simp at hl;omega
   ·rw[e] at fin
    exact fin _ (s1.trans s2)
  ·rcases qO hV hin with ⟨e,pr⟩|⟨e,_⟩
   ·rw[e] at fin hh1
    refine⟨_,rfl,_,rfl,a,h,ls,z5 ls.length ps,rfl,Of.same mI hL (s1.trans s2),hV,s2 _ _ hh1,zgD pr,λg H3 hg s3 hG=>?_⟩;refine⟨Nat.zero_le _,λe' he'=>?_⟩;have s4:zj H3 (upd H3 e' (.lst [])):=TX.zj.upd (zj.refl _) he';have sA:=(s1.trans s2).trans (s3.trans s4);refine⟨_,_,PL.dd (Of.same mP hG s4),qt ze,zbb _,Ys,λd'=>?_,λd'=>?_⟩
    ·have:Q (.bl (decide (yO ls (z5 ls.length ps)=[]))) _:=fin _ sA
     rwa [show decide (yO ls (z5 ls.length ps)=[])=true from decide_eq_true (Y4.mp d')] at this
    ·have:Q (.bl (decide (yO ls (z5 ls.length ps)=[]))) _:=fin _ sA
     rwa [show decide (yO ls (z5 ls.length ps)=[])=false from decide_eq_false λz=>d' (Y4.mpr z)] at this
   ·rw[e] at d
    exact absurd rfl d
theorem zjI{H:Hp}{σ:L2.St}{tl:TE}{b:Addr}{xs:List V}{rings:List (List Int)}{Q:VK}(hb:H b=some (.lst xs))(r:Paired (RI H) xs rings)(hz:rings.length<=100)(htl:∀R:VK,R (.ref b) H->tl σ H R)
  (q:∀p H',H p=none->zj H H'->LL H' p (zbM rings)->Q (.ref p) H') :
  yZ [none] (qM K tl) (yX 0) (Yj (tOp (rIn K false) (tCB (TX.zh9 K) (zS (z7 0) YL)) (zgW (zS (tC (.int 3)) (zS (tC (.int 5)) YL))))) (z7 0) σ H Q:=by
 have hl:=r.length
 refine htl _ ⟨b,rfl,⟨_,SqL.of hb⟩,λi m ys H1=>m=xs.length-i/\i<=xs.length/\zj H H1/\Paired (RI H) ys (zbM (rings.take i)),⟨_,rfl,Nat.zero_le _,zj.refl H,by rw[List.take_zero];exact .nil⟩,?_⟩
 rintro i m ys H1 ⟨rfl,hi,s1,ry⟩;have hyl:=ry.length
 by_cases hlt:i<xs.length
 ·refine .inr ⟨⟨xs,xs[i],SqL.of (s1 _ _ hb),by simp[hlt]⟩,?_,λx H' y=>?_⟩
  ·have h1:(zbM (rings.take i)).length<=(rings.take i).length:=List.length_filter_le _ _
   have h2:(rings.take i).length<=rings.length:=by rw[List.length_take];exact Nat.min_le_right _ _
   exact zr (by omega)
  ·obtain⟨rfl,y⟩:=y
   have hx:=y xs (SqL.of (s1 _ _ hb));obtain⟨l,hl2,c,rfl,hc⟩:=Paired.at1 r hx;have hlen:(l.map V.int).length=l.length:=List.length_map ..
   refine⟨Kps.own,_,rfl,c,_,rfl,.inl (SqL.of (s1 _ _ hc)),(by show 2<=sizeLine;decide),λtp htp=>?_⟩
   rw[hlen];refine⟨tp,_,rfl,.inr (SqT.of ze),rfl,rfl,_,rfl,?_⟩
   show if inV (.int (l.length:Int)) [.int 3,.int 5]=true then _ else _
   rw[zjl];have s2:zj H (upd H' tp (.tup [.int 3,.int 5])):=TX.zj.upd s1 (s1.free htp)
   have e:zbM (rings.take (i+1))=zbM (rings.take i)++(if (decide ((l.length:Int)=3)||decide ((l.length:Int)=5))=true then [l] else []):=by
    unfold zbM;rw[List.take_add_one,hl2,Option.toList_some,List.filter_append,List.filter_cons,List.filter_nil]
   refine qm (λh=>?_) (λh=>?_)
   ·refine⟨_,rfl,xs.length-(i+1),by omega,rfl,hlt,s2,?_⟩
    rw[e,if_pos h];exact Paired.app ry (.cons ⟨c,rfl,hc⟩ .nil)
   ·refine⟨xs.length-(i+1),by omega,rfl,hlt,s2,?_⟩
    rw[e,if_neg (by rw[h];decide),List.append_nil]
    exact ry
 ·have e:i=xs.length:=by omega
  subst e
  rw[List.take_of_length_le (by omega)] at ry
  refine .inl ⟨⟨xs,SqL.of (s1 _ _ hb),Nat.le_refl _⟩,λp hp=>q p _ (s1.free hp) (TX.zj.upd s1 (s1.free hp)) ⟨ys,ze,Paired.impl (λv d h=>mI _ _ v d (TX.zj.upd s1 (s1.free hp)) h) ry⟩⟩
def zhi:Sp:=λvs H Q _=>∃(a b:Addr) (ls:Ls) (rings:List (List Int)),vs=[.ref a,.ref b]/\LL H a ls/\Valid ls/\LL H b rings/\(∀ring∈rings,∀x∈ring,0<=x/\x<(ls.length:Int))/\rings.length<=60/\rings.flatten.length<64 /\
 ∀H',zj H H'->Q (.bl (YK ls rings)) H'
set_option maxHeartbeats 4000000 in
theorem zeS(T:Txt K mg t):TX.FnH P w K mg base 4 t.law_good t.fd_law_good ["_law_lists_here","_law_rings"] zhi:=by
 have S:=W5;have G_law_would:=jF (P:=P) (w:=w) (base:=base) T;have G_law_rather:=jG (P:=P) (w:=w) (base:=base) T;have G_law_broken:=JA (P:=P) (w:=w) (base:=base) T;refine T.law_good.fn.okH S (λvs H Q E h=>?_) (λcdv A outer s H vs Q E hr h=>?_)
 ·obtain⟨a,b,ls,rings,rfl,_⟩:=h;rfl
 ·obtain⟨a,b,ls,rings,rfl,hL,hV,hR,hin,hrl,hfl,fin⟩:=h
  have hu64:=hr.units;have hl6:=hV.le;obtain⟨ya,ha,rya⟩:=id hL;have hyl:=rya.length;obtain⟨xs,hb,r⟩:=id hR;have hxl:=r.length;have inr:∀{i c l},xs[i]?=some (V.ref c)->rings[i]?=some l->l∈rings:=λ_ h=>List.mem_of_getElem? h
  have flen:∀l∈rings,l.length<=rings.flatten.length:=λl hl=>by
   obtain⟨i,hi,e⟩:=List.getElem_of_mem hl;rw[<-e];exact(List.sublist_flatten_of_mem hl |> λh=>e▸h.length_le)
  refine⟨_,(zg (zz (i:=2) S.nd rfl (loc rfl) (z4 zf))
   (zg (Zc PassesOwn.never rfl (zE (pv 1)) (zt (i:=3) S.nd rfl (loc rfl)) (zh (Zq (YI PySem.F.plainAttrs_list PySem.F.slot_list_extend PySem.F.type_list_extend jH (pv 2) (zd (pv 3) zf)))))
   (zg (TX.Qz (tc:=Yj (tOp (rIn K false) (tCB (TX.zh9 K) (zS (z7 0) YL)) (zgW (zS (tC (.int 3)) (zS (tC (.int 5)) YL))))) ["_law_ring"] [none] S.nd (j:=4) rfl (loc rfl) rfl (zE (pv 1)) (λ_ _ _ _ _=>(zt (i:=0) (show (["_law_ring"]:List Str).Nodup by decide +kernel) rfl (loc rfl))) (λ_ _ _ _ _=>(TX.yr (zF Z6 (zn TX.Yg (by rfl) T.b_len TK.zD (zd (pv 0) zf)) (Qe (zd zm (zd zm zf))) (by with_unfolding_all rfl)))) (λ_ _ _ _ _=>(pv 0)) rfl (by decide +kernel) (by decide +kernel) (No:=["_law_lists_here","_law_rings","_law_every","_law_ring","_law_odd","_law_last","_law_k","_law_here"]) (sc:=zk yB) rfl rfl (by decide +kernel) rfl (by decide +kernel))
   (zg (zO (Qd (zF (TX.jA hu64) (zn TX.j6 (by rfl) T.b_sorted TK.YB (zd (pv 2) zf)) (ZG (TX.ZC rfl) (by rfl) T.b_list TK.zV (zd (TX.yJ (by rfl) T.b_range (zd (zn zu (by rfl) T.b_len TK.zD (zd (pv 0) zf)) zf)) zf)) (zJ _)) (YE (zF (TX.jB hu64) (pv 4) (z4 zf) (zJ _)))).pt (zh (zy Z8)) zv)
   (zg (zz (i:=5) S.nd rfl (loc rfl) (ZG (TX.ZC rfl) (by rfl) T.b_list TK.zV (zd (TX.yJ (by rfl) T.b_range (zd (zn zu (by rfl) T.b_len TK.zD (zd (pv 0) zf)) zf)) zf)))
   (zg (Zc PassesOwn.never rfl (zE (pv 1)) (zt (i:=3) S.nd rfl (loc rfl)) (zh (Zc PassesOwn.never rfl (Zi rfl T.b_range (zd (zn TX.Yg (by rfl) T.b_len TK.zD (zd (pv 3) zf)) zf)) (zt (i:=6) S.nd rfl (loc rfl)) (zg (Jt (zU zA (pv 3) (zR QM (pv 6) zm) (λ_ _=>rfl)) (Ju (pv 5) (zU zA (pv 3) (pv 6) (λ_ _=>rfl)) Y9))
   (zh (zO (za2 (zF zeN (zn TX.Yg (by rfl) T.b_len TK.zD (zd (pv 3) zf)) zm (zJ _)) (J6 (zQ (zI (TX.Yo (k:=3) (E:=E0) (G_law_would.mono (by decide)) hr rfl (by rfl) T.law_would.mg T.law_would.fn.kp T.law_would.b .nil (zd (pv 0) (zd (zU zA (pv 3) (pv 6) (λ_ _=>rfl)) (zd (zU zA (pv 3) (zR QM (pv 6) zm) (λ_ _=>rfl)) zf)))))))).pt (zh (zy Z8)) zv))))))
   (zg (Zc PassesOwn.never rfl (zE (pv 1)) (zt (i:=3) S.nd rfl (loc rfl)) (zh (Zc PassesOwn.never rfl (Zi rfl T.b_range (zd (zn TX.Yg (by rfl) T.b_len TK.zD (zd (pv 3) zf)) zf)) (zt (i:=6) S.nd rfl (loc rfl)) (zg (zz (i:=7) S.nd rfl (loc rfl) (zU zA (pv 3) (zR QM (pv 6) zm) (λ_ _=>rfl)))
   (zh (zO (za2 (zF zeN (zn TX.Yg (by rfl) T.b_len TK.zD (zd (pv 3) zf)) zm (zJ _)) (J6 (zQ (zI (TX.Yo (k:=3) (E:=E0) (G_law_rather.mono (by decide)) hr rfl (by rfl) T.law_rather.mg T.law_rather.fn.kp T.law_rather.b .nil (zd (pv 0) (zd (pv 7) (zd (zU zA (pv 3) (pv 6) (λ_ _=>rfl)) (zd (zU zA (pv 5) (pv 7) (λ_ _=>rfl)) zf))))))))).pt (zh (zy Z8)) zv))))))
   (zh (zy (Zr (TX.jB hu64) (TX.Yo (k:=3) (E:=E0) G_law_broken hr rfl (by rfl) T.law_broken.mg T.law_broken.fn.kp T.law_broken.b .nil (zd (pv 0) (zd (pv 5) zf))) (z4 zf) (zJ _))))))))))),?_⟩
  refine⟨Nat.zero_le _,λev hev=>?_⟩;have s1:zj H (upd H ev (.lst [])):=TX.zj.upd (zj.refl H) hev
  refine⟨_,rfl,b,rfl,⟨_,SqL.of (s1 _ _ hb)⟩,Zj (K:=K) (a:=b) (xs:=xs) (λi σ H2=>∃v,σ=[some (.ref a),some (.ref b),some (.ref ev),v,none,none,none,none]/\zj H H2/\H2 ev=some (.lst ((rings.take i).flatten.map V.int)))
   ⟨none,rfl,s1,by rw[List.take_zero];exact ze⟩ (λi σ H2 _ ⟨_,_,s3,_⟩=>SqL.of (s3 _ _ hb)) ?_ ?_⟩
  ·rintro i y σ H2 hi ⟨v,rfl,s2,he2⟩
   obtain⟨l,hl2,c,rfl,hc⟩:=Paired.at1 r hi
   have e:(rings.take (i+1)).flatten=(rings.take i).flatten++l:=by rw[List.take_add_one,hl2,Option.toList_some,List.flatten_append];simp
   refine⟨_,rfl,.inl ⟨rfl,_,SqL.of he2⟩,_,rfl,ev,c,_,_,rfl,rfl,he2,s2 _ _ hc,?_,_,rfl,TX.zj.upd s2 hev,?_⟩
   ·rw[List.length_map,List.length_map,<-List.length_append,<-e]
    have h1:(rings.take (i+1)).flatten.length<=rings.flatten.length:=by
     have h2:rings.flatten=(rings.take (i+1)).flatten++(rings.drop (i+1)).flatten:=by rw[<-List.flatten_append,List.take_append_drop]
     rw[h2,List.length_append];omega
    exact Nat.le_of_lt (zr (by omega))
   ·rw[ze,e,List.map_append]
  ·rintro σ H2 ⟨v,rfl,s2,he2⟩
   rw[hxl,List.take_length] at he2;dsimp only;refine Yl ?_;refine Yk ?_
   refine zjI (K:=K) (s2 _ _ hb) (Paired.impl (λv d h=>mI _ _ v d s2 h) r) (by omega) (λR z=>⟨_,rfl,z⟩) λod H3 hod s3 hO=>?_
   have s23:=s2.trans s3;have ha3:=s23 _ _ ha;refine⟨_,rfl,ev,rings.flatten,rfl,SqL.of (s3 _ _ he2),hfl,λso ms hso hpm hsm=>?_⟩;have ems:ms=YJ rings.flatten:=Yn (hpm.trans (yD _).symm) hsm (yS _);subst ems;have s4:zj H3 (upd H3 so (.lst ((YJ rings.flatten).map V.int))):=TX.zj.upd (zj.refl _) hso;refine⟨_,rfl,a,_,rfl,.inl (SqL.of (s4 _ _ ha3)),_,rfl,λrq hrq=>?_⟩
   refine⟨rq,0,_,rfl,ze,⟨by omega,by omega,by omega,by omega⟩,by omega,λrl hrl=>?_⟩
   rw[hyl] at hrl;rw[hyl,qE];have s5:zj (upd H3 so (.lst ((YJ rings.flatten).map V.int))) (upd (upd H3 so (.lst ((YJ rings.flatten).map V.int))) rq (.rng 0 (ls.length:Int))):=TX.zj.upd (zj.refl _) hrq;have s6:zj (upd (upd H3 so (.lst ((YJ rings.flatten).map V.int))) rq (.rng 0 (ls.length:Int))) (upd (upd (upd H3 so (.lst ((YJ rings.flatten).map V.int))) rq (.rng 0 (ls.length:Int))) rl (.lst ((rng ls.length).map V.int))):=TX.zj.upd (zj.refl _) hrl;have s46:=s4.trans (s5.trans s6);have hso6:=(s5.trans s6) _ _ (ze (H:=H3) (a:=so) (o:=.lst ((YJ rings.flatten).map V.int)));have hrl6:=ze (H:=upd (upd H3 so (.lst ((YJ rings.flatten).map V.int))) rq (.rng 0 (ls.length:Int))) (a:=rl) (o:=.lst ((rng ls.length).map V.int));generalize upd (upd (upd H3 so (.lst ((YJ rings.flatten).map V.int))) rq (.rng 0 (ls.length:Int))) rl (.lst ((rng ls.length).map V.int))=H6 at s46 hso6 hrl6;clear s5 s6 hrl hrq;have s26:=s23.trans s46;refine⟨_,_,yN hso6,yN hrl6,jC _ 8,jC _ 8,λe1=>⟨_,rfl,yp ?_⟩,λe1=>⟨_,rfl,Qt (Qt ?_)⟩⟩
   case refine_2 =>
    have:YK ls rings=false:=by
     unfold YK
     rw[decide_eq_false (λz=>e1 (by rw[z])),Bool.false_and,Bool.false_and]
    have h:=fin _ s26;rw[this] at h;exact h
   have e1:=zfI.mp e1;have hO6:=Of.same mI hO s46;refine⟨_,rfl,Nat.zero_le _,λe he=>?_⟩;have s7:zj H6 (upd H6 e (.lst [])):=TX.zj.upd (zj.refl _) he;have s27:=s26.trans s7;refine⟨_,_,LL.dd (Of.same mI hO6 s7),qt ze,zfy _,Ys,λe2=>⟨_,rfl,Qt ?_⟩,λe2=>⟨_,rfl,yp ?_⟩⟩
   ·have:YK ls rings=false:=by
     unfold YK;rw[decide_eq_true (zdS.mp e2)];simp
    have h:=fin _ s27;rw[this] at h;exact h
   have e2:¬zbM rings=[]:=λz=>e2 (zdS.mpr z);refine⟨_,rfl,a,_,rfl,.inl (SqL.of (s27 _ _ ha)),_,rfl,λrq hrq=>?_⟩
   refine⟨rq,0,_,rfl,ze,⟨by omega,by omega,by omega,by omega⟩,by omega,λla hla=>?_⟩
   rw[hyl] at hla;rw[hyl,qE];have s8:=s27.trans (TX.zj.upd (o:=.rng 0 (ls.length:Int)) (zj.refl _) hrq);have hlaH:H la=none:=s8.free hla;have s9:=TX.zj.upd (o:=.lst ((rng ls.length).map V.int)) s8 hlaH;have hla9:=ze (H:=upd (upd H6 e (.lst [])) rq (.rng 0 (ls.length:Int))) (a:=la) (o:=.lst ((rng ls.length).map V.int));generalize upd (upd (upd H6 e (.lst [])) rq (.rng 0 (ls.length:Int))) la (.lst ((rng ls.length).map V.int))=H9 at s9 hla9;clear hla
   refine⟨_,rfl,b,rfl,⟨_,SqL.of (s9 _ _ hb)⟩,Zj (K:=K) (a:=b) (xs:=xs) (λi σ HA=>∃v3 v6,σ=[some (.ref a),some (.ref b),some (.ref ev),v3,some (.ref od),some (.ref la),v6,none]/\zj H HA/\HA la=some (.lst ((Zx ls.length (rings.take i)).map V.int))/\∀ring∈rings.take i,∀j,j<ring.length->ok1 ls ring j=true)
    ⟨_,_,rfl,s9,by rw[List.take_zero];exact hla9,λring h=>by rw[List.take_zero] at h;exact nomatch h⟩ (λi σ H2 _ ⟨_,_,_,s3,_⟩=>SqL.of (s3 _ _ hb)) ?_ ?_⟩
   ·rintro i y σ HA hi ⟨v3,v6,rfl,sA,hlA,okA⟩
    obtain⟨l,hl2,c,rfl,hc⟩:=Paired.at1 r hi;have hlm:=List.mem_of_getElem? hl2;have hlr:=hin l hlm;have hcA:=sA _ _ hc;have hll:=flen l hlm;have hmap:(l.map V.int).length=l.length:=List.length_map ..;have elast:=yo ls.length (rings.take i)
    refine⟨_,rfl,c,_,rfl,.inl (SqL.of hcA),_,rfl,by omega,by omega,?_⟩
    rw[hmap]
    refine ZR (lo:=0) (n:=l.length) (λk σ HB=>∃v6,σ=[some (.ref a),some (.ref b),some (.ref ev),some (.ref c),some (.ref od),some (.ref la),v6,none]/\zj H HB/\HB la=some (.lst ((ql l (Zx ls.length (rings.take i)) k).map V.int))/\∀j,j<k->ok1 ls l j=true)
     ⟨_,rfl,sA,hlA,λj hj=>absurd hj (Nat.not_lt_zero _)⟩ ?_ ?_
    ·rintro k σ HB hk ⟨v6,rfl,sB,hlB,okB⟩
     have hcB:=sB _ _ hc;obtain⟨a1,a2⟩:=hlr _ (zcR hk);obtain⟨p1,p2⟩:=hlr _ (zaW hk)
     refine⟨_,rfl,_,rfl,_,_,rfl,rfl,c,_,_,_,rfl,rfl,SqL.of hcB,QH hk,_,rfl,_,rfl,_,rfl,c,_,_,_,rfl,rfl,SqL.of hcB,j8 hk,la,_,_,_,rfl,rfl,hlB,jU a1 (by rw[List.length_map,ZZ,elast];exact a2),?_⟩
     have nlc:c≠la:=λz=>by rw[z] at hc;rw[hc] at hlaH;cases hlaH
     have hcC:∀o,upd HB la o c=some (.lst (l.map V.int)):=λo=>z8 hcB nlc;have sC:∀o,zj H (upd HB la o):=λo=>TX.zj.upd sB hlaH
     have go:∀HD,zj (upd HB la (.lst ((ql l (Zx ls.length (rings.take i)) (k+1)).map V.int))) HD->ok1 ls l k=true->∃v6,[some (V.ref a),some (V.ref b),some (V.ref ev),some (V.ref c),some (V.ref od),some (V.ref la),some (V.int (0+(k:Int))),none]=[some (.ref a),some (.ref b),some (.ref ev),some (.ref c),some (.ref od),some (.ref la),v6,none]/\zj H HD/\HD la=some (.lst ((ql l (Zx ls.length (rings.take i)) (k+1)).map V.int))/\∀j,j<k+1->ok1 ls l j=true:=λHD sD hok =>
      ⟨_,rfl,(sC _).trans sD,sD _ _ ze,λj hj=>by
       rcases Nat.lt_succ_iff_lt_or_eq.mp hj with h|h
       ·exact okB j h
       ·rw[h];exact hok⟩
     rw[<-List.map_set,<-Yd];refine⟨_,rfl,c,_,rfl,.inl (SqL.of (hcC _)),_,_,rfl,rfl,_,rfl,?_⟩;rw[hmap];refine qm (λd1=>?_) (λd1=>yp ?_)
     ·refine⟨_,rfl,_,rfl,_,rfl,c,_,_,_,rfl,rfl,SqL.of (hcC _),j8 hk,_,rfl,_,rfl,_,_,rfl,rfl,c,_,_,_,rfl,rfl,SqL.of (hcC _),QH hk,a,ls,ra l k,rp l k,rfl,Of.same mI hL (sC _),⟨a1,a2⟩,⟨p1,p2⟩,_,rfl,?_⟩
      have hd1:1<l.length:=by
       have:(1:Int)<(l.length:Int):=of_decide_eq_true d1;omega
      cases hw:zH ls (ra l k) (rp l k) with
      | true =>
       refine yp (go _ (zj.refl _) ?_);unfold ok1;rw[hw];simp
      | false =>
       refine Qt ?_
       have bad:ok1 ls l k=false:=by
        unfold ok1;rw[hw,decide_eq_true hd1];rfl
       have:YK ls rings=false:=by
        unfold YK
        have:(rings.all λring=>(List.range ring.length).all (ok1 ls ring))=false:=by
         rw[List.all_eq_false];refine⟨l,hlm,?_⟩;rw[Bool.not_eq_true,List.all_eq_false]
         exact⟨k,by simpa using hk,by rw[bad];decide⟩
        rw[this,Bool.false_and,Bool.and_false]
       have h:=fin _ (sC (.lst ((ql l (Zx ls.length (rings.take i)) (k+1)).map V.int)));rw[this] at h;exact h
     ·refine go _ (zj.refl _) ?_
      have hd1:¬1<l.length:=λz=>of_decide_eq_false d1 (by omega)
      unfold ok1;rw[decide_eq_false hd1];rfl
    ·rintro σ HB ⟨v6,rfl,sB,hlB,okB⟩
     have et:rings.take (i+1)=rings.take i++[l]:=by rw[List.take_add_one,hl2];rfl
     refine⟨_,_,rfl,sB,by rw[et,qg];exact hlB,λring hring=>?_⟩
     rw[et] at hring
     rcases List.mem_append.mp hring with h|h
     ·exact okA ring h
     ·rw[List.mem_singleton.mp h];exact okB
   ·rintro σ HA ⟨v3,v6,rfl,sA,hlA,okA⟩
    rw[hxl,List.take_length] at hlA okA;have hv:=zbU hin okA;have elast:=yo ls.length rings
    refine⟨_,rfl,b,rfl,⟨_,SqL.of (sA _ _ hb)⟩,Zj (K:=K) (a:=b) (xs:=xs) (λi σ HB=>∃v3 v6 v7,σ=[some (.ref a),some (.ref b),some (.ref ev),v3,some (.ref od),some (.ref la),v6,v7]/\HB=HA/\∀ring∈rings.take i,∀j,j<ring.length->ok2 ls (Zx ls.length rings) ring j=true)
     ⟨_,_,_,rfl,rfl,λring h=>by rw[List.take_zero] at h;exact nomatch h⟩ (λi σ H2 _ ⟨_,_,_,_,e,_⟩=>by subst e;exact SqL.of (sA _ _ hb)) ?_ ?_⟩
    ·rintro i y σ HB hi ⟨v3,v6,v7,rfl,rfl,ok2A⟩
     obtain⟨l,hl2,c,rfl,hc⟩:=Paired.at1 r hi;have hlm:=List.mem_of_getElem? hl2;have hlr:=hin l hlm;have hcA:=sA _ _ hc;have hll:=flen l hlm;have hmap:(l.map V.int).length=l.length:=List.length_map ..
     refine⟨_,rfl,c,_,rfl,.inl (SqL.of hcA),_,rfl,by omega,by omega,?_⟩
     rw[hmap]
     refine ZR (lo:=0) (n:=l.length) (λk σ HC=>∃v6 v7,σ=[some (.ref a),some (.ref b),some (.ref ev),some (.ref c),some (.ref od),some (.ref la),v6,v7]/\HC=HB/\∀j,j<k->ok2 ls (Zx ls.length rings) l j=true)
      ⟨_,_,rfl,rfl,λj hj=>absurd hj (Nat.not_lt_zero _)⟩ ?_ ?_
     ·rintro k σ HC hk ⟨v6,v7,rfl,rfl,okC⟩
      obtain⟨a1,a2⟩:=hlr _ (zcR hk);obtain⟨p1,p2⟩:=hlr _ (zaW hk)
      have go:ok2 ls (Zx ls.length rings) l k=true->∃v6 v7,[some (V.ref a),some (V.ref b),some (V.ref ev),some (V.ref c),some (V.ref od),some (V.ref la),some (V.int (0+(k:Int))),some (V.int (rp l k))]=[some (.ref a),some (.ref b),some (.ref ev),some (.ref c),some (.ref od),some (.ref la),v6,v7]/\HC=HC/\∀j,j<k+1->ok2 ls (Zx ls.length rings) l j=true:=λhok =>
       ⟨_,_,rfl,rfl,λj hj=>by
        rcases Nat.lt_succ_iff_lt_or_eq.mp hj with h|h
        ·exact okC j h
        ·rw[h];exact hok⟩
      refine⟨_,rfl,_,rfl,_,_,rfl,rfl,c,_,_,_,rfl,rfl,SqL.of hcA,QH hk,?_⟩;refine⟨_,rfl,c,_,rfl,.inl (SqL.of hcA),_,_,rfl,rfl,_,rfl,?_⟩;rw[hmap];refine qm (λd1=>?_) (λd1=>yp ?_)
      ·have hd1:2<l.length:=by
        have:(2:Int)<(l.length:Int):=of_decide_eq_true d1;omega
       have o1:=okA l hlm k hk;unfold ok1 at o1
       rw[decide_eq_true (by omega:1<l.length),Bool.true_and,Bool.not_not] at o1
       have hv':=hv (rp l k).toNat (by omega)
       rw[show (((rp l k).toNat:Nat):Int)=rp l k by omega] at hv'
       refine⟨_,rfl,_,rfl,_,rfl,_,rfl,c,_,_,_,rfl,rfl,SqL.of hcA,j8 hk,_,rfl,_,rfl,la,_,_,_,rfl,rfl,SqL.of hlA,yW p1 (by rw[elast];exact p2),a,ls,rp l k,ra l k,_,rfl,Of.same mI hL sA,hV,⟨p1,p2⟩,(zT o1).2,hv',_,rfl,?_⟩
       cases hw:ZN ls (rp l k) (ra l k) ((Zx ls.length rings).getD (rp l k).toNat 0) with
       | true =>
        refine yp (go ?_);unfold ok2;rw[hw];simp
       | false =>
        refine Qt ?_
        have bad:ok2 ls (Zx ls.length rings) l k=false:=by
         unfold ok2;rw[hw,decide_eq_true hd1];rfl
        have:YK ls rings=false:=by
         unfold YK
         have:(rings.all λring=>(List.range ring.length).all (ok2 ls (Zx ls.length rings) ring))=false:=by
          rw[List.all_eq_false];refine⟨l,hlm,?_⟩;rw[Bool.not_eq_true,List.all_eq_false]
          exact⟨k,by simpa using hk,by rw[bad];decide⟩
         rw[this,Bool.false_and,Bool.and_false,Bool.and_false]
        have h:=fin _ sA;rw[this] at h;exact h
      ·refine go ?_
       have hd1:¬2<l.length:=λz=>of_decide_eq_false d1 (by omega)
       unfold ok2;rw[decide_eq_false hd1];rfl
     ·rintro σ HC ⟨v6,v7,rfl,rfl,okC⟩
      have et:rings.take (i+1)=rings.take i++[l]:=by rw[List.take_add_one,hl2];rfl
      refine⟨_,_,_,rfl,rfl,λring hring=>?_⟩;rw[et] at hring
      rcases List.mem_append.mp hring with h|h
      ·exact ok2A ring h
      ·rw[List.mem_singleton.mp h];exact okC
    ·rintro σ HB ⟨v3,v6,v7,rfl,rfl,ok2A⟩
     rw[hxl,List.take_length] at ok2A;refine⟨_,rfl,_,rfl,a,la,ls,Zx ls.length rings,rfl,Of.same mI hL sA,hV,hlA,⟨elast,hv⟩,λg HC hg sC hG=>?_⟩;refine⟨Nat.zero_le _,λe' he'=>?_⟩;have sD:zj HC (upd HC e' (.lst [])):=TX.zj.upd (zj.refl _) he';have sAD:=sA.trans (sC.trans sD)
     have eg:YK ls rings=decide (yO ls (Zx ls.length rings)=[]):=by
      unfold YK
      have t1:(rings.all λring=>(List.range ring.length).all (ok1 ls ring))=true:=by
       rw[List.all_eq_true];intro ring hr;rw[List.all_eq_true];intro j hj;exact okA ring hr j (by simpa using hj)
      have t2:(rings.all λring=>(List.range ring.length).all (ok2 ls (Zx ls.length rings) ring))=true:=by
       rw[List.all_eq_true];intro ring hr;rw[List.all_eq_true];intro j hj;exact ok2A ring hr j (by simpa using hj)
      rw[decide_eq_true e1,decide_eq_false e2,t1,t2];simp
     have h:=fin _ sAD;rw[eg] at h;refine⟨_,_,PL.dd (Of.same mP hG sD),qt ze,zbb _,Ys,λd'=>?_,λd'=>?_⟩
     ·rwa [show decide (yO ls (Zx ls.length rings)=[])=true from decide_eq_true (Y4.mp d')] at h
     ·rwa [show decide (yO ls (Zx ls.length rings)=[])=false from decide_eq_false λz=>d' (Y4.mpr z)] at h
end
end Tp
namespace Tp
open PySem PySem.Spec PyProof.Rows L2 TX TM TK
seal PySem.Sem.wp
section
variable {P:Program}{w:World}{K:PySem.W.Frag}{mg:Str->Option Value}{base:Heap}{t:Adr}
theorem zfL{H:Hp}{σ:L2.St}{ta:TA}{te:TE}{ixs:List (Option Nat)}{rest:L2.St}{n:Nat}{g:Nat->Bool}{Q:VK}(hn:n<=100)(hσ:Ym σ ixs=none::rest)(hta:∀R:List V->Hp->Prop,R [.int n] H->ta σ H R)
  (hte:∀k:Nat,k<n->∀R:VK,R (.bl (g k)) H->te (some (.int (0+(k:Int)))::rest) H R) (q:∀c,H c=none->Q (.ref c) (upd H c (.lst (((List.range n).map g).map V.bl)))) :
  yZ ixs (ze7 ta) (yX 0) zcr te σ H Q:=by
 refine hta _ ⟨(n:Int),rfl,by omega,by omega,λi m ys H1=>m=n-i/\i<=n/\ys=((List.range i).map g).map V.bl/\H1=H,⟨_,rfl,Nat.zero_le _,rfl,rfl⟩,?_⟩
 rintro i m ys H1 ⟨rfl,hi,rfl,rfl⟩
 by_cases hlt:i<n
 ·refine .inr ⟨hlt,zr (by simp;omega),λx H' y=>?_⟩
  obtain⟨rfl,rfl⟩:=y;rw[hσ];refine⟨Kps.own,?_⟩
  refine jh (hte i hlt _ ⟨n-(i+1),by omega,rfl,hlt,?_,rfl⟩)
  rw[List.range_succ,List.map_append,List.map_append];rfl
 ·have e:i=n:=by omega
  subst e;exact .inl ⟨Nat.le_refl _,q⟩
theorem zfN{n:Nat}(g:Nat->Bool):((List.range n).map g).all id=(List.range n).all g:=by rw[List.all_map];rfl
def Jb(ls:Ls)(r:List Int):Prop:=∀x∈r,0<=x/\x<(ls.length:Int)
def zbA(C:Addr):Sp:=λvs H Q _=>∃(p a:Addr) (ls:Ls) (r:List Int),vs=[.ref p,.ref a]/\zY C H p ls/\H a=some (.lst (r.map V.int))/\Jb ls r/\r.length<=100/\∀H',zj H H'->Q (.bl (TN.ZF ls r)) H'
theorem Qh(T:Txt K mg t):FnOk P w K mg base CX0 2 t.would_all_share t.fd_would_all_share ["camp","ring"] (zbA t.C):=by
 have S:=Qa;have G_would_share:=ZO (P:=P) (w:=w) (base:=base) T;refine T.would_all_share.fn.ok S (λvs H Q E h=>?_) (λcdv A outer s H vs Q E hr h=>?_)
 ·obtain⟨p,a,ls,r,rfl,_⟩:=h;rfl
 ·obtain⟨p,a,ls,r,rfl,hC,ha,hin,hl,fin⟩:=h
  obtain⟨dx,la,hp,hL⟩:=id hC
  refine⟨_,(zh (zy (zn (TX.je rfl) (by rfl) T.b_all TK.jg (zd (TX.Zv (te:=zfZ t.C "would_share" (zcC t.C) [] E0 (z7 1) (zS (tOp (zcc K) (z7 2) (tOp (rI0 λi j=>.int (i-j)) (z7 0) (tC (.int 1)))) (zS (tOp (zcc K) (z7 2) (z7 0)) YL))) ["place","camp","ring"] [none,some 0,some 1] rfl (Zi rfl T.b_range (zd (zn zu (by rfl) T.b_len TK.zD (zd (pv 1) zf)) zf)) (λ_ _ _ _ _=>(zt (i:=0) (show (["place","camp","ring"]:List Str).Nodup by decide +kernel) rfl (loc rfl))) (λ_ _ _ _ _=>TX.yd) (λ_ _ _ _ _=>(YR (k:=1) (pv 1) T.cl T.Camp_would_share.me G_would_share hr T.Camp_would_share.b .nil zG (zd (zU zA (pv 2) (zR QM (pv 0) zm) (λ_ _=>rfl)) (zd (zU zA (pv 2) (pv 0) (λ_ _=>rfl)) zf)))) rfl (by decide +kernel) (by decide +kernel) (No:=["camp","ring"]) (sc:=zk z6) rfl rfl (by decide +kernel) rfl (by decide +kernel)) zf)))),?_⟩
  refine qz ?_;refine qX (ZT ?_);refine zfL (n:=r.length) (g:=λk=>zH ls (rp r k) (ra r k)) hl rfl (λR z=>?_) (λk hk R z=>?_) λc hc=>?_
  ·refine⟨_,rfl,a,_,rfl,.inl (SqL.of ha),?_⟩
   rw[List.length_map];exact z
  ·exact⟨_,rfl,p,dx,_,rfl,hp,qQ _ _ (by decide +kernel) (by decide +kernel),_,rfl,_,rfl,_,_,rfl,rfl,a,_,_,_,rfl,rfl,SqL.of ha,QH hk,_,rfl,_,rfl,a,_,_,_,rfl,rfl,SqL.of ha,j8 hk,p,ls,rp r k,ra r k,rfl,hC,hin _ (zaW hk),hin _ (zcR hk),z⟩
  ·refine⟨c,_,rfl,SqL.of ze,?_⟩
   rw[zfN];exact fin _ (TX.zj.upd (zj.refl H) hc)
theorem zfj{l:List Int}{k:Nat}(h2:2<=l.length)(hk:k<l.length):atI (l.map V.int) ((0:Int)+(k:Int)-2)=some (.int (TN.rpp l k)):=by
 unfold TN.rpp;have hl:(l.map V.int).length=l.length:=List.length_map ..
 by_cases h0:k<2
 ·have e:atI (l.map V.int) ((0:Int)+(k:Int)-2)=(l.map V.int)[l.length+k-2]?:=by
   unfold atI ixN
   rw[hl,if_neg (by omega),if_pos (by omega)]
   show (l.map V.int)[((0:Int)+(k:Int)-2+(l.length:Int)).toNat]?=_;congr 1;omega
  rw[e]
  have e2:(if TN.pv' l.length k=0 then l.length-1 else TN.pv' l.length k-1)=l.length+k-2:=by
   unfold TN.pv'
   split <;> split <;> omega
  unfold rp;rw[e2]
  simp[List.getD,show l.length+k-2<l.length by omega]
 ·rw[show (0:Int)+(k:Int)-2=((k-2:Nat):Int) by omega]
  refine wF ?_
  have e2:(if TN.pv' l.length k=0 then l.length-1 else TN.pv' l.length k-1)=k-2:=by
   unfold TN.pv'
   split <;> split <;> omega
  unfold rp;rw[e2]
  simp[List.getD,show k-2<l.length by omega]
def WY(C:Addr):Sp:=λvs H Q _=>∃(p a:Addr) (ls:Ls) (r:List Int),vs=[.ref p,.ref a]/\zY C H p ls/\Valid ls/\H a=some (.lst (r.map V.int))/\Jb ls r/\r.length<=100/\2<=r.length/\TN.ZF ls r=true/\∀H',zj H H'->Q (.bl (TN.YO ls r)) H'
theorem qI(T:Txt K mg t):FnOk P w K mg base CX0 2 t.would_all_rather t.fd_would_all_rather ["camp","ring"] (WY t.C):=by
 have S:=qA;have G_would_rather:=YV (P:=P) (w:=w) (base:=base) T;refine T.would_all_rather.fn.ok S (λvs H Q E h=>?_) (λcdv A outer s H vs Q E hr h=>?_)
 ·obtain⟨p,a,ls,r,rfl,_⟩:=h;rfl
 ·obtain⟨p,a,ls,r,rfl,hC,hV,ha,hin,hl,h2,hsh,fin⟩:=h
  obtain⟨dx,la,hp,hL⟩:=id hC;have sh:∀k,k<r.length->zH ls (rp r k) (ra r k)=true:=λk hk=>List.all_eq_true.mp hsh k (List.mem_range.mpr hk)
  refine⟨_,(zh (zy (zn (TX.je rfl) (by rfl) T.b_all TK.jg (zd (TX.Zv (te:=zfZ t.C "would_rather" (zaP t.C) [] E0 (z7 1) (zS (tOp (zcc K) (z7 2) (tOp (rI0 λi j=>.int (i-j)) (z7 0) (tC (.int 1)))) (zS (tOp (zcc K) (z7 2) (z7 0)) (zS (tOp (zcc K) (z7 2) (tOp (rI0 λi j=>.int (i-j)) (z7 0) (tC (.int 2)))) YL)))) ["place","camp","ring"] [none,some 0,some 1] rfl (Zi rfl T.b_range (zd (zn zu (by rfl) T.b_len TK.zD (zd (pv 1) zf)) zf)) (λ_ _ _ _ _=>(zt (i:=0) (show (["place","camp","ring"]:List Str).Nodup by decide +kernel) rfl (loc rfl))) (λ_ _ _ _ _=>TX.yd) (λ_ _ _ _ _=>(YR (k:=1) (pv 1) T.cl T.Camp_would_rather.me G_would_rather hr T.Camp_would_rather.b .nil zG (zd (zU zA (pv 2) (zR QM (pv 0) zm) (λ_ _=>rfl)) (zd (zU zA (pv 2) (pv 0) (λ_ _=>rfl)) (zd (zU zA (pv 2) (zR QM (pv 0) zm) (λ_ _=>rfl)) zf))))) rfl (by decide +kernel) (by decide +kernel) (No:=["camp","ring"]) (sc:=zk zX) rfl rfl (by decide +kernel) rfl (by decide +kernel)) zf)))),?_⟩
  refine qz ?_;refine qX (ZT ?_);refine zfL (n:=r.length) (g:=λk=>wr ls (rp r k) (ra r k) (some (TN.rpp r k))) hl rfl (λR z=>?_) (λk hk R z=>?_) λc hc=>?_
  ·refine⟨_,rfl,a,_,rfl,.inl (SqL.of ha),?_⟩
   rw[List.length_map];exact z
  ·have w1:=zT (sh k hk)
   have w2:=zT (sh _ (TN.zgh hk))
   exact⟨_,rfl,p,dx,_,rfl,hp,qQ _ _ (by decide +kernel) (by decide +kernel),_,rfl,_,rfl,_,_,rfl,rfl,a,_,_,_,rfl,rfl,SqL.of ha,QH hk,_,rfl,_,rfl,a,_,_,_,rfl,rfl,SqL.of ha,j8 hk,
    _,rfl,_,rfl,_,_,rfl,rfl,a,_,_,_,rfl,rfl,SqL.of ha,zfj h2 hk,p,ls,rp r k,ra r k,some (TN.rpp r k),rfl,hC,hV,hin _ (zaW hk),w1.1,λx e=>by cases e;exact w2.2,z⟩
  ·refine⟨c,_,rfl,SqL.of ze,?_⟩
   rw[zfN];exact fin _ (TX.zj.upd (zj.refl H) hc)
def Jr(C:Addr):Sp:=λvs H Q _=>∃(p a:Addr) (ls:Ls) (r:List Int),vs=[.ref p,.ref a]/\zY C H p ls/\Valid ls/\H a=some (.lst (r.map V.int))/\Jb ls r/\r.length<=100/\r≠[]/\∀H',zj H H'->Q (.bl (TN.Zd ls r)) H'
theorem zdN(n m:Nat):decide (V.int (n:Int)=V.int (m:Int))=decide (n=m):=by
 by_cases e:n=m
 ·subst e;simp
 ·rw[decide_eq_false e,decide_eq_false (λz=>e (by injection z with z;omega))]
theorem YW(T:Txt K mg t):FnOk P w K mg base CX0 3 t.is_good_ring t.fd_is_good_ring ["camp","ring"] (Jr t.C):=by
 have S:=jp;have G_would_all_share:=Qh (P:=P) (w:=w) (base:=base) T;have G_would_all_rather:=qI (P:=P) (w:=w) (base:=base) T;refine T.is_good_ring.fn.ok S (λvs H Q E h=>?_) (λcdv A outer s H vs Q E hr h=>?_)
 ·obtain⟨p,a,ls,r,rfl,_⟩:=h;rfl
 ·obtain⟨p,a,ls,r,rfl,hC,hV,ha,hin,hl,hne,fin⟩:=h
  have hpos:0<r.length:=List.length_pos_iff.mpr hne;unfold TN.Zd at fin
  refine⟨_,(zg (zO (zF Qg (zn zu (by rfl) T.b_len TK.zD (zd (pv 1) zf)) zm (zJ _)) (zh (zy Z8)) zv)
   (zg (zO (zQ (zI (zp (k:=2) G_would_all_share hr (by rfl) T.would_all_share.mg T.would_all_share.fn.kp T.would_all_share.b .nil zG (zd (pv 0) (zd (pv 1) zf))))) (zh (zy Z8)) zv)
   (zh (zy (zeC (Zr Qg (zn zu (by rfl) T.b_len TK.zD (zd (pv 1) zf)) zm (zJ _)) (YQ (zp (k:=2) G_would_all_rather hr (by rfl) T.would_all_rather.mg T.would_all_rather.fn.kp T.would_all_rather.b .nil zG (zd (pv 0) (zd (pv 1) zf))))))))),?_⟩
  refine⟨_,rfl,a,_,rfl,.inl (SqL.of ha),rfl,_,rfl,?_⟩
  rw[List.length_map,show (1:Int)=((1:Nat):Int) from rfl,zdN]
  refine qm (λe1=>?_) (λe1=>?_)
  ·have:=fin H (zj.refl H)
   rw[e1,Bool.true_or] at this;exact this
  ·rw[e1,Bool.false_or] at fin
   have l1:r.length≠1:=of_decide_eq_false e1;refine⟨_,rfl,_,rfl,p,a,ls,r,rfl,hC,ha,hin,hl,λH1 s1=>⟨_,rfl,?_⟩⟩
   cases hsh:TN.ZF ls r with
   | false =>
    rw[hsh,Bool.false_and] at fin;exact fin H1 s1
   | true =>
    rw[hsh,Bool.true_and] at fin;refine yp ?_;refine⟨_,rfl,a,_,rfl,.inl (SqL.of (s1 _ _ ha)),rfl,_,rfl,?_⟩
    rw[List.length_map,show (2:Int)=((2:Nat):Int) from rfl,zdN]
    refine qm (λe2=>?_) (λe2=>?_)
    ·have:=fin H1 s1
     rw[e2,Bool.true_or] at this;exact this
    ·rw[e2,Bool.false_or] at fin
     have l2:r.length≠2:=of_decide_eq_false e2
     exact⟨_,rfl,_,rfl,p,a,ls,r,rfl,hC.same s1,hV,s1 _ _ ha,hin,hl,by omega,hsh,λH2 s2=>fin H2 (s1.trans s2)⟩
theorem WA{α:Type}(l:List (List α))(i:Nat):(l.take i).flatten.length<=l.flatten.length:=by
 conv=>rhs;rw[<-List.take_append_drop i l]
 rw[List.flatten_append,List.length_append];omega
def zhh(C:Addr):Sp:=λvs H Q _=>∃(p b:Addr) (ls:Ls) (rings:List (List Int)),vs=[.ref p,.ref b]/\zY C H p ls/\Valid ls/\LL H b rings/\rings.flatten.length<=50/\∀H',zj H H'->Q (.bl (decide (YJ rings.flatten=rng ls.length))) H'
theorem wk(T:Txt K mg t):FnOk P w K mg base CX0 1 t.stand_once t.fd_stand_once ["camp","rings"] (zhh t.C):=by
 have S:=JZ;refine T.stand_once.fn.ok S (λvs H Q E h=>?_) (λcdv A outer s H vs Q E hr h=>?_)
 ·obtain⟨p,b,ls,rings,rfl,_⟩:=h;rfl
 ·obtain⟨p,b,ls,rings,rfl,hC,hV,hR,hfl,fin⟩:=h
  have hu64:=hr.units;obtain⟨dx,la,hp,hL⟩:=id hC;have hl6:=hV.le;obtain⟨xs,hb,r⟩:=id hR;have hxl:=r.length
  refine⟨_,(zg (zz (i:=2) S.nd rfl (loc rfl) (z4 zf))
   (zg (Zc PassesOwn.never rfl (zE (pv 1)) (zt (i:=3) S.nd rfl (loc rfl)) (zh (Zq (YI PySem.F.plainAttrs_list PySem.F.slot_list_extend PySem.F.type_list_extend jH (pv 2) (zd (pv 3) zf)))))
   (zh (zy (Zr (TX.jB hu64) (zn TX.j6 (by rfl) T.b_sorted TK.YB (zd (pv 2) zf)) (ZG (TX.ZC rfl) (by rfl) T.b_list TK.zV (zd (TX.yJ (by rfl) T.b_range (zd (Yb (pv 0) rfl) zf)) zf)) (zJ _)))))),?_⟩
  refine⟨Nat.zero_le _,λf hf=>?_⟩;have s1:zj H (upd H f (.lst [])):=TX.zj.upd (zj.refl H) hf
  refine⟨_,rfl,b,rfl,⟨_,SqL.of (s1 _ _ hb)⟩,Zj (K:=K) (a:=b) (xs:=xs) (λi σ H2=>∃v,σ=[some (.ref p),some (.ref b),some (.ref f),v]/\zj H H2/\H2 f=some (.lst ((rings.take i).flatten.map V.int)))
   ⟨none,rfl,s1,ze⟩ (λi σ H2 _ ⟨_,_,s2,_⟩=>SqL.of (s2 _ _ hb)) ?_ ?_⟩
  ·rintro i y σ H2 hi ⟨v,rfl,s2,hf2⟩
   obtain⟨l,hl,c,rfl,hc⟩:=Paired.at1 r hi;have hlen:=WA rings (i+1)
   have et:rings.take (i+1)=rings.take i++[l]:=by rw[List.take_add_one,hl];rfl
   rw[et,List.flatten_append,List.flatten_singleton,List.length_append] at hlen
   refine⟨_,rfl,.inl ⟨rfl,_,SqL.of hf2⟩,_,rfl,f,c,_,_,rfl,rfl,hf2,s2 _ _ hc,Nat.le_of_lt (zr (by rw[List.length_map,List.length_map];omega)),_,rfl,TX.zj.upd s2 hf,?_⟩
   rw[ze,et,List.flatten_append,List.flatten_singleton,List.map_append]
  ·rintro σ H2 ⟨v,rfl,s2,hf2⟩
   rw[hxl,List.take_length] at hf2
   refine⟨_,rfl,f,_,rfl,SqL.of hf2,by omega,λq ms hq hp1 hp2=>?_⟩
   have s3:zj H2 (upd H2 q (.lst (ms.map V.int))):=TX.zj.upd (zj.refl _) hq;have hq3:upd H2 q (.lst (ms.map V.int)) q=some (.lst (ms.map V.int)):=ze;generalize upd H2 q (.lst (ms.map V.int))=H3 at s3 hq3;refine⟨_,rfl,p,t.C,dx,_,_,rfl,s3 _ _ (s2 _ _ hp),T.cl,T.n_size,Z7 _ _,_,rfl,λrq hrq=>?_⟩
   refine⟨rq,0,_,rfl,ze,⟨by omega,by omega,by omega,by omega⟩,by omega,λl hl=>?_⟩
   rw[qE];have s4:zj H3 (upd H3 rq (.rng 0 (ls.length:Int))):=TX.zj.upd (zj.refl _) hrq;have s5:=TX.zj.upd (o:=.lst ((rng ls.length).map V.int)) s4 (s4.free hl);have em:ms=YJ rings.flatten:=Yn (hp1.trans (yD _).symm) hp2 (yS _);refine⟨_,_,yN (s5 _ _ hq3),yN ze,jC _ 8,jC _ 8,λe=>?_,λe=>?_⟩
   ·have:=fin _ (s2.trans (s3.trans s5))
    rw[decide_eq_true (by rw[<-em];exact zfI.mp e)] at this
    exact this
   ·have:=fin _ (s2.trans (s3.trans s5))
    rw[decide_eq_false (λz=>e (by rw[em,z]))] at this
    exact this
end
section
variable {P:Program}{w:World}{K:PySem.W.Frag}{mg:Str->Option Value}{base:Heap}{t:Adr}
def zbC:Sp:=λvs H Q _=>∃(b:Addr) (rings:List (List Int)),vs=[.ref b]/\LL H b rings/\rings.flatten.length<=50/\∀d H',H d=none->zj H H'->zcb H' d (TN.yV rings)->Q (.ref d) H'
set_option maxHeartbeats 1000000 in
theorem Wj(T:Txt K mg t):FnOk P w K mg base CX0 1 t.last_ones t.fd_last_ones ["rings"] zbC:=by
 have S:=wZ;refine T.last_ones.fn.ok S (λvs H Q E h=>?_) (λcdv A outer s H vs Q E hr h=>?_)
 ·obtain⟨b,rings,rfl,_⟩:=h;rfl
 ·obtain⟨b,rings,rfl,hR,hfl,fin⟩:=h
  have hu:=zaw hr;obtain⟨xs,hb,r⟩:=id hR;have hxl:=r.length
  refine⟨_,(zg (zz (i:=1) S.nd rfl (loc rfl) Q9)
   (zg (Zc PassesOwn.never rfl (zE (pv 0)) (zt (i:=2) S.nd rfl (loc rfl)) (zh (Zc PassesOwn.never rfl (TX.zcW rfl T.b_enumerate (zd (pv 2) zf)) (Wb rfl (yf (zt (i:=3) S.nd rfl (loc rfl)) (yf (zt (i:=4) S.nd rfl (loc rfl)) jx))) (zh (jw hu (pv 1) (pv 4) (Q8 (zF zeN (zn zu (by rfl) T.b_len TK.zD (zd (pv 2) zf)) zm (zJ _)) (zU zA (pv 2) (zR QM (pv 3) zm) (λ_ _=>rfl)) zcY) rfl)))))
   (zh (zy (pv 1))))),?_⟩
  intro d hd;have s1:zj H (upd H d (.dK [])):=TX.zj.upd (zj.refl H) hd
  refine⟨_,rfl,b,rfl,⟨_,SqL.of (s1 _ _ hb)⟩,Zj (K:=K) (a:=b) (xs:=xs) (λi σ H2=>∃(kvs:List (Key×V)) (v2 v3 v4:Option V),σ=[some (.ref b),some (.ref d),v2,v3,v4]/\zj H H2/\H2 d=some (.dK kvs)/\kvs.length<=(rings.take i).flatten.length /\
   ∀x:Int,(YD kvs (Sum.inl x)).getD .non=zeL (TN.yV (rings.take i) x))
   ⟨_,none,none,none,rfl,s1,ze,Nat.zero_le _,λx=>by rw[List.take_zero];rfl⟩ (λi σ H2 _ ⟨_,_,_,_,_,s2,_⟩=>SqL.of (s2 _ _ hb)) ?_ ?_⟩
  ·rintro i y σ H2 hi ⟨kvs,v2,v3,v4,rfl,s2,hd2,hl2,hk2⟩
   obtain⟨l,hl,c,rfl,hc⟩:=Paired.at1 r hi
   have et:rings.take (i+1)=rings.take i++[l]:=by rw[List.take_add_one,hl];rfl
   have hlen:=WA rings (i+1);rw[et,List.flatten_append,List.flatten_singleton,List.length_append] at hlen;have hc2:=s2 _ _ hc
   refine⟨_,rfl,c,rfl,⟨_,SqL.of hc2⟩,zbk (K:=K) (a:=c) (xs:=l.map V.int) (λk σ H3=>∃(kvs:List (Key×V)) (v3 v4:Option V),σ=[some (.ref b),some (.ref d),some (.ref c),v3,v4]/\zj H H3/\H3 d=some (.dK kvs)/\kvs.length<=(rings.take i).flatten.length+k /\
    ∀x:Int,(YD kvs (Sum.inl x)).getD .non=zeL (TN.YZ l (TN.yV (rings.take i)) k x))
    ⟨kvs,v3,v4,rfl,s2,hd2,hl2,hk2⟩ (λk σ H3 _ ⟨_,_,_,_,s3,_⟩=>SqL.of (s3 _ _ hc)) ?_ ?_⟩
   ·rintro k z σ H3 tp hk ⟨kvs3,v3,v4,rfl,s3,hd3,hl3,hk3⟩ htp
    obtain⟨zi,hzi,rfl⟩:=Qn hk;have hkl:k<l.length:=(List.getElem?_eq_some_iff.mp hzi).1
    have era:TM.ra l k=zi:=by unfold TM.ra;rw[List.getD_eq_getElem?_getD,hzi];rfl
    have s4:zj H (upd H3 tp (.tup [.int (k:Nat),.int zi])):=TX.zj.upd s3 (s3.free htp);have hd4:upd H3 tp (.tup [.int (k:Nat),.int zi]) d=some (.dK kvs3):=Zk hd3 htp;have hc4:=s4 _ _ hc;have ht4:upd H3 tp (.tup [.int (k:Nat),.int zi]) tp=some (.tup [.int (k:Nat),.int zi]):=ze;generalize upd H3 tp (.tup [.int (k:Nat),.int zi])=H4 at s4 hd4 hc4 ht4;refine⟨tp,_,rfl,SqT.of ht4,rfl,_,_,rfl,_,_,rfl,rfl,?_⟩
    have done:∀u:Option Int,u=(if 1<l.length then some (TM.rp l k) else none)->∃(kvs:List (Key×V)) (v3 v4:Option V),[some (V.ref b),some (.ref d),some (.ref c),some (.int (k:Nat)),some (.int zi)]=[some (.ref b),some (.ref d),some (.ref c),v3,v4]/\zj H (upd H4 d (.dK (Jd kvs3 (Sum.inl zi) (zeL u)))) /\
      upd H4 d (.dK (Jd kvs3 (Sum.inl zi) (zeL u))) d=some (.dK kvs)/\kvs.length<=(rings.take i).flatten.length+(k+1)/\∀x:Int,(YD kvs (Sum.inl x)).getD .non=zeL (TN.YZ l (TN.yV (rings.take i)) (k+1) x):=by
     rintro u rfl;refine⟨_,_,_,rfl,TX.zj.upd s4 hd,ze,?_,λx=>?_⟩
     ·have:=ZH kvs3 (Sum.inl zi:Key) (zeL (if 1<l.length then some (TM.rp l k) else none))
      omega
     ·rw[Y7,TN.yM]
      unfold TN.zap;rw[era]
      by_cases e:x=zi
      ·rw[if_pos (by rw[e]),if_pos e];rfl
      ·rw[if_neg (λq=>e (by injection q)),if_neg e]
       exact hk3 x
    refine⟨_,rfl,c,_,rfl,.inl (SqL.of hc4),_,_,rfl,rfl,_,rfl,?_⟩;rw[List.length_map];refine qm (λe1=>?_) (λe1=>?_)
    ·have h1:1<l.length:=by have:=of_decide_eq_true e1;omega
     have ep:=QH (l:=l) hkl;rw[Int.zero_add] at ep
     refine⟨_,rfl,_,rfl,_,_,rfl,rfl,c,_,_,_,rfl,rfl,SqL.of hc4,ep,_,rfl,_,rfl,d,_,rfl,zch.k (k:=Sum.inl zi) hd4 (zr (by omega)),?_⟩
     exact done (some (TM.rp l k)) (by rw[if_pos h1])
    ·have h1:¬1<l.length:=by have:=of_decide_eq_false e1;omega
     refine⟨_,rfl,_,rfl,d,_,rfl,zch.k (k:=Sum.inl zi) hd4 (zr (by omega)),?_⟩
     exact done none (by rw[if_neg h1])
   ·rintro σ H3 ⟨kvs3,v3,v4,rfl,s3,hd3,hl3,hk3⟩
    rw[List.length_map] at hl3 hk3;refine⟨_,_,_,_,rfl,s3,hd3,?_,λx=>?_⟩
    ·rw[et,List.flatten_append,List.flatten_singleton,List.length_append];exact hl3
    ·rw[et,TN.qf];exact hk3 x
  ·rintro σ H2 ⟨kvs,v2,v3,v4,rfl,s2,hd2,hl2,hk2⟩
   rw[hxl,List.take_length] at hk2;exact⟨_,rfl,fin d H2 hd s2 ⟨kvs,hd2,hk2⟩⟩
end
section
variable {P:Program}{w:World}{K:PySem.W.Frag}{mg:Str->Option Value}{base:Heap}{t:Adr}
theorem JS{c:TT}{σ:L2.St}{H:Hp}{R:Bool->Hp->Prop}(h:c σ H λx H1=>R (!x) H1):zi5 c σ H R:=h
theorem zei{D:Ends}{σ:L2.St}{H:Hp}(h:D.nx σ H):zfY D σ H:=h
theorem zaN{te:TE}{σ:L2.St}{H:Hp}{R:Bool->Hp->Prop}(h:te σ H λx H'=>∃k,x=.bl k/\R k H'):Yj te σ H R:=h
theorem zfn{r:R2}{ta tb:TE}{σ:L2.St}{H:Hp}{Q:VK}(h:ta σ H λx H1=>tb σ H1 λy H2=>r x y H2 Q):tOp r ta tb σ H Q:=h
theorem JT{sp:Sp}{dvs:List V}{E:XK}{ta:TA}{σ:L2.St}{H:Hp}{Q:VK}(h:ta σ H λvs H1=>sp (vs++dvs) H1 Q E):Qu sp dvs E ta σ H Q:=h
theorem zej{ta tb:TE}{σ:L2.St}{H:Hp}{Q:VK}(h:ta σ H λx H1=>∃c,x=.bl c/\if c=true then tb σ H1 Q else Q (.bl false) H1):zf1 ta tb σ H Q:=h
theorem zfM{H:Hp}{σ:L2.St}{tl te:TE}{ixs:List (Option Nat)}{rest:L2.St}{b:Addr}{xs:List V}{rings:List (List Int)}{g:List Int->Bool}{Q:VK}(hb:H b=some (.lst xs))(r:Paired (RI H) xs rings)(hn:rings.length<=100)(hσ:Ym σ ixs=none::rest)(htl:∀R:VK,R (.ref b) H->tl σ H R)
  (hte:∀ring∈rings,∀c H1,zj H H1->H1 c=some (.lst (ring.map V.int))->∀R:VK,(∀H2,zj H1 H2->R (.bl (g ring)) H2)->te (some (.ref c)::rest) H1 R)
  (q:∀c H1,zj H H1->H1 c=none->Q (.ref c) (upd H1 c (.lst ((rings.map g).map V.bl)))):yZ ixs (qM K tl) (yX 0) zcr te σ H Q:=by
 have hl:=r.length
 refine htl _ ⟨b,rfl,⟨_,SqL.of hb⟩,λi m ys H1=>m=xs.length-i/\i<=xs.length/\ys=((rings.take i).map g).map V.bl/\zj H H1,⟨_,rfl,Nat.zero_le _,by rw[List.take_zero];rfl,zj.refl H⟩,?_⟩
 rintro i m ys H1 ⟨rfl,hi,rfl,s1⟩
 by_cases hlt:i<xs.length
 ·refine .inr ⟨⟨_,xs[i],SqL.of (s1 _ _ hb),by simp[hlt]⟩,zr (by simp;omega),λx H' y=>?_⟩
  obtain⟨rfl,y⟩:=y;have hx:=y _ (SqL.of (s1 _ _ hb));obtain⟨ring,hr,c,rfl,hc⟩:=Paired.at1 r hx;rw[hσ];refine⟨Kps.own,?_⟩
  refine jh (hte ring (List.mem_of_getElem? hr) c _ s1 (s1 _ _ hc) _ λH2 s2=>⟨xs.length-(i+1),by omega,rfl,hlt,?_,s1.trans s2⟩)
  rw[List.take_add_one,hr,List.map_append,List.map_append];rfl
 ·have e:i=xs.length:=by omega
  subst e
  rw[List.take_of_length_le (by omega)]
  exact .inl ⟨⟨_,SqL.of (s1 _ _ hb),Nat.le_refl _⟩,λc hc=>q c _ s1 hc⟩
theorem Qq{rings:List (List Int)}(h:∀ring∈rings,ring≠[]):rings.length<=rings.flatten.length:=by
 induction rings with
 | nil=>exact Nat.le_refl _
 | cons r rs ih =>
  rw[List.flatten_cons,List.length_append,List.length_cons];have h1:=List.length_pos_iff.mpr (h r List.mem_cons_self);have h2:=ih λx hx=>h x (List.mem_cons_of_mem _ hx);omega
theorem zgd{rings:List (List Int)}{ring:List Int}(h:ring∈rings):ring.length<=rings.flatten.length:=(List.sublist_flatten_of_mem h).length_le
def zcH(C:Addr):Sp:=λvs H Q _=>∃(p b:Addr) (ls:Ls) (rings:List (List Int)),vs=[.ref p,.ref b]/\zY C H p ls/\Valid ls/\LL H b rings/\TN.Wf ls.length rings/\rings.flatten.length<=50/\∀H',zj H H'->Q (.bl (TN.QI ls rings)) H'
set_option maxHeartbeats 1000000 in
theorem zam(T:Txt K mg t):FnOk P w K mg base CX0 4 t.are_good t.fd_are_good ["camp","rings"] (zcH t.C):=by
 have S:=W9;have G_stand_once:=wk (P:=P) (w:=w) (base:=base) T;have G_is_good_ring:=YW (P:=P) (w:=w) (base:=base) T;have G_breakers:=jE (P:=P) (w:=w) (base:=base) T;have G_last_ones:=Wj (P:=P) (w:=w) (base:=base) T;refine T.are_good.fn.ok S (λvs H Q E h=>?_) (λcdv A outer s H vs Q E hr h=>?_)
 ·obtain⟨p,b,ls,rings,rfl,_⟩:=h;rfl
 ·obtain⟨p,b,ls,rings,rfl,hC,hV,hR,hwf,hfl,fin⟩:=h
  have hu64:=hr.units;have hrl:=Qq λr h=>(hwf r h).1;unfold TN.QI at fin
  refine⟨_,(zg (zO (Qd (zF (TX.zhC hu64) (z4 zf) (pv 1) (by with_unfolding_all rfl)) (YE (zQ (zI (zp (k:=3) (G_stand_once.mono (by decide)) hr (by rfl) T.stand_once.mg T.stand_once.fn.kp T.stand_once.b .nil zG (zd (pv 0) (zd (pv 1) zf))))))).pt (zh (zy Z8)) zv)
   (zg (zO (zQ (zI (zn (TX.je rfl) (by rfl) T.b_all TK.jg (zd (TX.Zv (te:=Qu (Jr t.C) [] E0 (zS (z7 1) (zS (z7 0) YL))) ["ring","camp"] [none,some 0] rfl (zE (pv 1)) (λ_ _ _ _ _=>(zt (i:=0) (show (["ring","camp"]:List Str).Nodup by decide +kernel) rfl (loc rfl))) (λ_ _ _ _ _=>TX.yd) (λ_ _ _ _ _=>(zp (k:=3) G_is_good_ring hr (by rfl) T.is_good_ring.mg T.is_good_ring.fn.kp T.is_good_ring.b .nil zG (zd (pv 1) (zd (pv 0) zf)))) rfl (by decide +kernel) (by decide +kernel) (No:=["camp","rings"]) (sc:=zk yC) rfl rfl (by decide +kernel) rfl (by decide +kernel)) zf)))) (zh (zy Z8)) zv)
   (zh (zy (Zr (TX.jB hu64) (zp (k:=3) G_breakers hr (by rfl) T.breakers.mg T.breakers.fn.kp T.breakers.b .nil zG (zd (pv 0) (zd (zp (k:=3) (G_last_ones.mono (by decide)) hr (by rfl) T.last_ones.mg T.last_ones.fn.kp T.last_ones.b .nil zG (zd (pv 1) zf)) zf))) (z4 zf) (zJ _)))))),?_⟩
  refine⟨Nat.zero_le _,λe he=>?_⟩;have s1:zj H (upd H e (.lst [])):=TX.zj.upd (zj.refl H) he;have he1:upd H e (.lst []) e=some (.lst []):=ze;generalize upd H e (.lst [])=H1 at s1 he1
  refine⟨_,rfl,.list [],rings.map dZ,qt he1,LL.dd (Of.same mI hR s1),by simp[PySem.W.kqdOk],zfy _,λhm=>?_,λ_=>⟨_,rfl,yp ?_⟩⟩
  ·exfalso
   obtain⟨ring,h1,h2⟩:=List.mem_map.mp hm;exact(hwf ring h1).1 (zbm.mp h2)
  refine⟨_,rfl,_,rfl,p,b,ls,rings,rfl,hC.same s1,hV,Of.same mI hR s1,hfl,λH2 s2=>⟨_,rfl,?_⟩⟩;have s12:=s1.trans s2
  cases hd:decide (YJ rings.flatten=rng ls.length) with
  | false =>
   rw[hd,Bool.false_and] at fin;exact fin H2 s12
  | true =>
   rw[hd,Bool.true_and] at fin;refine yp ?_;obtain⟨xs,hb2,r2⟩:=Of.same mI hR s12;have hC2:=hC.same s12;refine zei ?_;dsimp only;refine Yl ?_;refine jk (JS (zcu (qX (ZT ?_))))
   refine zfM (K:=K) (b:=b) (g:=TN.Zd ls) hb2 r2 (by omega) rfl (λR z=>by exact⟨_,rfl,z⟩) (λring hm c H3 s3 hc R z=>?_) λc H3 s3 hc=>?_
   ·refine⟨_,rfl,_,rfl,p,c,ls,ring,rfl,hC2.same s3,hV,hc,(hwf ring hm).2,?_,(hwf ring hm).1,z⟩
    have:=zgd hm;omega
   ·refine⟨c,_,rfl,SqL.of ze,_,rfl,?_⟩
    have s4:zj H (upd H3 c (.lst ((rings.map (TN.Zd ls)).map V.bl))):=TX.zj.upd (s12.trans s3) ((s12.trans s3).free hc);generalize upd H3 c (.lst ((rings.map (TN.Zd ls)).map V.bl))=H4 at s4
    rw[show (rings.map (TN.Zd ls)).all id=rings.all (TN.Zd ls) from by rw[List.all_map];rfl]
    cases hg:rings.all (TN.Zd ls) with
    | false =>
     rw[hg,Bool.false_and] at fin;exact fin H4 s4
    | true =>
     rw[hg,Bool.true_and] at fin;refine yp ?_;have hall:=List.all_eq_true.mp hg;have hsh:∀ring∈rings,1<ring.length->TN.ZF ls ring=true:=λring hm h1=>TN.JJ (hall ring hm) h1;refine⟨_,rfl,_,rfl,b,rings,rfl,Of.same mI hR s4,hfl,λd H5 hd5 s5 hv=>?_⟩;refine⟨p,d,ls,TN.yV rings,rfl,(hC.same s4).same s5,hV,λi _ _ x e=>(zT (TN.jR hsh i x e)).1,hv,λq H6 hq s6 hP=>⟨Nat.zero_le _,λe2 he2=>?_⟩⟩;have s7:=TX.zj.upd (o:=.lst []) (zj.refl H6) he2;have fin':=fin _ ((s4.trans s5).trans (s6.trans s7));refine⟨_,_,PL.dd (Of.same mP hP s7),qt ze,zbb _,Ys,λz=>?_,λz=>?_⟩
     ·rwa [show decide (TN.breakers ls (TN.yV rings)=[])=true from decide_eq_true (Y4.mp z)] at fin'
     ·rwa [show decide (TN.breakers ls (TN.yV rings)=[])=false from decide_eq_false λy=>z (Y4.mpr y)] at fin'
def zbz(C:Addr):Sp:=λvs H Q _=>∃(p b:Addr) (ls:Ls) (rings:List (List Int)),vs=[.ref p,.ref b]/\zY C H p ls/\Valid ls/\LL H b rings/\TN.Wf ls.length rings/\rings.flatten.length<=50/\∀H',zj H H'->Q (.bl (TN.QU ls rings)) H'
theorem Wi(T:Txt K mg t):FnOk P w K mg base CX0 5 t.tell_none t.fd_tell_none ["camp","rings"] (zbz t.C):=by
 have S:=wV;have G_are_good:=zam (P:=P) (w:=w) (base:=base) T;have h_TELLING_SIZES:=T.mg_T;refine T.tell_none.fn.ok S (λvs H Q E h=>?_) (λcdv A outer s H vs Q E hr h=>?_)
 ·obtain⟨p,b,ls,rings,rfl,_⟩:=h;rfl
 ·obtain⟨p,b,ls,rings,rfl,hC,hV,hR,hwf,hfl,fin⟩:=h
  have hrl:=Qq λr h=>(hwf r h).1;obtain⟨xs,hb,r⟩:=id hR;unfold TN.QU at fin
  refine⟨_,(zh (zy (jy (zn (TX.wE rfl) (by rfl) T.b_any TK.jf (zd (TX.Zv (te:=tOp (rIn K false) (tCB (TX.zh9 K) (zS (z7 0) YL)) (tC (.ref t.tT))) ["ring"] [none] rfl (zE (pv 1)) (λ_ _ _ _ _=>(zt (i:=0) (show (["ring"]:List Str).Nodup by decide +kernel) rfl (loc rfl))) (λ_ _ _ _ _=>TX.yd) (λ_ _ _ _ _=>(Zr Z6 (zn TX.Yg (by rfl) T.b_len TK.zD (zd (pv 0) zf)) (YS (v:=.ref t.tT) (by rfl) h_TELLING_SIZES (by first|exact⟨_,rfl⟩|rfl)) (by with_unfolding_all rfl))) rfl (by decide +kernel) (by decide +kernel) (No:=["camp","rings"]) (sc:=zk yb) rfl rfl (by decide +kernel) rfl (by decide +kernel)) zf)) (YQ (zp (k:=4) G_are_good hr (by rfl) T.are_good.mg T.are_good.fn.kp T.are_good.b .nil zG (zd (pv 0) (zd (pv 1) zf))))))),?_⟩
  refine qz (zej (qX (ZT ?_)))
  refine zfM (K:=K) (b:=b) (g:=TN.zcd) hb r (by omega) rfl (λR z=>by exact⟨_,rfl,z⟩) (λring hm c H3 s3 hc R z=>?_) λc H3 s3 hc=>?_
  ·refine⟨_,rfl,c,_,rfl,.inl (SqL.of hc),_,_,rfl,.inr (T.k_T _),rfl,rfl,?_⟩
   rw[List.length_map];show R (.bl (inV (.int (ring.length:Int)) [.int 3,.int 5])) H3;rw[zjl];exact z H3 (zj.refl _)
  ·refine⟨c,_,rfl,SqL.of ze,_,rfl,?_⟩
   have s4:zj H (upd H3 c (.lst ((rings.map TN.zcd).map V.bl))):=TX.zj.upd s3 (s3.free hc);generalize upd H3 c (.lst ((rings.map TN.zcd).map V.bl))=H4 at s4
   rw[show (rings.map TN.zcd).any id=rings.any TN.zcd from by rw[List.any_map];rfl]
   cases ho:rings.any TN.zcd with
   | false =>
    rw[ho,Bool.false_and] at fin;exact fin H4 s4
   | true =>
    rw[ho,Bool.true_and] at fin;exact Qt ⟨_,rfl,_,rfl,p,b,ls,rings,rfl,hC.same s4,hV,Of.same mI hR s4,hwf,hfl,λH5 s5=>fin H5 (s4.trans s5)⟩
end
end Tp
namespace Tp
open PySem PySem.Spec PyProof.Rows L2 TX TM TK
seal PySem.Sem.wp
section
variable {P:Program}{w:World}{K:PySem.W.Frag}{mg:Str->Option Value}{base:Heap}{t:Adr}
theorem FnOk.ex{ι:Type}{k:Nat}{f:Addr}{fd:FuncData}{ps:List Str}{p:ι->Prop}{sp:ι->Sp}(h:∀i,p i->FnOk P w K mg base CX0 k f fd ps (sp i)):FnOk P w K mg base CX0 k f fd ps (λvs H Q E=>∃i,p i/\sp i vs H Q E) :=
 ⟨λvs H Q E ⟨i,hi,q⟩=>(h i hi).len vs H Q E q,λA outer s H args us vs Q E hr he hb hv ⟨i,hi,q⟩=>(h i hi).run A outer s H args us vs Q E hr he hb hv q⟩
def zjn(ls:Ls)(H:Hp)(v:V)(c:TN.Rs)(o:Option (List Int))(F:List Int):Prop :=
 (v=.non/\∀R,TN.Ext ls c o F R->TN.QU ls R=false)\/∃q R,v=.ref q/\LL H q R/\TN.Ext ls c o F R/\TN.QU ls R=true
def zaQ(C:Addr)(m:Nat):Sp:=λvs H Q _=>∃(p c f:Addr) (ls:Ls) (cl:TN.Rs) (F:List Int),vs=[.ref p,.ref c,.ref f]/\zY C H p ls/\Valid ls/\LL H c cl/\TN.Wf ls.length cl/\H f=some (.lst (F.map V.int))/\F.length=m/\Jb ls F/\cl.flatten.length+F.length<=6 /\
 ∀v H',zj H H'->zjn ls H' v cl none F->Q v H'
def Qw(C:Addr)(m:Nat):Sp:=λvs H Q _=>∃(p c a f:Addr) (ls:Ls) (cl:TN.Rs) (r F:List Int),vs=[.ref p,.ref c,.ref a,.ref f]/\zY C H p ls/\Valid ls/\LL H c cl/\TN.Wf ls.length cl/\H a=some (.lst (r.map V.int))/\r≠[]/\Jb ls r/\H f=some (.lst (F.map V.int))/\F.length=m/\Jb ls F/\cl.flatten.length+r.length+F.length<=6 /\
 ∀v H',zj H H'->zjn ls H' v cl (some r) F->Q v H'
theorem zbo{F:List Int}{x:Int}{r:List Int}(h:F=x::r):zdT (F.map V.int) none (some 1)=[V.int x]/\zdT (F.map V.int) (some 1) none=r.map V.int:=by
 subst h
 have e:HT.sIx ((x::r).map V.int).length 0 (some 1)=1:=by
  show HT.sIx _ 0 (some ((1:Nat):Int))=1;rw[HT.zcL,List.length_map,List.length_cons];omega
 have e':HT.sIx ((x::r).map V.int).length ((x::r).map V.int).length (some 1)=1:=by
  show HT.sIx _ _ (some ((1:Nat):Int))=1;rw[HT.zcL,List.length_map,List.length_cons];omega
 constructor
 ·unfold zdT
  rw[e',HT.zaV];rfl
 ·unfold zdT
  rw[e,HT.zaV];show (r.map V.int).take (((x::r).map V.int).length-1)=r.map V.int
  rw[List.length_map,List.length_cons,Nat.add_sub_cancel,List.take_of_length_le (by rw[List.length_map];exact Nat.le_refl _)]
theorem zgz{r:List Int}(h:r≠[]):atI (r.map V.int) (-1)=some (.int (r.getLastD 0)):=by
 have hl:=List.length_pos_iff.mpr h
 have e:atI (r.map V.int) (-1)=(r.map V.int)[r.length-1]?:=by
  unfold atI ixN
  rw[List.length_map,if_neg (by decide),if_pos (by omega)]
  show (r.map V.int)[(-1+(r.length:Int)).toNat]?=_;congr 1;omega
 rw[e,List.getElem?_map,List.getElem?_eq_getElem (by omega)]
 congr 2
 rw[List.getLastD_eq_getLast?,List.getLast?_eq_getElem?,List.getElem?_eq_getElem (by omega)]
 rfl
theorem ze0{r:List Int}(h:r≠[]):r.getLastD 0∈r:=by
 have hl:=List.length_pos_iff.mpr h
 rw[List.getLastD_eq_getLast?,List.getLast?_eq_getElem?,List.getElem?_eq_getElem (by omega)]
 exact List.getElem_mem _
theorem zfK{H:Hp}{σ:L2.St}{tl:TE}{ixs:List (Option Nat)}{p:Addr}{l:List Int}{c:Int}{Q:VK}(hn:l.length<=100)(hσ:Ym σ ixs=[none,some (.int c)])(hp:H p=some (.lst (l.map V.int)))(htl:∀R:VK,R (.ref p) H->tl σ H R)
  (q:∀d,H d=none->Q (.ref d) (upd H d (.lst ((l.filter λx=>decide (x≠c)).map V.int)))) :
  yZ ixs (qM K tl) (yX 0) (Yj (tOp rNe (z7 0) (z7 1))) (z7 0) σ H Q:=by
 refine htl _ ⟨p,rfl,⟨_,SqL.of hp⟩,λi m ys H1=>m=l.length-i/\i<=l.length/\ys=((l.take i).filter λx=>decide (x≠c)).map V.int/\H1=H,⟨_,rfl,Nat.zero_le _,by rw[List.take_zero];rfl,rfl⟩,?_⟩
 rintro i m ys H1 ⟨rfl,hi,rfl,rfl⟩
 by_cases hlt:i<l.length
 ·refine .inr ⟨⟨_,.int l[i],SqL.of hp,by simp[hlt]⟩,zr ?_,λx H' y=>?_⟩
  ·rw[List.length_map]
   refine Nat.le_trans (List.length_filter_le _ _) ?_;rw[List.length_take];omega
  ·obtain⟨rfl,y⟩:=y
   obtain⟨z,hz,rfl⟩:=Qn (y _ (SqL.of hp));rw[hσ];refine⟨Kps.own,_,rfl,_,rfl,rfl,_,rfl,?_⟩;rw[wD]
   have e:((l.take (i+1)).filter λx=>decide (x≠c)).map V.int=((l.take i).filter λx=>decide (x≠c)).map V.int++(if decide (z≠c)=true then [V.int z] else []):=by
    rw[List.take_add_one,hz,Option.toList_some,List.filter_append,List.map_append,List.filter_cons,List.filter_nil]
    split <;> rfl
   refine qm (λh=>?_) (λh=>?_)
   ·refine⟨_,rfl,l.length-(i+1),by omega,rfl,hlt,?_,rfl⟩
    rw[e,if_pos (by simpa using h)]
   ·refine⟨l.length-(i+1),by omega,rfl,hlt,?_,rfl⟩
    rw[e,if_neg (by simpa using h),List.append_nil]
 ·have e:i=l.length:=by omega
  subst e;rw[List.take_length]
  exact .inl ⟨⟨_,SqL.of hp,by simp⟩,q⟩
theorem LL.snocN{H:Hp}{c a n:Addr}{xs:List V}{cl:TN.Rs}{r:List Int}(hc:H c=some (.lst xs))(rc:Paired (RI H) xs cl)(ha:H a=some (.lst (r.map V.int)))(hn:H n=none):LL (upd H n (.lst (xs++[.ref a]))) n (cl++[r]) :=
 ⟨_,ze,Paired.app (Paired.impl (λv l ⟨b,e,hb⟩=>⟨b,e,Zk hb hn⟩) rc) (.cons ⟨a,rfl,Zk ha hn⟩ .nil)⟩
theorem zcz(T:Txt K mg t)(m:Nat)(ih:∀m',m'<m->FnOk P w K mg base CX0 (7+2 * m') t.with_begun t.fd_with_begun ["camp","closed","ring","free"] (Qw t.C m')) :
  FnOk P w K mg base CX0 (6+2 * m) t.with_free t.fd_with_free ["camp","closed","free"] (zaQ t.C m):=by
 have S:=wU;have G_tell_none:=Wi (P:=P) (w:=w) (base:=base) T
 have G_with_begun:FnOk P w K mg base CX0 (5+2 * m) t.with_begun t.fd_with_begun ["camp","closed","ring","free"] (λvs H Q E=>∃m',m'<m/\Qw t.C m' vs H Q E):=FnOk.ex λm' h=>(ih m' h).mono (by omega)
 refine(show 6+2 * m=(5+2 * m)+1 by omega)▸T.with_free.fn.ok S (λvs H Q E h=>?_) (λcdv A outer s H vs Q E hr h=>?_)
 ·obtain⟨p,c,f,ls,cl,F,rfl,_⟩:=h;rfl
 ·obtain⟨p,c,f,ls,cl,F,rfl,hC,hV,hL,hwf,hf,hm,hF,hlen,fin⟩:=h
  refine⟨_,(zg (zO (zQ (Q6 (pv 2) (λ_=>rfl))) (zh (zy (Q8 (zI (zp (k:=(5+2 * m)) (G_tell_none.mono (by omega)) hr (by rfl) T.tell_none.mg T.tell_none.fn.kp T.tell_none.b .nil zG (zd (pv 0) (zd (pv 1) zf)))) (pv 1) zcY))) zv)
   (zh (zy (zp (k:=(5+2 * m)) (G_with_begun.mono (by omega)) hr (by rfl) T.with_begun.mg T.with_begun.fn.kp T.with_begun.b .nil zG (zd (pv 0) (zd (pv 1) (zd (Q7 JX (pv 2) J9 (J8 zm)) (zd (Q7 JX (pv 2) (J8 zm) J9) zf)))))))),?_⟩
  refine⟨_,rfl,_,.inl ⟨_,SqL.of hf,rfl⟩,?_⟩
  cases hq:F with
  | nil =>
   subst hq
   refine⟨_,rfl,_,rfl,p,c,ls,cl,rfl,hC,hV,hL,hwf,by omega,λH1 s1=>⟨_,rfl,qm (λe=>?_) (λe=>?_)⟩⟩
   ·exact⟨_,rfl,fin _ H1 s1 (.inr ⟨c,cl,rfl,Of.same mI hL s1,.done cl,e⟩)⟩
   ·refine fin .non H1 s1 (.inl ⟨rfl,λR hR=>?_⟩)
    cases hR;exact e
  | cons x r =>
   obtain⟨e1,e2⟩:=zbo hq
   have hl2:m=r.length+1:=by rw[<-hm,hq];rfl
   refine yp ?_;refine⟨_,rfl,_,rfl,_,rfl,1,rfl,f,_,rfl,SqL.of hf,λa ha=>?_⟩;rw[e1];have s1:zj H (upd H a (.lst [.int x])):=TX.zj.upd (zj.refl H) ha;have ha1:upd H a (.lst [.int x]) a=some (.lst ([x].map V.int)):=ze;generalize upd H a (.lst [.int x])=H1 at s1 ha1;refine⟨_,rfl,1,rfl,f,_,rfl,SqL.of (s1 _ _ hf),λg hg=>?_⟩;rw[e2];have s2:zj H1 (upd H1 g (.lst (r.map V.int))):=TX.zj.upd (zj.refl _) hg
   have hin:∀y∈x::r,0<=y/\y<(ls.length:Int):=by rw[<-hq];exact hF
   have hFl:F.length=r.length+1:=by rw[hq];rfl
   refine⟨r.length,by omega,p,c,a,g,ls,cl,[x],r,rfl,hC.same (s1.trans s2),hV,Of.same mI hL (s1.trans s2),hwf,s2 _ _ ha1,by simp,λy hy=>hin y (by rw[List.mem_singleton.mp hy];exact List.mem_cons_self),ze,rfl,λy hy=>hin y (List.mem_cons_of_mem _ hy),by show _+1+_<=6;omega,λv H3 s3 hv=>?_⟩
   refine fin v H3 ((s1.trans s2).trans s3) ?_;rw[hq]
   rcases hv with ⟨h1,h2⟩|⟨q,R,h1,h2,h3,h4⟩
   ·exact .inl ⟨h1,λR hR=>by cases hR with|begin_ h=>exact h2 R h⟩
   ·exact .inr ⟨q,R,h1,h2,.begin_ h3,h4⟩
theorem zdG(cl:TN.Rs)(r:List Int):(cl++[r]).flatten.length=cl.flatten.length+r.length:=by rw[List.flatten_append,List.flatten_singleton,List.length_append]
theorem zfQ{n:Nat}{cl:TN.Rs}{r:List Int}(h:TN.Wf n cl)(h1:r≠[])(h2:∀x∈r,0<=x/\x<(n:Int)):TN.Wf n (cl++[r]):=λring hm=>by
 rcases List.mem_append.mp hm with hm|hm
 ·exact h ring hm
 ·rw[List.mem_singleton.mp hm];exact⟨h1,h2⟩
def BM(Q:VK)(H:Hp)(ls:Ls)(p c a f:Addr)(cl:TN.Rs)(r F:List Int):TS:=λD σ H2=>D.rt=Q/\∃v4,σ=[some (.ref p),some (.ref c),some (.ref a),some (.ref f),v4,none,none]/\zj H H2/\∀R,TN.Zd ls r=true->TN.Ext ls (cl++[r]) none F R->TN.QU ls R=false
set_option maxHeartbeats 1000000 in
theorem zbx(T:Txt K mg t)(m:Nat)(G_with_free:FnOk P w K mg base CX0 (6+2 * m) t.with_free t.fd_with_free ["camp","closed","free"] (zaQ t.C m))
  (ih:∀m',m'<m->FnOk P w K mg base CX0 (7+2 * m') t.with_begun t.fd_with_begun ["camp","closed","ring","free"] (Qw t.C m')) :
  FnOk P w K mg base CX0 (7+2 * m) t.with_begun t.fd_with_begun ["camp","closed","ring","free"] (Qw t.C m):=by
 have S:=JY;have G_is_good_ring:=YW (P:=P) (w:=w) (base:=base) T;have G_would_share:=ZO (P:=P) (w:=w) (base:=base) T
 have G_with_begun:FnOk P w K mg base CX0 (5+2 * m) t.with_begun t.fd_with_begun ["camp","closed","ring","free"] (λvs H Q E=>∃m',m'<m/\Qw t.C m' vs H Q E):=FnOk.ex λm' h=>(ih m' h).mono (by omega)
 refine(show 7+2 * m=(6+2 * m)+1 by omega)▸T.with_begun.fn.ok S (λvs H Q E h=>?_) (λcdv A outer s H vs Q E hr h=>?_)
 ·obtain⟨p,c,a,f,ls,cl,r,F,rfl,_⟩:=h;rfl
 ·obtain⟨p,c,a,f,ls,cl,r,F,rfl,hC,hV,hL,hwf,ha,hne,hri,hf,hm,hF,hlen,fin⟩:=h
  obtain⟨M1,eM1⟩:∃M:TS,M=BM Q H ls p c a f cl r F:=⟨_,rfl⟩;have hrl:=List.length_pos_iff.mpr hne
  refine⟨_,(zg (zO (zI (zp (k:=(6+2 * m)) (G_is_good_ring.mono (by omega)) hr (by rfl) T.is_good_ring.mg T.is_good_ring.fn.kp T.is_good_ring.b .nil zG (zd (pv 0) (zd (pv 2) zf)))) (zg (zz (i:=4) S.nd rfl (loc rfl) (zp (k:=(6+2 * m)) (G_with_free.mono (by omega)) hr (by rfl) T.with_free.mg T.with_free.fn.kp T.with_free.b .nil zG (zd (pv 0) (zd (zR Jx (pv 1) (z4 (zd (pv 2) zf))) (zd (pv 3) zf)))))
   (zh (zO (QK (zc0 (pv 4))) (zh (zy (pv 4))) zv))) zv)
   (TX.cut (M:=M1) (zg (Zc PassesOwn.never rfl (zE (pv 3)) (zt (i:=5) S.nd rfl (loc rfl)) (zh (zO (zI (YR (k:=(6+2 * m)) (pv 0) T.cl T.Camp_would_share.me (G_would_share.mono (by omega)) hr T.Camp_would_share.b .nil zG (zd (zU zA (pv 2) (ziG zg2 zm) (λ_ _=>rfl)) (zd (pv 5) zf)))) (zg (TX.Qz ["camper","other"] [none,some 5] S.nd (j:=6) rfl (loc rfl) rfl (zE (pv 3)) (λ_ _ _ _ _=>(zt (i:=0) (show (["camper","other"]:List Str).Nodup by decide +kernel) rfl (loc rfl))) (λ_ _ _ _ _=>(TX.yr (zF zc7 (pv 0) (pv 1) (zJ _)))) (λ_ _ _ _ _=>(pv 0)) rfl (by decide +kernel) (by decide +kernel) (No:=["camp","closed","ring","free","found","other","left"]) (sc:=zk ZW) rfl rfl (by decide +kernel) rfl (by decide +kernel))
   (zg (zz (i:=4) S.nd rfl (loc rfl) (zp (k:=(6+2 * m)) (G_with_begun.mono (by omega)) hr (by rfl) T.with_begun.mg T.with_begun.fn.kp T.with_begun.b .nil zG (zd (pv 0) (zd (pv 1) (zd (zR Jx (pv 2) (z4 (zd (pv 5) zf))) (zd (pv 6) zf))))))
   (zh (zO (QK (zc0 (pv 4))) (zh (zy (pv 4))) zv)))) zv)))
   (zh (zy zcY))) ?c1)),?_⟩
  case c1 =>
   subst eM1;rintro D σ H2 ⟨eD,v4,rfl,s2,hno⟩
   refine⟨_,rfl,f,rfl,⟨_,SqL.of (s2 _ _ hf)⟩,Zj (K:=K) (a:=f) (xs:=F.map V.int) (λi σ H3=>∃v4 v5 v6,σ=[some (.ref p),some (.ref c),some (.ref a),some (.ref f),v4,v5,v6]/\zj H H3 /\
    ∀o,o∈F.take i->zH ls (r.getLastD 0) o=true->∀R,TN.Ext ls cl (some (r++[o])) (F.filter λx=>decide (x≠o)) R->TN.QU ls R=false)
    ⟨_,_,_,rfl,s2,λo ho=>by rw[List.take_zero] at ho;cases ho⟩ (λi σ H3 _ ⟨_,_,_,_,s3,_⟩=>SqL.of (s3 _ _ hf)) ?_ ?_⟩
   ·rintro i y σ H3 hi ⟨v4,v5,v6,rfl,s3,hnf⟩
    obtain⟨z,hz,rfl⟩:=Qn hi;have hzm:=List.mem_of_getElem? hz
    have et:F.take (i+1)=F.take i++[z]:=by rw[List.take_add_one,hz];rfl
    have hC3:=hC.same s3;obtain⟨dx,la,hp,_⟩:=id hC3
    refine⟨_,rfl,p,dx,_,rfl,hp,qQ _ _ (by decide +kernel) (by decide +kernel),_,rfl,_,rfl,a,_,-1,_,rfl,rfl,SqL.of (s3 _ _ ha),zgz hne,_,rfl,p,ls,r.getLastD 0,z,rfl,hC3,hri _ (ze0 hne),hF z hzm,_,rfl,?_⟩
    cases hw:zH ls (r.getLastD 0) z with
    | false =>
     refine yp ⟨_,_,_,rfl,s3,λo ho ho2=>?_⟩;rw[et] at ho
     rcases List.mem_append.mp ho with ho|ho
     ·exact hnf o ho ho2
     ·rw[List.mem_singleton.mp ho,hw] at ho2;cases ho2
    | true =>
     refine Qt ?_;dsimp only;refine Yl ?_;refine Yk ?_
     refine zfK (K:=K) (l:=F) (c:=z) (by omega) rfl (s3 _ _ hf) (λR q=>by exact⟨_,rfl,q⟩) λl hl=>?_
     have hlt:=TN.Y3 hzm;have hin:Jb ls (F.filter λx=>decide (x≠z)):=λx hx=>hF x (List.mem_filter.mp hx).1;generalize hG:F.filter (λx=>decide (x≠z))=G at hlt hin;have s4:zj H3 (upd H3 l (.lst (G.map V.int))):=TX.zj.upd (zj.refl _) hl;have hl4:upd H3 l (.lst (G.map V.int)) l=some (.lst (G.map V.int)):=ze;generalize upd H3 l (.lst (G.map V.int))=H4 at s4 hl4;have s04:=s3.trans s4
     refine⟨_,rfl,_,rfl,_,rfl,_,rfl,(by show 1<=sizeLine;decide),λd hd=>?_⟩
     have s5:zj H4 (upd H4 d (.lst [.int z])):=TX.zj.upd (zj.refl _) hd
     refine⟨a,d,_,_,rfl,rfl,s5 _ _ (s04 _ _ ha),ze,Nat.le_of_lt (zr (by rw[List.length_map];show _+1<=1000;omega)),λg hg=>?_⟩
     generalize upd H4 d (.lst [.int z])=H5 at s5 hg;have s6:zj H5 (upd H5 g (.lst (r.map V.int++[.int z]))):=TX.zj.upd (zj.refl _) hg
     have hg6:upd H5 g (.lst (r.map V.int++[.int z])) g=some (.lst ((r++[z]).map V.int)):=by rw[ze,List.map_append];rfl
     generalize upd H5 g (.lst (r.map V.int++[.int z]))=H6 at s6 hg6;have s06:=s04.trans (s5.trans s6)
     refine⟨_,rfl,G.length,by omega,p,c,g,l,ls,cl,r++[z],G,rfl,hC.same s06,hV,Of.same mI hL s06,hwf,hg6,by simp,λx hx=>?_,s6 _ _ (s5 _ _ hl4),rfl,hin,by rw[List.length_append,List.length_singleton];omega,λv H7 s7 hv=>?_⟩
     ·rcases List.mem_append.mp hx with hx|hx
      ·exact hri x hx
      ·rw[List.mem_singleton.mp hx];exact hF z hzm
     ·have s07:=s06.trans s7
      rcases hv with ⟨rfl,hv⟩|⟨q,R,rfl,h2,h3,h4⟩
      ·refine⟨_,rfl,_,rfl,yp ⟨_,_,_,rfl,s07,λo ho ho2=>?_⟩⟩
       rw[et] at ho
       rcases List.mem_append.mp ho with ho|ho
       ·exact hnf o ho ho2
       ·rw[List.mem_singleton.mp ho,hG];exact hv
      ·refine⟨_,rfl,_,rfl,Qt ⟨_,rfl,?_⟩⟩
       show D.rt _ _;rw[eD]
       exact fin _ H7 s07 (.inr ⟨q,R,rfl,h2,.more hzm hw (by rw[hG];exact h3),h4⟩)
   ·rintro σ H3 ⟨v4,v5,v6,rfl,s3,hnf⟩
    rw[List.length_map,List.take_length] at hnf;show D.rt _ _;rw[eD];refine fin .non H3 s3 (.inl ⟨rfl,λR hR=>?_⟩)
    cases hR with
    | close g h=>exact hno R g h
    | more hm2 g h=>exact hnf _ hm2 g R h
  refine⟨_,rfl,_,rfl,p,a,ls,r,rfl,hC,hV,ha,hri,by omega,hne,λH1 s1=>⟨_,rfl,qm (λe=>?_) (λe=>?_)⟩⟩
  ·obtain⟨xs,hc1,rc⟩:=Of.same mI hL s1
   have hxl:=rc.length;have hcl:cl.length<=cl.flatten.length:=Qq λx hx=>(hwf x hx).1
   refine⟨_,rfl,_,rfl,_,rfl,(by show 1<=sizeLine;decide),λd hd=>?_⟩
   have s2:zj H1 (upd H1 d (.lst [.ref a])):=TX.zj.upd (zj.refl _) hd
   refine⟨c,d,_,_,rfl,rfl,s2 _ _ hc1,ze,Nat.le_of_lt (zr (by show _+1<=1000;omega)),λn hn=>?_⟩
   generalize upd H1 d (.lst [.ref a])=H2 at s2 hn;have hLn:LL (upd H2 n (.lst (xs++[.ref a]))) n (cl++[r]):=LL.snocN (s2 _ _ hc1) (Paired.impl (λv l=>mI _ _ v l s2) rc) (s2 _ _ (s1 _ _ ha)) hn;have s3:zj H2 (upd H2 n (.lst (xs++[.ref a]))):=TX.zj.upd (zj.refl _) hn;generalize upd H2 n (.lst (xs++[.ref a]))=H3 at hLn s3;have s03:=s1.trans (s2.trans s3)
   refine⟨_,rfl,p,n,f,ls,cl++[r],F,rfl,hC.same s03,hV,hLn,zfQ hwf hne hri,s03 _ _ hf,hm,hF,by rw[zdG];omega,λv H4 s4 hv=>?_⟩
   have s04:=s03.trans s4
   rcases hv with ⟨rfl,hv⟩|⟨q,R,rfl,h2,h3,h4⟩
   ·refine⟨_,rfl,_,rfl,yp ?_⟩
    subst eM1;exact⟨rfl,_,rfl,s04,λR _=>hv R⟩
   ·refine⟨_,rfl,_,rfl,Qt ⟨_,rfl,?_⟩⟩
    exact fin _ H4 s04 (.inr ⟨q,R,rfl,h2,.close e h3,h4⟩)
  ·subst eM1
   exact⟨rfl,_,rfl,s1,λR g=>by rw[e] at g;cases g⟩
theorem zda(T:Txt K mg t):∀m,FnOk P w K mg base CX0 (6+2 * m) t.with_free t.fd_with_free ["camp","closed","free"] (zaQ t.C m)/\FnOk P w K mg base CX0 (7+2 * m) t.with_begun t.fd_with_begun ["camp","closed","ring","free"] (Qw t.C m):=by
 intro m
 induction m using Nat.strongRecOn with
 | ind m ih =>
  have h1:=zcz (P:=P) (w:=w) (base:=base) T m λm' h=>(ih m' h).2;exact⟨h1,zbx T m h1 λm' h=>(ih m' h).2⟩
def zcD(C:Addr):Sp:=λvs H Q _=>∃(p:Addr) (ls:Ls),vs=[.ref p]/\zY C H p ls/\Valid ls/\(¬∃ps,Pairs ls ps/\breaking ls ps=[])/\∀q R H',zj H H'->LL H' q R->TN.Wf ls.length R->R.flatten.length<=50->TN.QU ls R=true->Q (.ref q) H'
theorem zai(T:Txt K mg t):FnOk P w K mg base CX0 19 t.rings_of t.fd_rings_of ["camp"] (zcD t.C):=by
 have S:=W1
 have G_with_free:FnOk P w K mg base CX0 18 t.with_free t.fd_with_free ["camp","closed","free"] (λvs H Q E=>∃m,m<=6/\zaQ t.C m vs H Q E):=FnOk.ex λm h=>(zda (P:=P) (w:=w) (base:=base) T m).1.mono (by omega)
 refine T.rings_of.fn.ok S (λvs H Q E h=>?_) (λcdv A outer s H vs Q E hr h=>?_)
 ·obtain⟨p,ls,rfl,_⟩:=h;rfl
 ·obtain⟨p,ls,rfl,hC,hV,hno,fin⟩:=h
  have hl6:=hV.le;obtain⟨dx,la,hp,_⟩:=id hC
  refine⟨_,(zh (zy (zp (k:=18) (G_with_free.mono (by decide)) hr (by rfl) T.with_free.mg T.with_free.fn.kp T.with_free.b .nil zG (zd (pv 0) (zd (z4 zf) (zd (ZG (TX.ZC rfl) (by rfl) T.b_list TK.zV (zd (TX.yJ (by rfl) T.b_range (zd (Yb (pv 0) rfl) zf)) zf)) zf)))))),?_⟩
  refine⟨_,rfl,Nat.zero_le _,λc hc=>?_⟩;have s1:zj H (upd H c (.lst [])):=TX.zj.upd (zj.refl H) hc;have hc1:upd H c (.lst []) c=some (.lst []):=ze;generalize upd H c (.lst [])=H1 at s1 hc1;refine⟨_,rfl,p,t.C,dx,_,_,rfl,s1 _ _ hp,T.cl,T.n_size,Z7 _ _,_,rfl,λrq hrq=>?_⟩
  refine⟨rq,0,_,rfl,ze,⟨by omega,by omega,by omega,by omega⟩,by omega,λf hf=>?_⟩
  rw[qE];have s2:zj H1 (upd H1 rq (.rng 0 (ls.length:Int))):=TX.zj.upd (zj.refl _) hrq;have s3:=TX.zj.upd (o:=.lst ((rng ls.length).map V.int)) s2 (s2.free hf)
  refine⟨ls.length,hl6,p,c,f,ls,[],rng ls.length,rfl,hC.same (s1.trans s3),hV,⟨[],s3 _ _ hc1,.nil⟩,λring h=>(nomatch h),ze,zM _,λx hx=>TN.Q4 hx,by rw[zM];show 0+_<=6;omega,λv H4 s4 hv=>?_⟩
  have s04:=(s1.trans s3).trans s4
  rcases hv with ⟨rfl,hv⟩|⟨q,R,rfl,h2,h3,h4⟩
  ·obtain⟨R,hR,ht⟩:=TN.zhZ hV hno
   rw[hv R hR] at ht;cases ht
  ·have hwf:TN.Wf ls.length R:=h3.wf (λ_ h=>(nomatch h)) (λ_ h=>(nomatch h)) λx hx=>TN.Q4 hx
   refine fin q R H4 s04 h2 hwf ?_ h4;unfold TN.QU TN.QI at h4;rw[Bool.and_eq_true,Bool.and_eq_true] at h4;have e:=of_decide_eq_true h4.2.1;have:=(yD R.flatten).length_eq;rw[e,zM] at this;omega
end
end Tp
namespace Tp
open PySem PySem.Spec PyProof.Rows L2 TX TM TK
seal PySem.Sem.wp
section
variable {P:Program}{w:World}{K:PySem.W.Frag}{mg:Str->Option Value}{base:Heap}{t:Adr}
theorem wo:zii TX.RPL:=λ_ _ _ _ e h=>let ⟨b,h1,h2⟩:=h;⟨b,h1,Of.same mP h2 e⟩
abbrev WL:Hp->Addr->List Prs->Prop:=Of TX.RPL
theorem zck(ls:Ls):∀(n:Nat) (free:List Int),free.length<=n->TN.ways ls n free≠[]
 | n,[],_=>by cases n <;> (intro h;cases h)
 | 0,_::_,h=>absurd h (by simp)
 | n+1,x::r,h=>by
  unfold TN.ways;intro z
  exact zck ls n r (by simpa using h) (List.append_eq_nil_iff.mp z).1
theorem WL.apart{H:Hp}{q b:Addr}{pss:List Prs}{ps:Prs}(h:WL H q pss)(hne:pss≠[])(hb:PL H b ps):b≠q:=by
 rintro rfl;obtain⟨xs,h1,r1⟩:=h;obtain⟨ys,h2,r2⟩:=hb;rw[h1] at h2;cases h2
 cases r1 with
 | nil=>exact hne rfl
 | cons q1 _ =>
  cases r2 with
  | cons q2 _ =>
   obtain⟨d,rfl,zs,hd,_⟩:=q1;obtain⟨e,ee,he⟩:=q2;cases ee;rw[hd] at he;cases he
theorem RPL.oth{H:Hp}{q b:Addr}{o:HO}{xq:List V}{ps:Prs}(hq:H q=some (.lst xq))(hb:PL H b ps)(hne:b≠q):PL (upd H q o) b ps:=by
 obtain⟨xs,h1,r⟩:=hb
 exact⟨xs,z8 h1 hne,Paired.impl (λv d ⟨c,e,hc⟩=>⟨c,e,z8 hc (Wm hc hq (by intro z;cases z))⟩) r⟩
theorem zez{H Hs:Hp}{σ:L2.St}{b:Addr}{xs:List V}{pss:List Prs}{x z:Int}{Q:VK}{ixs:List (Option Nat)}(hσ:Ym σ ixs=[none,some (.int x),some (.int z)])
  (hb:H b=some (.lst xs)) (r:Paired (TX.RPL H) xs pss) (hn:pss.length<=100) (hl:∀ps∈pss,ps.length<=100)
  (q:∀c H1 ys,zj H H1->H1 c=none->Paired (λv ps=>∃d,v=V.ref d/\H d=none/\PL H1 d ps) ys (pss.map λps=>(x,z)::ps)->Q (.ref c) (upd H1 c (.lst ys))) :
  yZ ixs (qM K λ_ H' R=>H'=Hs->R (.ref b) H) (yX 0) zcr (tOp zib (zf0 (zS (zgW (zS (z7 1) (zS (z7 2) YL))) YL)) (z7 0)) σ Hs Q:=by
 intro _;have hxl:=r.length
 refine⟨b,rfl,⟨_,SqL.of hb⟩,λi m ys H1=>m=xs.length-i/\i<=xs.length/\zj H H1/\Paired (λv ps=>∃d,v=V.ref d/\H d=none/\PL H1 d ps) ys ((pss.take i).map λps=>(x,z)::ps),⟨_,rfl,Nat.zero_le _,zj.refl H,by rw[List.take_zero];exact .nil⟩,?_⟩
 rintro i m ys H1 ⟨rfl,hi,s1,ry⟩;have hyl:=ry.length;rw[List.length_map,List.length_take] at hyl
 by_cases hlt:i<xs.length
 ·refine .inr ⟨⟨_,xs[i],SqL.of (s1 _ _ hb),by simp[hlt]⟩,zr (by omega),λv H' y=>?_⟩
  obtain⟨eH,y⟩:=y;rw[eH];clear eH H';have hx:=y _ (SqL.of (s1 _ _ hb));obtain⟨ps,hps,d,rfl,hd⟩:=Paired.at1 r hx;obtain⟨zs,hd1,rz⟩:=Of.same mP hd s1;have hzl:=rz.length;have hpl:=hl ps (List.mem_of_getElem? hps);rw[hσ];refine⟨Kps.own,?_⟩
  refine jh ⟨_,rfl,_,rfl,(by show 2<=sizeLine;decide),λtp ht=>⟨(by show 1<=sizeLine;decide),λl hl'=>⟨_,rfl,?_⟩⟩⟩
  have s2:zj H1 (upd H1 tp (.tup [.int x,.int z])):=TX.zj.upd (zj.refl _) ht;have ht2:upd H1 tp (.tup [.int x,.int z]) tp=some (.tup [.int x,.int z]):=ze;generalize upd H1 tp (.tup [.int x,.int z])=H2 at s2 ht2 hl';have s3:zj H2 (upd H2 l (.lst [.ref tp])):=TX.zj.upd (zj.refl _) hl'
  refine⟨l,d,_,_,rfl,rfl,ze,s3 _ _ (s2 _ _ hd1),Nat.le_of_lt (zr (by show 1+_<=1000;omega)),λn hn'=>?_⟩
  generalize upd H2 l (.lst [.ref tp])=H3 at s3 hn';have s13:=s2.trans s3;have s4:zj H3 (upd H3 n (.lst ([.ref tp]++zs))):=TX.zj.upd (zj.refl _) hn';have s14:=s13.trans s4
  refine⟨xs.length-(i+1),by omega,rfl,hlt,s1.trans s14,?_⟩
  rw[List.take_add_one,hps,List.map_append];refine Paired.app (Paired.impl (λv p ⟨e,h1,h2,h3⟩=>⟨e,h1,h2,Of.same mP h3 s14⟩) ry) (.cons ⟨n,rfl,s1.free (s13.free hn'),?_⟩ .nil);exact⟨_,ze,.cons ⟨tp,rfl,s4 _ _ (s3 _ _ ht2)⟩ (Paired.impl (λv p=>mP _ _ v p s14) rz)⟩
 ·have e:i=xs.length:=by omega
  subst e
  rw[List.take_of_length_le (by omega)] at ry
  exact .inl ⟨⟨_,SqL.of (s1 _ _ hb),Nat.le_refl _⟩,λc hc=>q c _ _ s1 hc ry⟩
theorem zcT{Hs:Hp}{σ:L2.St}{pss:List Prs}{x z:Int}{Q:VK}{tl:TE}{ixs:List (Option Nat)}(hσ:Ym σ ixs=[none,some (.int x),some (.int z)])(G:Addr->Hp->Prop)(htl:∀R:VK,(∀b H,G b H->R (.ref b) H)->tl σ Hs R)
  (hG:∀b H,G b H->WL H b pss) (hn:pss.length<=100) (hl:∀ps∈pss,ps.length<=100)
  (q:∀b H,G b H->∀c H1 ys,zj H H1->H1 c=none->Paired (λv ps=>∃d,v=V.ref d/\H d=none/\PL H1 d ps) ys (pss.map λps=>(x,z)::ps)->Q (.ref c) (upd H1 c (.lst ys))) :
  yZ ixs (qM K tl) (yX 0) zcr (tOp zib (zf0 (zS (zgW (zS (z7 1) (zS (z7 2) YL))) YL)) (z7 0)) σ Hs Q :=
 htl _ λb H hg=>by
  obtain⟨xs,hb,r⟩:=hG b H hg;exact zez (K:=K) (Hs:=Hs) hσ hb r hn hl (q b H hg) rfl
theorem zbg:∀{l m:List Int},l.Nodup->(∀x∈l,x∈m)->l.length<=m.length
 | [],m,_,_=>Nat.zero_le _
 | x::l,m,h,hs=>by
  have hn:=List.nodup_cons.mp h;have hx:=hs x List.mem_cons_self
  have:=zbg (l:=l) (m:=m.erase x) hn.2 λy hy=>by
   have ne:y≠x:=λz=>hn.1 (z▸hy);exact(List.mem_erase_of_ne ne).mpr (hs y (List.mem_cons_of_mem _ hy))
  rw[List.length_erase_of_mem hx] at this;have:0<m.length:=List.length_pos_of_mem hx;rw[List.length_cons];omega
theorem WT{ls:Ls}{ps:Prs}{F:List Int}(P:Pairs ls ps)(h:∀x∈who ps,x∈F):ps.length<=F.length:=by
 have h1:(who ps).length=2 * ps.length:=by
  unfold who;clear P h
  induction ps with
  | nil=>rfl
  | cons p ps ih=>rw[List.flatMap_cons,List.length_append,ih];simp;omega
 have h2:(who ps).length<=F.length:=by
  have nd:(who ps).Nodup:=P.apart;exact zbg nd h
 omega
def Fr0(H H':Hp)(q:Addr):Prop:=∀(xs:List V) (v:V) (b:Addr),H' q=some (.lst xs)->v∈xs->v=V.ref b->H b=none
theorem Paired.memL{α β:Type}{F:α->β->Prop}:∀{l₁:List α} {l₂:List β},Paired F l₁ l₂->∀a∈l₁,∃b,F a b
 | _,_,.cons r t,a,h=>by
  rcases List.mem_cons.mp h with rfl|h
  ·exact⟨_,r⟩
  ·exact Paired.memL t a h
def wQ(C:Addr)(m:Nat):Sp:=λvs H Q _=>∃(p f:Addr) (ls:Ls) (F:List Int),vs=[.ref p,.ref f]/\zY C H p ls/\Valid ls/\H f=some (.lst (F.map V.int))/\F.length=m/\m<=6/\TN.zaI ls F/\∀q H',H q=none->zj H H'->WL H' q (TN.ways ls 6 F)->Fr0 H H' q->Q (.ref q) H'
set_option maxHeartbeats 1000000 in
theorem zcy(T:Txt K mg t)(m:Nat)(ih:∀m',m'<m->FnOk P w K mg base CX0 (2+m') t.ways_to_pair t.fd_ways_to_pair ["camp","free"] (wQ t.C m')) :
  FnOk P w K mg base CX0 (2+m) t.ways_to_pair t.fd_ways_to_pair ["camp","free"] (wQ t.C m):=by
 have S:=jm;have G_would_share:=ZO (P:=P) (w:=w) (base:=base) T
 have G_ways_to_pair:FnOk P w K mg base CX0 (1+m) t.ways_to_pair t.fd_ways_to_pair ["camp","free"] (λvs H Q E=>∃m',m'<m/\wQ t.C m' vs H Q E):=FnOk.ex λm' h=>(ih m' h).mono (by omega)
 refine(show 2+m=(1+m)+1 by omega)▸T.ways_to_pair.fn.ok S (λvs H Q E h=>?_) (λcdv A outer s H vs Q E hr h=>?_)
 ·obtain⟨p,f,ls,F,rfl,_⟩:=h;rfl
 ·obtain⟨p,f,ls,F,rfl,hC,hV,hf,hm,hm6,hF,fin⟩:=h
  refine⟨_,(zg (zO (zQ (Q6 (pv 1) (λ_=>rfl))) (zh (zy (z4 (zd (z4 zf) zf)))) zv)
   (zg (zz (i:=2) S.nd rfl (loc rfl) (zU zA (pv 1) zm (λ_ _=>rfl)))
   (zg (zz (i:=3) S.nd rfl (loc rfl) (Q7 JX (pv 1) (J8 zm) J9))
   (zg (zz (i:=4) S.nd rfl (loc rfl) (zp (k:=(1+m)) (G_ways_to_pair.mono (by omega)) hr (by rfl) T.ways_to_pair.mg T.ways_to_pair.fn.kp T.ways_to_pair.b .nil zG (zd (pv 0) (zd (pv 3) zf))))
   (zg (Zc PassesOwn.never rfl (zE (pv 3)) (zt (i:=5) S.nd rfl (loc rfl)) (zh (zO (zI (YR (k:=(1+m)) (pv 0) T.cl T.Camp_would_share.me (G_would_share.mono (by omega)) hr T.Camp_would_share.b .nil zG (zd (pv 2) (zd (pv 5) zf)))) (zg (TX.Qz ["camper","mate"] [none,some 5] S.nd (j:=6) rfl (loc rfl) rfl (zE (pv 3)) (λ_ _ _ _ _=>(zt (i:=0) (show (["camper","mate"]:List Str).Nodup by decide +kernel) rfl (loc rfl))) (λ_ _ _ _ _=>(TX.yr (zF zc7 (pv 0) (pv 1) (zJ _)))) (λ_ _ _ _ _=>(pv 0)) rfl (by decide +kernel) (by decide +kernel) (No:=["camp","free","first","others","found","mate","left"]) (sc:=zk Zm) rfl rfl (by decide +kernel) rfl (by decide +kernel))
   (zh (Zq (YI PySem.F.plainAttrs_list PySem.F.slot_list_extend PySem.F.type_list_extend jH (pv 4) (zd (TX.Zv (te:=tOp zib (zf0 (zS (zgW (zS (z7 1) (zS (z7 2) YL))) YL)) (z7 0)) ["pairs","first","mate"] [none,some 2,some 5] rfl (zE (zp (k:=(1+m)) (G_ways_to_pair.mono (by omega)) hr (by rfl) T.ways_to_pair.mg T.ways_to_pair.fn.kp T.ways_to_pair.b .nil zG (zd (pv 0) (zd (pv 6) zf)))) (λ_ _ _ _ _=>(zt (i:=0) (show (["pairs","first","mate"]:List Str).Nodup by decide +kernel) rfl (loc rfl))) (λ_ _ _ _ _=>TX.yd) (λ_ _ _ _ _=>(zR Jx (z4 (zd (Qe (zd (pv 1) (zd (pv 2) zf))) zf)) (pv 0))) rfl (by decide +kernel) (by decide +kernel) (No:=["camp","free","first","others","found","mate","left"]) (sc:=zk Zm) rfl rfl (by decide +kernel) rfl (by decide +kernel)) zf))))) zv)))
   (zh (zy (pv 4)))))))),?_⟩
  refine⟨_,rfl,_,.inl ⟨_,SqL.of hf,rfl⟩,?_⟩
  cases hq:F with
  | nil =>
   subst hq
   refine⟨Nat.zero_le _,λe he=>⟨(by show 1<=sizeLine;decide),λq hq=>?_⟩⟩
   have s1:zj H (upd H e (.lst [])):=TX.zj.upd (zj.refl H) he
   exact fin q _ (s1.free hq) (TX.zj.upd s1 (s1.free hq)) ⟨_,ze,.cons ⟨e,rfl,[],Zk ze hq,.nil⟩ .nil⟩ λxs v b h hv eb=>by
    rw[ze] at h;cases h;rw[List.mem_singleton.mp hv] at eb;cases eb;exact he
  | cons x r =>
   obtain⟨_,e2⟩:=zbo hq
   have hl2:m=r.length+1:=by rw[<-hm,hq];rfl
   have hFx:TN.zaI ls (x::r):=hq▸hF;have hnd:=List.nodup_cons.mp hFx.1;have hFr:TN.zaI ls r:=⟨hnd.2,λy hy=>hFx.2 y (List.mem_cons_of_mem _ hy)⟩
   have hf':H f=some (.lst ((x::r).map V.int)):=by rw[<-hq];exact hf
   have ew:TN.ways ls 6 F=TN.ways ls 6 r++r.flatMap λz=>if zH ls x z=true then (TN.ways ls 6 (r.filter λc=>decide (c≠z))).map λps=>(x,z)::ps else []:=by
    rw[hq];show TN.ways ls 5 r++_=_
    rw[TN.qT ls 5 6 r (by omega) (by omega)]
    congr 1;apply congrArg (List.flatMap · r);funext z;have hl:(r.filter λc=>decide (c≠z)).length<=r.length:=List.length_filter_le _ _
    rw[TN.qT ls 5 6 _ (by omega) (by omega)]
   refine yp ?_
   refine⟨_,rfl,f,_,0,.int x,rfl,rfl,SqL.of hf',qu (by decide) rfl,?_⟩
   refine⟨_,rfl,1,rfl,f,_,rfl,SqL.of hf,λo ho=>?_⟩;rw[e2];have s1:zj H (upd H o (.lst (r.map V.int))):=TX.zj.upd (zj.refl H) ho;have ho1:upd H o (.lst (r.map V.int)) o=some (.lst (r.map V.int)):=ze;generalize upd H o (.lst (r.map V.int))=H1 at s1 ho1
   refine⟨_,rfl,_,rfl,r.length,by omega,p,o,ls,r,rfl,hC.same s1,hV,ho1,rfl,by omega,hFr,λq H2 hqn s2 hW hR0=>?_⟩
   have noq:o≠q:=zx ho1 hqn;have hqH:H q=none:=s1.free hqn;have s02:=s1.trans s2
   refine⟨_,rfl,o,rfl,⟨_,SqL.of (s2 _ _ ho1)⟩,Zj (K:=K) (a:=o) (xs:=r.map V.int) (λi σ H3=>∃v5 v6,σ=[some (.ref p),some (.ref f),some (.int x),some (.ref o),some (.ref q),v5,v6]/\zj H H3/\H3 o=some (.lst (r.map V.int)) /\
    WL H3 q (TN.ways ls 6 r++(r.take i).flatMap λz=>if zH ls x z=true then (TN.ways ls 6 (r.filter λc=>decide (c≠z))).map λps=>(x,z)::ps else [])/\Fr0 H H3 q)
    ⟨_,_,rfl,s02,s2 _ _ ho1,by rw[List.take_zero];simpa using hW,λxs v b h hv eb=>s1.free (hR0 xs v b h hv eb)⟩ (λi σ H3 _ ⟨_,_,_,_,h,_⟩=>SqL.of h) ?_ ?_⟩
   ·rintro i y σ H3 hi ⟨v5,v6,rfl,s3,ho3,hW3,hR3⟩
    obtain⟨z,hz,rfl⟩:=Qn hi;have hzm:=List.mem_of_getElem? hz
    have et:r.take (i+1)=r.take i++[z]:=by rw[List.take_add_one,hz];rfl
    rw[et,List.flatMap_append,List.flatMap_singleton,<-List.append_assoc];have hC3:=hC.same s3;obtain⟨dx,la,hp,_⟩:=id hC3
    refine⟨_,rfl,p,dx,_,rfl,hp,qQ _ _ (by decide +kernel) (by decide +kernel),_,rfl,_,rfl,p,ls,x,z,rfl,hC3,hFx.2 x List.mem_cons_self,hFr.2 z hzm,_,rfl,?_⟩
    cases hw:zH ls x z with
    | false =>
     refine yp ⟨_,_,rfl,s3,ho3,?_,hR3⟩
     rw[if_neg (by decide),List.append_nil]
     exact hW3
    | true =>
     refine Qt ?_;rw[if_pos rfl];dsimp only;refine Yl ?_;refine Yk ?_
     refine zfK (K:=K) (l:=r) (c:=z) (by omega) rfl ho3 (λR g=>by exact⟨_,rfl,g⟩) λl hl=>?_
     have hlt:=TN.Y3 hzm;have hFG:TN.zaI ls (r.filter λc=>decide (c≠z)):=⟨hFr.1.sublist List.filter_sublist,λy hy=>hFr.2 y (List.mem_filter.mp hy).1⟩;generalize r.filter (λc=>decide (c≠z))=G at hlt hFG;have s4:zj H3 (upd H3 l (.lst (G.map V.int))):=TX.zj.upd (zj.refl _) hl;have hl4:upd H3 l (.lst (G.map V.int)) l=some (.lst (G.map V.int)):=ze;generalize upd H3 l (.lst (G.map V.int))=H4 at s4 hl4;have hW4:=Of.same wo hW3 s4;obtain⟨xq,hq4,rq⟩:=id hW4
     have hR4:∀v b,v∈xq->v=V.ref b->H b=none:=λv b hv eb=>by
      obtain⟨x3,hq3,_⟩:=id hW3;have e:=s4 _ _ hq3;rw[hq4] at e;cases e;exact hR3 _ v b hq3 hv eb
     refine⟨_,rfl,.inl ⟨rfl,_,SqL.of hq4⟩,?_⟩;refine ZT ?_;have hb1:=TN.Yi ls 6 G
     have hb2:=TN.wb6 (n:=G.length) (by omega)
     have hb3:=TN.zW hV 6 G hFG
     have key:∀(wq:Addr) (H5:Hp),zj H4 H5->WL H5 wq (TN.ways ls 6 G)->∀(c:Addr) (H6:Hp) (ys:List V),zj H5 H6->H6 c=none->Paired (λv ps=>∃d,v=V.ref d/\H5 d=none/\PL H6 d ps) ys ((TN.ways ls 6 G).map λps=>(x,z)::ps) ->
       zj H (upd (upd H6 c (.lst ys)) q (.lst (xq++ys)))/\upd (upd H6 c (.lst ys)) q (.lst (xq++ys)) o=some (.lst (r.map V.int))/\upd H6 c (.lst ys) q=some (.lst xq)/\ys.length=(TN.ways ls 6 G).length /\
       WL (upd (upd H6 c (.lst ys)) q (.lst (xq++ys))) q ((TN.ways ls 6 r++(r.take i).flatMap λz=>if zH ls x z=true then (TN.ways ls 6 (r.filter λc=>decide (c≠z))).map λps=>(x,z)::ps else [])++(TN.ways ls 6 G).map λps=>(x,z)::ps)/\Fr0 H (upd (upd H6 c (.lst ys)) q (.lst (xq++ys))) q:=by
      intro wq H5 s5 hW5 c H6 ys s6 hc ry;have s46:=s5.trans s6;have s7:zj H6 (upd H6 c (.lst ys)):=TX.zj.upd (zj.refl _) hc;have s47:=s46.trans s7;have hq7:=s47 _ _ hq4;have hyl:=ry.length;rw[List.length_map] at hyl
      have k6:Fr0 H (upd (upd H6 c (.lst ys)) q (.lst (xq++ys))) q:=λxs v b h hv eb=>by
       rw[ze] at h;cases h
       rcases List.mem_append.mp hv with hv|hv
       ·exact hR4 v b hv eb
       ·obtain⟨_,d,e,hd,_⟩:=Paired.memL ry v hv
        rw[e] at eb;cases eb;exact(s3.trans (s4.trans s5)).free hd
      refine⟨TX.zj.upd (s3.trans (s4.trans s47)) hqH,z8 (s47 _ _ (s4 _ _ ho3)) noq,hq7,hyl,⟨_,ze,Paired.app (Paired.impl (λv ps ⟨b,e,hb⟩=>⟨b,e,?_⟩) (Paired.impl (λv ps=>wo _ _ v ps s47) rq)) (Paired.impl (λv ps ⟨d,e,hd,hP⟩=>⟨d,e,?_⟩) ry)⟩,k6⟩
      ·refine RPL.oth hq7 hb (WL.apart (Of.same wo hW4 s47) ?_ hb)
       intro z0
       exact zck ls 6 r (by omega) (List.append_eq_nil_iff.mp z0).1
      ·refine RPL.oth hq7 (Of.same mP hP s7) (λe0=>?_)
       rw[e0,s5 _ _ hq4] at hd;cases hd
     refine zcT (K:=K) (pss:=TN.ways ls 6 G) (x:=x) (z:=z) rfl (λwq H5=>zj H4 H5/\WL H5 wq (TN.ways ls 6 G)) (λR hR=>⟨_,rfl,_,rfl,G.length,by omega,p,l,ls,G,rfl,hC.same (s3.trans s4),hV,hl4,rfl,by omega,hFG,λwq H5 _ s5 hW5 _=>hR wq H5 ⟨s5,hW5⟩⟩)
      (λ_ _ h=>h.2) (by omega) (λps hps=>by have:=WT (hb3 ps hps).1 (hb3 ps hps).2;omega) ?_
     rintro wq H5 ⟨s5,hW5⟩ c H6 ys s6 hc ry;obtain⟨k1,k2,k3,k4,k5,k6⟩:=key wq H5 s5 hW5 c H6 ys s6 hc ry;have hxql:=rq.length;have hb4:=TN.Yi ls 6 r
     have hb5:=TN.wb6 (n:=r.length) (by omega)
     have hb6:((r.take i).flatMap λz=>if zH ls x z=true then (TN.ways ls 6 (r.filter λc=>decide (c≠z))).map λps=>(x,z)::ps else []).length<=(r.take i).length * 76:=by
      refine TN.Yz _ λz' _=>?_;split
      ·rw[List.length_map]
       have h1:=TN.Yi ls 6 (r.filter λc=>decide (c≠z'));have h2:=List.length_filter_le (λc=>decide (c≠z')) r
       exact Nat.le_trans h1 (TN.wb6 (by omega))
      ·exact Nat.zero_le _
     rw[List.length_append] at hxql
     have hb7:(r.take i).length<=6:=by rw[List.length_take];omega
     exact⟨q,c,_,_,rfl,rfl,k3,ze,Nat.le_of_lt (zr (by omega)),_,_,rfl,k1,k2,k5,k6⟩
   ·rintro σ H3 ⟨v5,v6,rfl,s3,ho3,hW3,hR3⟩
    rw[List.length_map,List.take_length,<-ew] at hW3;exact⟨_,rfl,fin q H3 hqH s3 hW3 hR3⟩
theorem zgp(T:Txt K mg t):∀m,FnOk P w K mg base CX0 (2+m) t.ways_to_pair t.fd_ways_to_pair ["camp","free"] (wQ t.C m):=by
 intro m
 induction m using Nat.strongRecOn with
 | ind m ih=>exact zcy T m ih
end
end Tp
namespace Tp
open PySem PySem.Spec PyProof.Rows L2 TX TM TK
seal PySem.Sem.wp
section
variable {P:Program}{w:World}{K:PySem.W.Frag}{mg:Str->Option Value}{base:Heap}{t:Adr}
def WZ(C:Addr):Sp:=λvs H Q _=>∃(p q:Addr) (ls:Ls) (a b:Int),vs=[.ref p,.ref q]/\zY C H p ls/\H q=some (.tup [.int a,.int b])/\(0<=a/\a<ls.length)/\(0<=b/\b<ls.length)/\zH ls a b=true/\Q .non H
theorem wm(T:Txt K mg t):FnOk P w K mg base CX0 2 t.check_pair t.fd_check_pair ["camp","pair"] (WZ t.C):=by
 have S:=J3;have G_is_camper:=yR (P:=P) (w:=w) (base:=base) T;have G_would_share:=ZO (P:=P) (w:=w) (base:=base) T;refine T.check_pair.fn.ok S (λvs H Q E h=>?_) (λcdv A outer s H vs Q E hr h=>?_)
 ·obtain⟨p,q,ls,a,b,rfl,_⟩:=h;rfl
 ·obtain⟨p,q,ls,a,b,rfl,hC,hq,ha,hb,hw,fin⟩:=h
  obtain⟨dx,la,hp,hL⟩:=id hC
  refine⟨_,(zg (zO (Qd (zQ (zI (zn TX.zZ (by rfl) T.b_isinstance TK.zw (zd (pv 1) (zd (ye (v:=.ty "tuple") (by rfl) T.b_tuple TK.JL (by rfl)) zf))))) (YE (zF zc7 (zn zu (by rfl) T.b_len TK.zD (zd (pv 1) zf)) zm (zJ _)))).pt (zh ZI) zv)
   (zg (Zc PassesOwn.never rfl (zhy (pv 1)) (zt (i:=2) S.nd rfl (loc rfl)) (zh (zO (zQ (zI (zp (k:=1) G_is_camper hr (by rfl) T.is_camper.mg T.is_camper.fn.kp T.is_camper.b .nil zG (zd (pv 2) (zd (Yb (pv 0) rfl) zf))))) (zh ZI) zv)))
   (zh (zO (zQ (zI (YR (k:=1) (pv 0) T.cl T.Camp_would_share.me G_would_share hr T.Camp_would_share.b .nil zG (zd (zU Ye (pv 1) zm (λ_ _=>rfl)) (zd (zU Ye (pv 1) zm (λ_ _=>rfl)) zf))))) (zh ZI) zv)))),?_⟩
  refine⟨_,rfl,_,_,_,_,_,rfl,Z9,.tup hq,Y0,_,rfl,yp ?_⟩
  refine⟨_,rfl,q,_,rfl,.inr (SqT.of hq),rfl,_,rfl,Yw (by simp) ?_⟩
  refine⟨_,rfl,q,rfl,⟨_,SqT.of hq⟩,zgK (K:=K) (a:=q) (xs:=[.int a,.int b]) (λi σ H2=>∃v,σ=[some (.ref p),some (.ref q),v]/\H2=H) ⟨none,rfl,rfl⟩ (λi σ H2 _ ⟨_,_,e⟩=>by subst e;exact SqT.of hq) ?_ ?_⟩
  ·rintro i x σ H2 hi ⟨v,rfl,rfl⟩
   have hx:∃z:Int,x=.int z/\0<=z/\z<ls.length:=by
    match i with
    | 0=>cases hi;exact⟨a,rfl,ha⟩
    | 1=>cases hi;exact⟨b,rfl,hb⟩
    | i+2=>simp at hi
   obtain⟨z,rfl,z1,z2⟩:=hx
   refine⟨_,rfl,_,rfl,p,t.C,dx,_,_,rfl,hp,T.cl,T.n_size,Z7 _ _,z,_,rfl,_,rfl,QQ (by rw[Bool.and_eq_true];exact⟨decide_eq_true z1,decide_eq_true z2⟩) ?_⟩
   exact⟨_,rfl,rfl⟩
  ·rintro σ H2 ⟨v,rfl,rfl⟩
   refine⟨_,rfl,p,dx,_,rfl,hp,qQ _ _ (by decide +kernel) (by decide +kernel),_,rfl,q,_,0,_,rfl,rfl,SqT.of hq,rfl,_,rfl,q,_,1,_,rfl,rfl,SqT.of hq,rfl,p,ls,a,b,rfl,hC,ha,hb,_,rfl,QQ hw ?_⟩
   exact fin
def zbB(C:Addr):Sp:=λvs H Q _=>∃(p a:Addr) (ls:Ls) (ps:Prs),vs=[.ref p,.ref a]/\zY C H p ls/\PL H a ps/\Pairs ls ps/\ps.length<=100 /\
 ∀d kvs H',H d=none->zj H H'->H' d=some (.dK kvs)->(∀i:Int,YD kvs (Sum.inl i)=(mate ps i).map V.int)->Q (.ref d) H'
theorem qJ(T:Txt K mg t):FnOk P w K mg base CX0 3 t.partners t.fd_partners ["camp","pairs"] (zbB t.C):=by
 have S:=W2;have G_check_pair:=wm (P:=P) (w:=w) (base:=base) T;refine T.partners.fn.ok S (λvs H Q E h=>?_) (λcdv A outer s H vs Q E hr h=>?_)
 ·obtain⟨p,a,ls,ps,rfl,_⟩:=h;rfl
 ·obtain⟨p,a,ls,ps,rfl,hC,hP,pr,hlen,fin⟩:=h
  have hu:=zaw hr;obtain⟨xs,ha,r⟩:=id hP;have hxl:=r.length
  refine⟨_,(zg (zO (zQ (zI (zn TX.zZ (by rfl) T.b_isinstance TK.zw (zd (pv 1) (zd (ye (v:=.ty "list") (by rfl) T.b_list TK.zV (by rfl)) zf))))) (zh ZI) zv)
   (zg (zz (i:=2) S.nd rfl (loc rfl) Q9)
   (zg (Zc PassesOwn.never rfl (zE (pv 1)) (zt (i:=3) S.nd rfl (loc rfl)) (zg (Zq (zp (k:=2) G_check_pair hr (by rfl) T.check_pair.mg T.check_pair.fn.kp T.check_pair.b .nil zG (zd (pv 0) (zd (pv 3) zf))))
   (zg (zO (Qd (QK (za6 hu (zU Ye (pv 3) zm (λ_ _=>rfl)) (pv 2))) (YE (QK (za6 hu (zU Ye (pv 3) zm (λ_ _=>rfl)) (pv 2))))).pt (zh ZI) zv)
   (zg (jw hu (pv 2) (zU Ye (pv 3) zm (λ_ _=>rfl)) (zU Ye (pv 3) zm (λ_ _=>rfl)) rfl)
   (zh (jw hu (pv 2) (zU Ye (pv 3) zm (λ_ _=>rfl)) (zU Ye (pv 3) zm (λ_ _=>rfl)) rfl))))))
   (zh (zy (pv 2)))))),?_⟩
  refine⟨_,rfl,_,_,_,_,_,rfl,Z9,.lst ha,ZJ,_,rfl,yp ?_⟩;intro d hd;have s1:zj H (upd H d (.dK [])):=TX.zj.upd (zj.refl H) hd
  refine⟨_,rfl,a,rfl,⟨_,SqL.of (s1 _ _ ha)⟩,Zj (K:=K) (a:=a) (xs:=xs) (λi σ H2=>∃(kvs:List (Key×V)) (v:Option V),σ=[some (.ref p),some (.ref a),some (.ref d),v]/\zj H H2 /\
   H2 d=some (.dK kvs)/\kvs.length<=2 * i/\∀x:Int,YD kvs (Sum.inl x)=(mate (ps.take i) x).map V.int)
   ⟨_,none,rfl,s1,ze,Nat.zero_le _,λx=>by rw[List.take_zero];rfl⟩ (λi σ H2 _ ⟨_,_,_,s2,_⟩=>SqL.of (s2 _ _ ha)) ?_ ?_⟩
  ·rintro i y σ H2 hi ⟨kvs,v,rfl,s2,hd2,hl,hk⟩
   obtain⟨⟨za,zb⟩,hz,b,rfl,hb⟩:=Paired.at1 r hi;obtain⟨_,et,m1,m2,e1,e2,e3,e4,e5,e6⟩:=pr.at hz;have hb2:H2 b=some (.tup [.int za,.int zb]):=s2 _ _ hb;have hil:i<xs.length:=(List.getElem?_eq_some_iff.mp hi).1;refine⟨_,rfl,_,rfl,p,b,ls,za,zb,rfl,hC.same s2,hb2,⟨e1,e2⟩,⟨e3,e4⟩,e6,?_⟩
   refine⟨_,rfl,b,_,0,_,rfl,rfl,SqT.of hb2,rfl,_,rfl,d,_,rfl,wJ.k (k:=Sum.inl za) hd2,_,rfl,Yw (by rw[hk,m1];rfl) ?_⟩
   refine⟨_,rfl,b,_,1,_,rfl,rfl,SqT.of hb2,rfl,_,rfl,d,_,rfl,wJ.k (k:=Sum.inl zb) hd2,_,rfl,Yw (by rw[hk,m2];rfl) ?_⟩
   refine⟨_,rfl,b,_,1,_,rfl,rfl,SqT.of hb2,rfl,_,rfl,_,rfl,b,_,0,_,rfl,rfl,SqT.of hb2,rfl,d,_,rfl,zch.k (k:=Sum.inl za) hd2 (zr (by omega)),?_⟩
   have nbd:b≠d:=Wm hb2 hd2 (by intro z;cases z)
   have hb3:∀o,upd H2 d o b=some (.tup [.int za,.int zb]):=λo=>z8 hb2 nbd;have l1:=ZH kvs (Sum.inl za:Key) (V.int zb)
   refine⟨_,rfl,b,_,0,_,rfl,rfl,SqT.of (hb3 _),rfl,_,rfl,_,rfl,b,_,1,_,rfl,rfl,SqT.of (hb3 _),rfl,d,_,rfl,zch.k (k:=Sum.inl zb) ze (zr (by omega)),?_⟩
   have l2:=ZH (Jd kvs (Sum.inl za:Key) (V.int zb)) (Sum.inl zb:Key) (V.int za)
   refine⟨_,_,rfl,TX.zj.upd (TX.zj.upd s2 hd) hd,ze,by omega,λx=>?_⟩
   rw[Y7,Y7,et,yL]
   by_cases h1:x=zb
   ·rw[if_pos (by rw[h1]),if_pos h1];rfl
   ·rw[if_neg (λz=>h1 (by injection z)),if_neg h1]
    by_cases h2:x=za
    ·rw[if_pos (by rw[h2]),if_pos h2];rfl
    ·rw[if_neg (λz=>h2 (by injection z)),if_neg h2];exact hk x
  ·rintro σ H2 ⟨kvs,v,rfl,s2,hd2,hl,hk⟩
   refine⟨_,rfl,?_⟩;rw[hxl,List.take_length] at hk;exact fin d kvs H2 hd s2 hd2 hk
end
section
variable {P:Program}{w:World}{K:PySem.W.Frag}{mg:Str->Option Value}{base:Heap}{t:Adr}
def Qv(C:Addr):Sp:=λvs H Q _=>∃(p a:Addr) (ls:Ls) (ps:Prs),vs=[.ref p,.ref a]/\zY C H p ls/\Valid ls/\PL H a ps/\Pairs ls ps/\ps.length<=100 /\
 ∀q H',H q=none->zj H H'->PL H' q (breaking ls ps)->Q (.ref q) H'
theorem zal(T:Txt K mg t):FnOk P w K mg base CX0 4 t.breaking t.fd_breaking ["camp","pairs"] (Qv t.C):=by
 have S:=W7;have G_partners:=qJ (P:=P) (w:=w) (base:=base) T;have G_breakers:=jE (P:=P) (w:=w) (base:=base) T;refine T.breaking.fn.ok S (λvs H Q E h=>?_) (λcdv A outer s H vs Q E hr h=>?_)
 ·obtain⟨p,a,ls,ps,rfl,_⟩:=h;rfl
 ·obtain⟨p,a,ls,ps,rfl,hC,hV,hP,pr,hlen,fin⟩:=h
  refine⟨_,(zh (zy (zp (k:=3) G_breakers hr (by rfl) T.breakers.mg T.breakers.fn.kp T.breakers.b .nil zG (zd (pv 0) (zd (zp (k:=3) G_partners hr (by rfl) T.partners.mg T.partners.fn.kp T.partners.b .nil zG (zd (pv 0) (zd (pv 1) zf))) zf))))),?_⟩
  refine⟨_,rfl,_,rfl,_,rfl,p,a,ls,ps,rfl,hC,hP,pr,hlen,λd kvs H1 hd s1 hd1 hk=>?_⟩
  refine⟨p,d,ls,mate ps,rfl,hC.same s1,hV,zbZ pr,⟨kvs,hd1,λi=>by rw[hk];exact zeK _⟩,λq H2 hq s2 hF=>?_⟩
  exact fin q H2 (s1.free hq) (s1.trans s2) hF
end
section
variable {P:Program}{w:World}{K:PySem.W.Frag}{mg:Str->Option Value}{base:Heap}{t:Adr}
def stP(ls:Ls)(ps:Prs):Bool:=decide (breaking ls ps=[])
theorem zel(ls:Ls):TN.zo ls=(TN.ways ls 6 (rng ls.length)).filter (stP ls):=rfl
theorem ziR{H:Hp}{σ:L2.St}{p b:Addr}{ls:Ls}{pss:List Prs}{Q:VK}{tl:TE}(hC:zY t.C H p ls)(hV:Valid ls)(hW:WL H b pss)(hn:pss.length<=100)(hps:∀ps∈pss,Pairs ls ps/\ps.length<=100)(hσ:Ym σ [none,some 0]=[none,some (.ref p)])(htl:∀R:VK,R (.ref b) H->tl σ H R)
  (q:∀c H1 ys,zj H H1->H1 c=none->Paired (TX.RPL H1) ys (pss.filter (stP ls))->(∀xs,H b=some (.lst xs)->∀v∈ys,v∈xs)->Q (.ref c) (upd H1 c (.lst ys))) :
  yZ [none,some 0] (qM K tl) (yX 0) (Yj (tOp (TX.ziD K) (Qu (Qv t.C) [] E0 (zS (z7 1) (zS (z7 0) YL))) (zf0 YL))) (z7 0) σ H Q:=by
 obtain⟨xs,hb,r⟩:=hW;have hxl:=r.length
 refine htl _ ⟨b,rfl,⟨_,SqL.of hb⟩,λi m ys H1=>m=xs.length-i/\i<=xs.length/\zj H H1/\Paired (TX.RPL H1) ys ((pss.take i).filter (stP ls))/\∀v∈ys,v∈xs,⟨_,rfl,Nat.zero_le _,zj.refl H,by rw[List.take_zero];exact .nil,λv hv=>nomatch hv⟩,?_⟩
 rintro i m ys H1 ⟨rfl,hi,s1,ry,hsub⟩;have hyl:ys.length<=(pss.take i).length:=Nat.le_trans (Nat.le_of_eq ry.length) (List.length_filter_le _ _);rw[List.length_take] at hyl
 by_cases hlt:i<xs.length
 ·refine .inr ⟨⟨_,xs[i],SqL.of (s1 _ _ hb),by simp[hlt]⟩,zr (by omega),λv H' y=>?_⟩
  obtain⟨eH,y⟩:=y;rw[eH];clear eH H';have hx:=y _ (SqL.of (s1 _ _ hb));obtain⟨ps,hpi,d,rfl,hd⟩:=Paired.at1 r hx;obtain⟨pr,hpl⟩:=hps ps (List.mem_of_getElem? hpi);have hd1:=Of.same mP hd s1;rw[hσ];refine⟨Kps.own,?_⟩;refine zaN (zfn (JT ⟨_,rfl,_,rfl,p,d,ls,ps,rfl,hC.same s1,hV,hd1,pr,hpl,λf H2 hf s2 hB=>⟨Nat.zero_le _,λe he=>?_⟩⟩));have s3:=TX.zj.upd (o:=.lst []) (zj.refl H2) he;have hB3:=Of.same mP hB s3;have he3:upd H2 e (.lst []) e=some (.lst []):=ze;generalize upd H2 e (.lst [])=H3 at s3 hB3 he3;have s13:=s2.trans s3
  have et:pss.take (i+1)=pss.take i++[ps]:=by rw[List.take_add_one,hpi];rfl
  refine⟨_,_,PL.dd hB3,qt he3,zbb _,Ys,λz=>⟨_,rfl,Qt ?_⟩,λz=>⟨_,rfl,yp ?_⟩⟩
  ·refine⟨_,rfl,xs.length-(i+1),by omega,rfl,hlt,s1.trans s13,?_,λv hv=>(List.mem_append.mp hv).elim (hsub v) λh=>by rw[List.mem_singleton.mp h];exact List.mem_of_getElem? hx⟩
   rw[et,List.filter_append,List.filter_cons_of_pos (show stP ls ps=true from decide_eq_true (Y4.mp z))]
   exact Paired.app (Paired.impl (λv p=>wo _ _ v p s13) ry) (.cons ⟨d,rfl,Of.same mP hd1 s13⟩ .nil)
  ·refine⟨xs.length-(i+1),by omega,rfl,hlt,s1.trans s13,?_,hsub⟩
   rw[et,List.filter_append,List.filter_cons_of_neg (show ¬stP ls ps=true from λy=>z (Y4.mpr (of_decide_eq_true y))),List.filter_nil,List.append_nil]
   exact Paired.impl (λv p=>wo _ _ v p s13) ry
 ·have e:i=xs.length:=by omega
  subst e
  rw[List.take_of_length_le (by omega)] at ry
  exact .inl ⟨⟨_,SqL.of (s1 _ _ hb),Nat.le_refl _⟩,λc hc=>q c _ _ s1 hc ry λxs' e=>by rw[hb] at e;cases e;exact hsub⟩
def W0(C:Addr):Sp:=λvs H Q _=>∃(p:Addr) (ls:Ls),vs=[.ref p]/\zY C H p ls/\Valid ls/\∀q pss H',H q=none->zj H H'->pss.Perm (TN.zo ls)->pss.Pairwise (λa b=>TX.pLt a b=true)->WL H' q pss->Fr0 H H' q->Q (.ref q) H'
theorem Yt(T:Txt K mg t):FnOk P w K mg base CX0 9 t.all_steady t.fd_all_steady ["camp"] (W0 t.C):=by
 have S:=J4;have G_breaking:=zal (P:=P) (w:=w) (base:=base) T
 have G_ways_to_pair:FnOk P w K mg base CX0 8 t.ways_to_pair t.fd_ways_to_pair ["camp","free"] (λvs H Q E=>∃m,m<=6/\wQ t.C m vs H Q E):=FnOk.ex λm h=>(zgp (P:=P) (w:=w) (base:=base) T m).mono (by omega)
 refine T.all_steady.fn.ok S (λvs H Q E h=>?_) (λcdv A outer s H vs Q E hr h=>?_)
 ·obtain⟨p,ls,rfl,_⟩:=h;rfl
 ·obtain⟨p,ls,rfl,hC,hV,fin⟩:=h
  have hu64:=hr.units;have hl6:=hV.le;obtain⟨dx,la,hp,_⟩:=id hC
  refine⟨_,(zg (zz (i:=1) S.nd rfl (loc rfl) (zp (k:=8) (G_ways_to_pair.mono (by decide)) hr (by rfl) T.ways_to_pair.mg T.ways_to_pair.fn.kp T.ways_to_pair.b .nil zG (zd (pv 0) (zd (ZG (TX.ZC rfl) (by rfl) T.b_list TK.zV (zd (TX.yJ (by rfl) T.b_range (zd (Yb (pv 0) rfl) zf)) zf)) zf))))
   (zh (zy (zn (TX.QR hu64) (by rfl) T.b_sorted TK.YB (zd (TX.Zv (tc:=Yj (tOp (TX.ziD K) (Qu (Qv t.C) [] E0 (zS (z7 1) (zS (z7 0) YL))) (zf0 YL))) ["pairs","camp"] [none,some 0] rfl (zE (pv 1)) (λ_ _ _ _ _=>(zt (i:=0) (show (["pairs","camp"]:List Str).Nodup by decide +kernel) rfl (loc rfl))) (λ_ _ _ _ _=>(TX.yr (zF (TX.jB hu64) (zp (k:=8) (G_breaking.mono (by decide)) hr (by rfl) T.breaking.mg T.breaking.fn.kp T.breaking.b .nil zG (zd (pv 1) (zd (pv 0) zf))) (z4 zf) (zJ _)))) (λ_ _ _ _ _=>(pv 0)) rfl (by decide +kernel) (by decide +kernel) (No:=["camp","ways"]) (sc:=zk ZX) rfl rfl (by decide +kernel) rfl (by decide +kernel)) zf))))),?_⟩
  refine⟨_,rfl,_,rfl,p,t.C,dx,_,_,rfl,hp,T.cl,T.n_size,Z7 _ _,_,rfl,λrq hrq=>?_⟩
  refine⟨rq,0,_,rfl,ze,⟨by omega,by omega,by omega,by omega⟩,by omega,λf hf=>?_⟩
  rw[qE];have s2:zj H (upd H rq (.rng 0 (ls.length:Int))):=TX.zj.upd (zj.refl _) hrq;have s3:=TX.zj.upd (o:=.lst ((rng ls.length).map V.int)) s2 (s2.free hf);refine⟨ls.length,hl6,p,f,ls,rng ls.length,rfl,hC.same s3,hV,ze,zM _,hl6,TN.ZK ls,λwq H4 _ s4 hW hR4=>?_⟩;have s04:=s3.trans s4;have hwl:=TN.Yi ls 6 (rng ls.length)
  have hwb:=TN.wb6 (n:=(rng ls.length).length) (by rw[zM];exact hl6)
  have hpr:=TN.zW hV 6 _ (TN.ZK ls);dsimp only;refine qz (qX (ZT ?_))
  refine ziR (K:=K) (t:=t) (b:=wq) (hC.same s04) hV hW (by omega) (λps h=>⟨(hpr ps h).1,?_⟩) rfl (λR z=>by exact⟨_,rfl,z⟩) λc H5 ys s5 hc ry hsub=>?_
  ·have:=WT (hpr ps h).1 (hpr ps h).2
   rw[zM] at this;omega
  ·have s6:=TX.zj.upd (o:=.lst ys) (zj.refl H5) hc
   have ry6:=Paired.impl (λv p=>wo _ _ v p s6) ry;have hc6:upd H5 c (.lst ys) c=some (.lst ys):=ze;generalize upd H5 c (.lst ys)=H6 at s6 ry6 hc6;have s06:=s04.trans (s5.trans s6)
   refine⟨c,ys,_,rfl,hc6,ry6,TN.YM hV,Nat.lt_of_le_of_lt (TN.y1 hV) (by decide),λl vs' pss' hl hpm hsp rp hsub2=>?_⟩
   have s7:=TX.zj.upd (o:=.lst vs') (zj.refl H6) hl;refine fin l pss' _ (s06.free hl) (s06.trans s7) hpm hsp ⟨vs',ze,Paired.impl (λv p=>wo _ _ v p s7) rp⟩ λxs v b h hv eb=>?_;rw[ze] at h;cases h;obtain⟨xw,hw,_⟩:=id hW;exact s3.free (hR4 xw v b hw (hsub xw hw v (hsub2 v hv)) eb)
end
end Tp
namespace Tp
open PySem PySem.Spec PyProof.Rows L2 TX TM TK
seal PySem.Sem.wp
section
variable {P:Program}{w:World}{K:PySem.W.Frag}{mg:Str->Option Value}{base:Heap}{t:Adr}
theorem zcP(n:Nat):rng (n+1)=rng n++[(n:Int)]:=by
 unfold rng;rw[List.range_succ,List.map_append];rfl
theorem zgk{H:Hp}{σ rest:L2.St}{ta:TA}{tc:TT}{ixs:List (Option Nat)}{n:Nat}{f:Int->Bool}{Q:VK}(hn:n<=100)(hσ:Ym σ ixs=none::rest)(hta:∀R:List V->Hp->Prop,R [.int n] H->ta σ H R)
  (ht:∀(i:Nat) (H1:Hp) (R:Bool->Hp->Prop),i<n->zj H H1->(∀H2,zj H1 H2->R (f i) H2)->tc (some (.int i)::rest) H1 R)
  (q:∀p H',zj H H'->H' p=none->Q (.ref p) (upd H' p (.lst (((rng n).filter f).map V.int)))):yZ ixs (ze7 ta) (yX 0) tc (z7 0) σ H Q:=by
 refine hta _ ⟨(n:Int),rfl,by omega,by omega,λi m ys H1=>m=n-i/\i<=n/\ys=((rng i).filter f).map V.int/\zj H H1,⟨_,rfl,Nat.zero_le _,rfl,zj.refl H⟩,?_⟩
 rintro i m ys H1 ⟨rfl,hi,rfl,s1⟩
 by_cases hlt:i<n
 ·refine .inr ⟨hlt,zr ?_,λx H' y=>?_⟩
  ·rw[List.length_map]
   refine Nat.le_trans (List.length_filter_le _ _) ?_;rw[zM];omega
  ·obtain⟨rfl,rfl⟩:=y
   rw[hσ,show (0:Int)+(i:Int)=(i:Int) by omega]
   refine⟨Kps.own,ht i _ _ hlt s1 λH2 s2=>?_⟩
   have e:((rng (i+1)).filter f).map V.int=((rng i).filter f).map V.int++(if f (i:Int)=true then [V.int (i:Int)] else []):=by
    rw[zcP,List.filter_append,List.map_append,List.filter_cons,List.filter_nil]
    split <;> rfl
   refine qm (λh=>?_) (λh=>?_)
   ·refine⟨_,rfl,n-(i+1),by omega,rfl,hlt,?_,s1.trans s2⟩
    rw[e,if_pos h]
   ·refine⟨n-(i+1),by omega,rfl,hlt,?_,s1.trans s2⟩
    rw[e,if_neg (by rw[h];decide),List.append_nil]
 ·have e:i=n:=by omega
  subst e;exact .inl ⟨Nat.le_refl _,λp hp=>q p _ s1 hp⟩
theorem zhx{H:Hp}{σ rest:L2.St}{tl:TE}{tc:TT}{ixs:List (Option Nat)}{p:Addr}{l:List Int}{f:Int->Bool}{Q:VK}(hn:l.length<=100)(hσ:Ym σ ixs=none::rest)(hp:H p=some (.lst (l.map V.int)))(htl:∀R:VK,R (.ref p) H->tl σ H R)
  (ht:∀(x:Int) (H1:Hp) (R:Bool->Hp->Prop),x∈l->zj H H1->(∀H2,zj H1 H2->R (f x) H2)->tc (some (.int x)::rest) H1 R)
  (q:∀c H',zj H H'->H' c=none->Q (.ref c) (upd H' c (.lst ((l.filter f).map V.int)))):yZ ixs (qM K tl) (yX 0) tc (z7 0) σ H Q:=by
 refine htl _ ⟨p,rfl,⟨_,SqL.of hp⟩,λi m ys H1=>m=l.length-i/\i<=l.length/\ys=((l.take i).filter f).map V.int/\zj H H1,⟨_,rfl,Nat.zero_le _,by rw[List.take_zero];rfl,zj.refl H⟩,?_⟩
 rintro i m ys H1 ⟨rfl,hi,rfl,s1⟩
 by_cases hlt:i<l.length
 ·refine .inr ⟨⟨_,.int l[i],SqL.of (s1 _ _ hp),by simp[hlt]⟩,zr ?_,λx H' y=>?_⟩
  ·rw[List.length_map]
   refine Nat.le_trans (List.length_filter_le _ _) ?_;rw[List.length_take];omega
  ·obtain⟨rfl,y⟩:=y
   obtain⟨z,hz,rfl⟩:=Qn (y _ (SqL.of (s1 _ _ hp)));rw[hσ];refine⟨Kps.own,ht z _ _ (List.mem_of_getElem? hz) s1 λH2 s2=>?_⟩
   have e:((l.take (i+1)).filter f).map V.int=((l.take i).filter f).map V.int++(if f z=true then [V.int z] else []):=by
    rw[List.take_add_one,hz,Option.toList_some,List.filter_append,List.map_append,List.filter_cons,List.filter_nil]
    split <;> rfl
   refine qm (λh=>?_) (λh=>?_)
   ·refine⟨_,rfl,l.length-(i+1),by omega,rfl,hlt,?_,s1.trans s2⟩
    rw[e,if_pos h]
   ·refine⟨l.length-(i+1),by omega,rfl,hlt,?_,s1.trans s2⟩
    rw[e,if_neg (by rw[h];decide),List.append_nil]
 ·have e:i=l.length:=by omega
  subst e;rw[List.take_length]
  exact .inl ⟨⟨_,SqL.of (s1 _ _ hp),by rw[List.length_map];exact Nat.le_refl _⟩,λc hc=>q c _ s1 hc⟩
theorem zic{H:Hp}{σ rest:L2.St}{tl te:TE}{ixs:List (Option Nat)}{p:Addr}{xs:List V}{g:Nat->V}{Q:VK}(hn:xs.length<=100)(hσ:Ym σ ixs=none::rest)(hp:SqL K H p xs)(htl:∀R:VK,R (.ref p) H->tl σ H R)
  (ht:∀(i:Nat) (x:V) (H1:Hp) (R:VK),xs[i]?=some x->zj H H1->(∀H2,zj H1 H2->R (g i) H2)->te (some x::rest) H1 R)
  (q:∀c H',zj H H'->H' c=none->Q (.ref c) (upd H' c (.lst ((List.range xs.length).map g)))):yZ ixs (qM K tl) (yX 0) zcr te σ H Q:=by
 refine htl _ ⟨p,rfl,⟨_,hp⟩,λi m ys H1=>m=xs.length-i/\i<=xs.length/\ys=(List.range i).map g/\zj H H1,⟨_,rfl,Nat.zero_le _,rfl,zj.refl H⟩,?_⟩;rintro i m ys H1 ⟨rfl,hi,rfl,s1⟩
 by_cases hlt:i<xs.length
 ·refine .inr ⟨⟨_,xs[i],s1.seq hp,by simp[hlt]⟩,zr ?_,λx H' y=>?_⟩
  ·rw[List.length_map,List.length_range]
   omega
  ·obtain⟨rfl,y⟩:=y
   have hx:=y _ (s1.seq hp);rw[hσ];refine⟨Kps.own,jh (ht i x _ _ hx s1 λH2 s2=>?_)⟩
   refine⟨xs.length-(i+1),by omega,rfl,hlt,?_,s1.trans s2⟩
   rw[List.range_succ,List.map_append];rfl
 ·have e:i=xs.length:=by omega
  subst e;exact .inl ⟨⟨_,s1.seq hp,Nat.le_refl _⟩,λc hc=>q c _ s1 hc⟩
end
section
variable {P:Program}{w:World}{K:PySem.W.Frag}{mg:Str->Option Value}{base:Heap}{t:Adr}
theorem zax{lo:Bool}{C:Addr}{x qual:Str}{st:Stmt}{f:Addr}{fd:FuncData}{N ps:List Str}{k:Nat}{sp:Sp}(F:Fun K x qual st f fd)(S:FnScope N ps (zk st))(len:∀vs H Q E,sp vs H Q E->vs.length=ps.length)
  (hbody:∀(cdv:Value) (A:Around) (outer:List Env) (s:Shared) (H:Hp) (vs:List V) (Q:VK) (E:XK),Room k (A.deeper (envOfC qual (zk st) s.heap.objs.size f cdv))->sp vs H Q E ->
   ∃t,PSs (TX.cxb lo C P w K mg base N qual (zk st) f cdv A outer s H E) (yY st) t/\t { nx:=λ_ H'=>Q .non H',rt:=Q } (qY N vs) H):FnOk P w K mg base (TX.CXb lo P w C) (k+1) f fd ps sp:=by
 obtain⟨oc,od,kV,doc,pm,an,cdv,ct,osl,rfl,lk,hcd⟩:=F.ex;exact zgM lk hcd S len λA outer s H vs Q E hr hsp=>hbody cdv A outer s H vs Q E hr hsp
theorem jv{X:Cx}{b:List Stmt}:PSs X b (λ_ _ _=>False):=λ_ _ _ _ _ _ h=>h.elim
theorem zep{C:Addr}{ta tv:TE}{f:Str}{D:Ends}{σ:L2.St}{H:Hp}(h:tv σ H λy H1=>ta σ H1 λx H2=>∃e,x=.ref e/\H2 e=some (TX.zd7 C e)/\∀dx,H2 dx=none->dx≠e->D.nx σ (upd (upd H2 e (TX.zfa C e dx)) dx (.xd [(f,y)]))):TX.zhn C ta tv f D σ H:=h
def YG(H H':Hp)(wa:Addr)(R:Ls):Prop:=H wa=none/\∃xs,H' wa=some (.lst xs)/\Paired (λv l=>∃b,v=V.ref b/\H b=none/\H' b=some (.lst (l.map V.int))) xs R
theorem YG.ll{H H':Hp}{wa:Addr}{R:Ls}(h:YG H H' wa R):LL H' wa R:=by
 obtain⟨_,xs,h1,h2⟩:=h;exact⟨xs,h1,Paired.impl (λv l ⟨b,e,_,z⟩=>⟨b,e,z⟩) h2⟩
theorem YG.from{H0 H H':Hp}{wa:Addr}{R:Ls}(h:YG H H' wa R)(s:zj H0 H):YG H0 H' wa R:=by
 obtain⟨h0,xs,h1,h2⟩:=h;exact⟨s.free h0,xs,h1,Paired.impl (λv l ⟨b,e,z,y⟩=>⟨b,e,s.free z,y⟩) h2⟩
theorem YG.keep{H H1 H2:Hp}{wa:Addr}{R:Ls}(h:YG H H1 wa R)(s:∀b o,H1 b=some (.lst o)->H2 b=some (.lst o)):YG H H2 wa R:=by
 obtain⟨h0,xs,h1,h2⟩:=h;exact⟨h0,xs,s _ _ h1,Paired.impl (λv l ⟨b,e,z,y⟩=>⟨b,e,z,s _ _ y⟩) h2⟩
def zjU(ls R:Ls):Prop:=(∀ring∈R,ring≠[]/\∀x∈ring,0<=x/\x<(ls.length:Int))/\R.flatten.length<=50/\YK ls R=true
def zjz(C:Addr):Sp:=λvs H Q _=>∃(e r:Addr) (R:Ls),vs=[.ref e,.ref r]/\H e=some (TX.zd7 C e)/\LL H r R/\R.length<=100/\∀H' dx wa,(∀b o,H b=some o->b≠e->H' b=some o)->dx≠e->H' e=some (TX.zfa C e dx)->H' dx=some (.xd [("rings",.ref wa)])->YG H H' wa R->Q .non H'
theorem ziK(T:Txt K mg t):FnOk P w K mg base CX0 1 t.NoneSteady___init__ t.fd_NoneSteady___init__ ["self","rings"] (zjz t.X_NoneSteady):=by
 have S:=YH;refine T.NoneSteady___init__.fn.ok S (λvs H Q E h=>?_) (λcdv A outer s H vs Q E hr h=>?_)
 ·obtain⟨e,r,R,rfl,_⟩:=h;rfl
 ·obtain⟨e,r,R,rfl,he,hL,hz,fin⟩:=h
  refine⟨_,(zg (Zq (TX.zgl T.ii_NoneSteady (by rfl) T.mg_CampError T.sp_CampError T.rd_CampError T.fc_CampError (zd (pv 0) (zd zhz zf))))
   (zh (TX.zgi T.ii_NoneSteady T.sa_NoneSteady T.nx_rings rfl (pv 0) (TX.Zv (te:=tCB (TX.qG K) (zS (z7 0) YL)) ["ring"] [none] rfl (zE (pv 1)) (λ_ _ _ _ _=>(zt (i:=0) (show (["ring"]:List Str).Nodup by decide +kernel) rfl (loc rfl))) (λ_ _ _ _ _=>TX.yd) (λ_ _ _ _ _=>(ZG TX.YA (by rfl) T.b_list TK.zV (zd (pv 0) zf))) rfl (by decide +kernel) (by decide +kernel) (No:=["self","rings"]) (sc:=zk zL) rfl rfl (by decide +kernel) rfl (by decide +kernel)) rfl))),?_⟩
  obtain⟨xs,hr1,rr⟩:=id hL
  refine⟨_,rfl,e,_,rfl,(by show 1<=100;decide),he,?_⟩
  dsimp only;refine zep ?_
  refine zfJ (K:=K) (tl:=z7 1) hr1 rr hz (λR z=>by exact⟨_,rfl,z⟩) λwa H2 N=>?_
  obtain⟨n1,n2,ws,n3,n4⟩:=N;have he2:H2 e=some (TX.zd7 t.X_NoneSteady e):=n2 _ _ he;refine⟨_,rfl,e,rfl,he2,λdx hdx hne=>?_⟩
  have oth:∀b o,H2 b=some (.lst o)->upd (upd H2 e (TX.zfa t.X_NoneSteady e dx)) dx (.xd [("rings",.ref wa)]) b=some (.lst o):=λb o hb=>by
   rw[zq (zx hb hdx),zq (λz=>by rw[z,he2] at hb;cases hb)];exact hb
  refine fin _ dx wa (λb o hb nb=>?_) hne ?_ ze ⟨n1,ws,oth _ _ n3,Paired.impl (λv l ⟨b,e,z,y⟩=>⟨b,e,z,oth _ _ y⟩) n4⟩
  ·rw[zq (zx (n2 _ _ hb) hdx),zq nb]
   exact n2 _ _ hb
  ·rw[zq (Ne.symm hne),ze]
def zca(X:Addr)(ls:Ls)(H:Hp)(E:XK):Prop:=∀H' dx wa R,zj H H'->H' dx=some (.xd [("rings",.ref wa)])->YG H H' wa R->zjU ls R->E (.ref X) (some dx) H'
theorem zca.from{X:Addr}{ls:Ls}{H H1:Hp}{E:XK}(h:zca X ls H E)(s:zj H H1):zca X ls H1 E:=λH' dx wa R s1 h1 h2 h3=>h H' dx wa R (s.trans s1) h1 (h2.from s) h3
def zaJ(C X:Addr):Sp:=λvs H _ E=>∃(p:Addr) (ls:Ls),vs=[.ref p]/\zY C H p ls/\Valid ls/\TN.zo ls=[]/\zca X ls H E
theorem wL(T:Txt K mg t):FnOk P w K mg base (TX.CXb false P w t.X_NoneSteady) 20 t.steady_or_refused t.fd_steady_or_refused ["camp"] (zaJ t.C t.X_NoneSteady):=by
 have S:=yt;have G_all_steady:=Yt (P:=P) (w:=w) (base:=base) T;have G_rings_of:=zai (P:=P) (w:=w) (base:=base) T;have G_ns:=ziK (P:=P) (w:=w) (base:=base) T;refine zax T.steady_or_refused.fn S (λvs H Q E h=>?_) (λcdv A outer s H vs Q E hr h=>?_)
 ·obtain⟨p,ls,rfl,_⟩:=h;rfl
 ·obtain⟨p,ls,rfl,hC,hV,hn,bad⟩:=h
  refine⟨_,(zg (zz (i:=1) S.nd rfl (loc rfl) (zp (k:=19) (G_all_steady.mono (by decide)) hr (by rfl) T.all_steady.mg T.all_steady.fn.kp T.all_steady.b .nil zG (zd (pv 0) zf)))
   (zg (zO (zQ (Q6 (pv 1) (λ_=>rfl))) (zh (TX.zcS (k:=18) T.ii_NoneSteady T.fn_NoneSteady (G_ns.mono (by decide)) hr T.NoneSteady___init__.b rfl T.mg_NoneSteady (zp (k:=19) G_rings_of hr (by rfl) T.rings_of.mg T.rings_of.fn.kp T.rings_of.b .nil zG (zd (pv 0) zf)))) zv)
   (zh (zy (pv 1))))),?_⟩
  refine⟨_,rfl,p,ls,rfl,hC,hV,λf pss H1 hf s1 hpm _ hW _=>?_⟩;obtain⟨xs,hf1,r⟩:=id hW;rw[hn] at hpm;obtain rfl:=List.Perm.eq_nil hpm;cases r;refine⟨_,rfl,_,.inl ⟨_,SqL.of hf1,rfl⟩,Qt ?_⟩;have hno:=(TN.jl hV).mp hn;refine⟨_,rfl,p,ls,rfl,hC.same s1,hV,hno,λq R H2 s2 hL hwf hfl htl=>?_⟩;intro e he;have hrl:=Qq λr h=>(hwf r h).1;have s3:zj H2 (upd H2 e (TX.zd7 t.X_NoneSteady e)):=TX.zj.upd (zj.refl _) he
  refine⟨e,q,R,rfl,ze,Of.same mI hL s3,by omega,λH' dx wa hk hne hx hdx hF=>⟨rfl,dx,hx,?_⟩⟩
  have s12:=s1.trans s2;have hw:=hF.from (s12.trans s3)
  have nwa:wa≠e:=λz=>by
   have:=hF.1;rw[z,ze] at this;cases this
  refine bad _ dx wa R (λb o hb=>?_) (by rw[TX.Yx hne];exact hdx) ?_ ⟨hwf,hfl,by rw[<-TN.wO hV hwf];exact htl⟩
  ·have hb2:=s12 _ _ hb
   have nb:b≠e:=zx hb2 he;rw[TX.Yx nb];exact hk b o (s3 _ _ hb2) nb
  ·refine hw.keep λb o hb=>?_
   rw[TX.Yx (λz=>by rw[z,hx] at hb;cases hb)]
   exact hb
theorem zec(T:Txt K mg t):FnOk P w K mg base (TX.CXb false P w t.X_NoneSteady) 21 t.alone t.fd_alone ["camp"] (zaJ t.C t.X_NoneSteady):=by
 have S:=zaU;have X_steady:=wL (P:=P) (w:=w) (base:=base) T;refine zax T.alone.fn S (λvs H Q E h=>?_) (λcdv A outer s H vs Q E hr h=>?_)
 ·obtain⟨p,ls,rfl,_⟩:=h;rfl
 ·obtain⟨p,ls,rfl,hC,hV,hn,bad⟩:=h
  refine⟨_,(zg (zz (i:=1) S.nd rfl (loc rfl) (zp (k:=20) (sp:=λ_ _ _ _=>False) (CX:=CX0) (E:=E0) ⟨λ_ _ _ _ z=>z.elim,λ_ _ _ _ _ _ _ _ _ _ _ _ _ z=>z.elim⟩ hr (by rfl) T.partners.mg T.partners.fn.kp T.partners.b .nil (λ_ _ _ _ _ _ _ z=>z.elim) (zd (pv 0) (zd (zU zA (zp (k:=20) X_steady hr (by rfl) T.steady_or_refused.mg T.steady_or_refused.fn.kp T.steady_or_refused.b .nil TX.zc3 (zd (pv 0) zf)) zm (λ_ _=>rfl)) zf))))
   jv),?_⟩
  exact⟨_,rfl,_,rfl,p,ls,rfl,hC,hV,hn,bad⟩
def zd9(C X:Addr):Sp:=λvs H _ E=>∃(p:Addr) (ls:Ls) (i:Int),vs=[.ref p,.int i]/\zY C H p ls/\Valid ls/\0<=i/\i<ls.length/\TN.zo ls=[]/\zca X ls H E
theorem zeb(T:Txt K mg t):FnOk P w K mg base (TX.CXb false P w t.X_NoneSteady) 21 t.mates t.fd_mates ["camp","camper"] (zd9 t.C t.X_NoneSteady):=by
 have S:=zaT;have G_is_camper:=yR (P:=P) (w:=w) (base:=base) T;have X_steady:=wL (P:=P) (w:=w) (base:=base) T;refine zax T.mates.fn S (λvs H Q E h=>?_) (λcdv A outer s H vs Q E hr h=>?_)
 ·obtain⟨p,ls,i,rfl,_⟩:=h;rfl
 ·obtain⟨p,ls,i,rfl,hC,hV,i0,i1,hn,bad⟩:=h
  obtain⟨dx,la,hp,hL⟩:=id hC;have hu:=zaw hr
  refine⟨_,(zg (zO (zQ (zI (zp (k:=20) (G_is_camper.mono (by decide)) hr (by rfl) T.is_camper.mg T.is_camper.fn.kp T.is_camper.b .nil zG (zd (pv 1) (zd (Yb (pv 0) rfl) zf))))) (zh ZI) zv)
   (zg (zz (i:=2) S.nd rfl (loc rfl) Q9)
   (zg (Zc PassesOwn.leaving rfl (zE (zp (k:=20) X_steady hr (by rfl) T.steady_or_refused.mg T.steady_or_refused.fn.kp T.steady_or_refused.b .nil TX.zc3 (zd (pv 0) zf))) (zt (i:=3) S.nd rfl (loc rfl)) jv)
   jv))),?_⟩
  refine⟨_,rfl,_,rfl,p,t.C,dx,_,_,rfl,hp,T.cl,T.n_size,Z7 _ _,i,_,rfl,_,rfl,QQ (by rw[Bool.and_eq_true];exact⟨decide_eq_true i0,decide_eq_true i1⟩) ?_⟩
  intro d hd;have s1:zj H (upd H d (.dK [])):=TX.zj.upd (zj.refl H) hd;exact⟨_,rfl,p,ls,rfl,hC.same s1,hV,hn,bad.from s1⟩
end
section
variable {P:Program}{w:World}{K:PySem.W.Frag}{mg:Str->Option Value}{base:Heap}{t:Adr}
def zcB(C:Addr):Sp:=λvs H Q _=>∃(p:Addr) (ls:Ls),vs=[.ref p]/\zY C H p ls/\Valid ls/\TN.zo ls≠[]/\∀q pss H',H q=none->zj H H'->pss.Perm (TN.zo ls)->WL H' q pss->Q (.ref q) H'
theorem Jy(T:Txt K mg t):FnOk P w K mg base CX0 20 t.steady_or_refused t.fd_steady_or_refused ["camp"] (zcB t.C):=by
 have S:=yt;have G_all_steady:=Yt (P:=P) (w:=w) (base:=base) T;refine T.steady_or_refused.fn.ok S (λvs H Q E h=>?_) (λcdv A outer s H vs Q E hr h=>?_)
 ·obtain⟨p,ls,rfl,_⟩:=h;rfl
 ·obtain⟨p,ls,rfl,hC,hV,hn,fin⟩:=h
  refine⟨_,(zg (zz (i:=1) S.nd rfl (loc rfl) (zp (k:=19) (G_all_steady.mono (by decide)) hr (by rfl) T.all_steady.mg T.all_steady.fn.kp T.all_steady.b .nil zG (zd (pv 0) zf)))
   (zg (zO (zQ (Q6 (pv 1) (λ_=>rfl))) (zh ZI) zv)
   (zh (zy (pv 1))))),?_⟩
  refine⟨_,rfl,p,ls,rfl,hC,hV,λf pss H1 hf s1 hpm _ hW _=>?_⟩;obtain⟨xs,hf1,r⟩:=id hW
  cases r with
  | nil=>exact absurd (List.Perm.nil_eq hpm).symm hn
  | cons q1 r' =>
   refine⟨_,rfl,_,.inl ⟨_,SqL.of hf1,rfl⟩,yp ?_⟩;exact⟨_,rfl,fin f _ H1 hf s1 hpm hW⟩
def qv(ls:Ls)(ps:Prs):List Int:=(rng ls.length).filter λi=>(mate ps i).isNone
theorem ZV{ls:Ls}(hV:Valid ls){ps:Prs}(h:ps∈TN.zo ls):Pairs ls ps/\breaking ls ps=[]/\ps.length<=100:=by
 rw[zel,List.mem_filter] at h;have hpr:=TN.zW hV 6 _ (TN.ZK ls) ps h.1;refine⟨hpr.1,of_decide_eq_true h.2,?_⟩;have:=WT hpr.1 hpr.2;have hl6:=hV.le;rw[zM] at this;omega
theorem JM{ls:Ls}(hV:Valid ls){ps qs:Prs}(hp:ps∈TN.zo ls)(hq:qs∈TN.zo ls):qv ls ps=qv ls qs:=by
 obtain⟨p1,p2,_⟩:=ZV hV hp;obtain⟨q1,q2,_⟩:=ZV hV hq;refine List.filter_congr λx hx=>?_
 obtain⟨i,hi,rfl⟩:=List.mem_map.mp (show x∈(List.range ls.length).map λk:Nat=>(k:Int) from hx)
 have hi:=List.mem_range.mp hi
 cases e1:mate ps (i:Int) with
 | none=>rw[TN.qc hV p1 q1 p2 q2 hi e1]
 | some j =>
  cases e2:mate qs (i:Int) with
  | none=>rw[TN.qc hV q1 p1 q2 p2 hi e2] at e1;cases e1
  | some k=>rfl
def zf5(C:Addr):Sp:=λvs H Q _=>∃(p:Addr) (ls:Ls) (ps:Prs),vs=[.ref p]/\zY C H p ls/\Valid ls/\ps∈TN.zo ls/\∀l H',zj H H'->H l=none->H' l=some (.lst ((qv ls ps).map V.int))->Q (.ref l) H'
theorem zeR(T:Txt K mg t):FnOk P w K mg base CX0 21 t.alone t.fd_alone ["camp"] (zf5 t.C):=by
 have S:=zaU;have G_partners:=qJ (P:=P) (w:=w) (base:=base) T;have G_steady_or_refused:=Jy (P:=P) (w:=w) (base:=base) T;refine T.alone.fn.ok S (λvs H Q E h=>?_) (λcdv A outer s H vs Q E hr h=>?_)
 ·obtain⟨p,ls,ps,rfl,_⟩:=h;rfl
 ·obtain⟨p,ls,ps,rfl,hC,hV,hps,fin⟩:=h
  have hu:=zaw hr;have hl6:=hV.le
  refine⟨_,(zg (zz (i:=1) S.nd rfl (loc rfl) (zp (k:=20) (G_partners.mono (by decide)) hr (by rfl) T.partners.mg T.partners.fn.kp T.partners.b .nil zG (zd (pv 0) (zd (zU zA (zp (k:=20) G_steady_or_refused hr (by rfl) T.steady_or_refused.mg T.steady_or_refused.fn.kp T.steady_or_refused.b .nil zG (zd (pv 0) zf)) zm (λ_ _=>rfl)) zf))))
   (zh (zy (TX.Zv (te:=z7 0) (tc:=Yj (zct (z7 0) (z7 1))) ["camper","having"] [none,some 1] rfl (Zi rfl T.b_range (zd (Yb (pv 0) rfl) zf)) (λ_ _ _ _ _=>(zt (i:=0) (show (["camper","having"]:List Str).Nodup by decide +kernel) rfl (loc rfl))) (λ_ _ _ _ _=>(TX.yr (QK (zc1 hu (pv 0) (pv 1))))) (λ_ _ _ _ _=>(pv 0)) rfl (by decide +kernel) (by decide +kernel) (No:=["camp","having"]) (sc:=zk Qy) rfl rfl (by decide +kernel) rfl (by decide +kernel))))),?_⟩
  have hne:TN.zo ls≠[]:=λz=>by rw[z] at hps;cases hps
  refine⟨_,rfl,_,rfl,p,ls,rfl,hC,hV,hne,λf pss H1 hf s1 hpm hW=>?_⟩;obtain⟨xs,hf1,r⟩:=id hW
  cases r with
  | nil=>exact absurd (List.Perm.nil_eq hpm).symm hne
  | @cons v qs xs' pss' q1 r' =>
   obtain⟨b,rfl,hb⟩:=q1;have hqs:qs∈TN.zo ls:=hpm.mem_iff.mp List.mem_cons_self;obtain⟨pr,_,hln⟩:=ZV hV hqs
   refine⟨f,_,0,_,rfl,rfl,SqL.of hf1,qu (by decide) rfl,p,b,ls,qs,rfl,hC.same s1,hb,pr,hln,λd kvs H2 hd s2 hd2 hk=>?_⟩
   have s12:=s1.trans s2;obtain⟨dx,la,hp,_⟩:=hC.same s12;dsimp only;refine qz ?_
   refine zgk (n:=ls.length) (f:=λi=>(mate qs i).isNone) (rest:=[some (.ref d)]) (by omega) rfl (λR z=>by exact⟨_,rfl,p,t.C,dx,_,_,rfl,hp,T.cl,T.n_size,Z7 _ _,z⟩) (λi H3 R hi s3 h=>?_) λl H3 s3 hl=>?_
   ·refine⟨_,rfl,_,rfl,d,_,rfl,wJ.k (k:=Sum.inl (i:Int)) (s3 _ _ hd2),_,rfl,?_⟩
    have e:(!(YD kvs (Sum.inl (i:Int))).isSome)=(mate qs (i:Int)).isNone:=by
     rw[hk]
     cases mate qs (i:Int) <;> rfl
    rw[e];exact h H3 (zj.refl _)
   ·have s4:=TX.zj.upd (o:=.lst (((rng ls.length).filter λi=>(mate qs i).isNone).map V.int)) (zj.refl H3) hl
    refine fin l _ (s12.trans (s3.trans s4)) ((s12.trans s3).free hl) ?_;rw[JM hV hps hqs];exact ze
def yu(pss:List Prs)(c j:Int):Bool:=pss.any λps=>mate ps c==some j
def zdu:Option Int->Key
 | some j=>Sum.inl j
 | none=>Sum.inr ()
def zf3(C:Addr):Sp:=λvs H Q _=>∃(p:Addr) (ls:Ls) (i:Int),vs=[.ref p,.int i]/\zY C H p ls/\Valid ls/\0<=i/\i<ls.length/\TN.zo ls≠[] /\
 ∀l H',zj H H'->H l=none->H' l=some (.lst (((lof ls i).filter (yu (TN.zo ls) i)).map V.int))->Q (.ref l) H'
theorem jN{a b:List Prs}(h:a.Perm b)(c j:Int):yu a c j=yu b c j:=by
 unfold yu;rw[Bool.eq_iff_iff,List.any_eq_true,List.any_eq_true];exact⟨λ⟨x,h1,h2⟩=>⟨x,h.mem_iff.mp h1,h2⟩,λ⟨x,h1,h2⟩=>⟨x,h.mem_iff.mpr h1,h2⟩⟩
theorem zeJ(o:Option Int):((o.map V.int).getD .non)=kV (zdu o):=by cases o <;> rfl
theorem zfA(o:Option Int)(j:Int):(Sum.inl j:Key)=zdu o↔o=some j:=by
 cases o with
 | none=>exact⟨(λz=>nomatch z),(λz=>nomatch z)⟩
 | some k=>exact⟨λz=>by injection z with z;rw[z],λz=>by injection z with z;rw[z];rfl⟩
set_option maxHeartbeats 1000000 in
theorem zeP(T:Txt K mg t):FnOk P w K mg base CX0 21 t.mates t.fd_mates ["camp","camper"] (zf3 t.C):=by
 have S:=zaT;have G_is_camper:=yR (P:=P) (w:=w) (base:=base) T;have G_partners:=qJ (P:=P) (w:=w) (base:=base) T;have G_steady_or_refused:=Jy (P:=P) (w:=w) (base:=base) T;refine T.mates.fn.ok S (λvs H Q E h=>?_) (λcdv A outer s H vs Q E hr h=>?_)
 ·obtain⟨p,ls,i,rfl,_⟩:=h;rfl
 ·obtain⟨p,ls,i,rfl,hC,hV,i0,i1,hne,fin⟩:=h
  obtain⟨dx,la,hp,hL⟩:=id hC;have hu:=zaw hr;have hl6:=hV.le
  refine⟨_,(zg (zO (zQ (zI (zp (k:=20) (G_is_camper.mono (by decide)) hr (by rfl) T.is_camper.mg T.is_camper.fn.kp T.is_camper.b .nil zG (zd (pv 1) (zd (Yb (pv 0) rfl) zf))))) (zh ZI) zv)
   (zg (zz (i:=2) S.nd rfl (loc rfl) Q9)
   (zg (Zc PassesOwn.never rfl (zE (zp (k:=20) G_steady_or_refused hr (by rfl) T.steady_or_refused.mg T.steady_or_refused.fn.kp T.steady_or_refused.b .nil zG (zd (pv 0) zf))) (zt (i:=3) S.nd rfl (loc rfl)) (zh (jw hu (pv 2) (we hu (zp (k:=20) (G_partners.mono (by decide)) hr (by rfl) T.partners.mg T.partners.fn.kp T.partners.b .nil zG (zd (pv 0) (zd (pv 3) zf))) (pv 1) ⟨rfl,rfl,rfl,rfl⟩) Z8 rfl)))
   (zh (zy (TX.Zv (te:=z7 0) (tc:=Yj (zja (z7 0) (z7 1))) ["other","found"] [none,some 2] rfl (zE (zU zA (Yb (pv 0) rfl) (pv 1) (λ_ _=>rfl))) (λ_ _ _ _ _=>(zt (i:=0) (show (["other","found"]:List Str).Nodup by decide +kernel) rfl (loc rfl))) (λ_ _ _ _ _=>(TX.yr (QK (za6 hu (pv 0) (pv 1))))) (λ_ _ _ _ _=>(pv 0)) rfl (by decide +kernel) (by decide +kernel) (No:=["camp","camper","found","pairs"]) (sc:=zk Qx) rfl rfl (by decide +kernel) rfl (by decide +kernel))))))),?_⟩
  refine⟨_,rfl,_,rfl,p,t.C,dx,_,_,rfl,hp,T.cl,T.n_size,Z7 _ _,i,_,rfl,_,rfl,QQ (by rw[Bool.and_eq_true];exact⟨decide_eq_true i0,decide_eq_true i1⟩) ?_⟩
  intro d hd;have s1:zj H (upd H d (.dK [])):=TX.zj.upd (zj.refl H) hd;refine⟨_,rfl,p,ls,rfl,hC.same s1,hV,hne,λf pss H1 hf s2 hpm hW=>?_⟩;have s12:=s1.trans s2;obtain⟨xs,hf1,r⟩:=id hW;have hxl:=r.length
  have hfew:pss.length<=100:=by rw[hpm.length_eq];exact Nat.le_trans (TN.y1 hV) (by decide)
  have nfd:f≠d:=λz=>by rw[z,ze] at hf;cases hf
  refine⟨f,rfl,⟨_,SqL.of hf1⟩,Zj (K:=K) (a:=f) (xs:=xs) (λk σ H2=>∃kvs v,σ=[some (.ref p),some (.int i),some (.ref d),v]/\(∀b o,H1 b=some o->b≠d->H2 b=some o)/\H2 d=some (.dK kvs)/\kvs.length<=k/\∀j:Int,(YD kvs (Sum.inl j)).isSome=yu (pss.take k) i j)
   ⟨[],none,rfl,λb o e _=>e,s2 _ _ ze,Nat.zero_le _,λj=>by rw[List.take_zero];rfl⟩ (λk σ H2 _ ⟨_,_,_,k2,_⟩=>SqL.of (k2 _ _ hf1 nfd)) ?_ ?_⟩
  ·rintro k y σ H2 hk ⟨kvs,v,rfl,k2,hd2,hkl,hkv⟩
   obtain⟨qs,hqs,b,rfl,hb⟩:=Paired.at1 r hk;have hq:qs∈TN.zo ls:=hpm.mem_iff.mp (List.mem_of_getElem? hqs);obtain⟨pr,_,hln⟩:=ZV hV hq
   have sH2:zj H H2:=λb o e=>k2 _ _ (s12 _ _ e) (λz=>by rw[z,hd] at e;cases e)
   have hb2:PL H2 b qs:=by
    obtain⟨zs,z1,z2⟩:=hb
    exact⟨zs,k2 _ _ z1 (λz=>by rw[z,s2 _ _ ze] at z1;cases z1),Paired.impl (λv q ⟨c,e,hc⟩=>⟨c,e,k2 _ _ hc (λz=>by rw[z,s2 _ _ ze] at hc;cases hc)⟩) z2⟩
   have hkx:k<xs.length:=(List.getElem?_eq_some_iff.mp hk).1;refine⟨_,rfl,_,rfl,_,rfl,p,b,ls,qs,rfl,hC.same sH2,hb2,pr,hln,λd2 kvs2 H3 hd3 s3 hd4 hk2=>?_⟩
   have hput:zch H3 d ((YD kvs2 (Sum.inl i)).getD .non) (.bl true) (upd H3 d (.dK (Jd kvs (zdu (mate qs i)) (.bl true)))):=by
    rw[hk2,zeJ]
    exact zch.k (s3 _ _ hd2) (zr (by omega))
   refine⟨d2,rfl,.inl ⟨_,.inl hd4⟩,_,rfl,_,wJ.k (k:=Sum.inl i) hd4,d,_,rfl,hput,?_⟩;refine⟨_,_,rfl,λb o e n=>?_,ze,?_,λj=>?_⟩
   ·rw[zq n];exact s3 _ _ (k2 _ _ e n)
   ·have:=ZH kvs (zdu (mate qs i)) (V.bl true)
    omega
   ·rw[Y7]
    have et:pss.take (k+1)=pss.take k++[qs]:=by rw[List.take_add_one,hqs];rfl
    have em:yu (pss.take (k+1)) i j=(yu (pss.take k) i j||(mate qs i==some j)):=by
     unfold yu;rw[et,List.any_append];simp
    rw[em,<-hkv]
    by_cases e:(Sum.inl j:Key)=zdu (mate qs i)
    ·rw[if_pos e,(zfA _ _).mp e];simp
    ·rw[if_neg e]
     have:(mate qs i==some j)=false:=beq_eq_false_iff_ne.mpr λz=>e ((zfA _ _).mpr z);rw[this,Bool.or_false]
  ·rintro σ H2 ⟨kvs,v,rfl,k2,hd2,hkl,hkv⟩
   rw[hxl,List.take_length] at hkv
   have sH2:zj H H2:=λb o e=>k2 _ _ (s12 _ _ e) (λz=>by rw[z,hd] at e;cases e)
   have hC2:=hC.same sH2;obtain⟨dx2,la2,hp2,hL2⟩:=id hC2;obtain⟨ys,b,ha2,hb2,hb3⟩:=LL.at hL2 i0 i1
   have hz:(lof ls i).length<=100:=by
    have:=ZP (YX hV i0 i1);omega
   dsimp only;refine qz ?_
   refine zhx (K:=K) (p:=b) (l:=lof ls i) (f:=yu (TN.zo ls) i) (rest:=[some (.ref d)]) hz rfl hb3 (λR z=>by exact⟨_,rfl,p,t.C,dx2,_,_,rfl,hp2,T.cl,T.n_wishes,Yy _ _,_,rfl,la2,ys,i,_,rfl,rfl,SqL.of ha2,hb2,z⟩) (λx H3 R hx s3 h=>?_) λl H3 s3 hl=>?_
   ·refine⟨_,rfl,_,rfl,d,_,rfl,wJ.k (k:=Sum.inl x) (s3 _ _ hd2),_,rfl,?_⟩
    rw[hkv,jN hpm];exact h H3 (zj.refl _)
   ·have s4:=TX.zj.upd (o:=.lst (((lof ls i).filter (yu (TN.zo ls) i)).map V.int)) (zj.refl H3) hl
    exact fin l _ (sH2.trans (s3.trans s4)) ((sH2.trans s3).free hl) ze
end
end Tp
namespace Tp
open PySem PySem.Spec PyProof.Rows L2 TX TM TK
seal PySem.Sem.wp
section
variable {P:Program}{w:World}{K:PySem.W.Frag}{mg:Str->Option Value}{base:Heap}{t:Adr}
theorem zgw(i:Int)(h0:0<=i)(h1:i<8):∃z:Int,(1<=z/\z<=4)/\atI ([.int 4,.int 3,.int 4,.int 2,.int 4,.int 3,.int 4,.int 1]:List V) i=some (.int z):=by
 have:i=0\/i=1\/i=2\/i=3\/i=4\/i=5\/i=6\/i=7:=by omega
 rcases this with rfl|rfl|rfl|rfl|rfl|rfl|rfl|rfl
 ·exact⟨4,by decide,rfl⟩
 ·exact⟨3,by decide,rfl⟩
 ·exact⟨4,by decide,rfl⟩
 ·exact⟨2,by decide,rfl⟩
 ·exact⟨4,by decide,rfl⟩
 ·exact⟨3,by decide,rfl⟩
 ·exact⟨4,by decide,rfl⟩
 ·exact⟨1,by decide,rfl⟩
theorem zge(i:Int)(h0:0<=i)(h1:i<4):∃z:Int,(3<=z/\z<=5)/\atI ([.int 3,.int 5,.int 3,.int 4]:List V) i=some (.int z):=by
 have:i=0\/i=1\/i=2\/i=3:=by omega
 rcases this with rfl|rfl|rfl|rfl
 ·exact⟨3,by decide,rfl⟩
 ·exact⟨5,by decide,rfl⟩
 ·exact⟨3,by decide,rfl⟩
 ·exact⟨4,by decide,rfl⟩
def LPv(H:Hp)(a:Addr)(k z1 z2 m kd:Int)(L:Addr)(i:Nat)(σ:L2.St)(H2:Hp):Prop:=∃v7 v8 v9 v10 v11 lsd,σ=[some (.ref a),some (.int k),some (.int z1),some (.int z2),some (.int m),some (.int kd),some (.ref L),v7,v8,v9,v10,v11,none,none] /\
 zj H H2/\LL H2 L lsd/\lsd.length=i/\qS m.toNat lsd
def LM1(Q:VK)(H:Hp)(a:Addr)(k:Int):TS:=λD σ H1=>D.rt=Q/\∃z1 z2 m:Int,σ=[some (.ref a),some (.int k),some (.int z1),some (.int z2),some (.int m),none,none,none,none,none,none,none,none,none]/\(1<=m/\m<=6)/\zj H H1
def LM2(H:Hp)(a:Addr)(k:Int):TS:=λD σ H2=>∃(z1 z2 m kd:Int) (L:Addr) (i:Nat) (c:Int) (lsd:Ls) (v8:Option V) (p:Addr) (l:List Int) (v10 v11:Option V),
 σ=[some (.ref a),some (.int k),some (.int z1),some (.int z2),some (.int m),some (.int kd),some (.ref L),some (.int c),v8,some (.ref p),v10,v11,none,none]/\c=(i:Int)/\(1<=m/\m<=6)/\(i:Int)<m/\H L=none/\H p=none/\p≠L /\
 zj H H2/\LL H2 L lsd/\lsd.length=i/\qS m.toNat lsd/\H2 p=some (.lst (l.map V.int))/\QY m.toNat i l/\∀σ' H',LPv H a k z1 z2 m kd L (i+1) σ' H'->D.nx σ' H'
def LM4(Q:VK)(H:Hp)(a:Addr)(k:Int):TS:=λD σ H2=>D.rt=Q/\∃(z1 z2 m kd:Int) (L:Addr) (v7 v8 v9 v10 v11:Option V) (ls:Ls),σ=[some (.ref a),some (.int k),some (.int z1),some (.int z2),some (.int m),some (.int kd),some (.ref L),v7,v8,v9,v10,v11,none,none] /\
 zj H H2/\H L=none/\LL H2 L ls/\Valid ls/\m=ls.length
def zen(K:PySem.W.Frag):Sp:=λvs H Q _=>∃(a:Addr) (ns:List Int) (k:Int),vs=[.ref a,.int k]/\SqL K H a (ns.map V.int)/\0<=k/\∀p H' ls,H p=none->zj H H'->LL H' p ls->Valid ls->Q (.ref p) H'
theorem LL.apart{H:Hp}{L b:Addr}{xs:List V}{l:List Int}(hL:H L=some (.lst xs))(hm:V.ref b∈xs)(hb:H b=some (.lst (l.map V.int))):b≠L:=by
 intro z;rw[z,hL] at hb
 have e:xs=l.map V.int:=by injection hb with hb;injection hb
 rw[e,List.mem_map] at hm;obtain⟨_,_,h⟩:=hm;cases h
theorem LL.put{H:Hp}{L:Addr}{xs:List V}{ls:Ls}(hL:H L=some (.lst xs))(r:Paired (RI H) xs ls)(o:HO):Paired (RI (upd H L o)) xs ls:=by
 have gen:∀(ys:List V) (ms:Ls),Paired (RI H) ys ms->(∀v,v∈ys->v∈xs)->Paired (RI (upd H L o)) ys ms:=by
  intro ys ms hh
  induction hh with
  | nil=>intro _;exact .nil
  | cons hd tl ih =>
   intro hn;obtain⟨b,rfl,hb⟩:=hd;exact .cons ⟨b,rfl,z8 hb (LL.apart hL (hn _ List.mem_cons_self) hb)⟩ (ih λc hc=>hn c (List.mem_cons_of_mem _ hc))
 exact gen _ _ r λv h=>h
theorem LL.push{H:Hp}{L p:Addr}{xs:List V}{ls:Ls}{l:List Int}(hL:H L=some (.lst xs))(r:Paired (RI H) xs ls)(hp:H p=some (.lst (l.map V.int)))(hne:p≠L) :
  LL (upd H L (.lst (xs++[.ref p]))) L (ls++[l]):=⟨_,ze,Paired.app (LL.put hL r _) (.cons ⟨p,rfl,z8 hp hne⟩ .nil)⟩
theorem LL.setAt{H:Hp}{L p:Addr}{xs:List V}{ls:Ls}{l:List Int}(hL:H L=some (.lst xs))(r:Paired (RI H) xs ls)(hp:H p=some (.lst (l.map V.int)))(hne:p≠L)(j:Nat) :
  LL (upd H L (.lst (xs.set j (.ref p)))) L (ls.set j l):=⟨_,ze,Paired.setAt ⟨p,rfl,z8 hp hne⟩ j (LL.put hL r _)⟩
theorem zgS{l:List Int}{z:Int}(h:0<=z):zdT (l.map V.int) none (some z)=(l.take z.toNat).map V.int:=by
 unfold zdT;have e1:HT.sIx (l.map V.int).length 0 none=0:=rfl
 have e2:HT.sIx (l.map V.int).length (l.map V.int).length (some z)=min z.toNat (l.map V.int).length:=by
  show (if z<0 then _ else _)=_
  rw[if_neg (by omega)]
 rw[e1,e2,List.drop_zero,Nat.sub_zero,List.map_take];rw[<-List.take_take];rw[List.take_of_length_le (Nat.le_refl (l.map V.int).length)]
theorem zfC:∀(l:List Int) (k:Nat),(l.map V.int).eraseIdx k=(l.eraseIdx k).map V.int
 | [],_=>rfl
 | _::_,0=>rfl
 | x::l,k+1=>by
  show V.int x::(l.map V.int).eraseIdx k=V.int x::(l.eraseIdx k).map V.int;rw[zfC l k]
set_option maxHeartbeats 4000000 in
theorem zdc(T:Txt K mg t):FnOk P w K mg base CX0 2 t.law_lists t.fd_law_lists ["_law_script","_law_first"] (zen K):=by
 have S:=wY;have G_law_cell_at:=zak (P:=P) (w:=w) (base:=base) T;have G_law_draw:=zdd (P:=P) (w:=w) (base:=base) T;refine T.law_lists.fn.ok S (λvs H Q E h=>?_) (λcdv A outer s H vs Q E hr h=>?_)
 ·obtain⟨a,ns,k,rfl,_⟩:=h;rfl
 ·obtain⟨a,ns,k,rfl,hS,hk,fin⟩:=h
  have hu64:=hr.units;obtain⟨M1,eM1⟩:∃M:TS,M=LM1 Q H a k:=⟨_,rfl⟩;obtain⟨M2,eM2⟩:∃M:TS,M=LM2 H a k:=⟨_,rfl⟩;obtain⟨M4,eM4⟩:∃M:TS,M=LM4 Q H a k:=⟨_,rfl⟩
  refine⟨_,(zg (zz (i:=2) S.nd rfl (loc rfl) (zp (k:=1) G_law_cell_at hr (by rfl) T.law_cell_at.mg T.law_cell_at.fn.kp T.law_cell_at.b .nil zG (zd (pv 0) (zd (pv 1) zf))))
   (zg (zz (i:=3) S.nd rfl (loc rfl) (zp (k:=1) G_law_cell_at hr (by rfl) T.law_cell_at.mg T.law_cell_at.fn.kp T.law_cell_at.b .nil zG (zd (pv 0) (zd (zR Yc (pv 1) zm) zf))))
   (zg (zz (i:=4) S.nd rfl (loc rfl) (zU Ye (Qe (zd zm (zd zm (zd zm (zd zm (zd zm (zd zm (zd zm (zd zm zf))))))))) (zR yK (pv 2) zm) (λ_ _=>rfl)))
   (zg (zO (zF Qg (zR yK (zR YU (pv 2) zm) zm) zm (zJ _)) (zh (zz (i:=4) S.nd rfl (loc rfl) (zR Yc zm (zR YU (zR yK (zR YU (pv 2) zm) zm) zm)))) zv)
   (TX.cut (M:=M1) (zg (zz (i:=5) S.nd rfl (loc rfl) (zR yK (zR YU (pv 2) zm) zm))
   (zg (zz (i:=6) S.nd rfl (loc rfl) (z4 zf))
   (zg (Zc PassesOwn.never rfl (Zi rfl T.b_range (zd (pv 4) zf)) (zt (i:=7) S.nd rfl (loc rfl)) (zg (TX.Qz ["_law_one","_law_camper"] [none,some 7] S.nd (j:=8) rfl (loc rfl) rfl (Zi rfl T.b_range (zd (pv 4) zf)) (λ_ _ _ _ _=>(zt (i:=0) (show (["_law_one","_law_camper"]:List Str).Nodup by decide +kernel) rfl (loc rfl))) (λ_ _ _ _ _=>(TX.yr (zF zc7 (pv 0) (pv 1) (zJ _)))) (λ_ _ _ _ _=>(pv 0)) rfl (by decide +kernel) (by decide +kernel) (No:=["_law_script","_law_first","_law_cell","_law_other","_law_many","_law_kind","_law_lists_here","_law_camper","_law_left","_law_told","_law_ring","_law_first_two","_law_shift","_law_turned"]) (sc:=zk Zu) rfl rfl (by decide +kernel) rfl (by decide +kernel))
   (zg (zz (i:=9) S.nd rfl (loc rfl) (z4 zf))
   (zg (zew PassesOwn.never (zF (TX.jA hu64) (pv 8) (z4 zf) (zJ _)) (zh (Zq (YI PySem.F.plainAttrs_list PySem.F.slot_list_append PySem.F.type_list_append ZQ (pv 9) (zd (YI PySem.F.plainAttrs_list PySem.F.slot_list_pop PySem.F.type_list_pop zeY (pv 8) (zd (zp (k:=1) G_law_draw hr (by rfl) T.law_draw.mg T.law_draw.fn.kp T.law_draw.b .nil zG (zd (zR Yc (zR YU (pv 3) zm) (zR Jw zm (pv 7))) (zd (zn zu (by rfl) T.b_len TK.zD (zd (pv 8) zf)) (zd (zn zu (by rfl) T.b_len TK.zD (zd (pv 8) zf)) zf)))) zf)) zf)))))
   (TX.cut (M:=M2) (zg (zO (zF Qg (pv 5) zm (zJ _)) (zh (zz (i:=9) S.nd rfl (loc rfl) (Q7 JX (pv 9) J9 (J8 (zp (k:=1) G_law_draw hr (by rfl) T.law_draw.mg T.law_draw.fn.kp T.law_draw.b .nil zG (zd (zR Yc (pv 3) (zR Jw zm (pv 7))) (zd zm (zd (pv 4) zf)))))))) zv)
   (TX.cut (M:=M2) (zg (zO (za2 (zF Qg (pv 5) zm (zJ _)) (J6 (zF zeN (pv 4) zm (zJ _)))).pt (zg (zz (i:=10) S.nd rfl (loc rfl) (zn (zdW rfl hr.hd) (by rfl) T.b_min TK.zfh (zd (pv 4) (zd (zU Ye (Qe (zd zm (zd zm (zd zm (zd zm zf))))) (zR yK (zR YU (pv 2) zm) zm) (λ_ _=>rfl)) zf))))
   (zh (zO (zF Wh (pv 7) (pv 10) (zJ _)) (zg (zz (i:=11) S.nd rfl (loc rfl) (z4 (zd (zR yK (zR Yc (pv 7) zm) (pv 10)) (zd (zR yK (zR QM (zR Yc (pv 7) (pv 10)) zm) (pv 10)) zf))))
   (zh (zz (i:=9) S.nd rfl (loc rfl) (zR Jx (pv 11) (TX.Zv (tc:=Yj (tOp (rIn K true) (z7 0) (z7 1))) ["_law_one","_law_first_two"] [none,some 11] rfl (zE (pv 9)) (λ_ _ _ _ _=>(zt (i:=0) (show (["_law_one","_law_first_two"]:List Str).Nodup by decide +kernel) rfl (loc rfl))) (λ_ _ _ _ _=>(TX.yr (zF Wg (pv 0) (pv 1) (by with_unfolding_all rfl)))) (λ_ _ _ _ _=>(pv 0)) rfl (by decide +kernel) (by decide +kernel) (No:=["_law_script","_law_first","_law_cell","_law_other","_law_many","_law_kind","_law_lists_here","_law_camper","_law_left","_law_told","_law_ring","_law_first_two","_law_shift","_law_turned"]) (sc:=zk Zu) rfl rfl (by decide +kernel) rfl (by decide +kernel)))))) zv))) zv)
   (TX.cut (M:=M2) (zh (Zq (YI PySem.F.plainAttrs_list PySem.F.slot_list_append PySem.F.type_list_append ZQ (pv 6) (zd (pv 9) zf)))) ?c3)) ?c2)) ?c0)))))
   (TX.cut (M:=M4) (zg (zO (zF zc7 (pv 5) zm (zJ _)) (zh (zy (pv 6))) zv)
   (zg (zz (i:=12) S.nd rfl (loc rfl) (zR yK (zR YU (pv 2) zm) (pv 4)))
   (zg (TX.Qz ["_law_told"] [none] S.nd (j:=13) rfl (loc rfl) rfl (zE (pv 6)) (λ_ _ _ _ _=>(zt (i:=0) (show (["_law_told"]:List Str).Nodup by decide +kernel) rfl (loc rfl))) (λ_ _ _ _ _=>TX.yd) (λ_ _ _ _ _=>(z4 zf)) rfl (by decide +kernel) (by decide +kernel) (No:=["_law_script","_law_first","_law_cell","_law_other","_law_many","_law_kind","_law_lists_here","_law_camper","_law_left","_law_told","_law_ring","_law_first_two","_law_shift","_law_turned"]) (sc:=zk Zu) rfl rfl (by decide +kernel) rfl (by decide +kernel))
   (zg (Zc PassesOwn.never rfl (Zi rfl T.b_range (zd (pv 4) zf)) (zt (i:=7) S.nd rfl (loc rfl)) (zh (Jt (TX.Zv ["_law_one","_law_many","_law_shift"] [none,some 4,some 12] rfl (zE (zU zA (pv 6) (pv 7) (λ_ _=>rfl))) (λ_ _ _ _ _=>(zt (i:=0) (show (["_law_one","_law_many","_law_shift"]:List Str).Nodup by decide +kernel) rfl (loc rfl))) (λ_ _ _ _ _=>TX.yd) (λ_ _ _ _ _=>(zR yK (zR Yc (pv 0) (pv 2)) (pv 1))) rfl (by decide +kernel) (by decide +kernel) (No:=["_law_script","_law_first","_law_cell","_law_other","_law_many","_law_kind","_law_lists_here","_law_camper","_law_left","_law_told","_law_ring","_law_first_two","_law_shift","_law_turned"]) (sc:=zk Zu) rfl rfl (by decide +kernel) rfl (by decide +kernel)) (Ju (pv 13) (zR yK (zR Yc (pv 7) (pv 12)) (pv 4)) Y9))))
   (zh (zy (pv 13))))))) ?c4)))) ?c1))))),?_⟩
  case c0 =>
   subst eM2;rintro D σ H2 ⟨z1,z2,m,kd,L,i,c,lsd,v8,p,l,v10,v11,rfl,hci,hm,him,hLn,hpn,npL,s2,hLL,hil,hok,hp,ok,nx⟩;refine⟨_,rfl,rfl,_,rfl,qm (λ_=>?_) (λ_=>?_)⟩
   ·refine⟨_,rfl,_,rfl,_,rfl,_,_,rfl,rfl,.inl ⟨by omega,by omega⟩,_,_,rfl,rfl,_,rfl,_,_,m,rfl,by omega,λz H3 z0 z1' s3=>?_⟩
    refine⟨_,rfl,p,_,rfl,SqL.of (s3 _ _ hp),λp' hp'=>?_⟩;rw[zgS z0];have s4:=s2.trans s3;obtain⟨xs,hLx,_⟩:=id hLL;exact⟨z1,z2,m,kd,L,i,c,lsd,v8,p',l.take z.toNat,v10,v11,rfl,hci,hm,him,hLn,s4.free hp',(zx (s3 _ _ hLx) hp').symm,TX.zj.upd s4 (s4.free hp'),Of.same mI hLL (TX.zj.upd s3 (s3.free hp')),hil,hok,ze,ok.take _,nx⟩
   ·exact⟨z1,z2,m,kd,L,i,c,lsd,v8,p,l,v10,v11,rfl,hci,hm,him,hLn,hpn,npL,s2,hLL,hil,hok,hp,ok,nx⟩
  case c2 =>
   subst eM2;rintro D σ H2 ⟨z1,z2,m,kd,L,i,c,lsd,v8,p,l,v10,v11,rfl,hci,hm,him,hLn,hpn,npL,s2,hLL,hil,hok,hp,ok,nx⟩
   have stay:∀v10 v11,LM2 H a k D [some (.ref a),some (.int k),some (.int z1),some (.int z2),some (.int m),some (.int kd),some (.ref L),some (.int c),v8,some (.ref p),v10,v11,none,none] H2:=λv10 v11 =>
    ⟨z1,z2,m,kd,L,i,c,lsd,v8,p,l,v10,v11,rfl,hci,hm,him,hLn,hpn,npL,s2,hLL,hil,hok,hp,ok,nx⟩
   refine⟨_,rfl,rfl,_,rfl,qm (λ_=>?_) (λ_=>yp (stay _ _))⟩;refine⟨_,rfl,_,_,rfl,rfl,_,rfl,qm (λe=>?_) (λ_=>stay _ _)⟩;have hm2:2<m:=of_decide_eq_true e
   obtain⟨z,hz,ez⟩:=zge (z1 / 32 % 4) (Int.emod_nonneg _ (by decide)) (Int.emod_lt_of_pos _ (by decide))
   refine⟨_,rfl,(by show 4<=sizeLine;decide),λtp htp=>?_⟩
   refine⟨_,rfl,_,_,rfl,rfl,⟨by decide,by decide⟩,?_⟩
   refine⟨_,_,rfl,rfl,(by show (0:Int)<4;decide),?_⟩
   refine⟨tp,_,_,_,rfl,rfl,SqT.of ze,ez,_,_,rfl,?_⟩
   have hr3:3<=(if z<m then z else m)/\(if z<m then z else m)<=m:=by split <;> omega
   generalize (if z<m then z else m)=r at hr3
   have s3:zj H2 (upd H2 tp (.tup [.int 3,.int 5,.int 3,.int 4])):=TX.zj.upd (zj.refl _) htp;have hp3:=s3 _ _ hp;have hLL3:=Of.same mI hLL s3;have s23:=s2.trans s3;generalize upd H2 tp (.tup [.int 3,.int 5,.int 3,.int 4])=H3 at s3 hp3 hLL3 s23;obtain⟨xs,hLx,_⟩:=id hLL3;refine⟨_,rfl,_,rfl,_,_,rfl,rfl,_,rfl,qm (λe2=>?_) (λ_=>?_)⟩
   ·have hcr:c<r:=of_decide_eq_true e2
    refine⟨_,rfl,_,_,rfl,rfl,_,rfl,_,_,rfl,rfl,(by omega),?_⟩
    refine⟨_,rfl,_,rfl,_,_,rfl,rfl,_,_,rfl,rfl,_,rfl,_,_,rfl,rfl,(by omega),(by show 2<=sizeLine;decide),λft hft=>?_⟩
    have s4:zj H3 (upd H3 ft (.lst [.int ((c+1) % r),.int ((c+r-1) % r)])):=TX.zj.upd (zj.refl _) hft;have hft4:upd H3 ft (.lst [.int ((c+1) % r),.int ((c+r-1) % r)]) ft=some (.lst ([(c+1) % r,(c+r-1) % r].map V.int)):=ze;refine⟨_,rfl,?_⟩;dsimp only;have hl:=ZP ok
    refine zee (K:=K) (p:=p) (r:=ft) (l:=l) (f:=[(c+1) % r,(c+r-1) % r]) (by omega) rfl (s4 _ _ hp3) hft4 (λR z=>⟨_,rfl,z⟩) λb hb=>?_
    have s5:=s4.trans (TX.zj.upd (o:=.lst ((l.filter λx=>decide (¬x∈[(c+1) % r,(c+r-1) % r])).map V.int)) (zj.refl _) hb);refine⟨ft,b,_,_,rfl,rfl,Zk hft4 hb,ze,?_,λq hq=>?_⟩
    ·rw[List.length_map,List.length_map]
     have:=List.length_filter_le (λx=>decide (¬x∈[(c+1) % r,(c+r-1) % r])) l;have e3:[(c+1) % r,(c+r-1) % r].length=2:=rfl
     have e4:(1000:Nat)<=sizeLine:=by decide
     omega
    ·rw[<-List.map_append]
     have s6:=s5.trans (TX.zj.upd (o:=.lst (([(c+1) % r,(c+r-1) % r]++l.filter λx=>decide (¬x∈[(c+1) % r,(c+r-1) % r])).map V.int)) (zj.refl _) hq);have hqH:H q=none:=(s23.trans s5).free hq;refine⟨z1,z2,m,kd,L,i,c,lsd,v8,q,_,_,_,rfl,hci,hm,him,hLn,hqH,(zx (s5 _ _ hLx) hq).symm,s23.trans s6,Of.same mI hLL3 s6,hil,hok,ze,?_,nx⟩;rw[<-hci] at ok ⊢
     exact ok.ring (by omega) hcr hr3.1 (by omega)
   ·exact⟨z1,z2,m,kd,L,i,c,lsd,v8,p,l,_,v11,rfl,hci,hm,him,hLn,hpn,npL,s23,hLL3,hil,hok,hp3,ok,nx⟩
  case c3 =>
   subst eM2;rintro D σ H2 ⟨z1,z2,m,kd,L,i,c,lsd,v8,p,l,v10,v11,rfl,hci,hm,him,hLn,hpn,npL,s2,hLL,hil,hok,hp,ok,nx⟩;obtain⟨xs,hLx,r⟩:=id hLL;have hxl:=r.length
   refine⟨_,rfl,.inl ⟨rfl,_,SqL.of hLx⟩,_,rfl,L,xs,_,rfl,rfl,hLx,zr (by omega),nx _ _ ?_⟩
   refine⟨_,_,_,_,_,lsd++[l],rfl,TX.zj.upd s2 hLn,LL.push hLx r hp npL,by rw[List.length_append,hil];rfl,?_⟩
   exact hok.snoc (by rw[hil];exact ok)
  case c4 =>
   subst eM4;rintro D σ H2 ⟨hD,z1,z2,m,kd,L,v7,v8,v9,v10,v11,ls,rfl,s2,hLn,hLL,hV,hm⟩;have hl6:=hV.le;have hl1:=hV.pos;refine⟨_,rfl,rfl,_,rfl,qm (λ_=>⟨_,rfl,?_⟩) (λ_=>?_)⟩
   ·rw[hD];exact fin L H2 ls hLn s2 hLL hV
   ·refine⟨_,rfl,_,_,rfl,rfl,⟨by decide,by decide⟩,_,rfl,_,_,rfl,rfl,(by omega),?_⟩
    obtain⟨xs,hLx,r⟩:=id hLL;have hxl:=r.length;dsimp only;refine Yk ?_
    refine zgP (K:=K) (by omega) hLx (λR z=>⟨_,rfl,z⟩) λtt H3 htt s3 hT=>?_
    rw[hxl] at hT;have s23:=s2.trans s3;have htH:=s2.free htt
    refine⟨_,rfl,m,rfl,by omega,by omega,?_⟩
    refine ZR (lo:=0) (n:=m.toNat) (λi σ H4=>∃v7 lsT,σ=[some (.ref a),some (.int k),some (.int z1),some (.int z2),some (.int m),some (.int kd),some (.ref L),v7,v8,v9,v10,v11,some (.int (z1 / 128 % m)),some (.ref tt)]/\zj H2 H4/\LL H4 tt lsT/\lsT.length=ls.length/\qS ls.length lsT)
     ⟨v7,_,rfl,s3,hT,by rw[List.length_replicate],zd1 _ _⟩ ?_ ?_
    ·rintro i σ H4 hi ⟨v7,lsT,rfl,s4,hT4,htl,htok⟩
     have hLL4:=Of.same mI hLL s4
     have hi6:(i:Int)<ls.length:=by omega
     obtain⟨xs4,b,hL4,hb,hb'⟩:=LL.at hLL4 (show 0<=(0:Int)+(i:Int) by omega) (by omega)
     have okb:=YX hV (show 0<=(0:Int)+(i:Int) by omega) (by omega)
     have hlb:=ZP okb;refine qi ?_;dsimp only;refine WW ?_
     refine zf6 (K:=K) (p:=b) (l:=lof ls (0+(i:Int))) (m:=m) (s:=(z1 / 128 % m)) (by omega) (by omega) rfl hb' (λR z=>⟨_,rfl,_,rfl,L,_,_,_,rfl,rfl,SqL.of hL4,hb,z⟩) λc hc=>?_
     obtain⟨xt,hTx,rt⟩:=id (Of.same mI hT4 (TX.zj.upd (o:=.lst (((lof ls (0+(i:Int))).map λx=>(x+(z1 / 128 % m)) % m).map V.int)) (zj.refl H4) hc));have hxtl:=rt.length
     have b1:0<=(0+(i:Int)+(z1 / 128 % m)) % m:=Int.emod_nonneg _ (by omega)
     have b2:(0+(i:Int)+(z1 / 128 % m)) % m<m:=Int.emod_lt_of_pos _ (by omega)
     refine⟨_,rfl,_,rfl,_,rfl,_,_,rfl,rfl,_,rfl,_,_,rfl,rfl,(by omega),tt,xt,_,_,rfl,rfl,hTx,jU b1 (by omega),?_⟩
     have nct:c≠tt:=λz=>by rw[<-z] at hTx;rw[ze] at hTx;obtain⟨x4,h4,_⟩:=hT4;rw[<-z] at h4;rw[hc] at h4;cases h4
     have nLt:L≠tt:=λz=>by rw[<-z] at htt;rw[hLx] at htt;cases htt
     have s5:zj H4 (upd H4 c (.lst (((lof ls (0+(i:Int))).map λx=>(x+(z1 / 128 % m)) % m).map V.int))):=TX.zj.upd (zj.refl _) hc
     refine⟨_,lsT.set ((0+(i:Int)+(z1 / 128 % m)) % m).toNat ((lof ls (0+(i:Int))).map λx=>(x+(z1 / 128 % m)) % m),rfl,TX.zj.upd (s4.trans s5) htt,LL.setAt hTx rt ze nct _,by rw[List.length_set];exact htl,?_⟩
     refine htok.set ?_
     have:=okb.shift (s:=(z1 / 128 % m)) (show 0<=(0:Int)+(i:Int) by omega) (by omega)
     rw[show ((((0+(i:Int)+(z1 / 128 % m)) % m).toNat:Nat):Int)=(0+(i:Int)+(z1 / 128 % m)) % (ls.length:Int) by rw[<-hm];omega]
     rw[<-hm] at this ⊢;exact this
    ·rintro σ H4 ⟨v7,lsT,rfl,s4,hT4,htl,htok⟩
     refine⟨_,rfl,?_⟩;rw[hD];refine fin tt H4 lsT htH (s2.trans s4) hT4 ?_
     exact qS.valid (by rw[htl];exact htok) (by omega) (by omega)
  case c1 =>
   subst eM1;rintro D σ H1 ⟨hD,z1,z2,m,rfl,hm,s1⟩
   refine⟨_,rfl,_,_,rfl,rfl,⟨by decide,by decide⟩,_,_,rfl,rfl,(by show (0:Int)<4;decide),?_⟩
   refine⟨Nat.zero_le _,λL hL=>?_⟩;have hLn:H L=none:=s1.free hL
   refine⟨_,rfl,m,rfl,by omega,by omega,?_⟩
   refine ZR (lo:=0) (n:=m.toNat) (LPv H a k z1 z2 m (z1 / 8 % 4) L) ⟨none,none,none,none,none,[],rfl,TX.zj.upd s1 hLn,⟨[],ze,.nil⟩,rfl,zd2 _⟩ ?_ ?_
   ·rintro i σ H2 hi ⟨v7,v8,v9,v10,v11,lsd,rfl,s2,hLL,hil,hok⟩
    have him:(i:Int)<m:=by omega
    have e0:(0:Int)+(i:Int)=(i:Int):=by omega
    obtain⟨xs,hLx,r⟩:=id hLL;refine qi ?_;rw[e0];dsimp only;refine Yl ?_;refine Yk ?_
    refine others (n:=m.toNat) (c:=(i:Int)) (by omega) rfl (λR z=>⟨_,rfl,by rw[show ((m.toNat:Nat):Int)=m by omega] at z;exact z⟩) λq hq=>?_
    have ok0:=zc6 m.toNat (i:Int);generalize hl0:(rng m.toNat).filter (λx=>decide (x≠(i:Int)))=l0 at ok0;have hl00:=ZP ok0;refine⟨Nat.zero_le _,λp hp=>?_⟩
    have hpq:p≠q:=λz=>by rw[z,ze] at hp;cases hp
    have hp2:H2 p=none:=by rw[zq hpq] at hp;exact hp
    have s3:zj H2 (upd (upd H2 q (.lst (l0.map V.int))) p (.lst [])):=TX.zj.upd (TX.zj.upd (zj.refl _) hq) hp2
    refine⟨λn σ H3=>∃told left,σ=[some (.ref a),some (.int k),some (.int z1),some (.int z2),some (.int m),some (.int (z1 / 8 % 4)),some (.ref L),some (.int (i:Int)),some (.ref q),some (.ref p),v10,v11,none,none]/\zj H2 H3/\H3 q=some (.lst (left.map V.int))/\H3 p=some (.lst (told.map V.int))/\QY m.toNat i (told++left)/\n=left.length,
     ⟨_,[],l0,rfl,s3,z8 ze hpq.symm,ze,ok0,rfl⟩,?_⟩
    rintro n σ H3 ⟨told,left,rfl,s3,hq3,hp3,ok,rfl⟩;have hlen:=ZP ok;rw[List.length_append] at hlen;refine⟨_,rfl,Nat.zero_le _,λe he=>?_⟩;have s4:zj H3 (upd H3 e (.lst [])):=TX.zj.upd (zj.refl _) he;refine⟨_,_,yN (s4 _ _ hq3),qt ze,jC _ 8,Ys,λw=>⟨_,rfl,yp ?_⟩,λw=>⟨_,rfl,Qt ?_⟩⟩
    ·have:left=[]:=zbm.mp w
     subst this;rw[List.append_nil] at ok;subst eM2;exact⟨z1,z2,m,_,L,i,_,lsd,_,p,told,v10,v11,rfl,rfl,hm,him,hLn,s2.free hp2,(zx hLx hp2).symm,s2.trans (s3.trans s4),Of.same mI hLL (s3.trans s4),hil,hok,s4 _ _ hp3,ok,λ_ _ z=>z⟩
    ·have hpos:0<left.length:=by
      cases hq:left with
      | nil=>exact absurd (zbm.mpr hq) w
      | cons x r=>simp
     refine⟨λσ' H'=>∃m',m'<left.length/\∃told left,σ'=[some (.ref a),some (.int k),some (.int z1),some (.int z2),some (.int m),some (.int (z1 / 8 % 4)),some (.ref L),some (.int (i:Int)),some (.ref q),some (.ref p),v10,v11,none,none]/\zj H2 H'/\H' q=some (.lst (left.map V.int))/\H' p=some (.lst (told.map V.int))/\QY m.toNat i (told++left)/\m'=left.length,λ_ _ z=>z,?_⟩;have hq4:=s4 _ _ hq3;refine⟨_,rfl,.inl ⟨rfl,_,SqL.of (s4 _ _ hp3)⟩,_,rfl,.inl ⟨rfl,_,SqL.of hq4⟩,?_⟩
     refine⟨_,rfl,_,_,rfl,rfl,⟨by decide,by decide⟩,_,rfl,_,_,rfl,rfl,.inl ⟨by omega,by omega⟩,_,_,rfl,rfl,?_⟩
     refine⟨_,rfl,q,_,rfl,.inl (SqL.of hq4),_,rfl,q,_,rfl,.inl (SqL.of hq4),_,_,_,rfl,by rw[List.length_map];omega,λz H5 z0 z1' s5=>?_⟩
     rw[List.length_map] at z1'
     have hzl:z.toNat<left.length:=by omega
     have hq5:=s5 _ _ hq4
     refine⟨q,_,z,z.toNat,.int left[z.toNat],rfl,rfl,hq5,by omega,by omega,ziy z0 (by rw[List.length_map];omega),by simp[hzl],?_⟩
     have hp6:upd H5 q (.lst ((left.map V.int).eraseIdx z.toNat)) p=some (.lst (told.map V.int)):=z8 (s5 _ _ (s4 _ _ hp3)) hpq
     refine⟨p,_,_,rfl,rfl,hp6,zr (by rw[List.length_map];omega),?_⟩
     have ez:left[z.toNat]?=some left[z.toNat]:=by simp[hzl]
     have ee:(left.map V.int).eraseIdx z.toNat=(left.eraseIdx z.toNat).map V.int:=zfC _ _
     refine⟨(left.eraseIdx z.toNat).length,by rw[List.length_eraseIdx,if_pos hzl];omega,told++[left[z.toNat]],left.eraseIdx z.toNat,rfl,TX.zj.upd (TX.zj.upd ((s3.trans s4).trans s5) hq) hp2,?_,?_,ok.pop ez,rfl⟩
     ·rw[zq hpq.symm,ze,ee]
     ·rw[ze,List.map_append];rfl
   ·rintro σ H2 ⟨v7,v8,v9,v10,v11,lsd,rfl,s2,hLL,hil,hok⟩
    subst eM4
    refine⟨hD,z1,z2,m,_,L,v7,v8,v9,v10,v11,lsd,rfl,s2,hLn,hLL,?_,by omega⟩
    exact qS.valid (by rw[hil];exact hok) (by omega) (by omega)
  ·refine⟨_,rfl,_,rfl,a,ns,k,rfl,hS,hk,λz1=>?_⟩
   refine⟨_,rfl,_,rfl,_,_,rfl,rfl,a,ns,_,rfl,hS,by omega,λz2=>?_⟩
   obtain⟨m,hm,em⟩:=zgw (z1 % 8) (Int.emod_nonneg _ (by decide)) (Int.emod_lt_of_pos _ (by decide))
   refine⟨(by show 8<=sizeLine;decide),λp hp=>?_⟩
   refine⟨_,rfl,_,_,rfl,rfl,(by show (0:Int)<8;decide),?_⟩
   refine⟨p,_,_,_,rfl,rfl,SqT.of ze,em,?_⟩;have s1:zj H (upd H p (.tup [.int 4,.int 3,.int 4,.int 2,.int 4,.int 3,.int 4,.int 1])):=TX.zj.upd (zj.refl H) hp
   refine⟨_,rfl,_,_,rfl,rfl,⟨by decide,by decide⟩,_,_,rfl,rfl,(by show (0:Int)<8;decide),rfl,_,rfl,?_⟩
   refine qm (λ_=>?_) (λ_=>?_)
   ·refine⟨_,rfl,_,_,rfl,rfl,⟨by decide,by decide⟩,_,_,rfl,rfl,(by show (0:Int)<4;decide),_,_,rfl,rfl,⟨by decide,by decide⟩,_,_,rfl,rfl,?_⟩
    subst eM1;refine⟨rfl,z1,z2,_,rfl,?_,s1⟩
    have h1:0<=z1 / 2048 % 4:=Int.emod_nonneg _ (by decide)
    have h2:z1 / 2048 % 4<4:=Int.emod_lt_of_pos _ (by decide)
    omega
   ·subst eM1
    exact⟨rfl,z1,z2,m,rfl,by omega,s1⟩
end
end Tp
namespace Tp
open PySem PySem.Spec PyProof.Rows L2 TX TM TK
seal PySem.Sem.wp
theorem _root_.TK.boot_ValueError:bootBuiltins "ValueError"=some (.type "ValueError"):=by decide +kernel
section
variable {P:Program}{w:World}{K:PySem.W.Frag}{mg:Str->Option Value}{base:Heap}{t:Adr}
theorem Qc{a:Addr}:∀u,Zo (.ref a) u->u=.ref a:=λu r=>r
theorem zcZ{X:Cx}{ea:Addr}{xe:Value->Shared->Prop}{o:Expr}{to:TE}{name:Str}{apos cpos:Pos}{T id:String}{r:V->List V->Hp->VK->Prop}(pa:PlainAttrs T)(slot:Slot T name id)(hty:typeOf (.builtin id)=pure (.type "method_descriptor"))(hm:MtR (TX.cxS X ea xe) id r)(ho:PE (TX.cxS X ea xe) o to)
  (hb:attributeBase o name X.env (eval o X.env)=eval o X.env:=by rfl) (hl:(apos.endLine==cpos.line)=true:=by rfl):PE (TX.cxS X ea xe) (.Call (.Attribute o name apos) [] [] cpos) (zje X.K T r to):=zhA (X:=TX.cxS X ea xe) pa slot hty hm ho hb hl
theorem ze3{X:Cx}{ea:Addr}{xe:Value->Shared->Prop}:IxR (TX.cxS X ea xe) (zcc X.K):=zA
def zea(Ex:Ls->Hp->Prop)(C X:Addr):Sp:=λvs H _ E=>∃(p:Addr) (ls:Ls),vs=[.ref p]/\zY C H p ls/\Valid ls/\TN.zo ls=[]/\Ex ls H/\zca X ls H E
def zhg(Ex:Ls->Hp->Prop)(C f:Addr):Sp:=λvs H Q _=>∃(a p:Addr) (ls:Ls),vs=[.ref a,.ref p,.ref f]/\LL H a ls/\zY C H p ls/\Valid ls/\TN.zo ls=[]/\Ex ls H/\∀H',zj H H'->Q (.bl true) H'
theorem zgF{ls R:Ls}(h:YK ls R=true):R≠[]:=λz=>by
 subst z;unfold YK at h;have:zbM ([]:Ls)=[]:=rfl;rw[this] at h;simp at h
set_option maxHeartbeats 2000000 in
theorem Jz(T:Txt K mg t){Ex:Ls->Hp->Prop}{f:Addr}(F:TX.FnV P w K mg base (TX.CXb false P w t.X_NoneSteady) 22 f (zea Ex t.C t.X_NoneSteady)) :
  FnOk P w K mg base CX0 23 t.law_refused t.fd_law_refused ["_law_lists_here","_law_camp","_law_ask"] (zhg Ex t.C f):=by
 have S:=Jf;have h_BadCamp:=T.mg_BadCamp;have h_BadPairs:=T.mg_BadPairs;have h_NoCamper:=T.mg_NoCamper;have h_NoneSteady:=T.mg_NoneSteady;have h_BadText:=T.mg_BadText;have G_good:=zeS (P:=P) (w:=w) (base:=base) T;refine T.law_refused.fn.ok S (λvs H Q E h=>?_) (λcdv A outer s H vs Q E hr h=>?_)
 ·obtain⟨a,p,ls,rfl,_⟩:=h;rfl
 ·obtain⟨a,p,ls,rfl,hL,hC,hV,hn,hEx,fin⟩:=h
  refine⟨_,(zg (TX.zex (C:=t.X_NoneSteady) (B:=t.X_CampError) (i:=3) T.xc_NoneSteady.kt T.kt_CampError T.be_NoneSteady (by rfl) T.mg_CampError ⟨rfl,rfl⟩ rfl S.nd rfl rfl (λpn E2=>(zh (Zq (TX.zeE (k:=22) (i:=2) F hr rfl (.inl rfl) TX.ziH (zd (pv 1) zf))))) (λe xe=>(zg (zz (i:=4) S.nd rfl (loc rfl) (z4 (zd (zn TX.qj (by rfl) T.b_isinstance TK.zw (zd (pv 3) (zd (YS (v:=.ref t.X_BadCamp) (by rfl) h_BadCamp (by first|exact⟨_,rfl⟩|rfl)) zf))) (zd (zn TX.qj (by rfl) T.b_isinstance TK.zw (zd (pv 3) (zd (YS (v:=.ref t.X_BadPairs) (by rfl) h_BadPairs (by first|exact⟨_,rfl⟩|rfl)) zf))) (zd (zn TX.qj (by rfl) T.b_isinstance TK.zw (zd (pv 3) (zd (YS (v:=.ref t.X_NoCamper) (by rfl) h_NoCamper (by first|exact⟨_,rfl⟩|rfl)) zf))) zf)))))
   (zg (zO (Qd (zI (zn TX.zdX (by rfl) T.b_any TK.jf (zd (pv 4) zf))) (Qd (zI (zn TX.qj (by rfl) T.b_isinstance TK.zw (zd (pv 3) (zd (YS (v:=.ref t.X_BadText) (by rfl) h_BadText (by first|exact⟨_,rfl⟩|rfl)) zf)))) (YE (zQ (zI (zn TX.qj (by rfl) T.b_isinstance TK.zw (zd (pv 3) (zd (YS (v:=.ref t.X_NoneSteady) (by rfl) h_NoneSteady (by first|exact⟨_,rfl⟩|rfl)) zf)))))))).pt (zh (zy Z8)) zv)
   (zg (zO (Qd (zQ (zI (zn TX.zfg (by rfl) T.b_isinstance TK.zw (zd (TX.wc T.ii_NoneSteady T.xc_NoneSteady T.nx_rings (pv 3) rfl) (zd (ye (v:=.ty "list") (by rfl) T.b_list TK.zV (by rfl)) zf))))) (YE (zQ (zI (TX.zeG (k:=4) (E:=E0) G_good ((TX.RoomN.of (hr.mono (by decide))).mark) (by rfl) T.law_good.mg T.law_good.fn.kp T.law_good.b .nil (zd (pv 0) (zd (TX.wc T.ii_NoneSteady T.xc_NoneSteady T.nx_rings (pv 3) rfl) zf))))))).pt (zh (zy Z8)) zv)
   (zg (Zq (zcZ PySem.F.plainAttrs_list PySem.F.slot_list_clear PySem.F.type_list_clear zbe (zU ze3 (TX.wc T.ii_NoneSteady T.xc_NoneSteady T.nx_rings (pv 3) rfl) zm (λ_ _=>rfl))))
   (zg (Zq (zcZ PySem.F.plainAttrs_list PySem.F.slot_list_clear PySem.F.type_list_clear zbe (TX.wc T.ii_NoneSteady T.xc_NoneSteady T.nx_rings (pv 3) rfl)))
   (zh (zy (zn TX.qj (by rfl) T.b_isinstance TK.zw (zd (pv 3) (zd (ye (v:=.ty "ValueError") (by rfl) T.b_ValueError TK.boot_ValueError (by rfl)) zf))))))))))))
   (zh (zy Z8))),?_⟩
  refine⟨rfl,_,rfl,p,ls,rfl,hC,hV,hn,hEx,λH1 dx wa R s1 hdx hF hR=>?_⟩;intro ex hex H2 k2 fz;have hl6:=hV.le;have s2:zj H1 H2:=k2;have hdx2:=s2 _ _ hdx;have hF2:YG H H2 wa R:=hF.keep λb o e=>s2 _ _ e;have s02:=s1.trans s2;clear k2 hdx hF hex
  refine⟨_,rfl,ex,_,_,_,_,_,rfl,Qc,fz,T.xc_NoneSteady,T.kx_NoneSteady_BadCamp,_,rfl,ex,_,_,_,_,_,rfl,Qc,fz,T.xc_NoneSteady,T.kx_NoneSteady_BadPairs,_,rfl,ex,_,_,_,_,_,rfl,Qc,fz,T.xc_NoneSteady,T.kx_NoneSteady_NoCamper,(by show 3<=sizeLine;decide),λl hl=>?_⟩
  have s3:zj H2 (upd H2 l (.lst [.bl false,.bl false,.bl false])):=TX.zj.upd (zj.refl _) hl;have fz3:=fz.same s3;have hl3:upd H2 l (.lst [.bl false,.bl false,.bl false]) l=some (.lst ([false,false,false].map V.bl)):=ze;generalize upd H2 l (.lst [.bl false,.bl false,.bl false])=H3 at s3 fz3 hl3;have hdx3:=s3 _ _ hdx2;have hF3:YG H H3 wa R:=hF2.keep λb o e=>s3 _ _ e;have s03:=s02.trans s3;refine⟨_,rfl,l,[false,false,false],_,_,rfl,SqL.of hl3,fz3,_,rfl,Yw rfl ?_⟩;refine⟨_,rfl,ex,_,_,_,_,_,rfl,Qc,fz3,T.xc_NoneSteady,T.kx_NoneSteady_BadText,_,rfl,Yw rfl ?_⟩;refine⟨_,rfl,ex,_,_,_,_,_,rfl,Qc,fz3,T.xc_NoneSteady,T.kx_NoneSteady_NoneSteady,_,rfl,yp ?_⟩;obtain⟨hwn,xs,hwa,rx⟩:=id hF3;obtain⟨hwf,hfl,hgd⟩:=hR;have hrl:=Qq λr h=>(hwf r h).1;refine⟨_,rfl,ex,dx,_,_,rfl,fz3,hdx3,rfl,_,_,_,_,_,rfl,Z9,.lst hwa,ZJ,_,rfl,yp ?_⟩
  refine⟨_,rfl,_,rfl,ex,dx,_,_,rfl,fz3,hdx3,rfl,⟨_,_,fz3⟩,a,wa,ls,R,rfl,Of.same mI hL s03,hV,hF3.ll,λring h=>(hwf ring h).2,by omega,by omega,λH4 s4=>?_⟩
  rw[hgd];refine⟨_,rfl,yp ?_⟩;have fz4:=fz3.same s4;have hdx4:=s4 _ _ hdx3;have hwa4:=s4 _ _ hwa;have s04:=s03.trans s4
  cases rx with
  | nil=>exact absurd rfl (zgF hgd)
  | @cons v r0 xt Rt q1 rt =>
   obtain⟨b0,rfl,hb0n,hb0⟩:=q1;have hb4:=s4 _ _ hb0;have nbw:b0≠wa:=LL.apart hwa4 List.mem_cons_self hb4
   have nbe:b0≠ex:=λz=>by
    obtain⟨o,fs,_,_,h3⟩:=fz4;rw[z,h3] at hb4;cases hb4
   have nwe:wa≠ex:=λz=>by
    obtain⟨o,fs,_,_,h3⟩:=fz4;rw[z,h3] at hwa4;cases hwa4
   have nbd:dx≠b0:=Wm hdx4 hb4 (by intro z;cases z)
   refine⟨_,rfl,ex,dx,_,_,rfl,fz4,hdx4,rfl,wa,_,0,.ref b0,rfl,rfl,SqL.of hwa4,qu (by decide) rfl,.inl ⟨rfl,_,SqL.of hb4⟩,b0,_,rfl,rfl,hb4,?_⟩
   have fz5:=fz4.upd (o:=.lst []) nbe;have hwa5:upd H4 b0 (.lst []) wa=some (.lst (.ref b0::xt)):=z8 hwa4 (Ne.symm nbw);have hdx5:upd H4 b0 (.lst []) dx=some (.xd [("rings",.ref wa)]):=z8 hdx4 nbd;have s05:zj H (upd H4 b0 (.lst [])):=TX.zj.upd s04 hb0n;generalize upd H4 b0 (.lst [])=H5 at fz5 hwa5 hdx5 s05;refine⟨_,rfl,ex,dx,_,_,rfl,fz5,hdx5,rfl,.inl ⟨rfl,_,SqL.of hwa5⟩,wa,_,rfl,rfl,hwa5,?_⟩;have fz6:=fz5.upd (o:=.lst []) nwe;have s06:zj H (upd H5 wa (.lst [])):=TX.zj.upd s05 hwn;refine⟨_,rfl,ex,_,_,_,_,_,rfl,Z9,fz6,T.xc_NoneSteady,T.kv_NoneSteady,?_⟩;exact fin _ s06
theorem zb9(T:Txt K mg t)(kin:K.In base):TX.FnV P w K mg base (TX.CXb false P w t.X_NoneSteady) 22 t.alone (zea (λ_ _=>True) t.C t.X_NoneSteady):=by
 obtain⟨oc,od,kV,doc,pm,an,cdv,ct,osl,e,lk,_⟩:=T.alone.fn.ex
 refine TX.FnV.of (((zec (P:=P) (w:=w) (base:=base) T).mono (by decide)).imp (sp':=zea (λ_ _=>True) t.C t.X_NoneSteady) ?_) T.alone.b kin lk
 rintro vs H Q E ⟨p,ls,h1,h2,h3,h4,_,h5⟩;exact⟨p,ls,h1,h2,h3,h4,h5⟩
def zc4:Stmt:=.Pass ⟨0,0,0,0⟩
def zgL:Stmt->List Stmt
 | .For _ _ b _ _=>b
 | _=>[]
def zhV:Stmt->List Stmt
 | .If _ b _ _=>b
 | _=>[]
def zhU:Stmt->Expr
 | .If e _ _ _=>e
 | _=>.Constant .none 0 ⟨0,0,0,0⟩
def zik:Expr->Expr
 | .UnaryOp _ e _=>e
 | e=>e
def zgT(i:Nat):Expr->Expr
 | .Call _ as _ _=>as.getD i (.Constant .none 0 ⟨0,0,0,0⟩)
 | e=>e
def zid:Expr:=zgT 2 (zik (zhU ((zhV ((zgL ((yY QW).getD 3 zc4)).getD 4 zc4)).getD 1 zc4)))
def zhN:Arguments:=match zid with|.Lambda a _ _ _=>a|_=>QF zc4
def zhM:Expr:=match zid with|.Lambda _ b _ _=>b|e=>e
def zgA:Scope:=match zid with|.Lambda _ _ s _=>s|_=>zk zc4
def Jm:Pos:=match zid with|.Lambda _ _ _ p=>p|_=>⟨0,0,0,0⟩
def zdt:Str:=("law":Str)++".<locals>."++"<lambda>"
def ExL(K:PySem.W.Frag)(c' a b:Addr):Ls->Hp->Prop:=λls H=>TX.Jc H c' zdt/\(∃ns:List Int,SqL K H a (ns.map V.int))/\LL H b ls
set_option maxHeartbeats 1000000 in
theorem zfk(T:Txt K mg t){g c' a b ca cb:Addr}{clos:List (Str×Addr)}{pm ctv:Value}(hg:base.get? g=some (PySem.W.kla_obj "<lambda>" zdt zhN zhM zgA clos pm c' ctv))(h1:base.IsCell ca (some (.ref a)))(h2:base.IsCell cb (some (.ref b)))
  (la:clos.lookup ("_law_script":Str)=some ca) (lb:clos.lookup ("_law_lists_here":Str)=some cb) (hall:∀x c,clos.lookup x=some c->(x="_law_script"/\c=ca)\/(x="_law_lists_here"/\c=cb)) (hne:ca≠cb) :
  TX.FnV P w K mg base (TX.CXb false P w t.X_NoneSteady) 22 g (zea (ExL K c' a b) t.C t.X_NoneSteady):=by
 have X_mates:=zeb (P:=P) (w:=w) (base:=base) T;have G_cell:=zak (P:=P) (w:=w) (base:=base) T
 refine TX.zjJ (k:=21) (x0:="_law_one") hg h1 h2 la lb hall hne rfl rfl rfl (by decide +kernel) rfl rfl rfl ?_ (λu=>rfl) (λvs H Q E h=>?_) (λA outer s H v Q E hr h=>?_)
 ·intro x hx
  have e:∀y:Str×NameKind,y∈zgA.names->(y.2=.cell\/y.2=.free)->y.1="_law_script"\/y.1="_law_lists_here":=by decide +kernel
  rcases hx with hx|hx
  ·exact e (x,.cell) (PySem.mem_of_lookup hx) (.inl rfl)
  ·exact e (x,.free) (PySem.mem_of_lookup hx) (.inr rfl)
 ·obtain⟨p,ls,rfl,_,_,_,hx,_⟩:=h
  exact⟨_,rfl,hx.1⟩
 ·obtain⟨p,ls,hv,hC,hV,hn,⟨_,⟨ns,hS⟩,hL⟩,bad⟩:=h
  cases hv;obtain⟨ys,hb,ry⟩:=id hL;have hyl:=ry.length;have hpos:=hV.pos
  refine⟨_,(zp (k:=21) X_mates hr (by rfl) T.mates.mg T.mates.fn.kp T.mates.b .nil TX.zeH (zd (pv 0) (zd (zR yK (zp (k:=21) (G_cell.mono (by decide)) hr (by rfl) T.law_cell_at.mg T.law_cell_at.fn.kp T.law_cell_at.b .nil zG (zd (pv 1) (zd zm zf))) (zn zu (by rfl) T.b_len TK.zD (zd (pv 2) zf))) zf))),?_⟩
  refine⟨_,rfl,_,rfl,a,ns,2,rfl,hS,by decide,λz=>⟨_,rfl,b,_,rfl,.inl (SqL.of hb),_,_,rfl,rfl,?_⟩⟩
  rw[hyl]
  refine⟨by omega,p,ls,z % (ls.length:Int),rfl,hC,hV,Int.emod_nonneg _ (by omega),Int.emod_lt_of_pos _ (by omega),hn,bad⟩
end
end Tp
namespace Tp
open PySem PySem.Spec PyProof.Rows L2 TX TM TK
seal PySem.Sem.wp
section
variable {P:Program}{w:World}{K:PySem.W.Frag}{mg:Str->Option Value}{base:Heap}{t:Adr}
def zfo(K:PySem.W.Frag):TE:=zio (tCB (TX.zht K) (zS (z7 0) (zS (tC (.ty "bool")) YL))) (zfW (tCB (TX.zht K) (zS (z7 0) (zS (tC (.ty "int")) YL))))
theorem ziL{H:Hp}{z:Int}{r:L2.St}{Q:VK}(q:Q (.bl false) H):zfo K (some (.int z)::r) H Q :=
 ⟨_,rfl,_,_,_,_,_,rfl,Z9,.int _,QP,_,rfl,yp ⟨_,rfl,_,_,_,_,_,rfl,Z9,.int _,jS,_,rfl,q⟩⟩
theorem zd0(n:Nat):(List.replicate n false).any id=false:=by
 rw[List.any_eq_false];intro x hx;rw[(List.mem_replicate.mp hx).2];simp
theorem zdk{α β:Type}(n:Nat)(g:α->β)(x:α):(List.range n).map (λ_=>g x)=(List.replicate n x).map g:=by
 rw[List.map_const',List.map_replicate,List.length_range]
theorem zeh{ta:TE}{σ:L2.St}{H:Hp}{Q:VK}(h:ta σ H λx H1=>∃c,x=.bl c/\Q (.bl (!c)) H1):zfW ta σ H Q:=h
def zfr:Sp:=λvs H Q _=>∃(a b:Addr) (zs:List Int),vs=[.ref a,.ref b]/\H a=some (.lst (zs.map V.int))/\H b=some (.lst (zs.map V.int))/\zs.length<=100/\∀H',zj H H'->Q (.bl true) H'
theorem zdb(T:Txt K mg t):FnOk P w K mg base CX0 1 t.law_ones t.fd_law_ones ["_law_found","_law_due"] zfr:=by
 have S:=W4;refine T.law_ones.fn.ok S (λvs H Q E h=>?_) (λcdv A outer s H vs Q E hr h=>?_)
 ·obtain⟨a,b,zs,rfl,_⟩:=h;rfl
 ·obtain⟨a,b,zs,rfl,ha,hb,hz,fin⟩:=h
  have hu64:=hr.units
  refine⟨_,(zg (zO (Qd (zQ (zI (zn TX.zZ (by rfl) T.b_isinstance TK.zw (zd (pv 0) (zd (ye (v:=.ty "list") (by rfl) T.b_list TK.zV (by rfl)) zf))))) (YE (zF (TX.jA hu64) (pv 0) (pv 1) (zJ _)))).pt (zh (zy Z8)) zv)
   (zh (zy (zfx (zn (TX.wE rfl) (by rfl) T.b_any TK.jf (zd (TX.Zv (te:=zfo K) ["_law_one"] [none] rfl (zE (pv 0)) (λ_ _ _ _ _=>(zt (i:=0) (show (["_law_one"]:List Str).Nodup by decide +kernel) rfl (loc rfl))) (λ_ _ _ _ _=>TX.yd) (λ_ _ _ _ _=>(zeC (zn TX.zZ (by rfl) T.b_isinstance TK.zw (zd (pv 0) (zd (ye (v:=.ty "bool") (by rfl) T.b_bool TK.WK (by rfl)) zf))) (YQ (zfx (zn TX.zZ (by rfl) T.b_isinstance TK.zw (zd (pv 0) (zd (ye (v:=.ty "int") (by rfl) T.b_int TK.zbq (by rfl)) zf))))))) rfl (by decide +kernel) (by decide +kernel) (No:=["_law_found","_law_due"]) (sc:=zk yA) rfl rfl (by decide +kernel) rfl (by decide +kernel)) zf)))))),?_⟩
  refine⟨_,rfl,_,_,_,_,_,rfl,Z9,.lst ha,ZJ,_,rfl,yp ?_⟩;refine⟨_,rfl,_,rfl,_,_,yN ha,yN hb,jC _ 8,jC _ 8,λ_=>⟨_,rfl,yp ?_⟩,λn=>absurd rfl n⟩;unfold zfY;dsimp only;refine qz (zeh (qX (ZT ?_)))
  refine zic (K:=K) (p:=a) (xs:=zs.map V.int) (g:=λ_=>.bl false) (rest:=[]) (by rw[List.length_map];exact hz) rfl (SqL.of ha) (λR z=>by exact⟨_,rfl,z⟩) (λi x H1 R hx s1 h=>?_) λc H1 s1 hc=>?_
  ·obtain⟨z,_,rfl⟩:=Qn hx
   exact ziL (h H1 (zj.refl _))
  ·rw[zdk _ V.bl false]
   refine⟨c,_,rfl,SqL.of ze,_,rfl,?_⟩;rw[zd0];exact fin _ (TX.zj.upd s1 (s1.free hc))
def ziq(K:PySem.W.Frag):TE:=zf1 (tCB (TX.zht K) (zS (z7 0) (zS (tC (.ty "tuple")) YL))) (Qu zfr [] E0 (zS (tCB (TX.qG K) (zS (z7 0) YL)) (zS (tCB (TX.qG K) (zS (z7 0) YL)) YL)))
theorem zfl(n:Nat):(List.replicate n true).all id=true:=by
 rw[List.all_eq_true];intro x hx;rw[(List.mem_replicate.mp hx).2];rfl
def zix:Sp:=λvs H Q _=>∃(q:Addr) (pss:List Prs),vs=[.ref q]/\WL H q pss/\(∀ps∈pss,ps.length<=100)/\∀H',zj H H'->Q (.bl true) H'
theorem zhD(T:Txt K mg t):FnOk P w K mg base CX0 2 t.law_pairs t.fd_law_pairs ["_law_found"] zix:=by
 have S:=wX;have G_law_ones:=zdb (P:=P) (w:=w) (base:=base) T;refine T.law_pairs.fn.ok S (λvs H Q E h=>?_) (λcdv A outer s H vs Q E hr h=>?_)
 ·obtain⟨q,pss,rfl,_⟩:=h;rfl
 ·obtain⟨q,pss,rfl,hW,hl,fin⟩:=h
  obtain⟨xs,hq,r⟩:=id hW
  refine⟨_,(zg (Zc PassesOwn.never rfl (zE (pv 0)) (zt (i:=1) S.nd rfl (loc rfl)) (zh (zO (zQ (zI (zn (TX.je rfl) (by rfl) T.b_all TK.jg (zd (TX.Zv (te:=ziq K) ["_law_pair"] [none] rfl (zE (pv 1)) (λ_ _ _ _ _=>(zt (i:=0) (show (["_law_pair"]:List Str).Nodup by decide +kernel) rfl (loc rfl))) (λ_ _ _ _ _=>TX.yd) (λ_ _ _ _ _=>(jy (zn TX.zZ (by rfl) T.b_isinstance TK.zw (zd (pv 0) (zd (ye (v:=.ty "tuple") (by rfl) T.b_tuple TK.JL (by rfl)) zf))) (YQ (zp (k:=1) G_law_ones hr (by rfl) T.law_ones.mg T.law_ones.fn.kp T.law_ones.b .nil zG (zd (ZG TX.YA (by rfl) T.b_list TK.zV (zd (pv 0) zf)) (zd (ZG TX.YA (by rfl) T.b_list TK.zV (zd (pv 0) zf)) zf)))))) rfl (by decide +kernel) (by decide +kernel) (No:=["_law_found","_law_some"]) (sc:=zk yc) rfl rfl (by decide +kernel) rfl (by decide +kernel)) zf)))) (zh (zy Z8)) zv)))
   (zh (zy Z8))),?_⟩
  refine⟨_,rfl,q,rfl,⟨_,SqL.of hq⟩,Zj (K:=K) (a:=q) (xs:=xs) (λi σ H2=>∃v,σ=[some (.ref q),v]/\zj H H2) ⟨none,rfl,zj.refl H⟩ (λi σ H2 _ ⟨_,_,s2⟩=>SqL.of (s2 _ _ hq)) ?_ ?_⟩
  ·rintro i x σ H2 hi ⟨v,rfl,s2⟩
   obtain⟨ps,hps,b,rfl,hb⟩:=Paired.at1 r hi;obtain⟨ys,hy,ry⟩:=Of.same mP hb s2;have hyl:=ry.length;have hpl:=hl ps (List.mem_of_getElem? hps);refine qi ?_;dsimp only;refine jk (JS (zcu (qX (ZT ?_))))
   refine zic (K:=K) (p:=b) (xs:=ys) (g:=λ_=>.bl true) (rest:=[]) (by omega) rfl (SqL.of hy) (λR z=>by exact⟨_,rfl,z⟩) (λk x H3 R hx s3 h=>?_) λc H3 s3 hc=>?_
   ·obtain⟨⟨za,zb⟩,_,d,rfl,hd⟩:=Paired.at1 ry hx
    have hd3:=s3 _ _ hd;refine⟨_,rfl,_,_,_,_,_,rfl,Z9,.tup hd3,Y0,_,rfl,Qt ?_⟩;refine⟨_,rfl,d,_,rfl,.inr (SqT.of hd3),λl1 hl1=>?_⟩;have s4:=TX.zj.upd (o:=.lst [.int za,.int zb]) (zj.refl H3) hl1;refine⟨_,rfl,d,_,rfl,.inr (SqT.of (s4 _ _ hd3)),λl2 hl2=>?_⟩;have s5:=TX.zj.upd (o:=.lst [.int za,.int zb]) (zj.refl _) hl2
    exact⟨l1,l2,[za,zb],rfl,s5 _ _ ze,ze,(by show 2<=100;decide),λH6 s6=>h H6 (s4.trans (s5.trans s6))⟩
   ·rw[zdk _ V.bl true]
    refine⟨c,_,rfl,SqL.of ze,_,rfl,?_⟩;rw[zfl];exact yp ⟨_,rfl,s2.trans (TX.zj.upd s3 (s3.free hc))⟩
  ·rintro σ H2 ⟨v,rfl,s2⟩
   exact fin H2 s2
theorem zaO:∀(M:Prs) (xs:List Prs),xs.length<=(M.foldl TN.Yr xs).length
 | [],xs=>Nat.le_refl _
 | p::M,xs=>by
  rw[List.foldl_cons];refine Nat.le_trans ?_ (zaO M _);unfold TN.Yr;rw[List.length_append];omega
theorem wg(L:Prs)(i:Nat):(TN.zN (L.take i)).length<=(TN.zN L).length:=by
 have e:TN.zN L=(L.drop i).foldl TN.Yr (TN.zN (L.take i)):=by
  unfold TN.zN;rw[<-List.foldl_append,List.take_append_drop]
 rw[e];exact zaO _ _
theorem QL{ls:Ls}(hV:Valid ls):(TN.zN (Zw ls)).length<=100:=by
 have n1:=TN.qr (Zw ls) (λp hp=>by have:=TN.QB p hp;omega) (TN.Jv ls)
 have n2:(TN.ways ls 6 (rng ls.length)).Nodup:=TN.Y6 hV 6 _ (TN.ZK ls);have hp:(TN.zN (Zw ls)).Perm (TN.ways ls 6 (rng ls.length)):=(List.perm_ext_iff_of_nodup n1 n2).mpr (TN.Yp hV);have hwl:=TN.Yi ls 6 (rng ls.length)
 have hwb:=TN.wb6 (n:=(rng ls.length).length) (by rw[zM];exact hV.le)
 rw[hp.length_eq];omega
theorem Ji{ls:Ls}(hV:Valid ls)(i:Nat):∀ps∈TN.zN ((Zw ls).take i),ps.length<=36:=λps h=>by
 have:=((TN.yQ _ (λp hp=>by have:=TN.QB p (List.mem_of_mem_take hp);omega) ps).mp h).1.length_le
 have q2:=We hV;rw[List.length_take] at this;omega
def zjt(K:PySem.W.Frag):TE:=zio (tOp (rIn K false) (tOp (zia K) (z7 1) (tC (.int 0))) (z7 0)) (tOp (rIn K false) (tOp (zia K) (z7 1) (tC (.int 1))) (z7 0))
def Jq:Sp:=λvs H Q _=>∃(a:Addr) (ls:Ls),vs=[.ref a]/\LL H a ls/\Valid ls/\∀q H',H q=none->zj H H'->WL H' q (TN.zN (Zw ls))->Q (.ref q) H'
theorem zdC(x za zb:Int):inV (.int x) [.int za,.int zb]=TN.ww x (za,zb):=by
 show ((za==x)||((zb==x)||false))=_;unfold TN.ww;rw[Bool.or_false];congr 1
 ·rw[Bool.eq_iff_iff,beq_iff_eq,decide_eq_true_iff];exact eq_comm
 ·rw[Bool.eq_iff_iff,beq_iff_eq,decide_eq_true_iff];exact eq_comm
set_option maxHeartbeats 1000000 in
theorem zaj(T:Txt K mg t):FnOk P w K mg base CX0 3 t.law_pairings t.fd_law_pairings ["_law_lists_here"] Jq:=by
 have S:=jn;have G_law_open:=zgq (P:=P) (w:=w) (base:=base) T;refine T.law_pairings.fn.ok S (λvs H Q E h=>?_) (λcdv A outer s H vs Q E hr h=>?_)
 ·obtain⟨a,ls,rfl,_⟩:=h;rfl
 ·obtain⟨a,ls,rfl,hL,hV,fin⟩:=h
  refine⟨_,(zg (zz (i:=1) S.nd rfl (loc rfl) (z4 (zd (z4 zf) zf)))
   (zg (Zc PassesOwn.never rfl (zE (zp (k:=2) G_law_open hr (by rfl) T.law_open.mg T.law_open.fn.kp T.law_open.b .nil zG (zd (pv 0) zf))) (zt (i:=2) S.nd rfl (loc rfl)) (zg (zz (i:=3) S.nd rfl (loc rfl) (z4 zf))
   (zg (Zc PassesOwn.never rfl (zE (pv 1)) (zt (i:=4) S.nd rfl (loc rfl)) (zh (zO (zQ (zI (zn (TX.wE rfl) (by rfl) T.b_any TK.jf (zd (TX.Zv (te:=zjt K) ["_law_other","_law_pair"] [none,some 2] rfl (zE (pv 4)) (λ_ _ _ _ _=>(zt (i:=0) (show (["_law_other","_law_pair"]:List Str).Nodup by decide +kernel) rfl (loc rfl))) (λ_ _ _ _ _=>TX.yd) (λ_ _ _ _ _=>(zeC (Zr Z6 (zU Ye (pv 1) zm (λ_ _=>rfl)) (pv 0) (by with_unfolding_all rfl)) (YQ (Zr Z6 (zU Ye (pv 1) zm (λ_ _=>rfl)) (pv 0) (by with_unfolding_all rfl))))) rfl (by decide +kernel) (by decide +kernel) (No:=["_law_lists_here","_law_found","_law_pair","_law_more","_law_some"]) (sc:=zk ZD) rfl rfl (by decide +kernel) rfl (by decide +kernel)) zf)))) (zh (Zq (YI PySem.F.plainAttrs_list PySem.F.slot_list_append PySem.F.type_list_append ZQ (pv 3) (zd (zR Jx (pv 4) (z4 (zd (pv 2) zf))) zf)))) zv)))
   (zh (zz (i:=1) S.nd rfl (loc rfl) (zR Jx (pv 1) (pv 3)))))))
   (zh (zy (pv 1))))),?_⟩
  refine⟨Nat.zero_le _,λe1 he1=>⟨(by show 1<=sizeLine;decide),λf0 hf0=>?_⟩⟩
  have s1:zj H (upd H e1 (.lst [])):=TX.zj.upd (zj.refl H) he1;have s2:=TX.zj.upd (o:=.lst [.ref e1]) s1 (s1.free hf0)
  have hW0:WL (upd (upd H e1 (.lst [])) f0 (.lst [.ref e1])) f0 (TN.zN ((Zw ls).take 0)):=by
   refine⟨_,ze,.cons ⟨e1,rfl,[],Zk ze hf0,.nil⟩ ?_⟩;exact .nil
  have hf0H:H f0=none:=s1.free hf0;generalize upd (upd H e1 (.lst [])) f0 (.lst [.ref e1])=H1 at s2 hW0;refine⟨_,rfl,a,ls,rfl,Of.same mI hL s2,hV,λo H2 ho s3 hO=>?_⟩;obtain⟨os,ho2,ro⟩:=id hO;have hol:=ro.length;have s12:=s2.trans s3
  refine⟨o,rfl,⟨_,SqL.of ho2⟩,Zj (K:=K) (a:=o) (xs:=os) (λi σ H3=>∃f v2 v3 v4,σ=[some (.ref a),some (.ref f),v2,v3,v4]/\zj H2 H3/\H f=none/\WL H3 f (TN.zN ((Zw ls).take i)))
   ⟨f0,none,none,none,rfl,zj.refl _,hf0H,Of.same wo hW0 s3⟩ (λi σ H3 _ ⟨_,_,_,_,_,s4,_⟩=>SqL.of (s4 _ _ ho2)) ?_ ?_⟩
  ·rintro i y σ H3 hi ⟨f,v2,v3,v4,rfl,s4,hfH,hW⟩
   obtain⟨⟨za,zb⟩,hz,pt,rfl,hpt⟩:=Paired.at1 ro hi;have hpt3:=s4 _ _ hpt;obtain⟨xs,hf3,r⟩:=id hW;have hxl:=r.length;have hfew:=Nat.le_trans (wg (Zw ls) i) (QL hV)
   have et:(Zw ls).take (i+1)=(Zw ls).take i++[(za,zb)]:=by rw[List.take_add_one,hz];rfl
   generalize hpss:TN.zN ((Zw ls).take i)=pss at hW r hxl hfew
   have hsh:∀ps∈pss,ps.length<=36:=by rw[<-hpss];exact Ji hV i
   have en:TN.zN ((Zw ls).take (i+1))=pss++(pss.filter (TN.Y5 (za,zb))).map λps=>ps++[(za,zb)]:=by
    rw[et,TN.Yq,hpss];rfl
   refine qi ?_;refine⟨Nat.zero_le _,λm hm=>?_⟩;have s5:zj H3 (upd H3 m (.lst [])):=TX.zj.upd (zj.refl H3) hm;have hm5:upd H3 m (.lst []) m=some (.lst []):=ze;generalize upd H3 m (.lst [])=H5 at s5 hm5
   refine⟨_,rfl,f,rfl,⟨_,SqL.of (s5 _ _ hf3)⟩,Zj (K:=K) (a:=f) (xs:=xs) (λk σ H6=>∃v4 ys,σ=[some (.ref a),some (.ref f),some (.ref pt),some (.ref m),v4]/\zj H3 H6/\H6 m=some (.lst ys)/\Paired (λv ps=>∃b,v=V.ref b/\H3 b=none/\b≠m/\PL H6 b ps) ys (((pss.take k).filter (TN.Y5 (za,zb))).map λps=>ps++[(za,zb)]))
    ⟨v4,[],rfl,s5,hm5,by rw[List.take_zero];exact .nil⟩ (λk σ H6 _ ⟨_,_,_,s6,_⟩=>SqL.of (s6 _ _ hf3)) ?_ ?_⟩
   ·rintro k y σ H6 hk ⟨v4,ys,rfl,s6,hm6,rys⟩
    obtain⟨ps,hps,b,rfl,hb⟩:=Paired.at1 r hk;have hysl:=rys.length;have hb6:=Of.same mP hb s6;obtain⟨bs,hbs,rbs⟩:=id hb6;have hbl:=rbs.length;have hpl:=hsh ps (List.mem_of_getElem? hps);have hpt6:=s6 _ _ hpt3
    have ek:(pss.take (k+1))=pss.take k++[ps]:=by rw[List.take_add_one,hps];rfl
    refine qi ?_;dsimp only;refine jk (JS (zcu (qX (ZT ?_))))
    refine zic (K:=K) (p:=b) (xs:=bs) (g:=λj=>.bl ((λo=>TN.ww za o||TN.ww zb o) (ps.getD j (0,0)))) (rest:=[some (.ref pt)]) (by omega) rfl (SqL.of hbs) (λR z=>by exact⟨_,rfl,z⟩) (λj x H7 R hx s7 h=>?_) λc H7 s7 hc=>?_
    ·obtain⟨⟨xa,xb⟩,hj,d,rfl,hd⟩:=Paired.at1 rbs hx
     have ej:ps.getD j (0,0)=(xa,xb):=by rw[List.getD_eq_getElem?_getD,hj];rfl
     have hd7:=s7 _ _ hd;have hpt7:=s7 _ _ hpt6;have h:=h H7 (zj.refl _);rw[ej] at h
     refine⟨_,rfl,pt,_,0,_,rfl,rfl,SqT.of hpt7,qu (by decide) rfl,_,rfl,d,_,rfl,.inr (SqT.of hd7),rfl,rfl,_,rfl,?_⟩
     show if inV (.int za) [.int xa,.int xb]=true then _ else _
     rw[zdC];have h:R (.bl (TN.ww za (xa,xb)||TN.ww zb (xa,xb))) H7:=h;refine qm (λe=>?_) (λe=>?_)
     ·rw[e,Bool.true_or] at h;exact h
     ·rw[e,Bool.false_or] at h
      refine⟨_,rfl,pt,_,1,_,rfl,rfl,SqT.of hpt7,qu (by decide) rfl,_,rfl,d,_,rfl,.inr (SqT.of hd7),rfl,rfl,?_⟩
      show R (.bl (inV (.int zb) [.int xa,.int xb])) H7;rw[zdC];exact h
    ·have s8:=TX.zj.upd (o:=.lst ((List.range bs.length).map λj=>V.bl ((λo=>TN.ww za o||TN.ww zb o) (ps.getD j (0,0))))) (zj.refl H7) hc
     have hc8:upd H7 c (.lst ((List.range bs.length).map λj=>V.bl ((λo=>TN.ww za o||TN.ww zb o) (ps.getD j (0,0))))) c=some (.lst (((ps.map λo=>TN.ww za o||TN.ww zb o)).map V.bl)):=by
      rw[ze,List.map_map];congr 2;refine List.ext_getElem? λj=>?_;rw[List.getElem?_map,List.getElem?_map]
      by_cases hj:j<ps.length
      ·rw[List.getElem?_range (by omega),List.getElem?_eq_getElem hj]
       simp[List.getD,hj]
      ·rw[List.getElem?_eq_none (by rw[List.length_range];omega),List.getElem?_eq_none (by omega)];rfl
     generalize upd H7 c (.lst ((List.range bs.length).map λj=>V.bl ((λo=>TN.ww za o||TN.ww zb o) (ps.getD j (0,0)))))=H8 at s8 hc8;have s68:=s7.trans s8;refine⟨c,_,rfl,SqL.of hc8,_,rfl,?_⟩
     have ea:((ps.map λo=>TN.ww za o||TN.ww zb o).any id)=!(TN.Y5 (za,zb) ps):=by
      unfold TN.Y5;rw[Bool.not_not,List.any_map];rfl
     rw[ea];have rys8:Paired (λv ps=>∃b,v=V.ref b/\H3 b=none/\b≠m/\PL H8 b ps) ys (((pss.take k).filter (TN.Y5 (za,zb))).map λps=>ps++[(za,zb)]):=Paired.impl (λv ps ⟨b,e,n1,n2,h⟩=>⟨b,e,n1,n2,Of.same mP h s68⟩) rys
     cases hap:TN.Y5 (za,zb) ps with
     | false =>
      refine yp ⟨_,_,rfl,s6.trans s68,s68 _ _ hm6,?_⟩
      rw[ek,List.filter_append,List.filter_cons_of_neg (by rw[hap];decide),List.filter_nil,List.append_nil]
      exact rys8
     | true =>
      refine Qt ?_;have hbs8:=s68 _ _ hbs;have hm8:=s68 _ _ hm6
      refine⟨_,rfl,.inl ⟨rfl,_,SqL.of hm8⟩,_,rfl,_,rfl,(by show 1<=sizeLine;decide),λl1 hl1=>?_⟩
      have s9:=TX.zj.upd (o:=.lst [.ref pt]) (zj.refl H8) hl1;have hl19:upd H8 l1 (.lst [.ref pt]) l1=some (.lst [.ref pt]):=ze;generalize upd H8 l1 (.lst [.ref pt])=H9 at s9 hl19;refine⟨b,l1,bs,_,rfl,rfl,s9 _ _ hbs8,hl19,?_,λl2 hl2=>?_⟩
      ·have:bs.length+1<=1000:=by omega
       exact Nat.le_of_lt (zr this)
      have s10:=TX.zj.upd (o:=.lst (bs++[.ref pt])) (zj.refl H9) hl2;have hl2a:upd H9 l2 (.lst (bs++[.ref pt])) l2=some (.lst (bs++[.ref pt])):=ze;generalize upd H9 l2 (.lst (bs++[.ref pt]))=H10 at s10 hl2a;have s810:=s9.trans s10;have hm10:=s810 _ _ hm8;have hH9l2:H3 l2=none:=(s6.trans (s68.trans s9)).free hl2
      have nl2m:l2≠m:=λz=>by rw[z,s9 _ _ hm8] at hl2;cases hl2
      refine⟨m,ys,_,rfl,rfl,hm10,zr ?_,?_⟩
      ·rw[hysl,List.length_map]
       have q1:=List.length_filter_le (TN.Y5 (za,zb)) (pss.take k)
       have q3:(pss.take k).length<=pss.length:=by rw[List.length_take];exact Nat.min_le_right _ _
       omega
      ·have hP10:PL H10 l2 (ps++[(za,zb)]):=⟨_,hl2a,Paired.app (Paired.impl (λv q ⟨b,e,h⟩=>⟨b,e,(s68.trans s810) _ _ h⟩) rbs) (.cons ⟨pt,rfl,(s68.trans s810) _ _ hpt6⟩ .nil)⟩
       refine⟨_,_,rfl,TX.zj.upd (s6.trans (s68.trans s810)) hm,ze,?_⟩;rw[ek,List.filter_append,List.filter_cons_of_pos hap,List.filter_nil,List.map_append];refine Paired.app (Paired.impl (λv ps ⟨b,e,n1,n2,h⟩=>⟨b,e,n1,n2,PL.oth (Of.same mP h s810) hm10 n2⟩) rys8) (.cons ⟨l2,rfl,hH9l2,nl2m,PL.oth hP10 hm10 nl2m⟩ .nil)
   ·rintro σ H6 ⟨v4,ys,rfl,s6,hm6,rys⟩
    rw[hxl,List.take_length] at rys;have hysl:=rys.length
    have hml:((pss.filter (TN.Y5 (za,zb))).map λps=>ps++[(za,zb)]).length<=100:=by
     rw[List.length_map];exact Nat.le_trans (List.length_filter_le _ _) hfew
    refine⟨_,rfl,_,rfl,f,m,xs,ys,rfl,rfl,s6 _ _ hf3,hm6,?_,λf2 hf2=>?_⟩
    ·have hy1:ys.length<=100:=Nat.le_trans (Nat.le_of_eq hysl) hml
     have:xs.length+ys.length<=1000:=by omega
     exact Nat.le_of_lt (zr this)
    have s7:=TX.zj.upd (o:=.lst (xs++ys)) (zj.refl H6) hf2;refine⟨f2,_,_,_,rfl,s4.trans (s6.trans s7),s12.free ((s4.trans s6).free hf2),?_⟩;rw[en];exact⟨_,ze,Paired.app (Paired.impl (λv ps=>wo _ _ v ps (s6.trans s7)) r) (Paired.impl (λv ps ⟨b,e,_,_,h⟩=>⟨b,e,Of.same mP h s7⟩) rys)⟩
  ·rintro σ H3 ⟨f,v2,v3,v4,rfl,s4,hfH,hW⟩
   rw[hol,List.take_length] at hW;exact⟨_,rfl,fin f H3 hfH (s12.trans s4) hW⟩
end
end Tp
namespace Tp
open PySem PySem.Spec PyProof.Rows L2 TX TM TK
seal PySem.Sem.wp
section
variable {P:Program}{w:World}{K:PySem.W.Frag}{mg:Str->Option Value}{base:Heap}{t:Adr}
theorem zg1:∀{a b:List Prs},a.Perm b->a.Pairwise (λx y=>TX.pLt x y=true)->b.Pairwise (λx y=>TX.pLt x y=true)->a=b
 | [],b,p,_,_=>List.Perm.nil_eq p
 | x::a,[],p,_,_=>absurd p.length_eq (by simp)
 | x::a,y::b,p,ha,hb=>by
  rw[List.pairwise_cons] at ha hb
  have e:x=y:=by
   rcases List.mem_cons.mp (p.mem_iff.mp List.mem_cons_self) with h|h
   ·exact h
   ·rcases List.mem_cons.mp (p.mem_iff.mpr List.mem_cons_self) with h'|h'
    ·exact h'.symm
    ·have z:=TX.Wc (ha.1 y h') (hb.1 x h)
     rw[TX.zc5] at z;cases z
  subst e;rw[zg1 (List.Perm.cons_inv p) ha.2 hb.2]
def dWL(pss:List Prs):PySem.W.Dat:=.list (pss.map dPL)
theorem zed{H:Hp}{a:Addr}{pss:List Prs}(h:WL H a pss):TX.Dd K H (.ref a) (dWL pss):=by
 obtain⟨xs,e,r⟩:=h
 refine .lst (SqL.of e) (by rw[List.length_map];exact r.length) λi x d e1 e2=>?_
 obtain⟨ps,e3,b,rfl,hb⟩:=Paired.at1 r e1;rw[List.getElem?_map,e3] at e2;cases e2;exact PL.dd hb
theorem zba(pss:List Prs):PySem.W.kqdOk 9 (dWL pss)=true:=by
 unfold dWL;rw[PySem.W.kqdOk,List.all_map,List.all_eq_true];intro ps _;show PySem.W.kqdOk _ (.list (ps.map dP))=true;rw[PySem.W.kqdOk,List.all_map,List.all_eq_true];intro q _;simp[dP,PySem.W.kqdOk]
theorem zdR{pss:List Prs}:dWL pss=.list []↔pss=[]:=by
 constructor
 ·intro h
  unfold dWL at h
  injection h with h
  simpa using h
 ·rintro rfl;rfl
theorem ziP{H:Hp}{σ:L2.St}{a b:Addr}{ls:Ls}{pss:List Prs}{Q:VK}{tl:TE}{Hs:Hp}(hL:LL H a ls)(hV:Valid ls)(hW:WL H b pss)(hn:pss.length<=100)(hin:∀ps∈pss,∀p∈ps,InR ls p)(hσ:Ym σ [none,some 1]=[none,some (.ref a)])(htl:∀R:VK,R (.ref b) H->tl σ Hs R)
  (q:∀c H1 ys,zj H H1->H1 c=none->Paired (TX.RPL H1) ys (pss.filter (YN ls))->Q (.ref c) (upd H1 c (.lst ys))) :
  yZ [none,some 1] (qM K tl) (yX 0) (Yj (Qu Q1 [] E0 (zS (z7 1) (zS (z7 0) YL)))) (z7 0) σ Hs Q:=by
 obtain⟨xs,hb,r⟩:=hW;have hxl:=r.length
 refine htl _ ⟨b,rfl,⟨_,SqL.of hb⟩,λi m ys H1=>m=xs.length-i/\i<=xs.length/\zj H H1/\Paired (TX.RPL H1) ys ((pss.take i).filter (YN ls)),⟨_,rfl,Nat.zero_le _,zj.refl H,by rw[List.take_zero];exact .nil⟩,?_⟩
 rintro i m ys H1 ⟨rfl,hi,s1,ry⟩;have hyl:ys.length<=(pss.take i).length:=Nat.le_trans (Nat.le_of_eq ry.length) (List.length_filter_le _ _);rw[List.length_take] at hyl
 by_cases hlt:i<xs.length
 ·refine .inr ⟨⟨_,xs[i],SqL.of (s1 _ _ hb),by simp[hlt]⟩,zr (by omega),λv H' y=>?_⟩
  obtain⟨eH,y⟩:=y;rw[eH];clear eH H';have hx:=y _ (SqL.of (s1 _ _ hb));obtain⟨ps,hpi,d,rfl,hd⟩:=Paired.at1 r hx;have hd1:=Of.same mP hd s1;rw[hσ];refine⟨Kps.own,zaN (JT ⟨_,rfl,_,rfl,a,d,ls,ps,rfl,Of.same mI hL s1,hV,hd1,hin ps (List.mem_of_getElem? hpi),λH2 s2=>⟨_,rfl,?_⟩⟩)⟩
  have et:pss.take (i+1)=pss.take i++[ps]:=by rw[List.take_add_one,hpi];rfl
  refine qm (λz=>?_) (λz=>?_)
  ·refine⟨_,rfl,xs.length-(i+1),by omega,rfl,hlt,s1.trans s2,?_⟩
   rw[et,List.filter_append,List.filter_cons_of_pos z];exact Paired.app (Paired.impl (λv p=>wo _ _ v p s2) ry) (.cons ⟨d,rfl,Of.same mP hd1 s2⟩ .nil)
  ·refine⟨xs.length-(i+1),by omega,rfl,hlt,s1.trans s2,?_⟩
   rw[et,List.filter_append,List.filter_cons_of_neg (by rw[z];decide),List.filter_nil,List.append_nil]
   exact Paired.impl (λv p=>wo _ _ v p s2) ry
 ·have e:i=xs.length:=by omega
  subst e
  rw[List.take_of_length_le (by omega)] at ry
  exact .inl ⟨⟨_,SqL.of (s1 _ _ hb),Nat.le_refl _⟩,λc hc=>q c _ _ s1 hc ry⟩
theorem jz{ls:Ls}:∀ps∈TN.zN (Zw ls),∀p∈ps,InR ls p:=λps h p hp=>by
 have hm:=((TN.yQ _ (λp hp=>by have:=TN.QB p hp;omega) ps).mp h).1.subset hp
 obtain⟨h1,h2,h3,_⟩:=YT hm
 exact⟨h1,by omega,by omega,h3⟩
theorem zfc{ls:Ls}(hV:Valid ls):((TN.zN (Zw ls)).filter (YN ls)).Perm (TN.zo ls):=by
 have e:(TN.zN (Zw ls)).filter (YN ls)=(TN.zN (Zw ls)).filter λps=>decide (breaking ls ps=[]):=by
  refine List.filter_congr λps h=>?_;have pr:=(TN.zW hV 6 _ (TN.ZK ls) ps ((TN.Yp hV ps).mp h)).1;rw[Bool.eq_iff_iff,WX hV (jz ps h),decide_eq_true_iff];exact⟨λz=>z.2,λz=>⟨pr,z⟩⟩
 rw[e];exact TN.wj hV
def noT(H:Hp):Hp:=λx=>match H x with
 | some (.tbl _)=>none
 | o=>o
theorem QN{H:Hp}{x:Addr}{o:HO}(h:H x=some o)(n:∀ps,o≠.tbl ps):noT H x=some o:=by
 unfold noT;rw[h]
 cases o with
 | tbl ps=>exact absurd rfl (n ps)
 | _=>rfl
theorem zeW{H:Hp}:zj (noT H) H:=λx o h=>by
 unfold noT at h;split at h
 ·cases h
 ·exact h
theorem zgu{H:Hp}{x:Addr}{ps:Array Value}(h:H x=some (.tbl ps)):noT H x=none:=by
 unfold noT;rw[h]
theorem zfz{H:Hp}{b:Addr}{ls:Ls}(h:LL H b ls):LL (noT H) b ls:=by
 obtain⟨xs,e,r⟩:=h;exact⟨xs,QN e (λ_ z=>nomatch z),Paired.impl (λv l ⟨c,e,h⟩=>⟨c,e,QN h (λ_ z=>nomatch z)⟩) r⟩
theorem zhw{H:Hp}{b:Addr}{ps:Prs}(h:PL H b ps):PL (noT H) b ps:=by
 obtain⟨xs,e,r⟩:=h;exact⟨xs,QN e (λ_ z=>nomatch z),Paired.impl (λv l ⟨c,e,h⟩=>⟨c,e,QN h (λ_ z=>nomatch z)⟩) r⟩
theorem zgZ{H:Hp}{b:Addr}{pss:List Prs}(h:WL H b pss):WL (noT H) b pss:=by
 obtain⟨xs,e,r⟩:=h;exact⟨xs,QN e (λ_ z=>nomatch z),Paired.impl (λv l ⟨c,e,h⟩=>⟨c,e,zhw h⟩) r⟩
theorem zff{C:Addr}{H:Hp}{p:Addr}{ls:Ls}(h:zY C H p ls):zY C (noT H) p ls:=by
 obtain⟨dx,la,e,hL⟩:=h;exact⟨dx,la,QN e (λ_ z=>nomatch z),zfz hL⟩
theorem zhf{H:Hp}{a:Addr}{xs:List V}(h:SqL K H a xs):SqL K (noT H) a xs:=by
 rcases h with (h|⟨o,h⟩)|h
 ·exact .inl (.inl (QN h (λ_ z=>nomatch z)))
 ·exact .inl (.inr ⟨o,QN h (λ_ z=>nomatch z)⟩)
 ·exact .inr h
structure Gd(K:PySem.W.Frag)(t:Adr)(Pt a b p q:Addr)(ls:Ls)(ns:List Int)(pss:List Prs)(G:Hp):Prop where
 sq:SqL K G a (ns.map V.int)
 ll:LL G b ls
 cp:zY t.C G p ls
 wl:WL G q pss
 vd:Valid ls
 pm:pss.Perm (TN.zo ls)
 np:G Pt=none
abbrev zem(a b p q:Addr)(v4 v5 v6 v7 v8 v9 v10 v11:Option V):L2.St:=[some (.ref a),some (.ref b),some (.ref p),some (.ref q),v4,v5,v6,v7,v8,v9,v10,v11]
def Nx(Pt a b p q:Addr)(G:Hp)(F:L2.St->Hp->Prop):Prop:=∀v4 v5 v6 v7 v8 v9 v10 v11 H',zj G H'->TX.yP H' Pt Jm zdt->F (zem a b p q v4 v5 v6 v7 v8 v9 v10 v11) H'
def LB1(K:PySem.W.Frag)(t:Adr)(Pt:Addr):TS:=λD σ H=>∃(a b p q:Addr) (ls:Ls) (ns:List Int) (pss:List Prs) (G:Hp) (z:Int) (v5 v6 v7 v8 v9 v10 v11:Option V),σ=zem a b p q (some (.int z)) v5 v6 v7 v8 v9 v10 v11/\Gd K t Pt a b p q ls ns pss G/\zj G H/\TX.yP H Pt Jm zdt/\Nx Pt a b p q G D.nx/\Nx Pt a b p q G D.ct
def LB2(K:PySem.W.Frag)(t:Adr)(Pt:Addr):TS:=λD σ H=>∃(a b p q:Addr) (ls:Ls) (ns:List Int) (pss:List Prs) (G:Hp) (z:Int) (v5 v6 v7 v8 v9 v10 v11:Option V),σ=zem a b p q (some (.int z)) v5 v6 v7 v8 v9 v10 v11/\Gd K t Pt a b p q ls ns pss G/\zj G H/\TX.yP H Pt Jm zdt/\pss≠[]/\Nx Pt a b p q G D.nx
def LB3(K:PySem.W.Frag)(t:Adr)(Pt:Addr):TS:=λD σ H=>∃(a b p q sg:Addr) (ls:Ls) (ns:List Int) (pss:List Prs) (ps0:Prs) (G:Hp) (z:Int) (v5 v7 v8 v9 v10 v11:Option V),σ=zem a b p q (some (.int z)) v5 (some (.ref sg)) v7 v8 v9 v10 v11/\Gd K t Pt a b p q ls ns pss G/\zj G H/\TX.yP H Pt Jm zdt/\pss≠[]/\ps0∈TN.zo ls/\H sg=some (.lst ((qv ls ps0).map V.int))/\Nx Pt a b p q G D.nx
theorem Gd.mem{Pt a b p q:Addr}{ls:Ls}{ns:List Int}{pss:List Prs}{G:Hp}(g:Gd K t Pt a b p q ls ns pss G){ps:Prs}(h:ps∈pss):ps∈TN.zo ls:=g.pm.mem_iff.mp h
theorem Gd.ne{Pt a b p q:Addr}{ls:Ls}{ns:List Int}{pss:List Prs}{G:Hp}(g:Gd K t Pt a b p q ls ns pss G)(h:pss≠[]):TN.zo ls≠[]:=λz=>h (by have:=g.pm;rw[z] at this;exact this.eq_nil)
theorem JI{ls:Ls}{ps:Prs}(pr:Pairs ls ps){i:Int}(h0:0<=i)(h1:i<ls.length):decide ((z5 ls.length ps).getD i.toNat 0=i)=(mate ps i).isNone:=by
 rw[Y1 pr h0 h1]
 cases e:mate ps i with
 | none=>simp
 | some j =>
  have:=(pr.has e).2.2.2.2.1;simp;exact λz=>this z.symm
theorem Yh{ls:Ls}(hV:Valid ls)(ps:Prs):(qv ls ps).length<=100:=by
 unfold qv;refine Nat.le_trans (List.length_filter_le _ _) ?_;have:=hV.le;rw[zM];omega
theorem zdz{k:Bool}{σ:L2.St}{H:Hp}{Q:VK}(h:∀n:Nat,n<=2->Q (.int n) H):if k=true then tC (.int 2) σ H Q else tC (.int 1) σ H Q:=qm (λ_=>h 2 (by decide)) (λ_=>h 1 (by decide))
theorem zgx{k1 k2:Str}{c1 c2:Addr}:∀x c,([(k1,c1),(k2,c2)]:List (Str×Addr)).lookup x=some c->(x=k1/\c=c1)\/(x=k2/\c=c2):=λx c h=>by
 rw[List.lookup_cons] at h;split at h
 ·rename_i e
  cases h;exact .inl ⟨eq_of_beq e,rfl⟩
 ·rw[List.lookup_cons] at h
  split at h
  ·rename_i e
   cases h;exact .inr ⟨eq_of_beq e,rfl⟩
  ·cases h
theorem zcK{G H2 H':Hp}{Pt:Addr}(np:G Pt=none)(s:zj G H2)(h:∀z o,H2 z=some o->z≠Pt->H' z=some o):zj G H':=λz o e=>h z o (s _ _ e) λy=>by rw[y,np] at e;cases e
theorem zdl{C:Addr}{H:Hp}{a:Addr}{ls:Ls}{Q:VK}{E:XK}(hL:LL H a ls)(hV:Valid ls)(fin:∀x H',H x=none->zj H H'->zY C H' x ls->Q (.ref x) H') :
  ∀x dx,H x=none->H dx=none->dx≠x->zcF C [.ref x,.ref a] (upd (upd H dx (.own x)) x (.ins C dx [])) (λv H2=>v=.non/\Q (.ref x) H2) E:=by
 intro x dx hx hdx ne
 have hmk:∀c o,H c=some o->upd (upd H dx (.own x)) x (.ins C dx []) c=some o:=λc o e=>Zk (Zk e hdx) (by rw[zq ne.symm];exact hx)
 refine⟨x,dx,a,ls,rfl,ze,Of.same mI hL hmk,hV,λH3 wa ws k3 hwa hx3 hwa3 rw3=>⟨rfl,?_⟩⟩;have s3:zj H H3:=λc o e=>k3 c o (hmk c o e) (zx e hx);exact fin x H3 hx s3 ⟨dx,wa,hx3,ws,hwa3,Paired.impl (λv l ⟨b,e,_,h⟩=>⟨b,e,h⟩) rw3⟩
theorem zbR{C:Addr}{H:Hp}{a:Addr}{ls:Ls}{Q:VK}{E:XK}{ta:TA}{σ:L2.St}(hta:∀R:List V->Hp->Prop,R [.ref a] H->ta σ H R)(hL:LL H a ls)(hV:Valid ls)(fin:∀x H',H x=none->zj H H'->zY C H' x ls->Q (.ref x) H') :
  zg9 C (zcF C) [] E ta σ H Q:=hta _ (zdl hL hV fin)
def spLaw(K:PySem.W.Frag)(Pt:Addr):Sp:=λvs H Q _=>∃(a:Addr) (ns:List Int),vs=[.ref a]/\SqL K H a (ns.map V.int)/\H Pt=some (.tbl #[])/\∀H',Q (.bl true) H'
theorem zhW{ls:Ls}(hV:Valid ls){pss:List Prs}(hp:∀ps∈pss,Pairs ls ps){c:Int}(c0:0<=c)(c1:c<ls.length) :
  (lof ls c).filter (λj=>decide (j∈(List.range pss.length).map λi=>(z5 ls.length (pss.getD i [])).getD c.toNat 0))=(lof ls c).filter (yu pss c):=by
 refine List.filter_congr λj hj=>?_
 have hjc:j≠c:=by
  have:=YX hV c0 c1;exact(this.1 j hj).2.2
 unfold yu;rw[Bool.eq_iff_iff,decide_eq_true_iff,List.any_eq_true,List.mem_map];constructor
 ·rintro⟨i,hi,e⟩
  have hi:=List.mem_range.mp hi
  have eg:pss.getD i []=pss[i]:=by simp[List.getD,hi]
  rw[eg,Y1 (hp _ (List.getElem_mem hi)) c0 c1] at e;refine⟨pss[i],List.getElem_mem hi,?_⟩
  cases em:mate pss[i] c with
  | none=>rw[em] at e;exact absurd e.symm hjc
  | some k=>rw[em] at e;simp at e;rw[e];simp
 ·rintro⟨ps,hm,e⟩
  obtain⟨i,hi,rfl⟩:=List.getElem_of_mem hm;refine⟨i,List.mem_range.mpr hi,?_⟩
  have eg:pss.getD i []=pss[i]:=by simp[List.getD,hi]
  rw[eg,Y1 (hp _ (List.getElem_mem hi)) c0 c1,eq_of_beq e];rfl
set_option maxHeartbeats 8000000 in
theorem zhF(T:Txt K mg t){c Pt:Addr}(hcode:t.fd_law.code=.ref c)(kin:K.In base)(hCd:PySem.W.CodeHd base c Pt)(hBi:base.BuiltinsAt mg Pt):FnOk P w K mg base CX0 24 t.law t.fd_law ["_law_script"] (spLaw K Pt):=by
 have S:=zhm;have h_alone:=T.alone.mg;have G_law_lists:=zdc (P:=P) (w:=w) (base:=base) T;have G_Camp:=zgr (P:=P) (w:=w) (base:=base) T;have G_law_pairings:=zaj (P:=P) (w:=w) (base:=base) T;have G_law_steady:=zc9 (P:=P) (w:=w) (base:=base) T;have G_all_steady:=Yt (P:=P) (w:=w) (base:=base) T;have G_law_pairs:=zhD (P:=P) (w:=w) (base:=base) T;have G_law_refused:=Jz T (zb9 (P:=P) (w:=w) T kin);have G_law_have:=zgs (P:=P) (w:=w) (base:=base) T;have G_law_ones:=zdb (P:=P) (w:=w) (base:=base) T;have G_alone:=zeR (P:=P) (w:=w) (base:=base) T;have G_mates:=zeP (P:=P) (w:=w) (base:=base) T;have G_law_draw:=zdd (P:=P) (w:=w) (base:=base) T;have G_law_cell_at:=zak (P:=P) (w:=w) (base:=base) T;refine TX.zgJ T.law.fn hcode S (λvs H Q E h=>?_) (λA outer s H vs Q E hr h=>?_)
 ·obtain⟨a,ns,rfl,_⟩:=h;rfl
 ·obtain⟨a,ns,rfl,hS,hPt,fin⟩:=h
  have hu64:=hr.units;obtain⟨M1,eM1⟩:∃M:TS,M=LB1 K t Pt:=⟨_,rfl⟩;obtain⟨M2,eM2⟩:∃M:TS,M=LB2 K t Pt:=⟨_,rfl⟩;obtain⟨M3,eM3⟩:∃M:TS,M=LB3 K t Pt:=⟨_,rfl⟩
  refine⟨_,(zg (zz (i:=1) S.nd rfl (loc rfl) (zp (k:=23) (G_law_lists.mono (by decide)) hr (by rfl) T.law_lists.mg T.law_lists.fn.kp T.law_lists.b .nil zG (zd (pv 0) (zd zm zf))))
   (zg (zz (i:=2) S.nd rfl (loc rfl) (zgm (k:=22) T.mk_Camp (G_Camp.mono (by decide)) hr (by rfl) T.mg_Camp T.Camp___init__.b .nil zG (zd (pv 1) zf)))
   (zg (zz (i:=3) S.nd rfl (loc rfl) (zn (TX.QR hu64) (by rfl) T.b_sorted TK.YB (zd (TX.Zv (te:=z7 0) (tc:=Yj (Qu Q1 [] E0 (zS (z7 1) (zS (z7 0) YL)))) ["_law_some","_law_lists_here"] [none,some 1] rfl (zE (zp (k:=23) (G_law_pairings.mono (by decide)) hr (by rfl) T.law_pairings.mg T.law_pairings.fn.kp T.law_pairings.b .nil zG (zd (pv 1) zf))) (λ_ _ _ _ _=>(zt (i:=0) (show (["_law_some","_law_lists_here"]:List Str).Nodup by decide +kernel) rfl (loc rfl))) (λ_ _ _ _ _=>(TX.yr (zI (zp (k:=23) (G_law_steady.mono (by decide)) hr (by rfl) T.law_steady.mg T.law_steady.fn.kp T.law_steady.b .nil zG (zd (pv 1) (zd (pv 0) zf)))))) (λ_ _ _ _ _=>(pv 0)) rfl (by decide +kernel) (by decide +kernel) (No:=["_law_script","_law_lists_here","_law_camp","_law_due","_law_again","_law_found","_law_single","_law_some","_law_have_here","_law_k","_law_camper","_law_had"]) (sc:=zk QW) rfl rfl (by decide +kernel) rfl (by decide +kernel)) zf)))
   (zg (Zc PassesOwn.never rfl (Zi rfl T.b_range (zd (Q8 (zF Wh (zn zu (by rfl) T.b_len TK.zD (zd (pv 1) zf)) zm (zJ _)) zm zm) zf)) (zt (i:=4) S.nd rfl (loc rfl)) (zg (zz (i:=5) S.nd rfl (loc rfl) (zp (k:=23) (G_all_steady.mono (by decide)) hr (by rfl) T.all_steady.mg T.all_steady.fn.kp T.all_steady.b .nil zG (zd (pv 2) zf)))
   (zg (zO (Qd (zQ (zI (zn TX.zZ (by rfl) T.b_isinstance TK.zw (zd (pv 5) (zd (ye (v:=.ty "list") (by rfl) T.b_list TK.zV (by rfl)) zf))))) (Qd (zF (TX.jA hu64) (pv 5) (pv 3) (zJ _)) (YE (zQ (zI (zp (k:=23) (G_law_pairs.mono (by decide)) hr (by rfl) T.law_pairs.mg T.law_pairs.fn.kp T.law_pairs.b .nil zG (zd (pv 5) zf))))))).pt (zh (zy Z8)) zv)
   (zg (zO (zF (TX.jA hu64) (pv 5) (z4 zf) (zJ _)) (zh (Zq (YI PySem.F.plainAttrs_list PySem.F.slot_list_append PySem.F.type_list_append ZQ (zU zA (pv 5) zm (λ_ _=>rfl)) (zd (Qe (zd zm (zd zm zf))) zf)))) zv)
   (zg (Zq (YI PySem.F.plainAttrs_list PySem.F.slot_list_append PySem.F.type_list_append ZQ (pv 5) (zd (z4 zf) zf)))
   (TX.cut (M:=M1) (zg (zO (zF (TX.jB hu64) (pv 3) (z4 zf) (zJ _)) (zg (zO (zQ (zI (zp (k:=23) G_law_refused hr (by rfl) T.law_refused.mg T.law_refused.fn.kp T.law_refused.b .nil zG (zd (pv 1) (zd (pv 2) (zd (YS (v:=.ref t.alone) (by rfl) h_alone (by first|exact⟨_,rfl⟩|rfl)) zf)))))) (zh (zy Z8)) zv)
   (zg (zO (zQ (zI (TX.zeF (k:=23) (i1:=0) (i2:=1) (x1:="_law_script") (x2:="_law_lists_here") (Pt:=Pt) (lar:=zhN) (lb:=zhM) (lsc:=zgA) (lpos:=Jm) (sp:=λg c' a b=>zhg (ExL K c' a b) t.C g) (by rfl) T.law_refused.mg T.law_refused.fn.kp T.law_refused.b hr (λbase' g c' a b ctv hne hgf h1 h2=>Jz T (zfk T hgf h1 h2 rfl rfl zgx hne)) rfl hCd hBi rfl rfl rfl (pv 1) (pv 2) rfl rfl rfl rfl rfl rfl (λ_=>rfl)))) (zh (zy Z8)) zv)
   (zh zah))) zv)
   (TX.cut (M:=M2) (zg (TX.Qz (te:=z7 0) (tc:=Yj (tOp rEq (tOp (zcc K) (Qu zcG [] E0 (zS (z7 1) (zS (tOp (zcc K) (z7 2) (tC (.int 0))) YL))) (z7 0)) (z7 0))) ["_law_camper","_law_lists_here","_law_due"] [none,some 1,some 3] S.nd (j:=6) rfl (loc rfl) rfl (Zi rfl T.b_range (zd (zn zu (by rfl) T.b_len TK.zD (zd (pv 1) zf)) zf)) (λ_ _ _ _ _=>(zt (i:=0) (show (["_law_camper","_law_lists_here","_law_due"]:List Str).Nodup by decide +kernel) rfl (loc rfl))) (λ_ _ _ _ _=>(TX.yr (zF Qg (zU zA (zp (k:=23) (G_law_have.mono (by decide)) hr (by rfl) T.law_have.mg T.law_have.fn.kp T.law_have.b .nil zG (zd (pv 1) (zd (zU zA (pv 2) zm (λ_ _=>rfl)) zf))) (pv 0) (λ_ _=>rfl)) (pv 0) (zJ _)))) (λ_ _ _ _ _=>(pv 0)) rfl (by decide +kernel) (by decide +kernel) (No:=["_law_script","_law_lists_here","_law_camp","_law_due","_law_again","_law_found","_law_single","_law_some","_law_have_here","_law_k","_law_camper","_law_had"]) (sc:=zk QW) rfl rfl (by decide +kernel) rfl (by decide +kernel))
   (zg (zO (zQ (zI (zp (k:=23) (G_law_ones.mono (by decide)) hr (by rfl) T.law_ones.mg T.law_ones.fn.kp T.law_ones.b .nil zG (zd (zp (k:=23) (G_alone.mono (by decide)) hr (by rfl) T.alone.mg T.alone.fn.kp T.alone.b .nil zG (zd (pv 2) zf)) (zd (pv 6) zf))))) (zh (zy Z8)) zv)
   (TX.cut (M:=M3) (zg (Zc PassesOwn.never rfl (zE (pv 3)) (zt (i:=7) S.nd rfl (loc rfl)) (zg (zz (i:=8) S.nd rfl (loc rfl) (zp (k:=23) (G_law_have.mono (by decide)) hr (by rfl) T.law_have.mg T.law_have.fn.kp T.law_have.b .nil zG (zd (pv 1) (zd (pv 7) zf))))
   (zh (zO (zF (TX.jA hu64) (pv 6) (TX.Zv (te:=z7 0) (tc:=Yj (tOp rEq (tOp (zcc K) (z7 1) (z7 0)) (z7 0))) ["_law_camper","_law_have_here"] [none,some 8] rfl (Zi rfl T.b_range (zd (zn zu (by rfl) T.b_len TK.zD (zd (pv 1) zf)) zf)) (λ_ _ _ _ _=>(zt (i:=0) (show (["_law_camper","_law_have_here"]:List Str).Nodup by decide +kernel) rfl (loc rfl))) (λ_ _ _ _ _=>(TX.yr (zF Qg (zU zA (pv 1) (pv 0) (λ_ _=>rfl)) (pv 0) (zJ _)))) (λ_ _ _ _ _=>(pv 0)) rfl (by decide +kernel) (by decide +kernel) (No:=["_law_script","_law_lists_here","_law_camp","_law_due","_law_again","_law_found","_law_single","_law_some","_law_have_here","_law_k","_law_camper","_law_had"]) (sc:=zk QW) rfl rfl (by decide +kernel) rfl (by decide +kernel)) (zJ _)) (zh (zy Z8)) zv))))
   (zg (Zc PassesOwn.never rfl (Zi rfl T.b_range (zd (Q8 (zF Wh (zn zu (by rfl) T.b_len TK.zD (zd (pv 1) zf)) zm (zJ _)) zm zm) zf)) (zt (i:=9) S.nd rfl (loc rfl)) (zg (zz (i:=10) S.nd rfl (loc rfl) (zp (k:=23) (G_law_draw.mono (by decide)) hr (by rfl) T.law_draw.mg T.law_draw.fn.kp T.law_draw.b .nil zG (zd (zp (k:=23) (G_law_cell_at.mono (by decide)) hr (by rfl) T.law_cell_at.mg T.law_cell_at.fn.kp T.law_cell_at.b .nil zG (zd (pv 0) (zd zm zf))) (zd (zR Yc (zR Jw (pv 4) zm) (pv 9)) (zd (zn zu (by rfl) T.b_len TK.zD (zd (pv 1) zf)) zf)))))
   (zg (zz (i:=11) S.nd rfl (loc rfl) (TX.Zv (te:=tOp (zcc K) (Qu zcG [] E0 (zS (z7 2) (zS (z7 0) YL))) (z7 1)) ["_law_some","_law_camper","_law_lists_here"] [none,some 10,some 1] rfl (zE (pv 3)) (λ_ _ _ _ _=>(zt (i:=0) (show (["_law_some","_law_camper","_law_lists_here"]:List Str).Nodup by decide +kernel) rfl (loc rfl))) (λ_ _ _ _ _=>TX.yd) (λ_ _ _ _ _=>(zU zA (zp (k:=23) (G_law_have.mono (by decide)) hr (by rfl) T.law_have.mg T.law_have.fn.kp T.law_have.b .nil zG (zd (pv 2) (zd (pv 0) zf))) (pv 1) (λ_ _=>rfl))) rfl (by decide +kernel) (by decide +kernel) (No:=["_law_script","_law_lists_here","_law_camp","_law_due","_law_again","_law_found","_law_single","_law_some","_law_have_here","_law_k","_law_camper","_law_had"]) (sc:=zk QW) rfl rfl (by decide +kernel) rfl (by decide +kernel)))
   (zh (zO (zQ (zI (zp (k:=23) (G_law_ones.mono (by decide)) hr (by rfl) T.law_ones.mg T.law_ones.fn.kp T.law_ones.b .nil zG (zd (zp (k:=23) (G_mates.mono (by decide)) hr (by rfl) T.mates.mg T.mates.fn.kp T.mates.b .nil zG (zd (pv 2) (zd (pv 10) zf))) (zd (TX.Zv (te:=z7 0) (tc:=Yj (tOp (rIn K false) (z7 0) (z7 1))) ["_law_one","_law_had"] [none,some 11] rfl (zE (zU zA (pv 1) (pv 10) (λ_ _=>rfl))) (λ_ _ _ _ _=>(zt (i:=0) (show (["_law_one","_law_had"]:List Str).Nodup by decide +kernel) rfl (loc rfl))) (λ_ _ _ _ _=>(TX.yr (zF Z6 (pv 0) (pv 1) (by with_unfolding_all rfl)))) (λ_ _ _ _ _=>(pv 0)) rfl (by decide +kernel) (by decide +kernel) (No:=["_law_script","_law_lists_here","_law_camp","_law_due","_law_again","_law_found","_law_single","_law_some","_law_have_here","_law_k","_law_camper","_law_had"]) (sc:=zk QW) rfl rfl (by decide +kernel) rfl (by decide +kernel)) zf))))) (zh (zy Z8)) zv)))))
   (zh (zO (zF Wh (zn zu (by rfl) T.b_len TK.zD (zd (pv 1) zf)) zm (zJ _)) (zg (Zq (YI PySem.F.plainAttrs_list PySem.F.slot_list_append PySem.F.type_list_append ZQ (zp (k:=23) (G_alone.mono (by decide)) hr (by rfl) T.alone.mg T.alone.fn.kp T.alone.b .nil zG (zd (pv 2) zf)) (zd zm zf)))
   (zh (Zq (YI PySem.F.plainAttrs_list PySem.F.slot_list_append PySem.F.type_list_append ZQ (zp (k:=23) (G_mates.mono (by decide)) hr (by rfl) T.mates.mg T.mates.fn.kp T.mates.b .nil zG (zd (pv 2) (zd zm zf))) (zd zm zf))))) zv)))) ?c3))) ?c2)) ?c1))))))
   (zh (zy Z8)))))),?_⟩
  case c1 =>
   subst eM1;rintro D σ H ⟨a,b,p,q,ls,ns,pss,G,z,v5,v6,v7,v8,v9,v10,v11,rfl,g,s1,lt,nx,ct⟩;refine⟨_,rfl,Nat.zero_le _,λe he=>?_⟩;have s2:=TX.zj.upd (o:=.lst []) (zj.refl H) he;have he2:upd H e (.lst []) e=some (.lst []):=ze;generalize upd H e (.lst [])=H2 at s2 he2;have s12:=s1.trans s2;have lt2:=lt.same s2;refine⟨_,_,zed (Of.same wo g.wl s12),qt he2,zba _,Ys,λy=>⟨_,rfl,Qt ?_⟩,λy=>⟨_,rfl,yp ?_⟩⟩
   ·have hn:TN.zo ls=[]:=by
     have:=g.pm;rw[zdR.mp y] at this;exact(List.Perm.nil_eq this).symm
    refine⟨_,rfl,_,rfl,b,p,ls,rfl,Of.same mI g.ll s12,g.cp.same s12,g.vd,hn,trivial,λH3 s3=>⟨_,rfl,yp ?_⟩⟩;have s13:=s12.trans s3;refine⟨_,rfl,_,rfl,a,b,rfl,rfl,lt2.same s3,λf' c' H4 k4 lt4 cf4=>?_⟩;have s14:=zcK g.np s13 k4;refine⟨b,p,ls,rfl,Of.same mI g.ll s14,g.cp.same s14,g.vd,hn,⟨cf4,⟨ns,s14.seq g.sq⟩,Of.same mI g.ll s14⟩,λH5 s5=>⟨_,rfl,yp ?_⟩⟩;exact ct _ _ _ _ _ _ _ _ _ (s14.trans s5) (lt4.same s5)
   ·subst eM2
    exact⟨a,b,p,q,ls,ns,pss,G,z,v5,v6,v7,v8,v9,v10,v11,rfl,g,s12,lt2,λh=>y (zdR.mpr h),nx⟩
  case c2 =>
   subst eM2;rintro D σ H ⟨a,b,p,q,ls,ns,pss,G,z,v5,v6,v7,v8,v9,v10,v11,rfl,g,s1,lt,hne,nx⟩;have hV:=g.vd;have hl6:=hV.le;obtain⟨ps0,hps0⟩:=List.exists_mem_of_ne_nil _ hne;obtain⟨xs,hq,r⟩:=id (Of.same wo g.wl s1);obtain⟨ys,hby,ry⟩:=id (Of.same mI g.ll s1);have hyl:=ry.length
   cases r with
   | nil=>exact absurd rfl hne
   | @cons v qs xs' pss' q1 r' =>
    obtain⟨qb,rfl,hqb⟩:=q1;have hqs:qs∈TN.zo ls:=g.mem List.mem_cons_self;obtain⟨pr,_,hln⟩:=ZV hV hqs;dsimp only;refine Yl ?_;refine Yk ?_
    refine zgk (n:=ls.length) (f:=λi=>(mate qs i).isNone) (rest:=[some (.ref b),some (.ref q)]) (by omega) rfl (λR y=>by exact⟨_,rfl,b,_,rfl,.inl (SqL.of hby),by rw[hyl];exact y⟩) (λi H3 R hi s3 h=>?_) λsg H3 s3 hsg=>?_
    ·have s13:=s1.trans s3
     refine⟨_,rfl,_,rfl,q,_,0,_,rfl,rfl,SqL.of (s3 _ _ hq),qu (by decide) rfl,b,qb,ls,qs,rfl,Of.same mI g.ll s13,hV,Of.same mP hqb s3,pr,λhv H4 hvn s4 hv4=>?_⟩
     have hvl:=ZA ls.length qs
     refine⟨_,rfl,hv,_,(i:Int),_,rfl,rfl,SqL.of hv4,yW (by omega) (by omega),_,rfl,rfl,_,rfl,?_⟩
     rw[wD,JI pr (by omega) (by omega)]
     exact h H4 s4
    ·have s4:=TX.zj.upd (o:=.lst (((rng ls.length).filter λi=>(mate qs i).isNone).map V.int)) (zj.refl H3) hsg
     have hsg4:upd H3 sg (.lst (((rng ls.length).filter λi=>(mate qs i).isNone).map V.int)) sg=some (.lst ((qv ls qs).map V.int)):=ze;generalize upd H3 sg (.lst (((rng ls.length).filter λi=>(mate qs i).isNone).map V.int))=H4 at s4 hsg4;have s14:=s1.trans (s3.trans s4);dsimp only;refine⟨_,rfl,p,ls,qs,rfl,g.cp.same s14,hV,hqs,λl H5 s5 hl hl5=>⟨_,rfl,l,sg,qv ls qs,rfl,hl5,s5 _ _ hsg4,Yh hV qs,λH6 s6=>⟨_,rfl,yp ?_⟩⟩⟩;have s46:=s5.trans s6;subst eM3;exact⟨a,b,p,q,sg,ls,ns,_,qs,G,z,_,_,_,_,_,_,rfl,g,s14.trans s46,lt.same (s3.trans (s4.trans s46)),hne,hqs,s46 _ _ hsg4,nx⟩
  case c3 =>
   subst eM3;rintro D σ H ⟨a,b,p,q,sg,ls,ns,pss,ps0,G,z,v5,v7,v8,v9,v10,v11,rfl,g,s1,lt,hne,hps0,hsg,nx⟩;have hV:=g.vd;have hl6:=hV.le;obtain⟨xs,hq,r⟩:=id (Of.same wo g.wl s1);obtain⟨ys,hby,ry⟩:=id (Of.same mI g.ll s1);have hyl:=ry.length;have hxl:=r.length
   have hfew:pss.length<=100:=by rw[g.pm.length_eq];exact Nat.le_trans (TN.y1 hV) (by decide)
   refine⟨_,rfl,q,rfl,⟨_,SqL.of hq⟩,Zj (K:=K) (a:=q) (xs:=xs) (λk σ H2=>∃v7 v8,σ=zem a b p q (some (.int z)) v5 (some (.ref sg)) v7 v8 v9 v10 v11/\zj H H2) ⟨_,_,rfl,zj.refl _⟩ (λk σ H2 _ ⟨_,_,_,s2⟩=>SqL.of (s2 _ _ hq)) ?_ ?_⟩
   ·rintro k y σ H2 hk ⟨v7,v8,rfl,s2⟩
    obtain⟨qs,hqs,qb,rfl,hqb⟩:=Paired.at1 r hk;have hqm:qs∈TN.zo ls:=g.mem (List.mem_of_getElem? hqs);obtain⟨pr,_,hln⟩:=ZV hV hqm;have s12:=s1.trans s2;refine⟨_,rfl,_,rfl,b,qb,ls,qs,rfl,Of.same mI g.ll s12,hV,Of.same mP hqb s2,pr,λhv H3 hvn s3 hv3=>?_⟩;have hvl:=ZA ls.length qs;have s23:=s2.trans s3;dsimp only;refine jk (zcu (zfn ⟨_,rfl,?_⟩))
    refine zgk (n:=ls.length) (f:=λi=>(mate qs i).isNone) (rest:=[some (.ref hv)]) (by omega) rfl (λR y=>by exact⟨_,rfl,b,_,rfl,.inl (SqL.of (s23 _ _ hby)),by rw[hyl];exact y⟩) (λi H4 R hi s4 h=>?_) λl H4 s4 hl=>?_
    ·refine⟨_,rfl,_,rfl,hv,_,(i:Int),_,rfl,rfl,SqL.of (s4 _ _ hv3),yW (by omega) (by omega),_,rfl,rfl,_,rfl,?_⟩
     rw[wD,JI pr (by omega) (by omega)]
     exact h H4 (zj.refl _)
    ·have s5:=TX.zj.upd (o:=.lst (((rng ls.length).filter λi=>(mate qs i).isNone).map V.int)) (zj.refl H4) hl
     have hl5:upd H4 l (.lst (((rng ls.length).filter λi=>(mate qs i).isNone).map V.int)) l=some (.lst ((qv ls ps0).map V.int)):=by
      rw[JM hV hps0 hqm];exact ze
     generalize upd H4 l (.lst (((rng ls.length).filter λi=>(mate qs i).isNone).map V.int))=H5 at s5 hl5;have s25:=s23.trans (s4.trans s5);exact⟨_,_,yN (s25 _ _ hsg),yN hl5,jC _ 8,jC _ 8,λ_=>⟨_,rfl,yp ⟨_,_,rfl,s25⟩⟩,λn=>absurd rfl n⟩
   ·rintro σ H2 ⟨v7,v8,rfl,s2⟩
    have s12:=s1.trans s2;have lt2:=lt.same s2;clear hsg hq r hby ry s1 lt;obtain⟨xs,hq,r⟩:=id (Of.same wo g.wl s12);obtain⟨ys,hby,ry⟩:=id (Of.same mI g.ll s12);have hyl:=ry.length;have hxl:=r.length;refine⟨_,rfl,b,_,rfl,.inl (SqL.of hby),_,_,rfl,rfl,_,rfl,?_⟩;refine zdz λn hn=>?_
    refine⟨(n:Int),rfl,by omega,by omega,ZR (lo:=0) (n:=n) (λi σ H4=>∃v9 v10 v11,σ=zem a b p q (some (.int z)) v5 (some (.ref sg)) v7 v8 v9 v10 v11/\zj H2 H4) ⟨_,_,_,rfl,zj.refl _⟩ ?_ ?_⟩
    ·rintro i σ H4 hi ⟨v9,v10,v11,rfl,s4⟩
     have s14:=s12.trans s4;refine qi ?_
     refine⟨_,rfl,a,ns,2,rfl,s14.seq g.sq,by decide,λcz=>⟨_,rfl,_,_,rfl,rfl,.inr ⟨by omega,by omega⟩,_,rfl,_,_,rfl,rfl,_,rfl,b,_,rfl,.inl (SqL.of (s4 _ _ hby)),_,_,_,rfl,?_,λcp H5 c0 c1 s5=>?_⟩⟩
     ·have:=hV.pos
      rw[hyl];omega
     rw[hyl] at c1;have s15:=s14.trans s5;have s25:=s4.trans s5;dsimp only;refine Yl ?_;refine Yk ?_;have hprs:∀ps∈pss,Pairs ls ps:=λps h=>(ZV hV (g.mem h)).1
     refine zic (K:=K) (p:=q) (xs:=xs) (g:=λj=>.int ((z5 ls.length (pss.getD j [])).getD cp.toNat 0)) (rest:=[some (.int cp),some (.ref b)]) (by omega) rfl (SqL.of (s25 _ _ hq)) (λR y=>by exact⟨_,rfl,y⟩) (λj x H6 R hx s6 h=>?_) λhd H6 s6 hhd=>?_
     ·obtain⟨qs,hqs,qb,rfl,hqb⟩:=Paired.at1 r hx
      have ej:pss.getD j []=qs:=by rw[List.getD_eq_getElem?_getD,hqs];rfl
      rw[ej] at h;have pr:=hprs qs (List.mem_of_getElem? hqs);refine⟨_,rfl,_,rfl,b,qb,ls,qs,rfl,Of.same mI g.ll (s15.trans s6),hV,Of.same mP hqb (s25.trans s6),pr,λhv H7 hvn s7 hv7=>?_⟩;have hvl:=ZA ls.length qs
      exact⟨_,rfl,hv,_,cp,_,rfl,rfl,SqL.of hv7,yW c0 (by omega),h H7 s7⟩
     ·have s7:=TX.zj.upd (o:=.lst ((List.range xs.length).map λj=>V.int ((z5 ls.length (pss.getD j [])).getD cp.toNat 0))) (zj.refl H6) hhd
      have hhd7:upd H6 hd (.lst ((List.range xs.length).map λj=>V.int ((z5 ls.length (pss.getD j [])).getD cp.toNat 0))) hd=some (.lst (((List.range pss.length).map λj=>(z5 ls.length (pss.getD j [])).getD cp.toNat 0).map V.int)):=by
       rw[ze,List.map_map,hxl];rfl
      generalize upd H6 hd (.lst ((List.range xs.length).map λj=>V.int ((z5 ls.length (pss.getD j [])).getD cp.toNat 0)))=H7 at s7 hhd7;have s57:=s6.trans s7;have s17:=s15.trans s57;dsimp only;refine jk (JS (zcu (JT (ZT ?_))));refine⟨_,rfl,_,rfl,p,ls,cp,rfl,g.cp.same s17,hV,c0,c1,g.ne hne,λl H8 s8 hl hl8=>ZT ?_⟩;have s18:=s17.trans s8;obtain⟨zs,lb,ha8,hb8,hb8'⟩:=LL.at (Of.same mI g.ll s18) c0 c1
      have hz:(lof ls cp).length<=100:=by
       have:=ZP (YX hV c0 c1);omega
      refine zhx (K:=K) (p:=lb) (l:=lof ls cp) (f:=λj=>decide (j∈(List.range pss.length).map λi=>(z5 ls.length (pss.getD i [])).getD cp.toNat 0)) (rest:=[some (.ref hd)]) hz rfl hb8' (λR y=>by exact⟨_,rfl,_,rfl,b,zs,cp,_,rfl,rfl,SqL.of ha8,hb8,y⟩) (λx H9 R hx s9 h=>?_) λl2 H9 s9 hl2=>?_
      ·refine⟨_,rfl,_,rfl,hd,_,rfl,.inl (SqL.of (s9 _ _ (s8 _ _ hhd7))),rfl,Yf _,_,rfl,?_⟩
       have h:=h H9 (zj.refl _);show R (inV (.int x) _) H9;rw[qh];exact h
      ·rw[zhW hV hprs c0 c1]
       have s10:=TX.zj.upd (o:=.lst (((lof ls cp).filter (yu pss cp)).map V.int)) (zj.refl H9) hl2;refine⟨l,l2,_,rfl,(s9.trans s10) _ _ hl8,?_,Nat.le_trans (List.length_filter_le _ _) hz,λH11 s11=>⟨_,rfl,yp ?_⟩⟩
       ·rw[ze,show yu pss cp=yu (TN.zo ls) cp from funext λj=>jN g.pm cp j]
       ·exact⟨_,_,_,rfl,s25.trans (s57.trans (s8.trans (s9.trans (s10.trans s11))))⟩
    ·rintro σ H4 ⟨v9,v10,v11,rfl,s4⟩
     have s14:=s12.trans s4;have lt4:=lt2.same s4;refine⟨_,rfl,b,_,rfl,.inl (SqL.of (s4 _ _ hby)),_,_,rfl,rfl,_,rfl,?_⟩;obtain⟨ps1,hps1⟩:=List.exists_mem_of_ne_nil _ hne;refine qm (λ_=>?_) (λ_=>nx _ _ _ _ _ _ _ _ _ s14 lt4)
     refine⟨_,rfl,p,ls,ps1,rfl,g.cp.same s14,hV,g.mem hps1,λl H5 s5 hl hl5=>⟨.inl ⟨rfl,_,SqL.of hl5⟩,l,_,_,rfl,rfl,hl5,zr (by rw[List.length_map];exact Nat.le_trans (Yh hV ps1) (by decide)),?_⟩⟩
     have s6:zj H4 (upd H5 l (.lst ((qv ls ps1).map V.int++[.int 0]))):=TX.zj.upd s5 hl;have s16:=s14.trans s6
     refine⟨_,rfl,p,ls,0,rfl,g.cp.same s16,hV,by decide,(by have:=hV.pos;show (0:Int)<_;omega),g.ne hne,λl2 H7 s7 hl2 hl7=>⟨.inl ⟨rfl,_,SqL.of hl7⟩,l2,_,_,rfl,rfl,hl7,zr ?_,?_⟩⟩
     ·rw[List.length_map]
      refine Nat.le_trans (List.length_filter_le _ _) ?_
      have:=ZP (YX hV (show (0:Int)<=0 by decide) (by have:=hV.pos;show (0:Int)<_;omega))
      omega
     ·have s8:=TX.zj.upd (o:=.lst ((((lof ls 0).filter (yu (TN.zo ls) 0)).map V.int)++[.int 0])) s7 hl2
      exact nx _ _ _ _ _ _ _ _ _ (s16.trans s8) ((lt4.same s6).same s8)
  refine⟨_,rfl,a,ns,0,rfl,hS,by decide,λb H1 ls hb s1 hLL hV=>?_⟩
  have hl6:=hV.le;dsimp only;refine Yl (WW ?_)
  refine zbR (a:=b) (λR z=>by exact⟨_,rfl,z⟩) hLL hV λp H2 hp s2 hC=>?_
  have s02:=s1.trans s2;dsimp only;refine Yl (WW (qX (ZT ?_)))
  have key:∀(R:VK),(∀c H4 ys pss,zj H2 H4->H4 c=some (.lst ys)->Paired (TX.RPL H4) ys pss->pss.Perm (TN.zo ls)->R (.ref c) H4) ->
    yZ [none,some 1] (qM K (Qu Jq [] E0 (zS (z7 1) YL))) (yX 0) (Yj (Qu Q1 [] E0 (zS (z7 1) (zS (z7 0) YL)))) (z7 0) [some (.ref a),some (.ref b),some (.ref p),none,none,none,none,none,none,none,none,none] H2 R:=by
   intro R hR;refine⟨_,rfl,b,ls,rfl,Of.same mI hLL s2,hV,λw H3 hw s3 hW=>?_⟩
   exact ziP (K:=K) (H:=H3) (Hs:=H2) (a:=b) (b:=w) (tl:=λ_ _ R=>R (.ref w) H3) (Of.same mI hLL (s2.trans s3)) hV hW (QL hV) jz rfl (λR z=>z) λc H4 ys s4 hc ry=>by
    have s5:=TX.zj.upd (o:=.lst ys) (zj.refl H4) hc;exact hR c _ ys _ (s3.trans (s4.trans s5)) ze (Paired.impl (λv p=>wo _ _ v p s5) ry) (zfc hV)
  refine key _ λc H4 ys pss s4 hc ry hpm=>?_;have hnd:pss.Nodup:=hpm.nodup_iff.mpr (TN.YM hV)
  have hfew:=Nat.lt_of_le_of_lt (TN.y1 hV) (show _<64 by decide)
  rw[<-hpm.length_eq] at hfew;refine⟨c,ys,pss,rfl,hc,ry,hnd,hfew,λq vs' due hq hpm2 hsp rp _=>?_⟩;have s5:=TX.zj.upd (o:=.lst vs') (zj.refl H4) hq;have hWq:WL (upd H4 q (.lst vs')) q due:=⟨vs',ze,Paired.impl (λv p=>wo _ _ v p s5) rp⟩;generalize upd H4 q (.lst vs')=H5 at s5 hWq;have s25:=s4.trans s5;have s05:=s02.trans s25;have hpm3:=hpm2.trans hpm;have hPt5:=s05 _ _ hPt;have g:Gd K t Pt a b p q ls ns due (noT H5):=⟨zhf (s05.seq hS),zfz (Of.same mI hLL (s2.trans s25)),zff (hC.same s25),zgZ hWq,hV,hpm3,zgu hPt5⟩;have lt0:TX.yP H5 Pt Jm zdt:=⟨#[],hPt5,.inl rfl⟩;obtain⟨ws,hbw,rw'⟩:=id (Of.same mI hLL (s2.trans s25));have hwl:=rw'.length;have hfewD:∀ps∈due,ps.length<=100:=λps h=>(ZV hV (hpm3.mem_iff.mp h)).2.2;generalize hG:noT H5=G at g;have sG:zj G H5:=hG▸zeW;dsimp only;refine⟨_,rfl,b,_,rfl,.inl (SqL.of hbw),_,_,rfl,rfl,_,rfl,?_⟩;refine zdz λn hn=>?_
  refine⟨(n:Int),rfl,by omega,by omega,ZR (lo:=0) (n:=n) (λi σ H6=>∃v4 v5 v6 v7 v8 v9 v10 v11,σ=zem a b p q v4 v5 v6 v7 v8 v9 v10 v11/\zj G H6/\TX.yP H6 Pt Jm zdt) ⟨_,_,_,_,_,_,_,_,rfl,sG,lt0⟩ ?_ ?_⟩
  ·rintro i σ H6 hi ⟨v4,v5,v6,v7,v8,v9,v10,v11,rfl,s6,lt6⟩
   refine⟨_,rfl,p,ls,rfl,g.cp.same s6,hV,λf pss7 H7 hf s7 hpm7 hsp7 hW7 hR7=>?_⟩;have ed:pss7=due:=zg1 (hpm7.trans hpm3.symm) hsp7 hsp;subst ed;have s67:=s6.trans s7;have lt7:=lt6.same s7;obtain⟨xf,hf7,rf⟩:=id hW7;have hfl:=rf.length;have hGf:G f=none:=s6.free hf
   have hflen:pss7.length<=100:=by rw[hpm3.length_eq];exact Nat.le_trans (TN.y1 hV) (by decide)
   refine⟨_,rfl,_,_,_,_,_,rfl,Z9,.lst hf7,ZJ,_,rfl,yp ?_⟩;refine⟨_,rfl,_,rfl,_,_,zed hW7,zed (Of.same wo g.wl s67),zba _,zba _,λ_=>⟨_,rfl,yp ?_⟩,λn=>absurd rfl n⟩;refine⟨_,rfl,f,pss7,rfl,hW7,hfewD,λH8 s8=>⟨_,rfl,yp ?_⟩⟩;have s68:=s67.trans s8;have lt8:=lt7.same s8;have hf8:=s8 _ _ hf7
   have tail:∀(D:Ends) (H9:Hp) (zs:List V),Nx Pt a b p q G D.nx->Nx Pt a b p q G D.ct->zj G H9->TX.yP H9 Pt Jm zdt->H9 f=some (.lst zs)->zs.length<=100->∀e,H9 e=none->M1 D (zem a b p q (some (.int (0+(i:Int)))) (some (.ref f)) v6 v7 v8 v9 v10 v11) (upd (upd H9 e (.lst [])) f (.lst (zs++[.ref e]))):=by
    intro D H9 zs nx ct s9 lt9 hf9 hz e he;subst eM1;have sa:=TX.zj.upd (o:=.lst []) s9 (s9.free he);have sb:=TX.zj.upd (o:=.lst (zs++[.ref e])) sa hGf;refine⟨a,b,p,q,ls,ns,pss7,G,_,_,_,_,_,_,_,_,rfl,g,sb,?_,nx,ct⟩;obtain⟨tb,h1,h2⟩:=lt9
    have keep:∀x o,H9 x=some o->(∀l,o≠.lst l)->upd (upd H9 e (.lst [])) f (.lst (zs++[.ref e])) x=some o:=λx o hx no=>by
     rw[zq (λz=>by rw[z,hf9] at hx;cases hx;exact no _ rfl),zq (zx hx he)];exact hx
    refine⟨tb,keep _ _ h1 (λ_ z=>nomatch z),h2.imp id ?_⟩;rintro⟨c',e1,oc,vs,tk,u,h3,h4,h5⟩;exact⟨c',e1,oc,vs,tk,u,keep _ _ h3 (λ_ z=>nomatch z),h4,h5⟩
   have fin2:Nx Pt a b p q G (λσ H6=>∃v4 v5 v6 v7 v8 v9 v10 v11,σ=zem a b p q v4 v5 v6 v7 v8 v9 v10 v11/\zj G H6/\TX.yP H6 Pt Jm zdt):=λv4 v5 v6 v7 v8 v9 v10 v11 H' s' l'=>⟨v4,v5,v6,v7,v8,v9,v10,v11,rfl,s',l'⟩;refine⟨_,rfl,Nat.zero_le _,λe0 he0=>?_⟩;have s9:=TX.zj.upd (o:=.lst []) (zj.refl H8) he0;have he9:upd H8 e0 (.lst []) e0=some (.lst []):=ze;generalize upd H8 e0 (.lst [])=H9 at s9 he9;have s69:=s68.trans s9;have lt9:=lt8.same s9;have hf9:=s9 _ _ hf8;refine⟨_,_,zed (Of.same wo hW7 (s8.trans s9)),qt he9,zba _,Ys,λy=>⟨_,rfl,yp ?_⟩,λy=>⟨_,rfl,Qt ?_⟩⟩
   ·refine⟨_,rfl,.inl ⟨rfl,_,SqL.of hf9⟩,Nat.zero_le _,λe he=>⟨f,xf,_,rfl,rfl,Zk hf9 he,zr (by omega),?_⟩⟩
    exact tail _ H9 xf fin2 fin2 s69 lt9 hf9 (by omega) e he
   ·cases rf with
    | nil=>exact absurd rfl y
    | @cons v qs xt dt q1 rt =>
     obtain⟨b0,rfl,hb0⟩:=q1;obtain⟨x0,hb1,r0⟩:=Of.same mP hb0 (s8.trans s9);have hx0:=r0.length;have hq0:=hfewD qs List.mem_cons_self;have hGb:G b0=none:=s6.free (hR7 _ _ b0 hf7 List.mem_cons_self rfl)
     have nbf:f≠b0:=λz=>by
      rw[z,hb1] at hf9
      cases r0 with
      | nil=>cases hf9
      | @cons u' q' _ _ hu' _ =>
       obtain⟨tp,rfl,htp⟩:=hu'
       injection hf9 with hf9
       injection hf9 with hf9
       injection hf9 with hf9 _
       injection hf9 with hf9
       rw[hf9,hb1] at htp;cases htp
     refine⟨_,rfl,f,_,0,.ref b0,rfl,rfl,SqL.of hf9,qu (by decide) rfl,.inl ⟨rfl,_,SqL.of hb1⟩,(by show 2<=sizeLine;decide),λtp htp=>⟨b0,x0,_,rfl,rfl,Zk hb1 htp,zr (by omega),?_⟩⟩
     have sc:=TX.zj.upd (o:=.tup [.int 0,.int 0]) s69 (s69.free htp);have sd:=TX.zj.upd (o:=.lst (x0++[.ref tp])) sc hGb;have hfd:upd (upd H9 tp (.tup [.int 0,.int 0])) b0 (.lst (x0++[.ref tp])) f=some (.lst (.ref b0::xt)):=z8 (Zk hf9 htp) nbf
     have ltd:TX.yP (upd (upd H9 tp (.tup [.int 0,.int 0])) b0 (.lst (x0++[.ref tp]))) Pt Jm zdt:=by
      obtain⟨tb,h1,h2⟩:=lt9
      have keep:∀x o,H9 x=some o->(∀l,o≠.lst l)->upd (upd H9 tp (.tup [.int 0,.int 0])) b0 (.lst (x0++[.ref tp])) x=some o:=λx o hx no=>by
       rw[zq (λz=>by rw[z,hb1] at hx;cases hx;exact no _ rfl),zq (zx hx htp)];exact hx
      refine⟨tb,keep _ _ h1 (λ_ z=>nomatch z),h2.imp id ?_⟩;rintro⟨c',e1,oc,vs,tk,u,h3,h4,h5⟩;exact⟨c',e1,oc,vs,tk,u,keep _ _ h3 (λ_ z=>nomatch z),h4,h5⟩
     generalize upd (upd H9 tp (.tup [.int 0,.int 0])) b0 (.lst (x0++[.ref tp]))=H10 at sd hfd ltd
     refine⟨_,rfl,.inl ⟨rfl,_,SqL.of hfd⟩,Nat.zero_le _,λe he=>⟨f,_,_,rfl,rfl,Zk hfd he,zr (by omega),?_⟩⟩
     exact tail _ H10 _ fin2 fin2 sd ltd hfd (by omega) e he
  ·rintro σ H6 ⟨v4,v5,v6,v7,v8,v9,v10,v11,rfl,s6,lt6⟩
   exact fin _
end
end Tp
namespace Tp
open PySem PySem.Spec PyProof.Rows L2 TX TM TK
section
open PySem.W (nsIn findIn isFn codeIn keepIn mg_of mg_none_of)
abbrev fnA(x q:Str)(st:Stmt)(kV dc pm:Value)(an:Option Addr)(cd ct:Value):FuncData:=PySem.W.fnOf x q (QF st) (yY st) (zk st) .none kV dc pm an cd ct
set_option maxHeartbeats 8000000 in
theorem all_mk{l:PySem.W.OpenLaw}{w:World}{fa cL:Addr}{K:PySem.W.Frag}{h:Heap}{mg:Str->Option Value}{C X_CampError X_BadCamp X_BadPairs X_NoCamper X_NoneSteady X_BadText tT f0 f1 f2 f3 f4 f5 f6 f7 f8 f9 f10 f11 f12 f13 f14 f15 f16 f17 f18 f19 f20 f21 f22 f23 f24 f25 f26 f27 f28 f29 f30 f31 f32 f33 f34 f35 f36 f37 f38 f39 f40 f41:Addr}{tM tA tB:Tok}(X:K.In h)(G:h.Ns mainGlobals mg)(hfa:mg "law"=some (.ref fa))
  {od0 an0 od1 an1 od2 an2 od3 an3 od4 an4 od5 an5 od6 an6 od7 an7 od8 an8 od9 an9 od10 an10 od11 an11 od12 an12 od13 an13 od14 an14 od15 an15 od16 an16 od17 an17 od18 an18 od19 an19 od20 an20 od21 an21 od22 an22 od23 an23 od24 an24 od25 an25 od26 an26 od27 an27 od28 an28 od29 an29 od30 an30 od31 an31 od32 an32 od33 an33 od34 an34 od35 an35 od36 an36 od37 an37 od38 an38 od39 an39 od40 an40 od41 an41 odT:Option Addr} {sl0 sl1 sl2 sl3 sl4 sl5 sl6 sl7 sl8 sl9 sl10 sl11 sl12 sl13 sl14 sl15 sl16 sl17 sl18 sl19 sl20 sl21 sl22 sl23 sl24 sl25 sl26 sl27 sl28 sl29 sl30 sl31 sl32 sl33 sl34 sl35 sl36 sl37 sl38 sl39 sl40 sl41 slT:Array (Option Value)} {oc0 kV0 dc0 pm0 cd0 ct0 oc1 kV1 dc1 pm1 cd1 ct1 oc2 kV2 dc2 pm2 cd2 ct2 oc3 kV3 dc3 pm3 cd3 ct3 oc4 kV4 dc4 pm4 cd4 ct4 oc5 kV5 dc5 pm5 cd5 ct5 oc6 kV6 dc6 pm6 cd6 ct6 oc7 kV7 dc7 pm7 cd7 ct7 oc8 kV8 dc8 pm8 cd8 ct8 oc9 kV9 dc9 pm9 cd9 ct9 oc10 kV10 dc10 pm10 cd10 ct10 oc11 kV11 dc11 pm11 cd11 ct11 oc12 kV12 dc12 pm12 cd12 ct12 oc13 kV13 dc13 pm13 cd13 ct13 oc14 kV14 dc14 pm14 cd14 ct14 oc15 kV15 dc15 pm15 cd15 ct15 oc16 kV16 dc16 pm16 cd16 ct16 oc17 kV17 dc17 pm17 cd17 ct17 oc18 kV18 dc18 pm18 cd18 ct18 oc19 kV19 dc19 pm19 cd19 ct19 oc20 kV20 dc20 pm20 cd20 ct20 oc21 kV21 dc21 pm21 cd21 ct21 oc22 kV22 dc22 pm22 cd22 ct22 oc23 kV23 dc23 pm23 cd23 ct23 oc24 kV24 dc24 pm24 cd24 ct24 oc25 kV25 dc25 pm25 cd25 ct25 oc26 kV26 dc26 pm26 cd26 ct26 oc27 kV27 dc27 pm27 cd27 ct27 oc28 kV28 dc28 pm28 cd28 ct28 oc29 kV29 dc29 pm29 cd29 ct29 oc30 kV30 dc30 pm30 cd30 ct30 oc31 kV31 dc31 pm31 cd31 ct31 oc32 kV32 dc32 pm32 cd32 ct32 oc33 kV33 dc33 pm33 cd33 ct33 oc34 kV34 dc34 pm34 cd34 ct34 oc35 kV35 dc35 pm35 cd35 ct35 oc36 kV36 dc36 pm36 cd36 ct36 oc37 kV37 dc37 pm37 cd37 ct37 oc38 kV38 dc38 pm38 cd38 ct38 oc39 kV39 dc39 pm39 cd39 ct39 oc40 kV40 dc40 pm40 cd40 ct40 oc41 kV41 dc41 pm41 ct41:Value} {nT:Nat}
  (aC:nsIn K mainGlobals "Camp"=some (some (.ref C)))
  (aX_CampError:nsIn K mainGlobals "CampError"=some (some (.ref X_CampError)))
  (aX_BadCamp:nsIn K mainGlobals "BadCamp"=some (some (.ref X_BadCamp)))
  (aX_BadPairs:nsIn K mainGlobals "BadPairs"=some (some (.ref X_BadPairs)))
  (aX_NoCamper:nsIn K mainGlobals "NoCamper"=some (some (.ref X_NoCamper)))
  (aX_NoneSteady:nsIn K mainGlobals "NoneSteady"=some (some (.ref X_NoneSteady)))
  (aX_BadText:nsIn K mainGlobals "BadText"=some (some (.ref X_BadText)))
  (kt_CampError:PySem.W.ktsIn K X_CampError "BaseException"=true)
  (sp_CampError:PySem.W.specialIn K (.ref X_CampError) "__getattribute__"=some (some (.builtin "type.__getattribute__")))
  (rd_CampError:PySem.W.readsIn K X_CampError (.type "type")=true)
  (fc_CampError:PySem.W.findCls K (.ref X_CampError) (.type "type") "__init__"=some (.val (.builtin "ValueError.__init__")))
  (kt_NoneSteady:PySem.W.ktsIn K X_NoneSteady "BaseException"=true)
  (ga_NoneSteady:findIn K (.ref X_NoneSteady) "__getattribute__"=some (some (.builtin "BaseException.__getattribute__")))
  (gt_NoneSteady:findIn K (.ref X_NoneSteady) "__getattr__"=some none)
  (cc_NoneSteady:(PySem.W.clsIn K X_NoneSteady).isSome=true)
  (ca_NoneSteady:findIn K (.ref X_NoneSteady) "__class__"=some (some (.builtin "object.__class__")))
  (mr_NoneSteady:PySem.W.mroIn K X_NoneSteady (.type "object")=some true)
  (be_NoneSteady:TX.j7 K X_NoneSteady X_CampError=true)
  (kx_NoneSteady_BadCamp:PySem.W.kitOne K (.ref X_NoneSteady) (.ref X_BadCamp)=some false)
  (kx_NoneSteady_BadPairs:PySem.W.kitOne K (.ref X_NoneSteady) (.ref X_BadPairs)=some false)
  (kx_NoneSteady_NoCamper:PySem.W.kitOne K (.ref X_NoneSteady) (.ref X_NoCamper)=some false)
  (kx_NoneSteady_NoneSteady:PySem.W.kitOne K (.ref X_NoneSteady) (.ref X_NoneSteady)=some true)
  (kx_NoneSteady_BadText:PySem.W.kitOne K (.ref X_NoneSteady) (.ref X_BadText)=some false)
  (kv_NoneSteady:PySem.W.kitOne K (.ref X_NoneSteady) (.type "ValueError")=some true)
  (cg:PySem.W.specialIn K (.builtin "object.__class__") "__get__"=some (some (.builtin "getset_descriptor.__get__")))
  (ctk:PySem.W.takesIn K (.builtin "object.__class__")=some true)
  (aT:nsIn K mainGlobals "TELLING_SIZES"=some (some (.ref tT)))
  (lT:K.lookup tT=some ⟨.type "tuple",odT,.seq #[.int 3 tA,.int 5 tB] nT,slT⟩)
  (a0:findIn K (.ref X_NoneSteady) "__init__"=some (some (.ref f0)))
  (i0:isFn K (.ref f0)=true)
  (l0:K.lookup f0=some ⟨oc0,od0,.func (fnA "__init__" "NoneSteady.__init__" zL kV0 dc0 pm0 an0 cd0 ct0),sl0⟩)
  (c0:codeIn K cd0 "NoneSteady.__init__"=true)
  (k0:keepIn K (.ref f0)=true)
  (a1:nsIn K mainGlobals "is_camper"=some (some (.ref f1)))
  (l1:K.lookup f1=some ⟨oc1,od1,.func (fnA "is_camper" "is_camper" yI kV1 dc1 pm1 an1 cd1 ct1),sl1⟩)
  (c1:codeIn K cd1 "is_camper"=true)
  (k1:keepIn K (.ref f1)=true)
  (a2:nsIn K mainGlobals "check_wishes"=some (some (.ref f2)))
  (l2:K.lookup f2=some ⟨oc2,od2,.func (fnA "check_wishes" "check_wishes" ZM kV2 dc2 pm2 an2 cd2 ct2),sl2⟩)
  (c2:codeIn K cd2 "check_wishes"=true)
  (k2:keepIn K (.ref f2)=true)
  (a3:nsIn K mainGlobals "check_lists"=some (some (.ref f3)))
  (l3:K.lookup f3=some ⟨oc3,od3,.func (fnA "check_lists" "check_lists" Z5 kV3 dc3 pm3 an3 cd3 ct3),sl3⟩)
  (c3:codeIn K cd3 "check_lists"=true)
  (k3:keepIn K (.ref f3)=true)
  (a4:findIn K (.ref C) "__init__"=some (some (.ref f4)))
  (i4:isFn K (.ref f4)=true)
  (l4:K.lookup f4=some ⟨oc4,od4,.func (fnA "__init__" "Camp.__init__" Zp kV4 dc4 pm4 an4 cd4 ct4),sl4⟩)
  (c4:codeIn K cd4 "Camp.__init__"=true)
  (k4:keepIn K (.ref f4)=true)
  (a5:findIn K (.ref C) "would_share"=some (some (.ref f5)))
  (i5:isFn K (.ref f5)=true)
  (l5:K.lookup f5=some ⟨oc5,od5,.func (fnA "would_share" "Camp.would_share" Zh kV5 dc5 pm5 an5 cd5 ct5),sl5⟩)
  (c5:codeIn K cd5 "Camp.would_share"=true)
  (k5:keepIn K (.ref f5)=true)
  (a6:findIn K (.ref C) "would_rather"=some (some (.ref f6)))
  (i6:isFn K (.ref f6)=true)
  (l6:K.lookup f6=some ⟨oc6,od6,.func (fnA "would_rather" "Camp.would_rather" Za kV6 dc6 pm6 an6 cd6 ct6),sl6⟩)
  (c6:codeIn K cd6 "Camp.would_rather"=true)
  (k6:keepIn K (.ref f6)=true)
  (a7:nsIn K mainGlobals "check_pair"=some (some (.ref f7)))
  (l7:K.lookup f7=some ⟨oc7,od7,.func (fnA "check_pair" "check_pair" yl kV7 dc7 pm7 an7 cd7 ct7),sl7⟩)
  (c7:codeIn K cd7 "check_pair"=true)
  (k7:keepIn K (.ref f7)=true)
  (a8:nsIn K mainGlobals "partners"=some (some (.ref f8)))
  (l8:K.lookup f8=some ⟨oc8,od8,.func (fnA "partners" "partners" y4 kV8 dc8 pm8 an8 cd8 ct8),sl8⟩)
  (c8:codeIn K cd8 "partners"=true)
  (k8:keepIn K (.ref f8)=true)
  (a9:nsIn K mainGlobals "would_break"=some (some (.ref f9)))
  (l9:K.lookup f9=some ⟨oc9,od9,.func (fnA "would_break" "would_break" Z2 kV9 dc9 pm9 an9 cd9 ct9),sl9⟩)
  (c9:codeIn K cd9 "would_break"=true)
  (k9:keepIn K (.ref f9)=true)
  (a10:nsIn K mainGlobals "breakers"=some (some (.ref f10)))
  (l10:K.lookup f10=some ⟨oc10,od10,.func (fnA "breakers" "breakers" Ya kV10 dc10 pm10 an10 cd10 ct10),sl10⟩)
  (c10:codeIn K cd10 "breakers"=true)
  (k10:keepIn K (.ref f10)=true)
  (a11:nsIn K mainGlobals "breaking"=some (some (.ref f11)))
  (l11:K.lookup f11=some ⟨oc11,od11,.func (fnA "breaking" "breaking" y9 kV11 dc11 pm11 an11 cd11 ct11),sl11⟩)
  (c11:codeIn K cd11 "breaking"=true)
  (k11:keepIn K (.ref f11)=true)
  (a12:nsIn K mainGlobals "would_all_share"=some (some (.ref f12)))
  (l12:K.lookup f12=some ⟨oc12,od12,.func (fnA "would_all_share" "would_all_share" z6 kV12 dc12 pm12 an12 cd12 ct12),sl12⟩)
  (c12:codeIn K cd12 "would_all_share"=true)
  (k12:keepIn K (.ref f12)=true)
  (a13:nsIn K mainGlobals "would_all_rather"=some (some (.ref f13)))
  (l13:K.lookup f13=some ⟨oc13,od13,.func (fnA "would_all_rather" "would_all_rather" zX kV13 dc13 pm13 an13 cd13 ct13),sl13⟩)
  (c13:codeIn K cd13 "would_all_rather"=true)
  (k13:keepIn K (.ref f13)=true)
  (a14:nsIn K mainGlobals "is_good_ring"=some (some (.ref f14)))
  (l14:K.lookup f14=some ⟨oc14,od14,.func (fnA "is_good_ring" "is_good_ring" ZL kV14 dc14 pm14 an14 cd14 ct14),sl14⟩)
  (c14:codeIn K cd14 "is_good_ring"=true)
  (k14:keepIn K (.ref f14)=true)
  (a15:nsIn K mainGlobals "stand_once"=some (some (.ref f15)))
  (l15:K.lookup f15=some ⟨oc15,od15,.func (fnA "stand_once" "stand_once" yh kV15 dc15 pm15 an15 cd15 ct15),sl15⟩)
  (c15:codeIn K cd15 "stand_once"=true)
  (k15:keepIn K (.ref f15)=true)
  (a16:nsIn K mainGlobals "last_ones"=some (some (.ref f16)))
  (l16:K.lookup f16=some ⟨oc16,od16,.func (fnA "last_ones" "last_ones" yH kV16 dc16 pm16 an16 cd16 ct16),sl16⟩)
  (c16:codeIn K cd16 "last_ones"=true)
  (k16:keepIn K (.ref f16)=true)
  (a17:nsIn K mainGlobals "are_good"=some (some (.ref f17)))
  (l17:K.lookup f17=some ⟨oc17,od17,.func (fnA "are_good" "are_good" yC kV17 dc17 pm17 an17 cd17 ct17),sl17⟩)
  (c17:codeIn K cd17 "are_good"=true)
  (k17:keepIn K (.ref f17)=true)
  (a18:nsIn K mainGlobals "tell_none"=some (some (.ref f18)))
  (l18:K.lookup f18=some ⟨oc18,od18,.func (fnA "tell_none" "tell_none" yb kV18 dc18 pm18 an18 cd18 ct18),sl18⟩)
  (c18:codeIn K cd18 "tell_none"=true)
  (k18:keepIn K (.ref f18)=true)
  (a19:nsIn K mainGlobals "with_free"=some (some (.ref f19)))
  (l19:K.lookup f19=some ⟨oc19,od19,.func (fnA "with_free" "with_free" yF kV19 dc19 pm19 an19 cd19 ct19),sl19⟩)
  (c19:codeIn K cd19 "with_free"=true)
  (k19:keepIn K (.ref f19)=true)
  (a20:nsIn K mainGlobals "with_begun"=some (some (.ref f20)))
  (l20:K.lookup f20=some ⟨oc20,od20,.func (fnA "with_begun" "with_begun" ZW kV20 dc20 pm20 an20 cd20 ct20),sl20⟩)
  (c20:codeIn K cd20 "with_begun"=true)
  (k20:keepIn K (.ref f20)=true)
  (a21:nsIn K mainGlobals "rings_of"=some (some (.ref f21)))
  (l21:K.lookup f21=some ⟨oc21,od21,.func (fnA "rings_of" "rings_of" y3 kV21 dc21 pm21 an21 cd21 ct21),sl21⟩)
  (c21:codeIn K cd21 "rings_of"=true)
  (k21:keepIn K (.ref f21)=true)
  (a22:nsIn K mainGlobals "ways_to_pair"=some (some (.ref f22)))
  (l22:K.lookup f22=some ⟨oc22,od22,.func (fnA "ways_to_pair" "ways_to_pair" Zm kV22 dc22 pm22 an22 cd22 ct22),sl22⟩)
  (c22:codeIn K cd22 "ways_to_pair"=true)
  (k22:keepIn K (.ref f22)=true)
  (a23:nsIn K mainGlobals "all_steady"=some (some (.ref f23)))
  (l23:K.lookup f23=some ⟨oc23,od23,.func (fnA "all_steady" "all_steady" ZX kV23 dc23 pm23 an23 cd23 ct23),sl23⟩)
  (c23:codeIn K cd23 "all_steady"=true)
  (k23:keepIn K (.ref f23)=true)
  (a24:nsIn K mainGlobals "steady_or_refused"=some (some (.ref f24)))
  (l24:K.lookup f24=some ⟨oc24,od24,.func (fnA "steady_or_refused" "steady_or_refused" z9 kV24 dc24 pm24 an24 cd24 ct24),sl24⟩)
  (c24:codeIn K cd24 "steady_or_refused"=true)
  (k24:keepIn K (.ref f24)=true)
  (a25:nsIn K mainGlobals "alone"=some (some (.ref f25)))
  (l25:K.lookup f25=some ⟨oc25,od25,.func (fnA "alone" "alone" Qy kV25 dc25 pm25 an25 cd25 ct25),sl25⟩)
  (c25:codeIn K cd25 "alone"=true)
  (k25:keepIn K (.ref f25)=true)
  (a26:nsIn K mainGlobals "mates"=some (some (.ref f26)))
  (l26:K.lookup f26=some ⟨oc26,od26,.func (fnA "mates" "mates" Qx kV26 dc26 pm26 an26 cd26 ct26),sl26⟩)
  (c26:codeIn K cd26 "mates"=true)
  (k26:keepIn K (.ref f26)=true)
  (a27:nsIn K mainGlobals "_law_cell_at"=some (some (.ref f27)))
  (l27:K.lookup f27=some ⟨oc27,od27,.func (fnA "_law_cell_at" "_law_cell_at" Z4 kV27 dc27 pm27 an27 cd27 ct27),sl27⟩)
  (c27:codeIn K cd27 "_law_cell_at"=true)
  (k27:keepIn K (.ref f27)=true)
  (a28:nsIn K mainGlobals "_law_draw"=some (some (.ref f28)))
  (l28:K.lookup f28=some ⟨oc28,od28,.func (fnA "_law_draw" "_law_draw" y8 kV28 dc28 pm28 an28 cd28 ct28),sl28⟩)
  (c28:codeIn K cd28 "_law_draw"=true)
  (k28:keepIn K (.ref f28)=true)
  (a29:nsIn K mainGlobals "_law_lists"=some (some (.ref f29)))
  (l29:K.lookup f29=some ⟨oc29,od29,.func (fnA "_law_lists" "_law_lists" Zu kV29 dc29 pm29 an29 cd29 ct29),sl29⟩)
  (c29:codeIn K cd29 "_law_lists"=true)
  (k29:keepIn K (.ref f29)=true)
  (a30:nsIn K mainGlobals "_law_would"=some (some (.ref f30)))
  (l30:K.lookup f30=some ⟨oc30,od30,.func (fnA "_law_would" "_law_would" yG kV30 dc30 pm30 an30 cd30 ct30),sl30⟩)
  (c30:codeIn K cd30 "_law_would"=true)
  (k30:keepIn K (.ref f30)=true)
  (a31:nsIn K mainGlobals "_law_rather"=some (some (.ref f31)))
  (l31:K.lookup f31=some ⟨oc31,od31,.func (fnA "_law_rather" "_law_rather" yj kV31 dc31 pm31 an31 cd31 ct31),sl31⟩)
  (c31:codeIn K cd31 "_law_rather"=true)
  (k31:keepIn K (.ref f31)=true)
  (a32:nsIn K mainGlobals "_law_open"=some (some (.ref f32)))
  (l32:K.lookup f32=some ⟨oc32,od32,.func (fnA "_law_open" "_law_open" y6 kV32 dc32 pm32 an32 cd32 ct32),sl32⟩)
  (c32:codeIn K cd32 "_law_open"=true)
  (k32:keepIn K (.ref f32)=true)
  (a33:nsIn K mainGlobals "_law_broken"=some (some (.ref f33)))
  (l33:K.lookup f33=some ⟨oc33,od33,.func (fnA "_law_broken" "_law_broken" yk kV33 dc33 pm33 an33 cd33 ct33),sl33⟩)
  (c33:codeIn K cd33 "_law_broken"=true)
  (k33:keepIn K (.ref f33)=true)
  (a34:nsIn K mainGlobals "_law_have"=some (some (.ref f34)))
  (l34:K.lookup f34=some ⟨oc34,od34,.func (fnA "_law_have" "_law_have" y7 kV34 dc34 pm34 an34 cd34 ct34),sl34⟩)
  (c34:codeIn K cd34 "_law_have"=true)
  (k34:keepIn K (.ref f34)=true)
  (a35:nsIn K mainGlobals "_law_steady"=some (some (.ref f35)))
  (l35:K.lookup f35=some ⟨oc35,od35,.func (fnA "_law_steady" "_law_steady" yi kV35 dc35 pm35 an35 cd35 ct35),sl35⟩)
  (c35:codeIn K cd35 "_law_steady"=true)
  (k35:keepIn K (.ref f35)=true)
  (a36:nsIn K mainGlobals "_law_good"=some (some (.ref f36)))
  (l36:K.lookup f36=some ⟨oc36,od36,.func (fnA "_law_good" "_law_good" yB kV36 dc36 pm36 an36 cd36 ct36),sl36⟩)
  (c36:codeIn K cd36 "_law_good"=true)
  (k36:keepIn K (.ref f36)=true)
  (a37:nsIn K mainGlobals "_law_pairings"=some (some (.ref f37)))
  (l37:K.lookup f37=some ⟨oc37,od37,.func (fnA "_law_pairings" "_law_pairings" ZD kV37 dc37 pm37 an37 cd37 ct37),sl37⟩)
  (c37:codeIn K cd37 "_law_pairings"=true)
  (k37:keepIn K (.ref f37)=true)
  (a38:nsIn K mainGlobals "_law_refused"=some (some (.ref f38)))
  (l38:K.lookup f38=some ⟨oc38,od38,.func (fnA "_law_refused" "_law_refused" Z3 kV38 dc38 pm38 an38 cd38 ct38),sl38⟩)
  (c38:codeIn K cd38 "_law_refused"=true)
  (k38:keepIn K (.ref f38)=true)
  (a39:nsIn K mainGlobals "_law_ones"=some (some (.ref f39)))
  (l39:K.lookup f39=some ⟨oc39,od39,.func (fnA "_law_ones" "_law_ones" yA kV39 dc39 pm39 an39 cd39 ct39),sl39⟩)
  (c39:codeIn K cd39 "_law_ones"=true)
  (k39:keepIn K (.ref f39)=true)
  (a40:nsIn K mainGlobals "_law_pairs"=some (some (.ref f40)))
  (l40:K.lookup f40=some ⟨oc40,od40,.func (fnA "_law_pairs" "_law_pairs" yc kV40 dc40 pm40 an40 cd40 ct40),sl40⟩)
  (c40:codeIn K cd40 "_law_pairs"=true)
  (k40:keepIn K (.ref f40)=true)
  (a41:nsIn K mainGlobals "law"=some (some (.ref f41)))
  (l41:K.lookup f41=some ⟨oc41,od41,.func (fnA "law" "law" QW kV41 dc41 pm41 an41 (.ref cL) ct41),sl41⟩)
  (c41:codeIn K (.ref cL) "law"=true)
  (k41:keepIn K (.ref f41)=true)
  (ii_NoneSteady:TX.WE K X_NoneSteady X_CampError f0=true)
  (sa_NoneSteady:findIn K (.ref X_NoneSteady) "__setattr__"=some (some (.builtin "object.__setattr__")))
  (nx_rings:findIn K (.ref X_NoneSteady) "rings"=some none)
  (pg:PySem.W.plainGet K C Str.empty=true)
  (hd:PySem.W.hasDictIn K C=true)
  (po:PySem.W.plainOver K C=true)
  (sa:findIn K (.ref C) "__setattr__"=some (some (.builtin "object.__setattr__")))
  (mk:PySem.W.makesIn K C=true)
  (kc:keepIn K (.ref C)=true)
  (n_size:findIn K (.ref C) "size"=some none)
  (n_wishes:findIn K (.ref C) "wishes"=some none)
  (eM:nsIn K mainGlobals "MOST_CAMPERS"=some (some (.int 6 tM)))
  (z_len:nsIn K mainGlobals "len"=some none)
  (z_list:nsIn K mainGlobals "list"=some none)
  (z_isinstance:nsIn K mainGlobals "isinstance"=some none)
  (z_range:nsIn K mainGlobals "range"=some none)
  (z_enumerate:nsIn K mainGlobals "enumerate"=some none)
  (z_min:nsIn K mainGlobals "min"=some none)
  (z_any:nsIn K mainGlobals "any"=some none)
  (z_all:nsIn K mainGlobals "all"=some none)
  (z_int:nsIn K mainGlobals "int"=some none)
  (z_bool:nsIn K mainGlobals "bool"=some none)
  (z_tuple:nsIn K mainGlobals "tuple"=some none)
  (z_sorted:nsIn K mainGlobals "sorted"=some none)
  (z_ValueError:nsIn K mainGlobals "ValueError"=some none)
  {PtL:Addr} {ocL:Value} {odL:Option Addr} {vsL:Array Value} {slL:Array (Option Value)}
  (ctL:K.lookup cL=some ⟨ocL,odL,.fields vsL,slL⟩)
  (vtL:vsL[11]?=some (.ref PtL))
  (npL:K.lookup PtL=none)
  : ∃(fd:FuncData) (c Pt:Addr),PySem.W.tabIn K "law"=some (c,Pt)/\K.lookup Pt=none/\(∀(s:Shared) (v:Value),BindsTo s fd ⟨[v],[]⟩ [("_law_script",v)])/\∀base:Heap,K.In base->base.Ns mainGlobals mg->PySem.W.CodeHd base c Pt->base.BuiltinsAt mg Pt->FnOk l.prog w K mg base CX0 24 fa fd ["_law_script"] (spLaw K Pt):=by
 obtain⟨t,h1,h2,T⟩:∃t:Adr,t.law=f41/\t.fd_law=fnA "law" "law" QW kV41 dc41 pm41 an41 (.ref cL) ct41/\Txt K mg t:=by
  refine⟨⟨C,X_CampError,X_BadCamp,X_BadPairs,X_NoCamper,X_NoneSteady,X_BadText,tT,f0,fnA "__init__" "NoneSteady.__init__" zL kV0 dc0 pm0 an0 cd0 ct0,f1,fnA "is_camper" "is_camper" yI kV1 dc1 pm1 an1 cd1 ct1,f2,fnA "check_wishes" "check_wishes" ZM kV2 dc2 pm2 an2 cd2 ct2,f3,fnA "check_lists" "check_lists" Z5 kV3 dc3 pm3 an3 cd3 ct3,f4,fnA "__init__" "Camp.__init__" Zp kV4 dc4 pm4 an4 cd4 ct4,f5,fnA "would_share" "Camp.would_share" Zh kV5 dc5 pm5 an5 cd5 ct5,f6,fnA "would_rather" "Camp.would_rather" Za kV6 dc6 pm6 an6 cd6 ct6,f7,fnA "check_pair" "check_pair" yl kV7 dc7 pm7 an7 cd7 ct7,f8,fnA "partners" "partners" y4 kV8 dc8 pm8 an8 cd8 ct8,f9,fnA "would_break" "would_break" Z2 kV9 dc9 pm9 an9 cd9 ct9,f10,fnA "breakers" "breakers" Ya kV10 dc10 pm10 an10 cd10 ct10,f11,fnA "breaking" "breaking" y9 kV11 dc11 pm11 an11 cd11 ct11,f12,fnA "would_all_share" "would_all_share" z6 kV12 dc12 pm12 an12 cd12 ct12,f13,fnA "would_all_rather" "would_all_rather" zX kV13 dc13 pm13 an13 cd13 ct13,f14,fnA "is_good_ring" "is_good_ring" ZL kV14 dc14 pm14 an14 cd14 ct14,f15,fnA "stand_once" "stand_once" yh kV15 dc15 pm15 an15 cd15 ct15,f16,fnA "last_ones" "last_ones" yH kV16 dc16 pm16 an16 cd16 ct16,f17,fnA "are_good" "are_good" yC kV17 dc17 pm17 an17 cd17 ct17,f18,fnA "tell_none" "tell_none" yb kV18 dc18 pm18 an18 cd18 ct18,f19,fnA "with_free" "with_free" yF kV19 dc19 pm19 an19 cd19 ct19,f20,fnA "with_begun" "with_begun" ZW kV20 dc20 pm20 an20 cd20 ct20,f21,fnA "rings_of" "rings_of" y3 kV21 dc21 pm21 an21 cd21 ct21,f22,fnA "ways_to_pair" "ways_to_pair" Zm kV22 dc22 pm22 an22 cd22 ct22,f23,fnA "all_steady" "all_steady" ZX kV23 dc23 pm23 an23 cd23 ct23,f24,fnA "steady_or_refused" "steady_or_refused" z9 kV24 dc24 pm24 an24 cd24 ct24,f25,fnA "alone" "alone" Qy kV25 dc25 pm25 an25 cd25 ct25,f26,fnA "mates" "mates" Qx kV26 dc26 pm26 an26 cd26 ct26,f27,fnA "_law_cell_at" "_law_cell_at" Z4 kV27 dc27 pm27 an27 cd27 ct27,f28,fnA "_law_draw" "_law_draw" y8 kV28 dc28 pm28 an28 cd28 ct28,f29,fnA "_law_lists" "_law_lists" Zu kV29 dc29 pm29 an29 cd29 ct29,f30,fnA "_law_would" "_law_would" yG kV30 dc30 pm30 an30 cd30 ct30,f31,fnA "_law_rather" "_law_rather" yj kV31 dc31 pm31 an31 cd31 ct31,f32,fnA "_law_open" "_law_open" y6 kV32 dc32 pm32 an32 cd32 ct32,f33,fnA "_law_broken" "_law_broken" yk kV33 dc33 pm33 an33 cd33 ct33,f34,fnA "_law_have" "_law_have" y7 kV34 dc34 pm34 an34 cd34 ct34,f35,fnA "_law_steady" "_law_steady" yi kV35 dc35 pm35 an35 cd35 ct35,f36,fnA "_law_good" "_law_good" yB kV36 dc36 pm36 an36 cd36 ct36,f37,fnA "_law_pairings" "_law_pairings" ZD kV37 dc37 pm37 an37 cd37 ct37,f38,fnA "_law_refused" "_law_refused" Z3 kV38 dc38 pm38 an38 cd38 ct38,f39,fnA "_law_ones" "_law_ones" yA kV39 dc39 pm39 an39 cd39 ct39,f40,fnA "_law_pairs" "_law_pairs" yc kV40 dc40 pm40 an40 cd40 ct40,f41,fnA "law" "law" QW kV41 dc41 pm41 an41 (.ref cL) ct41,tM⟩,rfl,rfl,?_⟩;have F0:=zK (st:=zL) l0 c0 k0
  have B0:=F0.binds (ps:=["self","rings"]) λ_ _ _ _ _ _ us hl=>match us,hl with|[_,_],_=>rfl
  have F1:=zK (st:=yI) l1 c1 k1
  have B1:=F1.binds (ps:=["value","size"]) λ_ _ _ _ _ _ us hl=>match us,hl with|[_,_],_=>rfl
  have F2:=zK (st:=ZM) l2 c2 k2
  have B2:=F2.binds (ps:=["camper","wishes","size"]) λ_ _ _ _ _ _ us hl=>match us,hl with|[_,_,_],_=>rfl
  have F3:=zK (st:=Z5) l3 c3 k3
  have B3:=F3.binds (ps:=["lists"]) λ_ _ _ _ _ _ us hl=>match us,hl with|[_],_=>rfl
  have F4:=zK (st:=Zp) l4 c4 k4
  have B4:=F4.binds (ps:=["self","lists"]) λ_ _ _ _ _ _ us hl=>match us,hl with|[_,_],_=>rfl
  have F5:=zK (st:=Zh) l5 c5 k5
  have B5:=F5.binds (ps:=["self","one","other"]) λ_ _ _ _ _ _ us hl=>match us,hl with|[_,_,_],_=>rfl
  have F6:=zK (st:=Za) l6 c6 k6
  have B6:=F6.binds (ps:=["self","camper","other","had"]) λ_ _ _ _ _ _ us hl=>match us,hl with|[_,_,_,_],_=>rfl
  have F7:=zK (st:=yl) l7 c7 k7
  have B7:=F7.binds (ps:=["camp","pair"]) λ_ _ _ _ _ _ us hl=>match us,hl with|[_,_],_=>rfl
  have F8:=zK (st:=y4) l8 c8 k8
  have B8:=F8.binds (ps:=["camp","pairs"]) λ_ _ _ _ _ _ us hl=>match us,hl with|[_,_],_=>rfl
  have F9:=zK (st:=Z2) l9 c9 k9
  have B9:=F9.binds (ps:=["camp","having","one","other"]) λ_ _ _ _ _ _ us hl=>match us,hl with|[_,_,_,_],_=>rfl
  have F10:=zK (st:=Ya) l10 c10 k10
  have B10:=F10.binds (ps:=["camp","having"]) λ_ _ _ _ _ _ us hl=>match us,hl with|[_,_],_=>rfl
  have F11:=zK (st:=y9) l11 c11 k11
  have B11:=F11.binds (ps:=["camp","pairs"]) λ_ _ _ _ _ _ us hl=>match us,hl with|[_,_],_=>rfl
  have F12:=zK (st:=z6) l12 c12 k12
  have B12:=F12.binds (ps:=["camp","ring"]) λ_ _ _ _ _ _ us hl=>match us,hl with|[_,_],_=>rfl
  have F13:=zK (st:=zX) l13 c13 k13
  have B13:=F13.binds (ps:=["camp","ring"]) λ_ _ _ _ _ _ us hl=>match us,hl with|[_,_],_=>rfl
  have F14:=zK (st:=ZL) l14 c14 k14
  have B14:=F14.binds (ps:=["camp","ring"]) λ_ _ _ _ _ _ us hl=>match us,hl with|[_,_],_=>rfl
  have F15:=zK (st:=yh) l15 c15 k15
  have B15:=F15.binds (ps:=["camp","rings"]) λ_ _ _ _ _ _ us hl=>match us,hl with|[_,_],_=>rfl
  have F16:=zK (st:=yH) l16 c16 k16
  have B16:=F16.binds (ps:=["rings"]) λ_ _ _ _ _ _ us hl=>match us,hl with|[_],_=>rfl
  have F17:=zK (st:=yC) l17 c17 k17
  have B17:=F17.binds (ps:=["camp","rings"]) λ_ _ _ _ _ _ us hl=>match us,hl with|[_,_],_=>rfl
  have F18:=zK (st:=yb) l18 c18 k18
  have B18:=F18.binds (ps:=["camp","rings"]) λ_ _ _ _ _ _ us hl=>match us,hl with|[_,_],_=>rfl
  have F19:=zK (st:=yF) l19 c19 k19
  have B19:=F19.binds (ps:=["camp","closed","free"]) λ_ _ _ _ _ _ us hl=>match us,hl with|[_,_,_],_=>rfl
  have F20:=zK (st:=ZW) l20 c20 k20
  have B20:=F20.binds (ps:=["camp","closed","ring","free"]) λ_ _ _ _ _ _ us hl=>match us,hl with|[_,_,_,_],_=>rfl
  have F21:=zK (st:=y3) l21 c21 k21
  have B21:=F21.binds (ps:=["camp"]) λ_ _ _ _ _ _ us hl=>match us,hl with|[_],_=>rfl
  have F22:=zK (st:=Zm) l22 c22 k22
  have B22:=F22.binds (ps:=["camp","free"]) λ_ _ _ _ _ _ us hl=>match us,hl with|[_,_],_=>rfl
  have F23:=zK (st:=ZX) l23 c23 k23
  have B23:=F23.binds (ps:=["camp"]) λ_ _ _ _ _ _ us hl=>match us,hl with|[_],_=>rfl
  have F24:=zK (st:=z9) l24 c24 k24
  have B24:=F24.binds (ps:=["camp"]) λ_ _ _ _ _ _ us hl=>match us,hl with|[_],_=>rfl
  have F25:=zK (st:=Qy) l25 c25 k25
  have B25:=F25.binds (ps:=["camp"]) λ_ _ _ _ _ _ us hl=>match us,hl with|[_],_=>rfl
  have F26:=zK (st:=Qx) l26 c26 k26
  have B26:=F26.binds (ps:=["camp","camper"]) λ_ _ _ _ _ _ us hl=>match us,hl with|[_,_],_=>rfl
  have F27:=zK (st:=Z4) l27 c27 k27
  have B27:=F27.binds (ps:=["_law_script","_law_k"]) λ_ _ _ _ _ _ us hl=>match us,hl with|[_,_],_=>rfl
  have F28:=zK (st:=y8) l28 c28 k28
  have B28:=F28.binds (ps:=["_law_cell","_law_k","_law_many"]) λ_ _ _ _ _ _ us hl=>match us,hl with|[_,_,_],_=>rfl
  have F29:=zK (st:=Zu) l29 c29 k29
  have B29:=F29.binds (ps:=["_law_script","_law_first"]) λ_ _ _ _ _ _ us hl=>match us,hl with|[_,_],_=>rfl
  have F30:=zK (st:=yG) l30 c30 k30
  have B30:=F30.binds (ps:=["_law_lists_here","_law_one","_law_other"]) λ_ _ _ _ _ _ us hl=>match us,hl with|[_,_,_],_=>rfl
  have F31:=zK (st:=yj) l31 c31 k31
  have B31:=F31.binds (ps:=["_law_lists_here","_law_camper","_law_one","_law_other"]) λ_ _ _ _ _ _ us hl=>match us,hl with|[_,_,_,_],_=>rfl
  have F32:=zK (st:=y6) l32 c32 k32
  have B32:=F32.binds (ps:=["_law_lists_here"]) λ_ _ _ _ _ _ us hl=>match us,hl with|[_],_=>rfl
  have F33:=zK (st:=yk) l33 c33 k33
  have B33:=F33.binds (ps:=["_law_lists_here","_law_have_here"]) λ_ _ _ _ _ _ us hl=>match us,hl with|[_,_],_=>rfl
  have F34:=zK (st:=y7) l34 c34 k34
  have B34:=F34.binds (ps:=["_law_lists_here","_law_pairs_here"]) λ_ _ _ _ _ _ us hl=>match us,hl with|[_,_],_=>rfl
  have F35:=zK (st:=yi) l35 c35 k35
  have B35:=F35.binds (ps:=["_law_lists_here","_law_pairs_here"]) λ_ _ _ _ _ _ us hl=>match us,hl with|[_,_],_=>rfl
  have F36:=zK (st:=yB) l36 c36 k36
  have B36:=F36.binds (ps:=["_law_lists_here","_law_rings"]) λ_ _ _ _ _ _ us hl=>match us,hl with|[_,_],_=>rfl
  have F37:=zK (st:=ZD) l37 c37 k37
  have B37:=F37.binds (ps:=["_law_lists_here"]) λ_ _ _ _ _ _ us hl=>match us,hl with|[_],_=>rfl
  have F38:=zK (st:=Z3) l38 c38 k38
  have B38:=F38.binds (ps:=["_law_lists_here","_law_camp","_law_ask"]) λ_ _ _ _ _ _ us hl=>match us,hl with|[_,_,_],_=>rfl
  have F39:=zK (st:=yA) l39 c39 k39
  have B39:=F39.binds (ps:=["_law_found","_law_due"]) λ_ _ _ _ _ _ us hl=>match us,hl with|[_,_],_=>rfl
  have F40:=zK (st:=yc) l40 c40 k40
  have B40:=F40.binds (ps:=["_law_found"]) λ_ _ _ _ _ _ us hl=>match us,hl with|[_],_=>rfl
  have F41:=zK (st:=QW) l41 c41 k41
  have B41:=F41.binds (ps:=["_law_script"]) λ_ _ _ _ _ _ us hl=>match us,hl with|[_],_=>rfl
  exact⟨⟨pg,hd,po,sa⟩,n_size,n_wishes,⟨mk,a4,i4,kc⟩,mg_of X G aC,mg_of X G eM,mg_none_of X G z_len,mg_none_of X G z_list,mg_none_of X G z_isinstance,mg_none_of X G z_range,mg_none_of X G z_enumerate,mg_none_of X G z_min,mg_none_of X G z_any,mg_none_of X G z_all,mg_none_of X G z_int,mg_none_of X G z_bool,mg_none_of X G z_tuple,mg_none_of X G z_sorted,mg_none_of X G z_ValueError,mg_of X G aX_CampError,mg_of X G aX_BadCamp,mg_of X G aX_BadPairs,mg_of X G aX_NoCamper,mg_of X G aX_NoneSteady,mg_of X G aX_BadText,kt_CampError,sp_CampError,rd_CampError,fc_CampError,⟨kt_NoneSteady,ga_NoneSteady,gt_NoneSteady,cc_NoneSteady,ca_NoneSteady,cg,ctk,mr_NoneSteady⟩,be_NoneSteady,kx_NoneSteady_BadCamp,kx_NoneSteady_BadPairs,kx_NoneSteady_NoCamper,kx_NoneSteady_NoneSteady,kx_NoneSteady_BadText,kv_NoneSteady,ii_NoneSteady,i0,sa_NoneSteady,nx_rings,mg_of X G aT,λH=>.inr ⟨_,_,_,lT,rfl,rfl,(by show 2<=sizeLine;decide),.cons ⟨_,rfl⟩ (.cons ⟨_,rfl⟩ .nil)⟩,⟨F0,B0,⟨a0,i0,k0⟩⟩,⟨F1,B1,mg_of X G a1⟩,⟨F2,B2,mg_of X G a2⟩,⟨F3,B3,mg_of X G a3⟩,⟨F4,B4,⟨a4,i4,k4⟩⟩,⟨F5,B5,⟨a5,i5,k5⟩⟩,⟨F6,B6,⟨a6,i6,k6⟩⟩,⟨F7,B7,mg_of X G a7⟩,⟨F8,B8,mg_of X G a8⟩,⟨F9,B9,mg_of X G a9⟩,⟨F10,B10,mg_of X G a10⟩,⟨F11,B11,mg_of X G a11⟩,⟨F12,B12,mg_of X G a12⟩,⟨F13,B13,mg_of X G a13⟩,⟨F14,B14,mg_of X G a14⟩,⟨F15,B15,mg_of X G a15⟩,⟨F16,B16,mg_of X G a16⟩,⟨F17,B17,mg_of X G a17⟩,⟨F18,B18,mg_of X G a18⟩,⟨F19,B19,mg_of X G a19⟩,⟨F20,B20,mg_of X G a20⟩,⟨F21,B21,mg_of X G a21⟩,⟨F22,B22,mg_of X G a22⟩,⟨F23,B23,mg_of X G a23⟩,⟨F24,B24,mg_of X G a24⟩,⟨F25,B25,mg_of X G a25⟩,⟨F26,B26,mg_of X G a26⟩,⟨F27,B27,mg_of X G a27⟩,⟨F28,B28,mg_of X G a28⟩,⟨F29,B29,mg_of X G a29⟩,⟨F30,B30,mg_of X G a30⟩,⟨F31,B31,mg_of X G a31⟩,⟨F32,B32,mg_of X G a32⟩,⟨F33,B33,mg_of X G a33⟩,⟨F34,B34,mg_of X G a34⟩,⟨F35,B35,mg_of X G a35⟩,⟨F36,B36,mg_of X G a36⟩,⟨F37,B37,mg_of X G a37⟩,⟨F38,B38,mg_of X G a38⟩,⟨F39,B39,mg_of X G a39⟩,⟨F40,B40,mg_of X G a40⟩,⟨F41,B41,mg_of X G a41⟩⟩
 have e:=hfa.symm.trans (mg_of X G a41);cases e;refine⟨t.fd_law,cL,PtL,TX.zg4 a41 l41 rfl ctL vtL,npL,?_,λbase kin _ hCd hBi=>?_⟩
 ·rw[h2];exact λs v=>.of_eq rfl
 ·have:=zhF (P:=l.prog) (w:=w) (base:=base) T (by rw[h2]) kin hCd hBi
  rw[h1] at this;exact this
end
end Tp
open PySem PySem.W PyProof.Rows
set_option maxRecDepth 100000 in
set_option maxHeartbeats 0 in
theorem PySem.Challenge.cw_tentpairs_k03_whole_all_steady_holds : PySem.Challenge.rw_tentpairs_k03_whole_all_steady.Holds := by
 w_on;o_law;k_head;(case hw=>w_witness2)
 k_fill
 refine TX.zij (l:=PySem.Challenge.rw_tentpairs_k03_whole_all_steady) (n:=63) (k:=24) (x:="_law_script") (sp:=Tp.spLaw) rfl (by decide) rfl ⟨rfl,by decide,by decide⟩ (λw h Y=>by first|exact PySem.W.km_in_of Y|exact PySem.W.kIn_of Y) ?R ?F (λK Pt H a ns _ hP hS=>⟨a,ns,rfl,hS,hP,λ_=>rfl⟩)
 case R=>exact rfl
 case F =>
  intro w mg fa h KX G hmg
  refine' Tp.all_mk KX G hmg ?aC ?aX_CampError ?aX_BadCamp ?aX_BadPairs ?aX_NoCamper ?aX_NoneSteady ?aX_BadText ?kt_CampError ?sp_CampError ?rd_CampError ?fc_CampError ?kt_NoneSteady ?ga_NoneSteady ?gt_NoneSteady ?cc_NoneSteady ?ca_NoneSteady ?mr_NoneSteady ?be_NoneSteady ?kx_NoneSteady_BadCamp ?kx_NoneSteady_BadPairs ?kx_NoneSteady_NoCamper ?kx_NoneSteady_NoneSteady ?kx_NoneSteady_BadText ?kv_NoneSteady ?cg ?ctk ?aT ?lT ?a0 ?i0 ?l0 ?c0 ?k0 ?a1 ?l1 ?c1 ?k1 ?a2 ?l2 ?c2 ?k2 ?a3 ?l3 ?c3 ?k3 ?a4 ?i4 ?l4 ?c4 ?k4 ?a5 ?i5 ?l5 ?c5 ?k5 ?a6 ?i6 ?l6 ?c6 ?k6 ?a7 ?l7 ?c7 ?k7 ?a8 ?l8 ?c8 ?k8 ?a9 ?l9 ?c9 ?k9 ?a10 ?l10 ?c10 ?k10 ?a11 ?l11 ?c11 ?k11 ?a12 ?l12 ?c12 ?k12 ?a13 ?l13 ?c13 ?k13 ?a14 ?l14 ?c14 ?k14 ?a15 ?l15 ?c15 ?k15 ?a16 ?l16 ?c16 ?k16 ?a17 ?l17 ?c17 ?k17 ?a18 ?l18 ?c18 ?k18 ?a19 ?l19 ?c19 ?k19 ?a20 ?l20 ?c20 ?k20 ?a21 ?l21 ?c21 ?k21 ?a22 ?l22 ?c22 ?k22 ?a23 ?l23 ?c23 ?k23 ?a24 ?l24 ?c24 ?k24 ?a25 ?l25 ?c25 ?k25 ?a26 ?l26 ?c26 ?k26 ?a27 ?l27 ?c27 ?k27 ?a28 ?l28 ?c28 ?k28 ?a29 ?l29 ?c29 ?k29 ?a30 ?l30 ?c30 ?k30 ?a31 ?l31 ?c31 ?k31 ?a32 ?l32 ?c32 ?k32 ?a33 ?l33 ?c33 ?k33 ?a34 ?l34 ?c34 ?k34 ?a35 ?l35 ?c35 ?k35 ?a36 ?l36 ?c36 ?k36 ?a37 ?l37 ?c37 ?k37 ?a38 ?l38 ?c38 ?k38 ?a39 ?l39 ?c39 ?k39 ?a40 ?l40 ?c40 ?k40 ?a41 ?l41 ?c41 ?k41 ?ii_NoneSteady ?sa_NoneSteady ?nx_rings ?pg ?hd ?po ?sa ?mk ?kc ?n_size ?n_wishes ?eM ?z_len ?z_list ?z_isinstance ?z_range ?z_enumerate ?z_min ?z_any ?z_all ?z_int ?z_bool ?z_tuple ?z_sorted ?z_ValueError ?ctL ?vtL ?npL
  (case aC|aX_CampError|aX_BadCamp|aX_BadPairs|aX_NoCamper|aX_NoneSteady|aX_BadText=>k_is)
  (case kt_CampError|sp_CampError|rd_CampError|fc_CampError|kt_NoneSteady=>kernel_rfl)
  (case ga_NoneSteady|gt_NoneSteady=>k_is)
  (case cc_NoneSteady=>kernel_rfl)
  (case ca_NoneSteady|mr_NoneSteady=>k_is)
  (case be_NoneSteady=>kernel_rfl)
  (case kx_NoneSteady_BadCamp|kx_NoneSteady_BadPairs|kx_NoneSteady_NoCamper|kx_NoneSteady_NoneSteady|kx_NoneSteady_BadText|kv_NoneSteady=>kit_is)
  (case cg|ctk|aT|lT|a0|i0|l0|c0|k0|a1|l1|c1|k1|a2|l2|c2|k2|a3|l3|c3|k3|a4|i4|l4|c4|k4|a5|i5|l5|c5|k5|a6|i6|l6|c6|k6|a7|l7|c7|k7|a8|l8|c8|k8|a9|l9|c9|k9|a10|l10|c10|k10|a11|l11|c11|k11|a12|l12|c12|k12|a13|l13|c13|k13|a14|l14|c14|k14|a15|l15|c15|k15|a16|l16|c16|k16|a17|l17|c17|k17|a18|l18|c18|k18|a19|l19|c19|k19|a20|l20|c20|k20|a21|l21|c21|k21|a22|l22|c22|k22|a23|l23|c23|k23|a24|l24|c24|k24|a25|l25|c25|k25|a26|l26|c26|k26|a27|l27|c27|k27|a28|l28|c28|k28|a29|l29|c29|k29|a30|l30|c30|k30|a31|l31|c31|k31|a32|l32|c32|k32|a33|l33|c33|k33|a34|l34|c34|k34|a35|l35|c35|k35|a36|l36|c36|k36|a37|l37|c37|k37|a38|l38|c38|k38|a39|l39|c39|k39|a40|l40|c40|k40|a41|l41|c41|k41=>k_is)
  (case ii_NoneSteady=>kernel_rfl)
  (case sa_NoneSteady|nx_rings|pg|hd|po|sa|mk|kc|n_size|n_wishes|eM|z_len|z_list|z_isinstance|z_range|z_enumerate|z_min|z_any|z_all|z_int|z_bool|z_tuple|z_sorted|z_ValueError|ctL=>k_is)
  (case vtL=>exact rfl)
  (case npL=>kernel_rfl)
#print axioms PySem.Challenge.cw_tentpairs_k03_whole_all_steady_holds
