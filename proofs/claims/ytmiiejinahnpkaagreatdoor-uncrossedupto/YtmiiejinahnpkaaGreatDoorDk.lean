import Derived.Test.YtmiiejinahnpkaaGreatDoorXBmCd
import Derived.Deep.Slices
import Derived.DataReads
import Derived.Test.YtmiiejinahnpkaaGreatDoorRows
import Derived.Test.YtmiiejinahnpkaaGreatDoorCards
import Derived.Test.YtmiiejinahnpkaaGreatDoorTie
import Derived.ProofKit
import Derived.OpenShut
import Derived.Deep.DeepHandedRow
import Derived.Deep.DeepWitnessRowRef
import Derived.Lib.LaidTab
import Derived.LaidMore
import Derived.Carry
import Derived.ReadAgain
namespace Go.Proofs.YtmiiejinahnpkaaGreatDoor
open Go.RowKit
theorem Tryz.cellsOp:Tryz.prog.cellsOf 34=4:=by kernel_rfl
theorem Tryz.cellsEvent:Tryz.prog.cellsOf 42=10:=by kernel_rfl
theorem Tryz.cellsU8:Tryz.prog.cellsOf 5=1:=by kernel_rfl
theorem Tryz.cellsBytes:Tryz.prog.cellsOf 31=1:=by kernel_rfl
theorem Tryz.cellsEvents:Tryz.prog.cellsOf 32=1:=by kernel_rfl
theorem Tryz.cellsInt:Tryz.prog.cellsOf 3=1:=by kernel_rfl
theorem Tryz.cellsBool:Tryz.prog.cellsOf 4=1:=by kernel_rfl
def flds (P:Program) (t:TypeId):Option (List (Nat×TypeId)):=match P.underlying t with|some (.struct fs)=>some (fs.toList.map fun f=>(f.offset,f.type))|_=>none
theorem zhb {P:Program}{t:TypeId}{l:List (Nat×TypeId)}(h:flds P t=some l): ∃fs:Array Field,P.underlying t=some (.struct fs)/\ ∀(j o:Nat) (u:TypeId),l[j]?=some (o,u)-> ∃f,fs[j]?=some f/\f.offset=o/\f.type=u:=by
 unfold flds at h
 split at h
 .rename_i fs hfs
  refine⟨fs,hfs,fun j o u hj=>?_⟩
  simp only[Option.some.injEq] at h
  rw[←h,List.getElem?_map] at hj
  cases hf:fs[j]? with
  |none=>
   rw[Array.getElem?_toList,hf] at hj
   simp at hj
  |some f=>
   rw[Array.getElem?_toList,hf] at hj
   simp only[Option.map_some,Option.some.injEq,Prod.mk.injEq] at hj
   exact⟨f,rfl,hj.1,hj.2⟩
 .cases h
theorem Tryz.fldsOp:flds Tryz.prog 34=some [(0,3),(1,31),(2,32),(3,4)]:=by kernel_rfl
def evOk (P:Program):Option (List (Nat×TypeId))->Bool
 |some l=>l.length==10&&(List.range 10).all fun j=>match l[j]? with
  |some (o,u)=>o==j&&P.cellsOf u==1&&(match P.underlying u with|some (.int .i64)=>true|_=>false)
  |none=>false
 |none=>false
theorem Tryz.evOk:evOk Tryz.prog (flds Tryz.prog 42)=true:=by kernel_rfl
theorem evOk_get {P:Program}{l:List (Nat×TypeId)}(h:evOk P (some l)=true)(j:Nat)(hj:j<10): ∃u,l[j]?=some (j,u)/\P.cellsOf u=1/\P.underlying u=some (.int .i64):=by
 simp only[evOk,Bool.and_eq_true,List.all_eq_true,List.mem_range] at h
 have hjj:=h.2 j hj
 cases hlj:l[j]? with
 |none=>rw[hlj] at hjj;simp at hjj
 |some ou=>
  obtain ⟨o,u⟩:=ou
  rw[hlj] at hjj
  simp only[Bool.and_eq_true,beq_iff_eq] at hjj
  obtain ⟨⟨rfl,hc⟩,hu⟩:=hjj
  refine⟨u,rfl,hc,?_⟩
  split at hu
  .assumption
  .cases hu
theorem wf_i64 {z:Int}(h:(Lit.int .i64 z).wf=true): -9223372036854775808<=z/\z<=9223372036854775807:=by
 have h1:IntKind.i64.min= -9223372036854775808:=by decide
 have h2:IntKind.i64.max=9223372036854775807:=by decide
 simpa [Lit.wf,h1,h2] using h
theorem wf_u8 {z:Int}(h:(Lit.int .u8 z).wf=true):0<=z/\z<=255:=by
 have h1:IntKind.u8.min=0:=by decide
 have h2:IntKind.u8.max=255:=by decide
 simpa [Lit.wf,h1,h2] using h
theorem zhz (b o k:Nat):(⟨b,o,none⟩:Addr).add k=⟨b,o+k,none⟩:=by unfold Addr.add;split<;>simp_all
theorem zgl {w:World}{a:Addr}{v:Value}(h:w.cell? a=some v):a=⟨a.block,a.off,none⟩:=by
 unfold World.cell? at h
 split at h
 .split at h
  .cases h
  .rename_i hs
   cases a with
   |mk b o s=>cases s with
    |none=>rfl
    |some _=>simp at hs
 .cases h
section
variable {H:Type} {enc:TypeId×Value->H} {w:World} {spare:Nat->Bool} {held:Bool}
theorem open_event {fuel:Nat}{cs:List Value}{x:DataW H×List MemPlace}(h:DataW.trod enc Tryz.prog w 0 spare held fuel 42 cs=some x):
  ∀j,j<10-> ∃z,cs[j]?=some (.int .i64 z)/\ -9223372036854775808<=z/\z<=9223372036854775807:=by
 have hok:=Tryz.evOk
 cases hl:flds Tryz.prog 42 with
 |none=>rw[hl] at hok;simp[evOk] at hok
 |some l=>
  rw[hl] at hok
  obtain ⟨fs,hfs,hf⟩:=zhb hl
  obtain ⟨xs,n,_,_,hlen,hxl,hx⟩:=DataW.trod_struct hfs h
  rw[Tryz.cellsEvent] at hlen
  intro j hj
  obtain ⟨u,hlj,hc,hu'⟩:=evOk_get hok j hj
  obtain ⟨f,hfj,rfl,rfl⟩:=hf j j u hlj
  have ht:=hx f.offset f hfj
  rw[hc] at ht
  cases hxj:xs[f.offset]? with
  |none=>
   have:f.offset<xs.length:=by
    have:=(gsi.1 hfj).1
    omega
   rw[List.getElem?_eq_none_iff] at hxj
   omega
  |some y=>
   rw[hxj] at ht
   obtain ⟨z,hz,_,hwf⟩:=DataW.trod_int hu' ht
   refine⟨z,?_,?_⟩
   .have h1:((cs.drop f.offset).take 1)[0]?=some (.int .i64 z):=by rw[hz];rfl
    rw[List.getElem?_take] at h1
    simpa using h1
   .exact wf_i64 hwf
end
end Go.Proofs.YtmiiejinahnpkaaGreatDoor
namespace Go.Proofs.YtmiiejinahnpkaaGreatDoor
open Go.RowKit
theorem zj0 {H:Type}(d:DataW H):1<=Rows.uptoBulk d:=by
 cases d with
 |lit l=>cases l<;>simp[Rows.uptoBulk]
 |_=>simp[Rows.uptoBulk]
theorem bulk_mem {H:Type}{d:DataW H}{l:List (DataW H)}(h:d∈l):Rows.uptoBulk d<=Rows.uptoBulkAll l:=by
 induction l with
 |nil=>cases h
 |cons x r ih=>
  simp only[Rows.uptoBulkAll]
  rcases List.mem_cons.1 h with rfl|e
  .omega
  .have:=ih e;omega
theorem zj1 {H:Type}(l:List (DataW H)):l.length<=Rows.uptoBulkAll l:=by
 induction l with
 |nil=>simp
 |cons x r ih=>have:=zj0 x;simp only[Rows.uptoBulkAll,List.length_cons];omega
theorem zgr {H:Type}(e s:List (DataW H)):Rows.uptoBulkAll e<=Rows.uptoBulk (.slice e s):=by
 simp only[Rows.uptoBulk]
 omega
theorem bulk_agg {H:Type}(e:List (DataW H)):Rows.uptoBulkAll e<=Rows.uptoBulk (.agg e):=by
 simp only[Rows.uptoBulk]
 omega
section
variable {H:Type} {enc:TypeId×Value->H} {w:World} {spare:Nat->Bool} {held:Bool}
theorem open_bytes {fuel:Nat}{cs:List Value}{x:DataW H×List MemPlace}(h:DataW.trod enc Tryz.prog w 0 spare held fuel 31 cs=some x)(hk:Rows.uptoBulk x.1<=1048576):
  ∃a N c X,cs=[.slice a N c]/\N<=1048576/\BsAt w a N X/\ ∀q,q<N->0<=X q/\X q<=255:=by
 rcases ChangeShapes.open_ints Tryz.underlying31 Tryz.underlying5 Tryz.cellsU8 h with ⟨rfl,_⟩|⟨a,len,cap,zs,rfl,_,hl,_,hz,rfl,hc,hw⟩
 .exact⟨none,0,0,fun _=>0,rfl,by omega,fun i hi=>absurd hi (by omega),fun i hi=>absurd hi (by omega)⟩
 .have hlen:len<=zs.length:=by rw[hz];split<;>omega
  refine⟨some a,len,cap,fun q=>zs.getD q 0,rfl,?_,?_,?_⟩
  .have h1:=zgr (H:=H) (ChangeShapes.lits .u8 (zs.take len)) (ChangeShapes.lits .u8 (zs.drop len))
   have h2:=zj1 (H:=H) (ChangeShapes.lits .u8 (zs.take len))
   simp[ChangeShapes.lits] at h2
   simp only at hk
   simp[ChangeShapes.lits] at h1 hk
   omega
  .intro i hi
   have h0:=hc 0 (by omega)
   have hp:=zgl (show w.cell? a=some _ by simpa [Addr.add] using h0)
   refine⟨a.block,a.off,by rw[←hp],?_⟩
   have:=hc i (by omega)
   rw[hp,zhz] at this
   exact this
  .intro q hq
   have hq':q<zs.length:=by omega
   refine wf_u8 (hw _ ?_)
   show zs.getD q 0∈zs
   rw[List.getD_eq_getElem?_getD,List.getElem?_eq_getElem hq']
   exact List.getElem_mem hq'
theorem open_events {fuel:Nat}{cs:List Value}{x:DataW H×List MemPlace}(h:DataW.trod enc Tryz.prog w 0 spare held fuel 32 cs=some x)(hk:Rows.uptoBulk x.1<=1048576):
  ∃a n c es,cs=[.slice a n c]/\n<=1048576/\ze1 w a n es/\ ∀q j,-9223372036854775808<=es q j/\es q j<=9223372036854775807:=by
 rcases Deep.open_slice Tryz.underlying32 h with ⟨rfl,_⟩|⟨a,len,cap,m,n,D,Pl,rfl,_,hl,_,hm,rfl,hx⟩
 .exact⟨none,0,0,fun _ _=>0,rfl,by omega,fun i hi=>absurd hi (by omega),fun _ _=>by simp⟩
 .have hlen:len<=m:=by rw[hm];split<;>omega
  have key: ∀i,i<len-> ∀j,j<10-> ∃z,w.cell? (a.add (i * 10+j))=some (.int .i64 z)/\ -9223372036854775808<=z/\z<=9223372036854775807:=by
   intro i hi j hj
   obtain ⟨cs',h1,h2⟩:=hx i (by omega)
   rw[Tryz.cellsEvent] at h1
   obtain ⟨_,_,h3⟩:=World.cells?_some h1
   obtain ⟨z,hz,hr⟩:=open_event h2 j hj
   refine⟨z,?_,hr⟩
   rw[←Deep.add_add,h3 j hj,hz]
  obtain ⟨es,he1,he2⟩: ∃es:Nat->Nat->Int,(∀i,i<len-> ∀j,j<10->w.cell? (a.add (i * 10+j))=some (.int .i64 (es i j)))/\ ∀q j,-9223372036854775808<=es q j/\es q j<=9223372036854775807:=by
   classical
   refine⟨fun i j=>if hh:i<len/\j<10 then Classical.choose (key i hh.1 j hh.2) else 0,fun i hi j hj=>?_,fun q j=>?_⟩
   .simp only[dif_pos (show i<len/\j<10 from ⟨hi,hj⟩)]
    exact(Classical.choose_spec (key i hi j hj)).1
   .by_cases hh:q<len/\j<10
    .simp only[dif_pos hh]
     exact(Classical.choose_spec (key q hh.1 j hh.2)).2
    .simp only[dif_neg hh]
     omega
  refine⟨some a,len,cap,es,rfl,?_,?_,he2⟩
  .have h1:=zgr (H:=H) ((List.range len).map D) ((List.range (m-len)).map fun j=>D (len+j))
   have h2:=zj1 (H:=H) ((List.range len).map D)
   simp only[List.length_map,List.length_range] at h2
   simp only at hk
   omega
  .intro i hi
   have h0:=he1 0 (by omega) 0 (by decide)
   have hp:=zgl (show w.cell? a=some _ by simpa [Addr.add] using h0)
   refine⟨a.block,a.off,by rw[←hp],fun j hj=>?_⟩
   have:=he1 i hi j hj
   rw[hp,zhz] at this
   rw[Nat.add_assoc]
   exact this
end
end Go.Proofs.YtmiiejinahnpkaaGreatDoor
namespace Go.Proofs.YtmiiejinahnpkaaGreatDoor.coded
open Go.ChangeShapes Go.WideShapes Go.ChangeAt Go.RowKit
theorem own:ownKnob Tryz.prog.godebug=none:=by kernel_rfl
theorem gLay : Tryz.prog.globalNamed "outcry/wire.layouts" = some 0 := by kernel_rfl
theorem gLayType:(Tryz.prog.globals[0]?).map (·.type)=some 134:=by kernel_rfl
theorem cellsFields:Tryz.prog.cellsOf 133=1:=by kernel_rfl
theorem cellsField:Tryz.prog.cellsOf 135=1:=by kernel_rfl
theorem noHandle:(Rows.codedUptoRow.laid.filter fun x=>x.2.handleName?.isSome)=[]:=by kernel_rfl
theorem trod_array {H:Type}{enc:TypeId×Value->H}{P:Program}{w:World}{base:Nat}{sp:Nat->Bool}{held:Bool}{fuel:Nat}{t e:TypeId}{n:Nat}{cs:List Value}{ds:List (DataW H)}{p:List MemPlace}
  (ht:P.underlying t=some (.array n e))(hce:P.cellsOf e=1)(hct:P.cellsOf t=n)(h:DataW.trod enc P w base sp held fuel t cs=some (.agg ds,p)):
  ∀i d,i<n->ds[i]?=some d-> ∃v m q,cs[i]?=some v/\DataW.trod enc P w base sp held m e [v]=some (d,q):=by
 cases fuel with
 |zero=>simp[DataW.trod] at h
 |succ m=>
  simp only[DataW.trod,ht,hce,Nat.mul_one] at h
  split at h
  .obtain ⟨xs,hm,hx⟩:=Option.map_eq_some_iff.1 h
   have hx1:xs.map (·.1)=ds:=by simpa using congrArg Prod.fst hx
   intro i d hi hd
   obtain ⟨y,hy1,hy2⟩:=Lib.mapM_at hm i i (by simp[hi])
   rw[←hx1,List.getElem?_map,hy1] at hd
   simp only[Option.map_some,Option.some.injEq] at hd
   have hlen:i<cs.length:=by
    have h1:cs.length=P.cellsOf t:=by assumption
    have h2:P.cellsOf t=n:=hct
    omega
   refine⟨cs[i],m,y.2,List.getElem?_eq_getElem hlen,?_⟩
   have hdr:(cs.drop i).take 1=[cs[i]]:=by
    rw[List.drop_eq_getElem_cons hlen]
    rfl
   rw[hdr] at hy2
   rw[hy2,←hd]
  .cases h
theorem cellsLayouts:Tryz.prog.cellsOf 134=9:=by kernel_rfl
def rowsOf:List (List Int):=[[],[0,4],[0,1],[2,3,4,5],[0,4],[0,4],[5,4,6],[5,4,6],[7]]
theorem laid_get (k:Nat)(h1:1<=k)(h2:k<=8): ∃ds:List (DataW Unit),Rows.laid_outcry_wire_layouts= .agg ds/\ds[k]?=some (.slice ((lay k).map fun f=> .lit (.int .i64 (f:Nat))) []):=by
 refine⟨_,rfl,?_⟩
 rcases (show k=1\/k=2\/k=3\/k=4\/k=5\/k=6\/k=7\/k=8 by omega) with rfl|rfl|rfl|rfl|rfl|rfl|rfl|rfl<;>rfl
theorem layAt {W:World}(h:laidMetH Tryz.prog Rows.codedUptoRow.laid W):zcq W:=by
 have h':laidMet Tryz.prog Rows.codedUptoRow.laid W:=by
  unfold laidMetH at h
  rw[noHandle] at h
  exact h
 obtain ⟨ps,⟨g,t,cs,fuel,p,q,hg,ht,hvar,hd,_,_⟩,_⟩:=h'
 obtain rfl:=Option.some.inj (gLay.symm.trans hg)
 obtain rfl:=Option.some.inj (gLayType.symm.trans ht)
 intro k h1 h2
 obtain ⟨ds,hds,hk⟩:=laid_get k h1 h2
 rw[hds] at hd
 obtain ⟨v,m,q',hv,hr⟩:=trod_array Tryz.underlying134 cellsFields cellsLayouts hd k _ (by omega) hk
 obtain ⟨a,cap,hcs,_,hrow⟩:=open_row Tryz.underlying133 cellsField hr
 simp only[List.cons.injEq,and_true] at hcs
 subst hcs
 have hc:=World.var?_cell gLay hvar k
 rw[Array.getElem?_toList] at hv
 rw[hv] at hc
 have each: ∀i f,(lay k)[i]?=some f->W.cell? (a.add i)=some (.int .i64 (f:Nat)):=by
  intro i f hf
  obtain ⟨v',n',q'',hw,hi⟩:=hrow i (.lit (.int .i64 (f:Nat))) (by rw[List.getElem?_map,hf];rfl)
  obtain ⟨z,hz,hz2,_⟩:=DataW.trod_int Tryz.underlying135 hi
  simp only[List.cons.injEq,and_true] at hz
  simp only[Prod.mk.injEq,DataW.lit.injEq,Lit.int.injEq,true_and] at hz2
  rw[hw,hz,←hz2.1]
 have hne: ∃f,(lay k)[0]?=some f:=by
  rcases (show k=1\/k=2\/k=3\/k=4\/k=5\/k=6\/k=7\/k=8 by omega) with rfl|rfl|rfl|rfl|rfl|rfl|rfl|rfl<;>exact⟨_,rfl⟩
 obtain ⟨f0,hf0⟩:=hne
 have hp:=zgl (show W.cell? a=some _ by simpa [Addr.add] using each 0 f0 hf0)
 refine⟨a.block,a.off,cap,?_,fun i f hf=>?_⟩
 .rw[hc,←hp]
  simp
 .have:=each i f hf
  rw[hp,zhz] at this
  exact this
end Go.Proofs.YtmiiejinahnpkaaGreatDoor.coded
namespace Go.Proofs.YtmiiejinahnpkaaGreatDoor.coded
open Go.ChangeShapes Go.WideShapes Go.ChangeAt Go.RowKit
theorem kids:Kids Tryz.prog (· <Tryz.prog.types.size):=kids_rows (by kernel_rfl) (by kernel_rfl)
theorem full: ∀t e,t<Tryz.prog.types.size->Tryz.prog.underlying t=some (.slice e)->0<Tryz.prog.cellsOf e:=slices_full_of Tryz.prog (by kernel_rfl)
theorem post_below {H:Type}{enc:TypeId×Value->H}{P:Program}{f:Func}{s:ChangeSpec}{W W':World}{args:Array Value}{v:Value}{ds:List (DataW H)}{before:List MemPlace}
  (hW:DataW.Whole enc P f.params.toList s.vars false W args.toList ds [] before)(hv0:s.vars=[])(hA:(s.fn H (ds++[])).args=ds)(hvs:(s.fn H (ds++[])).vars=[])(hb:Below W.heap.size W W')
  (hres: ∀(b:Nat) (sp:Nat->Bool) (hd:Bool),DataW.TrodAll enc P W' b sp hd f.resultTypes.toList (v.resultList f.resultTypes.size) (s.fn H (ds++[])).results [])
  (hargs: ∀sp:Nat->Bool,(∀p∈before,sp p.block=true)->DataW.TrodAll enc P W' 0 sp true f.params.toList args.toList ds before):
  s.post enc P f false true false false W args v W':=by
 have hlt:=hW.lt
 have hvars: ∀sp:Nat->Bool,DataW.TrodVars enc P W' sp s.vars (s.fn H (ds++[])).vars []:=fun sp=>by rw[hv0,hvs];rfl
 have hargs': ∀sp:Nat->Bool,(∀p∈before,sp p.block=true)->DataW.TrodAll enc P W' 0 sp true f.params.toList args.toList (s.fn H (ds++[])).args before:=fun sp h=>by rw[hA];exact hargs sp h
 refine⟨ds,[],before,[],before,[],hW,hres _ _ _,hargs' _ (fun p hp=>by simpa using hlt p hp),hvars _,World.keptBut_mono (fun p hp=>⟨hp,Or.inr (by simpa using hp)⟩) (hb.frame _),fun h=>by cases h⟩
end Go.Proofs.YtmiiejinahnpkaaGreatDoor.coded
namespace Go.Proofs.YtmiiejinahnpkaaGreatDoor
open Go.RowKit
def cfgOk (P:Program):Option (List (Nat×TypeId))->Bool
 |some l=>l.length==6&&(List.range 6).all fun j=>match l[j]? with
  |some (o,u)=>o==j&&P.cellsOf u==1&&(match P.underlying u with|some (.int .i64)=>true|_=>false)
  |none=>false
 |none=>false
theorem Tryz.cfgOk:cfgOk Tryz.prog (flds Tryz.prog 46)=true:=by kernel_rfl
theorem Tryz.cellsConfig:Tryz.prog.cellsOf 46=6:=by kernel_rfl
theorem cfgOk_get {P:Program}{l:List (Nat×TypeId)}(h:cfgOk P (some l)=true)(j:Nat)(hj:j<6): ∃u,l[j]?=some (j,u)/\P.cellsOf u=1/\P.underlying u=some (.int .i64):=by
 simp only[cfgOk,Bool.and_eq_true,List.all_eq_true,List.mem_range] at h
 have hjj:=h.2 j hj
 cases hlj:l[j]? with
 |none=>rw[hlj] at hjj;simp at hjj
 |some ou=>
  obtain ⟨o,u⟩:=ou
  rw[hlj] at hjj
  simp only[Bool.and_eq_true,beq_iff_eq] at hjj
  obtain ⟨⟨rfl,hc⟩,hu⟩:=hjj
  refine⟨u,rfl,hc,?_⟩
  split at hu
  .assumption
  .cases hu
theorem list_six {l:List Value}(h:l.length=6): ∃a b c d e f,l=[a,b,c,d,e,f]:=by
 match l,h with
 |[a,b,c,d,e,f],_=>exact⟨a,b,c,d,e,f,rfl⟩
theorem zfv {H:Type}{enc:TypeId×Value->H}{w:World}{spare:Nat->Bool}{held:Bool}{fuel:Nat}{cs:List Value}{x:DataW H×List MemPlace}(h:DataW.trod enc Tryz.prog w 0 spare held fuel 46 cs=some x):
  ∃z:Nat->Int,cs=[.int .i64 (z 0),.int .i64 (z 1),.int .i64 (z 2),.int .i64 (z 3),.int .i64 (z 4),.int .i64 (z 5)]:=by
 have hok:=Tryz.cfgOk
 cases hl:flds Tryz.prog 46 with
 |none=>rw[hl] at hok;simp[Go.Proofs.YtmiiejinahnpkaaGreatDoor.cfgOk] at hok
 |some l=>
  rw[hl] at hok
  obtain ⟨fs,hfs,hf⟩:=zhb hl
  obtain ⟨xs,n,_,_,hlen,hxl,hx⟩:=DataW.trod_struct hfs h
  rw[Tryz.cellsConfig] at hlen
  have key: ∀j,j<6-> ∃z,cs[j]?=some (.int .i64 z):=by
   intro j hj
   obtain ⟨u,hlj,hc,hu'⟩:=cfgOk_get hok j hj
   obtain ⟨f,hfj,rfl,rfl⟩:=hf j j u hlj
   have ht:=hx f.offset f hfj
   rw[hc] at ht
   cases hxj:xs[f.offset]? with
   |none=>
    have:f.offset<xs.length:=by
     have:=(gsi.1 hfj).1
     omega
    rw[List.getElem?_eq_none_iff] at hxj
    omega
   |some y=>
    rw[hxj] at ht
    obtain ⟨z,hz,_,hwf⟩:=DataW.trod_int hu' ht
    refine⟨z,?_⟩
    have h1:((cs.drop f.offset).take 1)[0]?=some (.int .i64 z):=by rw[hz];rfl
    rw[List.getElem?_take] at h1
    simpa using h1
  obtain ⟨a,b,c,d,e,f,rfl⟩:=list_six hlen
  obtain ⟨z0,e0⟩:=key 0 (by decide)
  obtain ⟨z1,e1⟩:=key 1 (by decide)
  obtain ⟨z2,e2⟩:=key 2 (by decide)
  obtain ⟨z3,e3⟩:=key 3 (by decide)
  obtain ⟨z4,e4⟩:=key 4 (by decide)
  obtain ⟨z5,e5⟩:=key 5 (by decide)
  simp only[List.getElem?_cons_zero,List.getElem?_cons_succ,Option.some.injEq] at e0 e1 e2 e3 e4 e5
  refine⟨fun j=>if j=0 then z0 else if j=1 then z1 else if j=2 then z2 else if j=3 then z3 else if j=4 then z4 else z5,?_⟩
  rw[e0,e1,e2,e3,e4,e5]
  rfl
end Go.Proofs.YtmiiejinahnpkaaGreatDoor
