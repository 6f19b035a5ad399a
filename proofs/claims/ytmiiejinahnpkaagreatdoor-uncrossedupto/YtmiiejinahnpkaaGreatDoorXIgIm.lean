import Derived.Test.YtmiiejinahnpkaaGreatDoorXIeIf
import Derived.Shelf.Spec.SlicesInsertGrow
import Derived.Deep.DeepAppendWide
set_option maxRecDepth 100000
set_option maxHeartbeats 4000000
namespace Go.Proofs.YtmiiejinahnpkaaGreatDoor
section
open Go.RowKit Go.Shelf Go.Maps
theorem Tryz.keyInt:Keyed Tryz.prog 3:=int_keyed Tryz.underlying3
theorem Tryz.zeroUnit (w:World):(zeroValue 221).run Tryz.prog w= .ok (.agg #[]) w:=by kernel_rfl
theorem idKeys_key (l:List Od): ∀x∈zi9 l,WideAt.IsKeyLit x:=by
 intro x hx
 unfold zi9 at hx
 obtain ⟨o,_,rfl⟩:=List.mem_map.1 hx
 trivial
theorem ids_has (l:List Od)(id:Nat):Maps.has (zb7 l) (Lit.int .i64 id)=l.any (fun a=>a.id==id):=by
 unfold zb7
 rw[has_setOf _ _ _ (idKeys_key l)]
 unfold zi9
 rw[List.any_map]
 congr 1
 funext o
 simp only[Function.comp,Lit.sameKey]
 by_cases e:o.id=id
 .simp[e]
 .have h1: ¬((o.id:Int)=(id:Int)):=by omega
  simp[e,h1]
theorem zjl (b:Bk)(ph:Nat)(l:List Od)(id:Nat)(hid:id<=4294967295)(w:World)(R:EW)(h:BKs w b ph l)(hR: ∀w',Below w.heap.size w w'->R (.returned (.bool (l.any (fun a=>a.id==id)))) w'):
  Calls Tryz.prog 158 #[.pointer (some ⟨b.K,0,none⟩),.int .i64 (id:Nat)] w R:=by
 have hh:=ids_has l id
 generalize l.any (fun a=>a.id==id)=bb at *
 have HR:Hid (∀w',Below w.heap.size w w'->R (.returned (.bool bb)) w'):=hR
 have c3:=h.cells 3 _ rfl
 have HO:=zl (h.ids)
 have hkey:keyOf Tryz.prog 3 (.int .i64 (id:Nat))=some (.int .i64 (id:Nat)):=keyOf_int_mk Tryz.underlying3 (WalkArith.wf_i64 (by omega))
 clear hR h
 go_enter Tryz.func158,Tryz.ntmps158
 go_wp2_with (at_lookup;refine wpList_lookup_own_unit _ rfl _ _ 147 rfl 3 221 Tryz.keyInt Tryz.underlying147 (Tryz.zeroUnit _) b.M l.length (zb7 l) rfl HO.o _ _ rfl hkey ?_)
 exact HR.o _ (zac _ _)
theorem bNew_any (adr:Nat->Nat)(ph:Nat)(w:World)(R:EW)(hR: ∀w',BKs w' ⟨w.heap.size+1,w.heap.size,fun _=> .slice none 0 0,fun _=>[],adr⟩ ph []->Below w.heap.size w w'->R (.returned (.pointer (some ⟨w.heap.size+1,0,none⟩))) w'):
  Calls Tryz.prog 68 #[] w R:=by
 have hb:Below w.heap.size w ((w.alloc (.map #[] 0)).alloc (.cells #[.slice none 0 0,.slice none 0 0,.slice none 0 0,.map (some w.heap.size)] 149)):=((Below.refl _ w).alloc nr _).alloc (by simp) _
 have HF:Hid (R (.returned (.pointer (some ⟨w.heap.size+1,0,none⟩))) ((w.alloc (.map #[] 0)).alloc (.cells #[.slice none 0 0,.slice none 0 0,.slice none 0 0,.map (some w.heap.size)] 149))):=by
  refine hR _ ⟨?_,fun s _=>World.ownsRow_nil _ _ _ _,fun s _ i hi=>(by cases hi),fun g hg=>(by cases hg),?_,fun s _=>(by simp)⟩ hb
  .have:=World.alloc_heap_new (w.alloc (.map #[] 0)) (.cells #[.slice none 0 0,.slice none 0 0,.slice none 0 0,.map (some w.heap.size)] 149)
   rwa[World.size_alloc] at this
  .exact(World.ownsMap_made w Tryz.prog 3 _).alloc _
 have hmm:= @run_makeMap Tryz.prog
 clear hR hb
 go_enter Tryz.func68,Tryz.ntmps68
 go_wp2_with fail
 exact HF.o
variable {W w:World}
theorem OB.setWait {E:Nat}{o:Od}{f:Bool}{t:Nat}(h:OB w E o f t)(f':Bool):OB (w.setCell ⟨E,5,none⟩ (.bool f')) E o f' t:=by
 have:=zbb (j:=5) (v:= .bool f') h
 unfold OB
 rw[this]
 simp[obc]
def Bk.O (b:Bk) (g:Nat):Prop:= ∃s,isSd s/\ ∃i∈b.q s,g=b.adr i
structure RS (w:World) (b:Bk) (l:List Od) (fl:Nat->Bool) (W:World):Prop where
 ord: ∀s,isSd s-> ∀i∈b.q s,OB W (b.adr i) (nth l i) (fl i) i
 tch:Tch b.O w W
variable {b:Bk} {l:List Od} {ph:Nat} {fl:Nat->Bool}
theorem RS.set (h:RS w b l fl W)(hB:BKs w b ph l){s i:Nat}(hs:isSd s)(hi:i∈b.q s):RS w b l (fun j=>if j=i then false else fl j) (W.setCell ⟨b.adr i,5,none⟩ (.bool false)):=by
 refine⟨fun s' hs' j hj=>?_,?_⟩
 .by_cases e:j=i
  .subst e
   rw[if_pos rfl]
   exact(h.ord s' hs' j hj).setWait false
  .rw[if_neg e]
   exact(h.ord s' hs' j hj).other (fun e2=>e (hB.adrOne hs hi hs' hj e2.symm))
 .refine h.tch.andThen rfl rfl rfl (by simp[World.setCell]) fun g _ hn=>?_
  exact bhs _ _ _ _ (fun e=>hn ⟨s,hs,i,hi,e⟩)
theorem BKs.notO (h:BKs w b ph l){g:Nat}(hg:b.T g\/g=b.M): ¬b.O g:=by
 rintro ⟨s,hs,i,hi,e⟩
 rcases hg with hg|hg
 .exact h.ordT hs hi (e▸hg)
 .exact h.ordM hs hi (hg.symm.trans e)
theorem RS.row (h:RS w b l fl W)(hB:BKs w b ph l){s:Nat}(hs:isSd s){g:Nat}(hg:(b.v s).ownBlock=some g):W.heap[g]?=w.heap[g]?:=by
 refine h.tch.blk g (hB.lt (.inr (.inr ⟨s,hs,.inl hg⟩))) (hB.notO (.inl ?_))
 rcases hs with rfl|rfl
 .exact .inr (.inl hg)
 .exact .inr (.inr hg)
theorem RS.done (h:RS w b l fl W)(hB:BKs w b ph l)(hf: ∀s,isSd s-> ∀i∈b.q s,fl i=false)(ph':Nat)(hp:2<=ph'):BKs W b ph' l:=by
 refine⟨(h.tch.blk _ (hB.lt (.inl rfl)) (hB.notO (.inl (.inl rfl)))).trans hB.blk,fun s hs=>zb6 (hB.row s hs) fun g hg=>h.row hB hs hg,fun s hs i hi=>?_,hB.sep,zcj hB.ids (h.tch.blk _ (hB.lt (.inr (.inl rfl))) (hB.notO (.inr rfl))),hB.cnt⟩
 have h1:=h.ord s hs i hi
 rw[hf s hs i hi] at h1
 have:wt ph' (nth l i)=false:=by
  unfold wt
  rw[show decide (ph'<2)=false by simp;omega]
  simp
 rw[this]
 exact h1
theorem bRelease_any (b:Bk)(ph:Nat)(l:List Od)(w:World)(R:EW)(h:BKs w b ph l)(hR: ∀w',(∀ph',2<=ph'->BKs w' b ph' l)->Tch b.O w w'->R (.returned (.tuple #[])) w'):
  Calls Tryz.prog 172 #[.pointer (some ⟨b.K,0,none⟩)] w R:=by
 have HB:=zl h
 have HR:Hid (∀fl w',RS w b l fl w'->(∀k,k<(b.q 1).length->fl (qat (b.q 1) k)=false)->(∀k,k<(b.q 2).length->fl (qat (b.q 2) k)=false)->R (.returned (.tuple #[])) w'):=by
  intro fl w' h1 h2 h3
  have hf: ∀s,isSd s-> ∀i∈b.q s,fl i=false:=by
   intro s hs i hi
   obtain ⟨k,hk,e⟩:=List.getElem_of_mem hi
   have he:qat (b.q s) k=i:=by unfold qat;simp[List.getD_eq_getElem?_getD,hk,e]
   rw[←he]
   rcases hs with rfl|rfl
   .exact h2 k hk
   .exact h3 k hk
  exact hR w' (fun ph' hp=>h1.done HB.o hf ph' hp) h1.tch
 have HS:Hid (RS w b l (fun i=>wt ph (nth l i)) w):=⟨h.ord,Tch.refl _ _⟩
 have c0:=h.cells 0 _ rfl
 have c1:=h.cells 1 _ rfl
 have c2:=h.cells 2 _ rfl
 obtain ⟨a1,cap1,g1,e1,n1,ha1,hc1⟩:=h.rowOf 1 (.inl rfl)
 obtain ⟨a2,cap2,g2,e2,n2,ha2,hc2⟩:=h.rowOf 2 (.inr rfl)
 have HC1:Hid (∀fl W,RS w b l fl W-> ∀k,k<(b.q 1).length->a1=some ⟨g1,0,none⟩/\W.cell? ⟨g1,k,none⟩=some (.pointer (some ⟨b.adr (qat (b.q 1) k),0,none⟩))/\RS w b l (fun j=>if j=qat (b.q 1) k then false else fl j) (W.setCell ⟨b.adr (qat (b.q 1) k),5,none⟩ (.bool false))/\OB W (b.adr (qat (b.q 1) k)) (nth l (qat (b.q 1) k)) (fl (qat (b.q 1) k)) (qat (b.q 1) k)):=by
  intro fl W hW k hk
  have hp:=ha1 (by omega)
  exact⟨hp.1,(World.cell?_of_block (a:=⟨g1,k,none⟩) (hW.row HB.o (.inl rfl) hp.2)).trans (hc1 k hk),hW.set HB.o (.inl rfl) (zbk _ k hk),hW.ord 1 (.inl rfl) _ (zbk _ k hk)⟩
 have HC2:Hid (∀fl W,RS w b l fl W-> ∀k,k<(b.q 2).length->a2=some ⟨g2,0,none⟩/\W.cell? ⟨g2,k,none⟩=some (.pointer (some ⟨b.adr (qat (b.q 2) k),0,none⟩))/\RS w b l (fun j=>if j=qat (b.q 2) k then false else fl j) (W.setCell ⟨b.adr (qat (b.q 2) k),5,none⟩ (.bool false))/\OB W (b.adr (qat (b.q 2) k)) (nth l (qat (b.q 2) k)) (fl (qat (b.q 2) k)) (qat (b.q 2) k)):=by
  intro fl W hW k hk
  have hp:=ha2 (by omega)
  exact⟨hp.1,(World.cell?_of_block (a:=⟨g2,k,none⟩) (hW.row HB.o (.inr rfl) hp.2)).trans (hc2 k hk),hW.set HB.o (.inr rfl) (zbk _ k hk),hW.ord 2 (.inr rfl) _ (zbk _ k hk)⟩
 rw[e1] at c1
 rw[e2] at c2
 clear hR h hc1 hc2 ha1 ha2 e1 e2
 have i0:=queues0
 have i1:=queues1
 have i2:=queues2
 go_enter Tryz.func172,Tryz.ntmps172
 go_wp2_with fail
 clear c0 c1 c2
 refine wp_loop_rounds 4 ?_
 rw[rounds_succ]
 go_wp2_with fail
 refine wp_loop_rounds 1 ?_
 rw[rounds_succ]
 go_wp2_with fail
 rw[rounds_succ]
 go_wp2_with fail
 go_loopw [5,15] (fun _ i wr=> ∃(k:Nat) (fl:Nat->Bool),k<=(b.q 1).length/\i= .int .i64 k/\RS w b l fl wr/\ ∀j,j<k->fl (qat (b.q 1) j)=false) (fun _ i _=>(b.q 1).length-(intOf i).toNat)
 case atStart=>exact⟨0,_,Nat.zero_le _,rfl,HS.o,fun j hj=>absurd hj (by omega)⟩
 case round=>
  obtain ⟨k,fl,hk,rfl,hrs,hall⟩:=hrel
  have Hall:=zl hall
  have Hrs:=zl hrs
  clear hall hrs HS
  by_cases hlt:k<(b.q 1).length
  .obtain ⟨rfl,d1,hnext,hO⟩:=HC1.o fl wr Hrs.o k hlt
   have Hn:Hid _:=hnext
   have Hst:Hid (∀j,j<k+1->(if qat (b.q 1) j=qat (b.q 1) k then false else fl (qat (b.q 1) j))=false):=by
    intro j hj
    split
    .rfl
    .rename_i hne
     exact Hall.o j (by
      by_cases e:j=k
      .exact absurd (by rw[e]) hne
      .omega)
   clear hnext
   generalize hEi:qat (b.q 1) k=i at *
   have d5:=hO.c.c5
   have q5:=hO.free 5
   clear hO
   generalize b.adr i=E at *
   go_wp2_with fail
   go_roundw
   case rel=>exact⟨k+1,_,by omega,by go_num,Hn.o,Hst.o⟩
   case measure=>simp[intOf];omega
  .obtain rfl:k=(b.q 1).length:=by omega
   go_wp2_with fail
   rw[rounds_succ]
   go_wp2_with fail
   generalize wr=w0 at *
   go_loopw [5,15] (fun _ i wr=> ∃(k:Nat) (fl:Nat->Bool),k<=(b.q 2).length/\i= .int .i64 k/\RS w b l fl wr/\(∀j,j<(b.q 1).length->fl (qat (b.q 1) j)=false)/\ ∀j,j<k->fl (qat (b.q 2) j)=false) (fun _ i _=>(b.q 2).length-(intOf i).toNat)
   case atStart=>exact⟨0,fl,Nat.zero_le _,rfl,Hrs.o,Hall.o,fun j hj=>absurd hj (by omega)⟩
   case round=>
    obtain ⟨k,fl2,hk,rfl,hrs2,hall1,hall2⟩:=hrel
    have Hall1:=zl hall1
    have Hall2:=zl hall2
    have Hrs2:=zl hrs2
    clear hall1 hall2 hrs2 Hall Hrs
    by_cases hlt2:k<(b.q 2).length
    .obtain ⟨rfl,d1,hnext,hO⟩:=HC2.o fl2 wr Hrs2.o k hlt2
     have Hn:Hid _:=hnext
     have Hst1:Hid (∀j,j<(b.q 1).length->(if qat (b.q 1) j=qat (b.q 2) k then false else fl2 (qat (b.q 1) j))=false):=by
      intro j hj
      split
      .rfl
      .exact Hall1.o j hj
     have Hst:Hid (∀j,j<k+1->(if qat (b.q 2) j=qat (b.q 2) k then false else fl2 (qat (b.q 2) j))=false):=by
      intro j hj
      split
      .rfl
      .rename_i hne
       exact Hall2.o j (by
        by_cases e:j=k
        .exact absurd (by rw[e]) hne
        .omega)
     clear hnext
     generalize hEi:qat (b.q 2) k=i at *
     have d5:=hO.c.c5
     have q5:=hO.free 5
     clear hO
     generalize b.adr i=E at *
     go_wp2_with fail
     go_roundw
     case rel=>exact⟨k+1,_,by omega,by go_num,Hn.o,Hst1.o,Hst.o⟩
     case measure=>simp[intOf];omega
    .obtain rfl:k=(b.q 2).length:=by omega
     have hfin:=zl (HR.o fl2 wr Hrs2.o Hall1.o Hall2.o)
     go_wp2_with fail
     rw[rounds_succ]
     go_wp2_with fail
     go_end0
     exact hfin.o
end
section
open Go.RowKit Go.Shelf Go.Lib
theorem zd3 (b:Nat)(t:TypeId)(vs:List Value): ∀(o:Nat) (w:World) (cur:Array Value),w.heap[b]?=some (.cells cur t (0,0))->o+vs.length<=cur.size->(w.setCells b o vs).heap[b]?=some (.cells (cur.toList.take o++vs++cur.toList.drop (o+vs.length)).toArray t (0,0)):=by
 induction vs with
 |nil=>
  intro o w cur h _
  simp only[World.setCells,List.append_nil,List.length_nil,Nat.add_zero,List.take_append_drop]
  exact h
 |cons v r ih=>
  intro o w cur h hl
  simp only[List.length_cons] at hl
  have h1:=zbb (j:=o) (v:=v) h
  have h2:=ih (o+1) (w.setCell ⟨b,o,none⟩ v) _ h1 (by simp;omega)
  simp only[World.setCells]
  rw[h2]
  congr 2
  rw[Array.toList_setIfInBounds]
  have e1:(cur.toList.set o v).take (o+1)=cur.toList.take o++[v]:=by
   apply List.ext_getElem?
   intro k
   by_cases hk:k<o
   .rw[List.getElem?_take_of_lt (by omega),List.getElem?_set_ne (by omega),List.getElem?_append_left (by simp;omega),List.getElem?_take_of_lt hk]
   .by_cases hk2:k=o
    .subst hk2
     rw[List.getElem?_take_of_lt (by omega),List.getElem?_set_self (by simp;omega),List.getElem?_append_right (by simp;omega)]
     simp[show min k cur.size=k by omega]
    .rw[List.getElem?_eq_none (by simp;omega),List.getElem?_eq_none (by simp;omega)]
  have e2:(cur.toList.set o v).drop (o+1+r.length)=cur.toList.drop (o+(r.length+1)):=by
   rw[List.drop_set_of_lt (by omega)]
   congr 1
   omega
  rw[e1,e2]
  simp
theorem zd2 (b:Nat)(vs:List Value): ∀(o:Nat) (w:World),(w.setCells b o vs).os=w.os/\(w.setCells b o vs).tape=w.tape/\(w.setCells b o vs).output=w.output/\(w.setCells b o vs).heap.size=w.heap.size/\ ∀g,g≠b->(w.setCells b o vs).heap[g]?=w.heap[g]?:=by
 induction vs with
 |nil=>intro o w;exact⟨rfl,rfl,rfl,rfl,fun _ _=>rfl⟩
 |cons v r ih=>
  intro o w
  obtain ⟨h1,h2,h3,h4,h5⟩:=ih (o+1) (w.setCell ⟨b,o,none⟩ v)
  simp only[World.setCells]
  exact⟨h1,h2,h3,h4.trans (by simp[World.setCell]),fun g hg=>(h5 g hg).trans (bhs w ⟨b,o,none⟩ v g hg)⟩
theorem Tryz.infoPB:(Tryz.prog.info? 106).map (fun i=>(i.zero,i.size,i.bytes))=some (some (.pointer none),1,8):=by kernel_rfl
theorem Tryz.sizePB:(Tryz.prog.info? 106).map (·.size)=some 1:=by kernel_rfl
theorem Tryz.sizeOfPB (w:World):(Go.sizeOf 106).run Tryz.prog w= .ok 1 w:=by kernel_rfl
theorem ptrs_one (adr:Nat->Nat)(q:List Nat): ∀u∈ptrs adr q,u.oneCell'=true:=by
 intro u hu
 unfold ptrs at hu
 obtain ⟨i,_,rfl⟩:=List.mem_map.1 hu
 rfl
theorem ptrs_take (adr:Nat->Nat)(q:List Nat)(k:Nat):(ptrs adr q).take k=ptrs adr (q.take k):=by
 unfold ptrs
 rw[List.map_take]
theorem ptrs_drop (adr:Nat->Nat)(q:List Nat)(k:Nat):(ptrs adr q).drop k=ptrs adr (q.drop k):=by
 unfold ptrs
 rw[List.map_drop]
theorem zfp (adr:Nat->Nat)(a b:List Nat):ptrs adr (a++b)=ptrs adr a++ptrs adr b:=by
 unfold ptrs
 rw[List.map_append]
theorem zdv (adr:Nat->Nat)(q:List Nat):(ptrs adr q).length=q.length:=by
 unfold ptrs
 rw[List.length_map]
def Ins (w:World) (v:Value) (adr:Nat->Nat) (q:List Nat) (i x:Nat) (R:EW):Prop:=
 ∀v' w',w'.ownsRow 0 106 1 v' (q.length+1) (ptrs adr (q.take i++x::q.drop i))->w.grownBy w' v.ownBlock->(v'.ownBlock=v.ownBlock\/ ∀g,v'.ownBlock=some g->w.heap.size<=g)->R (.returned v') w'
theorem Insert_end (v:Value)(adr:Nat->Nat)(q:List Nat)(x xb:Nat)(w:World)(R:EW)(h:w.ownsRow 0 106 1 v q.length (ptrs adr q))(hn:q.length<=1048576)
  (hx:w.heap[xb]?=some (.cells #[.pointer (some ⟨adr x,0,none⟩)] 106 (0,0)))(hR:Ins w v adr q q.length x R):
  Calls Tryz.prog 189 #[v,.int .i64 (q.length:Nat),.slice (some ⟨xb,0,none⟩) 1 1] w R:=by
 have HR:=zl hR
 have HO:=zl h
 obtain ⟨i0,hi,hz0,hz1,hz2⟩:=info_parts Tryz.infoPB
 have HN:Hid (∀j u,[Value.pointer (some ⟨adr x,0,none⟩)][j]?=some u->w.cell? ((⟨xb,0,none⟩:Addr).add j)=some u):=World.news_of_block hx
 obtain ⟨a,cap,rfl⟩:=zae h
 have hcap:q.length<=cap:=by
  rcases h.2 with ⟨h1,h2⟩|⟨g,c,cur,h1,_,_,h4,_⟩
  .rw[h2];exact Nat.zero_le _
  .cases h1;exact h4
 clear hR h hx
 by_cases hce:cap=q.length
 all_goals
  first|subst hce|skip
  go_enter Tryz.func189,Tryz.ntmps189
  go_wp2_with (at_builtin;go_must (refine wpList_append_lies _ rfl _ _ 101 rfl 0 106 i0 _ 1 8 Tryz.underlying101 hi hz0 hz1 hz2 rfl (by decide) _ q.length (ptrs adr q) rfl HO.o ⟨xb,0,none⟩ 1 1 [Value.pointer (some ⟨adr x,0,none⟩)] rfl rfl HN.o ?p1 (by decide) ?p2 ?p3 (Nat.zero_le _) w.heap.size rfl ?_))
  case p1=>intro u hu;simp at hu;rw[hu];rfl
  case p2=>unfold maxLen;omega
  case p3=>omega
  intro g cp w' k1 k2 k3 k4
  have hfin:Hid (R (.returned (.slice (some ⟨g,0,none⟩) (q.length+1) cp)) w'):=by
   refine HR.o _ w' ?_ k2 ?_
   .rw[List.take_length,List.drop_length,zfp]
    exact k1
   .rcases k3 with k3|k3
    .exact .inl (by rw[k3];rfl)
    .exact .inr fun g' e=>by simp[Value.ownBlock] at e;omega
  clear k1 k2 k3 k4 HR HO HN
  go_wp2_with fail
  exact hfin.o
theorem Insert_shift (g c:Nat)(cur:Array Value)(adr:Nat->Nat)(q:List Nat)(i x xb:Nat)(w:World)(R:EW)(hg:w.heap[g]?=some (.cells cur 106 (0,0)))(hc5:c<=maxLen)(hc6:cur.size=c)(hc7:cur.toList.take q.length=ptrs adr q)(hn:q.length<=1048576)
  (hi:i<q.length)(hroom:q.length+1<=c)(hx:w.heap[xb]?=some (.cells #[.pointer (some ⟨adr x,0,none⟩)] 106 (0,0)))(hvb:xb≠g)(hR:Ins w (.slice (some ⟨g,0,none⟩) q.length c) adr q i x R):
  Calls Tryz.prog 189 #[.slice (some ⟨g,0,none⟩) q.length c,.int .i64 (i:Nat),.slice (some ⟨xb,0,none⟩) 1 1] w R:=by
 have hcl:(ptrs adr q).length=q.length:=zdv adr q
 have hdl:((ptrs adr q).drop i).length=q.length-i:=by rw[List.length_drop,hcl]
 have hcell: ∀j,j<q.length+1->(w.cell? ⟨g,j,none⟩).isSome=true:=fun j hj=>by
  rw[cell_of_row w g j cur _ (0,0) hg,Array.getElem?_eq_getElem (by omega)];rfl
 have hgd:w.drew.heap[g]?=some (.cells cur 106 (0,0)):=hg
 have hfz: ∀j,w.drew.frozen? ⟨g,j,none⟩=false:=fun j=>by simp[World.frozen?,hgd]
 have hcs: ∀j u,(ptrs adr q)[j]?=some u->w.cell? ⟨g,j,none⟩=some u:=fun j u hu=>by
  rw[cell_of_row w g j cur _ (0,0) hg]
  rw[←hc7,List.getElem?_take] at hu
  split at hu
  .simpa using hu
  .cases hu
 have hov: ∀lb cb,(callFunc 209 #[.slice (some ⟨xb,0,none⟩) 1 1,.slice (some ⟨g,i+1,none⟩) lb cb]).run Tryz.prog w= .ok (.value (.bool false)) w:=fun lb cb=>by
  rw[run_callFunc_extern Tryz.func209 (by kernel_rfl) (by kernel_rfl) (by kernel_rfl) (e:=Extern.SlicesOverlaps.overlaps #[101,101] #[4]) (by kernel_rfl),
   Lib.run_overlaps_apart w 101 4 106 Tryz.underlying101 1 Tryz.sizeOfPB ⟨xb,0,none⟩ ⟨g,i+1,none⟩ 1 1 lb cb hvb 106 106 1 c (by simp[World.shape?,hx]) (by simp[World.shape?,hg,hc6]) (by omega) (by simp[World.frozen?,hx]) (by simp[World.frozen?,hx])]
  rfl
 have hcp1: ∀ty dc sc,(Builtin.copy_ #[101,101] ty #[.slice (some ⟨g,i+1,none⟩) (q.length-i) dc,.slice (some ⟨g,i,none⟩) (q.length+1-i) sc]).run Tryz.prog w.drew= .ok (goInt ((ptrs adr q).drop i).length) (w.drew.setCells g (i+1) ((ptrs adr q).drop i)):=fun ty dc sc=>
  run_copy_cells w.drew _ _ ty 106 g (i+1) (q.length-i) dc ⟨g,i,none⟩ (q.length+1-i) sc ((ptrs adr q).drop i) Tryz.underlying101 Tryz.sizePB (by rw[hdl];simp only[Nat.min_def];split<;>omega)
   (fun j u hj=>by rw[Addr.add_lit];exact hcs (i+j) u (by rwa[List.getElem?_drop] at hj))
   (fun j hj=>hcell _ (by omega)) (fun j hj=>hfz _) (fun u hu=>ptrs_one adr q u (List.mem_of_mem_drop hu))
 have hW1b:=zd3 g 106 ((ptrs adr q).drop i) (i+1) w.drew cur hg (by rw[hdl];omega)
 obtain ⟨f1,f2,f3,f4,f5⟩:=zd2 g ((ptrs adr q).drop i) (i+1) w.drew
 obtain ⟨W1,hW1⟩:=xq (w.drew.setCells g (i+1) ((ptrs adr q).drop i))
 rw[←hW1] at hcp1 hW1b f1 f2 f3 f4 f5
 have hx1:W1.heap[xb]?=some (.cells #[.pointer (some ⟨adr x,0,none⟩)] 106 (0,0)):=(f5 xb hvb).trans hx
 obtain ⟨cur1,hcur1⟩: ∃cur1:Array Value,(cur.toList.take (i+1)++(ptrs adr q).drop i++cur.toList.drop (i+1+((ptrs adr q).drop i).length)).toArray=cur1:=⟨_,rfl⟩
 rw[hcur1] at hW1b
 have hsz1:cur1.size=c:=by
  rw[←hcur1]
  simp[hdl]
  omega
 have hcp2: ∀ty dc,(Builtin.copy_ #[101,101] ty #[.slice (some ⟨g,i,none⟩) (q.length+1-i) dc,.slice (some ⟨xb,0,none⟩) 1 1]).run Tryz.prog W1= .ok (goInt 1) (W1.setCells g i [.pointer (some ⟨adr x,0,none⟩)]):=fun ty dc=>
  run_copy_cells W1 _ _ ty 106 g i (q.length+1-i) dc ⟨xb,0,none⟩ 1 1 [.pointer (some ⟨adr x,0,none⟩)] Tryz.underlying101 Tryz.sizePB (by simp only[List.length_cons,List.length_nil,Nat.min_def];split<;>omega)
   (World.news_of_block hx1)
   (fun j hj=>by simp at hj;rw[cell_of_row W1 g (i+j) cur1 _ (0,0) hW1b,Array.getElem?_eq_getElem (by omega)];rfl) (fun j hj=>by simp[World.frozen?,hW1b]) (fun u hu=>by simp at hu;rw[hu];rfl)
 have HF:Hid (R (.returned (.slice (some ⟨g,0,none⟩) (q.length+1) c)) (W1.setCells g i [.pointer (some ⟨adr x,0,none⟩)])):=by
  have hb2:=zd3 g 106 [.pointer (some ⟨adr x,0,none⟩)] i W1 cur1 hW1b (by simp;omega)
  obtain ⟨e1,e2,e3,e4,e5⟩:=zd2 g [.pointer (some ⟨adr x,0,none⟩)] i W1
  refine hR _ _ ?_ ⟨e1.trans f1,e2.trans f2,e3.trans f3,by rw[e4,f4];exact nr,fun y _ hy=>(e5 y (fun e=>hy (by rw[e];rfl))).trans (f5 y (fun e=>hy (by rw[e];rfl)))⟩ (.inl rfl)
  have hql:(q.take i++x::q.drop i).length=q.length+1:=by simp;omega
  rw[←hql]
  refine row_shut hb2 (by omega) hc5 ?_ ?_
  .simp
   omega
  .rw[hql]
   have t1:cur1.toList.take i=ptrs adr (q.take i):=by
    rw[←hcur1,←ptrs_take,←hc7,List.take_take]
    rw[List.append_assoc,List.take_append_of_le_length (by simp;omega),List.take_take]
    congr 1
    omega
   have t2:(cur1.toList.drop (i+1)).take (q.length-i)=ptrs adr (q.drop i):=by
    rw[←hcur1,←ptrs_drop]
    rw[List.append_assoc,List.drop_append_of_le_length (by simp;omega)]
    have:(cur.toList.take (i+1)).drop (i+1)=[]:=by rw[List.drop_eq_nil_iff];simp;omega
    rw[this,List.nil_append,List.take_append_of_le_length (by omega),List.take_of_length_le (by omega)]
   rw[zfp,←t1]
   show _=_++(.pointer (some ⟨adr x,0,none⟩)::ptrs adr (q.drop i))
   rw[←t2]
   simp only[List.length_cons,List.length_nil,Nat.zero_add]
   rw[List.append_assoc,List.take_append]
   have l1:(cur1.toList.take i).length=i:=by simp;omega
   rw[l1,List.take_of_length_le (by omega),show q.length+1-i=(q.length-i)+1 by omega]
   simp
 have zco:=zco
 have hz2: ¬((i:Int)=(q.length:Int)):=by omega
 have hw1:IntKind.i64.wrap ((i:Int)+(1:Int))=(i:Int)+(1:Int):=by rw[IntKind.wrap_i64];omega
 have hb1:(0:Int)<=(i:Int)+(1:Int):=by omega
 have hin:i<=q.length:=by omega
 have htn:((i:Int)+(1:Int)).toNat=i+1:=by omega
 have hb2: ¬(c=i+1):=by omega
 have hb3:(i:Int)<=(q.length:Int)+(1:Int):=by omega
 have hb4: ¬(c=i):=by omega
 have hb5: ¬((c:Int)<(q.length:Int)+(1:Int)):=by omega
 have hcm:c<=9223372036854775807:=by unfold maxLen at hc5;omega
 clear hR hx hg hc7 hcur1 hW1b hx1 hcell hfz hcs f1 f2 f3 f4 f5 hW1 hgd
 go_enter Tryz.func189,Tryz.ntmps189
 go_wp2_with (simp only[hov])
 go_region_law_o (refine step_copy_runI rfl _ _ 101 101 rfl _ _ (by simp[Act.eval,Act.put]) (by simp[Act.eval,Act.put]) (hcp1 _ _ _) ?_)
 go_wp2_with (at_builtin;refine wpList_copy_runI _ rfl _ _ 101 101 rfl _ _ rfl rfl (hcp2 _ _) ?_)
 exact HF.o
theorem Insert_grow (g c:Nat)(cur:Array Value)(adr:Nat->Nat)(q:List Nat)(i x xb:Nat)(w:World)(R:EW)(hg:w.heap[g]?=some (.cells cur 106 (0,0)))(hnc:q.length<=c)(hc6:cur.size=c)(hc7:cur.toList.take q.length=ptrs adr q)(hn:q.length<=1048576)
  (hi:i<q.length)(hroom:c<q.length+1)(hx:w.heap[xb]?=some (.cells #[.pointer (some ⟨adr x,0,none⟩)] 106 (0,0)))(hR:Ins w (.slice (some ⟨g,0,none⟩) q.length c) adr q i x R):
  Calls Tryz.prog 189 #[.slice (some ⟨g,0,none⟩) q.length c,.int .i64 (i:Nat),.slice (some ⟨xb,0,none⟩) 1 1] w R:=by
 have hcl:(ptrs adr q).length=q.length:=zdv adr q
 have hdl:((ptrs adr q).drop i).length=q.length-i:=by rw[List.length_drop,hcl]
 have hcs: ∀j u,(ptrs adr q)[j]?=some u->w.cell? ⟨g,j,none⟩=some u:=fun j u hu=>by
  rw[cell_of_row w g j cur _ (0,0) hg]
  rw[←hc7,List.getElem?_take] at hu
  split at hu
  .simpa using hu
  .cases hu
 have hgl:g<w.heap.size:=(gsi.1 hg).1
 have hxl:xb<w.heap.size:=(gsi.1 hx).1
 obtain ⟨i0,hi0,hz0,hzs,hzb⟩:=info_parts Tryz.infoPB
 have hik:i+(q.length+1-i)=q.length+1:=by omega
 have hkk:(q.length:Int)+(1:Int)-(i:Int)=((q.length+1-i:Nat):Int):=by omega
 have hold:(Builtin.firstCells i0.size i (.slice (some ⟨g,0,none⟩) i c)).run Tryz.prog w.drew= .ok ((ptrs adr q).take i).toArray w.drew:=by
  rw[hzs]
  exact run_firstCells_some w.drew 1 i ⟨g,0,none⟩ i c ((ptrs adr q).take i) (by rw[List.length_take];omega) (fun j u hj=>by
   rw[Addr.add_lit]
   rw[List.getElem?_take] at hj
   split at hj
   .simpa using hcs j u hj
   .cases hj)
 obtain ⟨G,hG⟩:=xq (grownCap w (q.length+1) c 106)
 obtain ⟨ROW,hROW⟩: ∃ROW:Array Value,ROW=((ptrs adr q).take i).toArray++Builtin.zeroCells (Value.pointer none).cells (q.length+1-i)++Builtin.zeroCells (Value.pointer none).cells (G-(q.length+1)):=⟨_,rfl⟩
 have hrz: ∀ty,(Builtin.append_ #[101,3] ty #[.slice (some ⟨g,0,none⟩) i c,.int .i64 ((q.length:Int)+(1:Int)-(i:Int))]).run Tryz.prog w= .ok (.slice (some ⟨w.heap.size,0,none⟩) (q.length+1) G) (w.drew.alloc (.cells ROW 106)):=fun ty=>by
  have h:=Lib.run_append_grow_zeros w 101 3 ty 106 i0 _ .i64 .i64 Tryz.underlying101 Tryz.underlying3 hi0 hz0 (some ⟨g,0,none⟩) i c ((ptrs adr q).take i) hold (q.length+1-i) (by omega) (by omega) (by omega) (by omega) (by rw[hzb];omega) (by rw[hzb,hik];exact growslice_fits hroom (by omega))
  rw[hik] at h
  rw[hkk,hROW,hG]
  exact h
 have hGn:q.length+1<=G:=by rw[hG];exact grownCap_ge w _ _ _
 have hGm:G<=maxLen:=by rw[hG];exact grownCap_le_maxLen w (q.length+1) c 106 (by unfold maxLen;omega)
 have hRs:ROW.size=G:=by
  rw[hROW]
  simp[Builtin.zeroCells,Value.cells,hcl]
  omega
 have hRt:ROW.toList.take i=ptrs adr (q.take i):=by
  rw[hROW,←ptrs_take]
  simp only[Array.toList_append,List.append_assoc]
  rw[List.take_append_of_le_length (by simp[hcl];omega),List.take_of_length_le (by simp;omega)]
 obtain ⟨W1,hW1⟩:=xq (w.drew.alloc (.cells ROW 106))
 rw[←hW1] at hrz
 have hb1w:Below w.heap.size w W1:=by rw[hW1];exact((Below.refl _ w).drew).alloc nr _
 have hN:W1.heap[w.heap.size]?=some (.cells ROW 106 (0,0)):=by rw[hW1];exact World.alloc_heap_new w.drew _
 have hx1:W1.heap[xb]?=some (.cells #[.pointer (some ⟨adr x,0,none⟩)] 106 (0,0)):=(hb1w.block xb hxl).trans hx
 have hg1:W1.heap[g]?=some (.cells cur 106 (0,0)):=(hb1w.block g hgl).trans hg
 have hcpA: ∀ty dc,(Builtin.copy_ #[101,101] ty #[.slice (some ⟨w.heap.size,i,none⟩) (q.length+1-i) dc,.slice (some ⟨xb,0,none⟩) 1 1]).run Tryz.prog W1= .ok (goInt 1) (W1.setCells w.heap.size i [.pointer (some ⟨adr x,0,none⟩)]):=fun ty dc=>
  run_copy_cells W1 _ _ ty 106 w.heap.size i (q.length+1-i) dc ⟨xb,0,none⟩ 1 1 [.pointer (some ⟨adr x,0,none⟩)] Tryz.underlying101 Tryz.sizePB (by simp only[List.length_cons,List.length_nil,Nat.min_def];split<;>omega)
   (World.news_of_block hx1)
   (fun j hj=>by simp at hj;rw[cell_of_row W1 w.heap.size (i+j) ROW _ (0,0) hN,Array.getElem?_eq_getElem (by omega)];rfl) (fun j hj=>by simp[World.frozen?,hN]) (fun u hu=>by simp at hu;rw[hu];rfl)
 have hN2:=zd3 w.heap.size 106 [.pointer (some ⟨adr x,0,none⟩)] i W1 ROW hN (by simp;omega)
 obtain ⟨f1,f2,f3,f4,f5⟩:=zd2 w.heap.size [.pointer (some ⟨adr x,0,none⟩)] i W1
 obtain ⟨W2,hW2⟩:=xq (W1.setCells w.heap.size i [.pointer (some ⟨adr x,0,none⟩)])
 rw[←hW2] at hcpA hN2 f1 f2 f3 f4 f5
 have hg2:W2.heap[g]?=some (.cells cur 106 (0,0)):=(f5 g (by omega)).trans hg1
 obtain ⟨R2,hR2⟩: ∃R2:Array Value,(ROW.toList.take i++[Value.pointer (some ⟨adr x,0,none⟩)]++ROW.toList.drop (i+[Value.pointer (some ⟨adr x,0,none⟩)].length)).toArray=R2:=⟨_,rfl⟩
 rw[hR2] at hN2
 have hR2s:R2.size=G:=by
  rw[←hR2]
  simp
  omega
 have hN2d:W2.drew.heap[w.heap.size]?=some (.cells R2 106 (0,0)):=hN2
 have hg2d:W2.drew.heap[g]?=some (.cells cur 106 (0,0)):=hg2
 have hcpB: ∀ty dc sc,(Builtin.copy_ #[101,101] ty #[.slice (some ⟨w.heap.size,i+1,none⟩) (q.length-i) dc,.slice (some ⟨g,i,none⟩) (q.length-i) sc]).run Tryz.prog W2.drew= .ok (goInt ((ptrs adr q).drop i).length) (W2.drew.setCells w.heap.size (i+1) ((ptrs adr q).drop i)):=fun ty dc sc=>
  run_copy_cells W2.drew _ _ ty 106 w.heap.size (i+1) (q.length-i) dc ⟨g,i,none⟩ (q.length-i) sc ((ptrs adr q).drop i) Tryz.underlying101 Tryz.sizePB (by rw[hdl];simp only[Nat.min_def];split<;>omega)
   (fun j u hj=>by
    rw[Addr.add_lit]
    have h1:=hcs (i+j) u (by rwa[List.getElem?_drop] at hj)
    rw[cell_of_row w g (i+j) cur _ (0,0) hg] at h1
    rw[cell_of_row W2.drew g (i+j) cur _ (0,0) hg2d]
    exact h1)
   (fun j hj=>by rw[hdl] at hj;rw[cell_of_row W2.drew w.heap.size (i+1+j) R2 _ (0,0) hN2d,Array.getElem?_eq_getElem (by omega)];rfl) (fun j hj=>by simp[World.frozen?,hN2d]) (fun u hu=>ptrs_one adr q u (List.mem_of_mem_drop hu))
 have HF:Hid (R (.returned (.slice (some ⟨w.heap.size,0,none⟩) (q.length+1) G)) (W2.drew.setCells w.heap.size (i+1) ((ptrs adr q).drop i))):=by
  have hb2:=zd3 w.heap.size 106 ((ptrs adr q).drop i) (i+1) W2.drew R2 hN2d (by rw[hdl];omega)
  obtain ⟨e1,e2,e3,e4,e5⟩:=zd2 w.heap.size ((ptrs adr q).drop i) (i+1) W2.drew
  have hb1s:=hb1w.size
  refine hR _ _ ?_ ⟨e1.trans (f1.trans hb1w.os),e2.trans (f2.trans hb1w.tape),e3.trans (f3.trans hb1w.output),by rw[e4];show _<=W2.heap.size;omega,fun y hy _=>(e5 y (by omega)).trans ((f5 y (by omega)).trans (hb1w.block y hy))⟩ (.inr fun g' e=>by simp[Value.ownBlock] at e;omega)
  have hql:(q.take i++x::q.drop i).length=q.length+1:=by simp;omega
  rw[←hql]
  refine row_shut hb2 (by omega) hGm ?_ ?_
  .simp[hdl]
   omega
  .rw[hql,hdl]
   have t1:R2.toList.take (i+1)=ptrs adr (q.take i)++[.pointer (some ⟨adr x,0,none⟩)]:=by
    rw[←hR2,hRt]
    have l1:(ptrs adr (q.take i)++[Value.pointer (some ⟨adr x,0,none⟩)]).length=i+1:=by simp[zdv];omega
    show List.take (i+1) (_++_)=_
    rw[←l1,List.take_left']
    rfl
   rw[zfp,t1,ptrs_drop]
   have l2:(ptrs adr (q.take i)++[Value.pointer (some ⟨adr x,0,none⟩)]++ptrs adr (q.drop i)).length=q.length+1:=by simp[zdv];omega
   rw[←l2,List.take_left']
   .show _=ptrs adr (q.take i)++(.pointer (some ⟨adr x,0,none⟩)::ptrs adr (q.drop i))
    simp
   .rfl
 have zco:=zco
 have hz2: ¬((i:Int)=(q.length:Int)):=by omega
 have hz3:(c:Int)<(q.length:Int)+(1:Int):=by omega
 have hw1:IntKind.i64.wrap ((i:Int)+(1:Int))=(i:Int)+(1:Int):=by rw[IntKind.wrap_i64];omega
 have hb1:(0:Int)<=(i:Int)+(1:Int):=by omega
 have hin:i<=q.length:=by omega
 have htn:((i:Int)+(1:Int)).toNat=i+1:=by omega
 have hb3:(i:Int)<=(q.length:Int):=by omega
 have hGi: ¬(G=i):=by omega
 have hGim: ¬(G=i+1):=by omega
 have hci: ¬(c=i):=by omega
 have hG63:G<=9223372036854775807:=by unfold maxLen at hGm;omega
 clear hR hx hg hc7 hcs f1 f2 f3 f4 f5 hW1 hW2 hN hN2 hN2d hg1 hg2 hg2d hx1 hR2 hRt hROW hold hkk hik hb1w hG hRs hR2s hcl
 go_enter Tryz.func189,Tryz.ntmps189
 go_wp2_with (first
  |(at_builtin;refine Lib.wpList_append_run _ rfl _ _ _ _ rfl _ _ rfl rfl _ _ (hrz _) ?_)
  |(at_builtin;refine wpList_copy_runI _ rfl _ _ 101 101 rfl _ _ rfl rfl (hcpA _ _) ?_))
 go_region_law_o (refine step_copy_runI rfl _ _ 101 101 rfl _ _ (by simp[Act.eval,Act.put]) (by simp[Act.eval,Act.put]) (hcpB _ _ _) ?_)
 go_wp2_with fail
 exact HF.o
theorem zgt (v:Value)(adr:Nat->Nat)(q:List Nat)(i x xb:Nat)(w:World)(R:EW)(h:w.ownsRow 0 106 1 v q.length (ptrs adr q))(hn:q.length<=1048576)(hi:i<=q.length)
  (hx:w.heap[xb]?=some (.cells #[.pointer (some ⟨adr x,0,none⟩)] 106 (0,0)))(hvb:v.ownBlock≠some xb)(hR:Ins w v adr q i x R):
  Calls Tryz.prog 189 #[v,.int .i64 (i:Nat),.slice (some ⟨xb,0,none⟩) 1 1] w R:=by
 by_cases he:i=q.length
 .subst he
  exact Insert_end v adr q x xb w R h hn hx hR
 .rcases zjr h with ⟨rfl,rfl⟩|⟨g,c,cur,rfl,h3,h4,h5,h6,h7⟩
  .simp at hi he
   omega
  .by_cases hr:q.length+1<=c
   .exact Insert_shift g c cur adr q i x xb w R h3 h5 h6 h7 hn (by omega) hr hx (fun e=>hvb (by rw[e];rfl)) hR
   .exact Insert_grow g c cur adr q i x xb w R h3 h4 h6 h7 hn (by omega) (by omega) hx hR
end
section
open Go.RowKit Go.Shelf Go.Maps
def ordv (o:Od) (f:Bool):Value:= .agg #[.int .i64 o.id,.int .i64 o.side,.int .i64 o.typ,.int .i64 o.price,.int .i64 o.rest,.bool f]
def ordc (o:Od) (f:Bool):Array Value:= #[.int .i64 o.id,.int .i64 o.side,.int .i64 o.typ,.int .i64 o.price,.int .i64 o.rest,.bool f]
theorem ids_snoc (l:List Od)(o:Od):zb7 (l++[o])=(zb7 l).put (Lit.int .i64 o.id) (.agg []):=by
 unfold zb7 zi9
 rw[List.map_append]
 exact setOf_snoc _ _ _
variable {l:List Od}
theorem ids_size (h:oneId l):Maps.size (zb7 l)=l.length:=by
 have key: ∀n,n<=l.length->Maps.size (zb7 (l.take n))=n:=by
  intro n
  induction n with
  |zero=>intro _;rfl
  |succ n ih=>
   intro hn
   have hget:l[n]?=some (nth l n):=by
    unfold nth
    simp[List.getD_eq_getElem?_getD,show n<l.length by omega]
   rw[zag l n _ hget,ids_snoc,size_put (show Tidy (zb7 (l.take n)) from tidy_setOf _ _ (idKeys_key _)),ids_has,ih (by omega)]
   have hno:(l.take n).any (fun a=>a.id==(nth l n).id)=false:=by
    rw[Bool.eq_false_iff]
    intro hany
    obtain ⟨a,ha,he⟩:=List.any_eq_true.1 hany
    obtain ⟨k,hk,e⟩:=List.getElem_of_mem ha
    simp only[List.length_take] at hk
    have hka:nth l k=a:=by
     rw[←e]
     unfold nth
     simp[List.getD_eq_getElem?_getD,show k<l.length by omega]
    have:=h k n (by omega) (by omega) (by rw[hka];simpa using he)
    omega
   rw[hno]
   rfl
 have:=key l.length nr
 rwa[List.take_length] at this
variable {E Ev n ph:Nat} {W w:World}
theorem U_two {P:Program}{md:Region.Mode}{ops:Array Oper}{Q:Exit->Act->World->Prop}{S:Array Bool->World->Prop}{L:Array Bool}{a:Act}(i j:Nat){oi oj:Oper}(hr:Region.ready md ops L=[i,j])(hi:ops[i]?=some oi)(hj:ops[j]?=some oj)
  (h1: ∀K':Act->World->Prop,Hid (∀a w,S (L.setIfInBounds i true) w->anyU P md ops Q S n (L.setIfInBounds i true) a w->K' a w)->if Region.wanted oi (yielded ops a.tmps)=true then Oper.wp P oi a w K' Q else K' (a.put oi.dst undef) w)
  (h2: ∀K':Act->World->Prop,Hid (∀a w,S (L.setIfInBounds j true) w->anyU P md ops Q S n (L.setIfInBounds j true) a w->K' a w)->if Region.wanted oj (yielded ops a.tmps)=true then Oper.wp P oj a w K' Q else K' (a.put oj.dst undef) w):anyU P md ops Q S (n+1) L a w:=by
 refine⟨fun h0=>absurd (hr▸h0) (by simp),fun x hx=>?_⟩
 rw[hr] at hx
 simp only[List.mem_cons,List.not_mem_nil,or_false] at hx
 rcases hx with rfl|rfl
 .exact wpOp_step hi (fun K' hK=>h1 K' (fun a w g1 g2=>hK a w ⟨g1,g2⟩))
 .exact wpOp_step hj (fun K' hK=>h2 K' (fun a w g1 g2=>hK a w ⟨g1,g2⟩))
theorem bAdd1_any (b:Bk)(ph:Nat)(l:List Od)(o:Od)(f:Bool)(E Ev t j:Nat)(W:World)(R:EW)(hO:OB W (b.adr j) (nth l j) (wt ph (nth l j)) j)(hE:OB W E o f t)(hV:W.cell? ⟨Ev,0,none⟩=some (.pointer (some ⟨E,0,none⟩)))
  (hR:R (.returned (.bool (!tkP (nth l j) (lim o)))) W):Calls Tryz.prog 185 #[.pointer (some ⟨b.adr j,0,none⟩),.pointer (some ⟨Ev,0,none⟩)] W R:=by
 have HR:=zl hR
 have c1:=hE.c.c1
 have c3:=hE.c.c3
 have d1:=hO.c.c1
 have d3:=hO.c.c3
 clear hR hO hE
 generalize nth l j=p at *
 generalize b.adr j=A at *
 go_enter Tryz.func185,Tryz.ntmps185
 go_wp2_with (first|(go_at_call 187;refine zit E o _ _ c1 c3 ?_)|(go_at_call 186;refine zis A p (lim o) _ _ d1 d3 ?_))
 exact HR.o
structure AS (b:Bk) (w:World) (ph:Nat) (l:List Od) (o:Od) (E Ev:Nat) (W:World):Prop where
 box:W.heap[w.heap.size]?=some (.cells (ordc o (wt ph o)) 89 (0,0))
 ob:OB W E o (wt ph o) l.length
 vv:Vb W Ev (.pointer (some ⟨E,0,none⟩))
 tch:Tch (fun g=>g=b.M) w W
 e1:w.heap.size<E
 e2:w.heap.size<Ev
 ne:E≠Ev
variable {b:Bk} {o:Od}
theorem AS.grown {W':World}{r:Option Nat}(h:AS b w ph l o E Ev W)(hg:W.grownBy W' r)(hr: ∀g,r=some g->g=b.M)(hM:b.M<w.heap.size):AS b w ph l o E Ev W':=by
 have hk: ∀g,g<W.heap.size->g≠b.M->W'.heap[g]?=W.heap[g]?:=fun g h1 h2=>hg.block g h1 (fun e=>h2 (hr g e.symm))
 have hE:=h.ob.lt
 have hb:=(gsi.1 h.box).1
 have hne:=h.e1
 have hne2:=h.e2
 refine⟨(hk _ hb (by omega)).trans h.box,(hk _ hE (by omega)).trans h.ob,h.vv.same hg.size (hk _ h.vv.lt (by omega)),?_,h.e1,h.e2,h.ne⟩
 exact h.tch.andThen hg.os hg.tape hg.output hg.size (fun g h1 h2=>hk g (lll h1 h.tch.size) h2)
def Bk.added (b:Bk) (E:Nat) (v':Value) (k n side:Nat):Bk:=⟨b.K,b.M,fun s=>if s=side then v' else b.v s,fun s=>if s=side then (b.q s).take k++n::(b.q s).drop k else b.q s,fun j=>if j=n then E else b.adr j⟩
theorem BKs.part (h:BKs w b ph l)(ht:Tch (fun g=>g=b.M) w W):W.heap[b.K]?=some (.cells #[.slice none 0 0,b.v 1,b.v 2,.map (some b.M)] 149 (0,0))/\(∀s,isSd s->W.ownsRow 0 106 1 (b.v s) (b.q s).length (ptrs b.adr (b.q s)))/\ ∀s,isSd s-> ∀i∈b.q s,OB W (b.adr i) (nth l i) (wt ph (nth l i)) i:=by
 have hk: ∀g,b.F g->g≠b.M->W.heap[g]?=w.heap[g]?:=fun g h1 h2=>ht.blk g (h.lt h1) h2
 have hT: ∀g,b.T g->g≠b.M:=fun g hg e=>h.mapT (e▸hg)
 refine⟨(hk _ (.inl rfl) (hT _ (.inl rfl))).trans h.blk,fun s hs=>zb6 (h.row s hs) fun g hg=>hk g (.inr (.inr ⟨s,hs,.inl hg⟩)) (hT g ?_),fun s hs i hi=>(hk _ (.inr (.inr ⟨s,hs,.inr ⟨i,hi,rfl⟩⟩)) (fun e=>h.ordM hs hi e.symm)).trans (h.ord s hs i hi)⟩
 rcases hs with rfl|rfl
 .exact .inr (.inl hg)
 .exact .inr (.inr hg)
theorem ptrs_same {q:List Nat}(h: ∀i∈q,i<n):ptrs (fun j=>if j=n then E else b.adr j) q=ptrs b.adr q:=by
 unfold ptrs
 refine List.map_congr_left fun i hi=>?_
 have:=h i hi
 dsimp only
 rw[if_neg (by omega)]
theorem add_shut {W4 W5:World}{k:Nat}{v5:Value}(h:BKs w b ph l)(hsd:isSd o.side)(hcnt:(b.q o.side).length+1<=1048576)(hlt: ∀s,isSd s-> ∀i∈b.q s,i<l.length)(hA:AS b w ph l o E Ev W4)
  (hids:W4.ownsMap Tryz.prog 3 (unitElem (H:=Unit)) b.M (l.length+1) (zb7 (l++[o])))(hk:k<=(b.q o.side).length)(hrow:W5.ownsRow 0 106 1 v5 ((b.q o.side).length+1) (ptrs (fun j=>if j=l.length then E else b.adr j) ((b.q o.side).take k++l.length::(b.q o.side).drop k)))
  (hg:W4.grownBy W5 (b.v o.side).ownBlock)(hv:v5.ownBlock=(b.v o.side).ownBlock\/ ∀g,v5.ownBlock=some g->W4.heap.size<=g):
  BKs (W5.setCell ⟨b.K,o.side,none⟩ v5) (b.added E v5 k l.length o.side) ph (l++[o])/\Tch (fun g=>b.T g\/g=b.M) w (W5.setCell ⟨b.K,o.side,none⟩ v5):=by
 obtain ⟨pK,pR,pO⟩:=h.part hA.tch
 have hKl:b.K<w.heap.size:=h.lt (.inl rfl)
 have hw4:=hA.tch.size
 have hvT: ∀g,(b.v o.side).ownBlock=some g->b.T g:=by
  intro g e
  rcases hsd with e1|e1<;>rw[e1] at e
  .exact .inr (.inl e)
  .exact .inr (.inr e)
 have hvl: ∀g,(b.v o.side).ownBlock=some g->g<w.heap.size:=fun g e=>h.lt (.inr (.inr ⟨_,hsd,.inl e⟩))
 have hKv:some b.K≠(b.v o.side).ownBlock:=fun e=>h.rowK hsd e.symm
 have hK5:v5.ownBlock≠some b.K:=by
  rcases hv with e|e
  .rw[e];exact fun e2=>hKv e2.symm
  .intro e2;have:=e _ e2;omega
 have far: ∀g,g<W4.heap.size->some g≠(b.v o.side).ownBlock->g≠b.K->(W5.setCell ⟨b.K,o.side,none⟩ v5).heap[g]?=W4.heap[g]?:=fun g h1 h2 h3=>(bhs _ _ _ _ h3).trans (hg.block g h1 h2)
 refine⟨⟨?_,fun s hs=>?_,fun s hs i hi=>?_,?_,?_,fun s hs=>?_⟩,?_⟩
 .have:=zbb (j:=o.side) (v:=v5) ((hg.block b.K (by omega) hKv).trans pK)
  show (W5.setCell ⟨b.K,o.side,none⟩ v5).heap[b.K]?=_
  rw[this]
  rcases hsd with e|e<;>simp[e,Bk.added]
 .by_cases e:s=o.side
  .subst e
   have e1:(b.added E v5 k l.length o.side).v o.side=v5:=by simp[Bk.added]
   have e2:(b.added E v5 k l.length o.side).q o.side=(b.q o.side).take k++l.length::(b.q o.side).drop k:=by simp[Bk.added]
   rw[e1,e2,show ((b.q o.side).take k++l.length::(b.q o.side).drop k).length=(b.q o.side).length+1 by simp;omega]
   exact zb1 hrow b.K o.side v5 hK5
  .have e1:(b.added E v5 k l.length o.side).v s=b.v s:=by simp[Bk.added,e]
   have e2:(b.added E v5 k l.length o.side).q s=b.q s:=by simp[Bk.added,e]
   rw[e1,e2]
   show World.ownsRow _ 0 106 1 (b.v s) (b.q s).length (ptrs (fun j=>if j=l.length then E else b.adr j) (b.q s))
   rw[ptrs_same (hlt s hs)]
   refine zb6 (pR s hs) fun g hgs=>far g (lll (h.lt (.inr (.inr ⟨s,hs,.inl hgs⟩))) hw4) ?_ (fun e3=>h.rowK hs (by rw[hgs,e3]))
   intro e3
   rcases hs with rfl|rfl<;>rcases hsd with e4|e4
   .exact e e4.symm
   .rw[e4] at e3;exact h.sep g hgs e3.symm
   .rw[e4] at e3;exact h.sep g e3.symm hgs
   .exact e e4.symm
 .have hmem:i=l.length\/i∈b.q s:=by
   by_cases e:s=o.side
   .subst e
    have e2:(b.added E v5 k l.length o.side).q o.side=(b.q o.side).take k++l.length::(b.q o.side).drop k:=by simp[Bk.added]
    rw[e2] at hi
    simp only[List.mem_append,List.mem_cons] at hi
    rcases hi with hi|hi|hi
    .exact .inr (List.mem_of_mem_take hi)
    .exact .inl hi
    .exact .inr (List.mem_of_mem_drop hi)
   .have e2:(b.added E v5 k l.length o.side).q s=b.q s:=by simp[Bk.added,e]
    rw[e2] at hi
    exact .inr hi
  have he1:=hA.e1
  rcases hmem with rfl|hi'
  .show OB _ (if l.length=l.length then E else b.adr l.length) _ _ _
   rw[if_pos rfl,zc2]
   exact(far E hA.ob.lt (fun e=>by have:=hvl E e.symm;omega) (by omega)).trans hA.ob
  .have hil:=hlt s hs i hi'
   show OB _ (if i=l.length then E else b.adr i) _ _ _
   rw[if_neg (by omega),zdn l o i hil]
   exact(far _ (lll (h.lt (.inr (.inr ⟨s,hs,.inr ⟨i,hi',rfl⟩⟩))) hw4) (fun e=>h.ordT hs hi' (hvT _ e.symm)) (fun e=>h.ordT hs hi' (.inl e))).trans (pO s hs i hi')
 .intro g
  show (if 1=o.side then v5 else b.v 1).ownBlock=some g->(if 2=o.side then v5 else b.v 2).ownBlock≠some g
  rcases hsd with e|e
  .rw[if_pos e.symm,if_neg (by omega)]
   intro g1 g2
   rcases hv with g3|g3
   .rw[e] at g3;exact h.sep g (g3▸g1) g2
   .have:=g3 g g1
    have:=h.lt (.inr (.inr ⟨2,.inr rfl,.inl g2⟩))
    omega
  .rw[if_neg (by omega),if_pos e.symm]
   intro g1 g2
   rcases hv with g3|g3
   .rw[e] at g3;exact h.sep g g1 (g3▸g2)
   .have:=g3 g g2
    have:=h.lt (.inr (.inr ⟨1,.inl rfl,.inl g1⟩))
    omega
 .have hM:b.M<w.heap.size:=h.ids.lt
  rw[List.length_append]
  exact zcj hids (far b.M (by omega) (fun e=>h.mapT (hvT _ e.symm)) (fun e=>h.mapT (.inl e)))
 .by_cases e:s=o.side
  .subst e
   have e2:(b.added E v5 k l.length o.side).q o.side=(b.q o.side).take k++l.length::(b.q o.side).drop k:=by simp[Bk.added]
   rw[e2,show ((b.q o.side).take k++l.length::(b.q o.side).drop k).length=(b.q o.side).length+1 by simp;omega]
   exact hcnt
  .have e2:(b.added E v5 k l.length o.side).q s=b.q s:=by simp[Bk.added,e]
   rw[e2]
   exact h.cnt s hs
 .refine(hA.tch.widen (fun g e=> .inr e)).andThen hg.os hg.tape hg.output (by simpa [World.setCell] using hg.size) fun g h1 h2=>?_
  exact far g (by omega) (fun e=>h2 (.inl (hvT g e.symm))) (fun e=>h2 (.inl (.inl e)))
end
section
open Go.RowKit Go.Shelf
theorem zii (x:Int)(w:World)(R:EW)(hR:R (.returned (.bool false)) w):Calls Tryz.prog 114 #[.int .i64 x] w R:=by
 have HR:=zl hR
 clear hR
 go_enter Tryz.func114,Tryz.ntmps114
 go_wp2_with fail
 exact HR.o
def cmpOf (x y:Nat):Int:=if x<y then-1 else if y<x then 1 else 0
theorem cmpInt_any (x y:Nat)(w:World)(R:EW)(hR:R (.returned (.int .i64 (cmpOf x y))) w):Calls Tryz.prog 91 #[.int .i64 (x:Nat),.int .i64 (y:Nat)] w R:=by
 unfold cmpOf at hR
 by_cases h1:x<y
 .rw[if_pos h1] at hR
  have HR:Hid (R (.returned (.int .i64 (-1))) w):=hR
  clear hR
  have f1:(x:Int)<(y:Int):=by omega
  go_enter Tryz.func91,Tryz.ntmps91
  go_wp2_with (go_at_call 114;refine zii _ _ _ ?_)
  exact HR.o
 .rw[if_neg h1] at hR
  by_cases h2:y<x
  .rw[if_pos h2] at hR
   have HR:Hid (R (.returned (.int .i64 1)) w):=hR
   clear hR
   have f1: ¬((x:Int)<(y:Int)):=by omega
   have f2:(y:Int)<(x:Int):=by omega
   go_enter Tryz.func91,Tryz.ntmps91
   go_wp2_with (go_at_call 114;refine zii _ _ _ ?_)
   exact HR.o
  .rw[if_neg h2] at hR
   have HR:Hid (R (.returned (.int .i64 0)) w):=hR
   clear hR
   have f1: ¬((x:Int)<(y:Int)):=by omega
   have f2: ¬((y:Int)<(x:Int)):=by omega
   go_enter Tryz.func91,Tryz.ntmps91
   go_wp2_with (go_at_call 114;refine zii _ _ _ ?_)
   exact HR.o
end
section
open Go.RowKit Go.Shelf Go.Lib
theorem Grow_any (n:Nat)(hn:n<=2097152)(w:World)(R:EW)(hR: ∀v w',w'.ownsRow w.heap.size 106 1 v 0 []->Below w.heap.size w w'->R (.returned v) w'):Calls Tryz.prog 111 #[.slice none 0 0,.int .i64 (n:Nat)] w R:=by
 by_cases h0:n=0
 .subst h0
  have HR:Hid (R (.returned (.slice none 0 0)) w):=hR _ _ (World.ownsRow_nil _ _ _ _) br
  clear hR
  go_enter Tryz.func111,Tryz.ntmps111
  go_wp2_with fail
  exact HR.o
 .obtain ⟨i0,hi0,hz0,hzs,hzb⟩:=info_parts Tryz.infoPB
  obtain ⟨G,hG⟩:=xq (grownCap w (0+n) 0 106)
  obtain ⟨ROW,hROW⟩: ∃ROW:Array Value,ROW=(([]:List Value).toArray++Builtin.zeroCells (Value.pointer none).cells n++Builtin.zeroCells (Value.pointer none).cells (G-(0+n))):=⟨_,rfl⟩
  have hold:(Builtin.firstCells i0.size 0 (.slice none 0 0)).run Tryz.prog w.drew= .ok ([]:List Value).toArray w.drew:=by simp[Builtin.firstCells]
  have hrz: ∀ty,(Builtin.append_ #[101,3] ty #[.slice none 0 0,.int .i64 (n:Nat)]).run Tryz.prog w= .ok (.slice (some ⟨w.heap.size,0,none⟩) n G) (w.drew.alloc (.cells ROW 106)):=fun ty=>by
   have h:=Lib.run_append_grow_zeros w 101 3 ty 106 i0 _ .i64 .i64 Tryz.underlying101 Tryz.underlying3 hi0 hz0 none 0 0 [] hold n (by omega) (by omega) (by omega) (by omega) (by rw[hzb];omega) (by rw[hzb];exact growslice_fits (by omega) (by omega))
   rw[hROW,hG]
   simpa using h
  have hGn:n<=G:=by have:=grownCap_ge w (0+n) 0 106;omega
  have hGm:G<=maxLen:=by rw[hG];exact grownCap_le_maxLen w (0+n) 0 106 (by unfold maxLen;omega)
  have hRs:ROW.size=G:=by
   rw[hROW]
   simp[Builtin.zeroCells,Value.cells]
   omega
  have HR:Hid (R (.returned (.slice (some ⟨w.heap.size,0,none⟩) 0 G)) (w.drew.alloc (.cells ROW 106))):=by
   refine hR _ _ ⟨rfl,.inr ⟨w.heap.size,G,ROW,rfl,nr,World.alloc_heap_new w.drew _,Nat.zero_le _,hGm,by simpa using hRs,by simp⟩⟩ (((Below.refl _ w).drew).alloc nr _)
  have hG63:G<=9223372036854775807:=by unfold maxLen at hGm;omega
  have hnp:(0:Int)<(n:Int):=by omega
  have hG0: ¬(G=0):=by omega
  clear hR hG hROW hRs hold
  go_enter Tryz.func111,Tryz.ntmps111
  go_wp2_with (at_builtin;refine Lib.wpList_append_run _ rfl _ _ _ _ rfl _ _ rfl rfl _ _ (hrz _) ?_)
  exact HR.o
end
section
open Go.RowKit Go.Shelf Go.Lib
theorem ziw {w:World}{base:Nat}{v u:Value}{n:Nat}{xs:List Value}{adr:Nat->Nat}{q:List Nat}(ty:TypeId)(hown:w.ownsRow base 106 1 v n xs)(hu:w.ownsRow 0 106 1 u q.length (ptrs adr q))(hn:n<=2097152)(hq:q.length<=1048576)(hb:base<=w.heap.size):
  ∃v' w',(Builtin.append_ #[101,101] ty #[v,u]).run Tryz.prog w= .ok v' w'/\w'.ownsRow base 106 1 v' (n+q.length) (xs++ptrs adr q)/\w.grownBy w' v.ownBlock:=by
 obtain ⟨i0,hi0,hz0,hzs,hzb⟩:=info_parts Tryz.infoPB
 rcases zjr hu with ⟨rfl,rfl⟩|⟨g,cap,cur,rfl,h3,h4,h5,h6,h7⟩
 .refine⟨v,w,?_,by simpa [ptrs] using hown,zha _ _⟩
  obtain ⟨a,c,rfl⟩:=zae hown
  have hnc:n<=c:=by
   rcases hown.2 with ⟨e1,e2⟩|⟨g,c',cur,e1,_,_,e4,_⟩
   .rw[e2];exact Nat.zero_le _
   .cases e1;exact e4
  simp[Builtin.append_,run_underlying Tryz.underlying101,sizeOf,typeInfo,hi0,Builtin.lenOf,Builtin.firstCells,loadCells]
  rw[if_pos hnc]
  cases a<;>simp[storeCells]
 .obtain ⟨v',w',r1,r2,r3,_⟩:=run_append_own_wide (P:=Tryz.prog) w base 101 ty 106 i0 _ 1 8 Tryz.underlying101 hi0 hz0 hzs hzb rfl (by decide) v n xs hown ⟨g,0,none⟩ q.length cap (ptrs adr q) (by rw[zdv];omega) (fun j x hj=>by
   rw[Addr.add_lit]
   rw[cell_of_row w g (0+j) cur _ (0,0) h3]
   rw[←h7,List.getElem?_take] at hj
   split at hj
   .simpa using hj
   .cases hj) (ptrs_one adr q) (by unfold maxLen;omega) (by omega) hb
  exact⟨v',w',r1,r2,r3⟩
theorem Concat_any (b:Bk)(ph:Nat)(l:List Od)(w:World)(R:EW)(h:BKs w b ph l)
  (hR: ∀v w',w'.ownsRow w.heap.size 106 1 v ((b.q 1).length+(b.q 2).length) (ptrs b.adr (b.q 1)++ptrs b.adr (b.q 2))->Below w.heap.size w w'->R (.returned v) w'):
  Calls Tryz.prog 88 #[.slice (some ⟨b.K,0,none⟩) 3 3] w R:=by
 have HR:=zl hR
 have HB:=zl h
 have n1:=h.cnt 1 (.inl rfl)
 have n2:=h.cnt 2 (.inr rfl)
 obtain ⟨a1,c1,e1⟩:=zae (h.row 1 (.inl rfl))
 obtain ⟨a2,c2,e2⟩:=zae (h.row 2 (.inr rfl))
 have HE1:=zl e1
 have HE2:=zl e2
 have k0:=h.cells 0 _ rfl
 have k1:=h.cells 1 _ rfl
 have k2:=h.cells 2 _ rfl
 rw[e1] at k1
 rw[e2] at k2
 have HKc:Hid (∀X:World,Below w.heap.size w X->X.cell? ⟨b.K,0,none⟩=some (.slice none 0 0)/\X.cell? ⟨b.K,1,none⟩=some (.slice a1 (b.q 1).length c1)/\X.cell? ⟨b.K,2,none⟩=some (.slice a2 (b.q 2).length c2)):=fun X hX=>⟨zaa hX k0,zaa hX k1,zaa hX k2⟩
 have HRw:Hid (∀X:World,Below w.heap.size w X->X.ownsRow 0 106 1 (.slice a1 (b.q 1).length c1) (b.q 1).length (ptrs b.adr (b.q 1))/\X.ownsRow 0 106 1 (.slice a2 (b.q 2).length c2) (b.q 2).length (ptrs b.adr (b.q 2))/\X.ownsRow 0 106 1 (.slice none 0 0) ([]:List Nat).length (ptrs b.adr [])):=by
  intro X hX
  have r1:=(HB.o.ext hX).row 1 (.inl rfl)
  have r2:=(HB.o.ext hX).row 2 (.inr rfl)
  rw[e1] at r1
  rw[e2] at r2
  exact⟨r1,r2,World.ownsRow_nil _ _ _ _⟩
 clear hR h e1 e2
 generalize b.q 1=q1 at *
 generalize b.q 2=q2 at *
 go_enter Tryz.func88,Tryz.ntmps88
 go_wp2_with fail
 refine wp_loop_rounds 4 ?_
 rw[rounds_succ]
 go_wp2_with fail
 rw[rounds_succ]
 go_wp2_with fail
 rw[rounds_succ]
 go_wp2_with fail
 rw[rounds_succ]
 go_wp2_with fail
 rw[show (q1.length:Int)+(q2.length:Int)=((q1.length+q2.length:Nat):Int) from (Int.natCast_add _ _).symm]
 refine Grow_any _ (by omega) _ _ ?_
 intro v0 W1 r0 hb0
 clear k0 k1 k2
 obtain ⟨x0,x1,x2⟩:=HKc.o W1 hb0
 obtain ⟨v1,W2,hr1,o1,g1⟩:=ziw 101 r0 (HRw.o W1 hb0).2.2 (by omega) (by simp) hb0.size
 have hb1:Below w.heap.size w W2:=hb0.grown g1 hb0.size (fun j e=>(r0.lt j e).1)
 obtain ⟨v2,W3,hr2,o2,g2⟩:=ziw 101 o1 (HRw.o W2 hb1).1 (by simp) (by omega) hb1.size
 have hb2:Below w.heap.size w W3:=hb1.grown g2 hb1.size (fun j e=>(o1.lt j e).1)
 obtain ⟨v3,W4,hr3,o3,g3⟩:=ziw 101 o2 (HRw.o W3 hb2).2.1 (by simp;omega) (by omega) hb2.size
 have hb3:Below w.heap.size w W4:=hb2.grown g3 hb2.size (fun j e=>(o2.lt j e).1)
 obtain ⟨y0,y1,y2⟩:=HKc.o W2 hb1
 obtain ⟨z0,z1,z2⟩:=HKc.o W3 hb2
 have hfin:Hid (R (.returned v3) W4):=by
  refine HR.o v3 W4 ?_ hb3
  simpa [ptrs] using o3
 obtain ⟨a0,cc0,rfl⟩:=zae r0
 obtain ⟨b1,cc1,rfl⟩:=zae o1
 obtain ⟨b2,cc2,rfl⟩:=zae o2
 obtain ⟨b3,cc3,rfl⟩:=zae o3
 clear o1 o2 o3 g1 g2 g3 r0 hb0 hb1 hb2 hb3 HR HB HRw HKc
 simp only[List.length_nil,Nat.zero_add,Nat.add_zero] at hr1 hr2 hr3 hfin
 go_wp2_with fail
 refine wp_loop_rounds 4 ?_
 rw[rounds_succ]
 go_wp2_with (at_builtin;refine wpList_append_run _ rfl _ _ _ _ rfl _ _ rfl rfl _ _ hr1 ?_)
 rw[rounds_succ]
 go_wp2_with (at_builtin;refine wpList_append_run _ rfl _ _ _ _ rfl _ _ rfl rfl _ _ hr2 ?_)
 rw[rounds_succ]
 go_wp2_with (at_builtin;refine wpList_append_run _ rfl _ _ _ _ rfl _ _ rfl rfl _ _ hr3 ?_)
 rw[rounds_succ]
 go_wp2_with fail
 exact hfin.o
end
