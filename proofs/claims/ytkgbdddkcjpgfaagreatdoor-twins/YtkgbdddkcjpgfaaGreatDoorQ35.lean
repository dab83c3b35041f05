import Derived.LaidLaws
import Derived.Leaving
import Derived.Conc.HoldsTime
import Derived.Test.YtkgbdddkcjpgfaaGreatDoorQ34
namespace Go.Proofs.YtkgbdddkcjpgfaaGreatDoor
open Go.Proofs.Tryz
section
open Go
theorem gV{a:Assume}{C:Checked}{os:Os}{f:FuncId}{r:Reach}{c:World->Array Value->Prop}{b:World->Array Value->Value->World->Prop}(h:ReturnsInHanded a C os f r c b):ReturnsInLeavingWide a C os f r c b :=fun e=>ReturnsInOpen.mono (fun _ _ _ x=>⟨x.2.1,onlyLeaving_of_quiet x.1,x.2.2⟩) (fun _ x=>x) (h e)
section
variable {H:Type} {enc:TypeId×Value->H}
theorem mI{C:Checked}{os:Os}{f:FuncId}{g:Func}{s:ChangeSpec}{b:List PathCond}{apart:Bool}{X:World->Array Value->Prop}(c:World)(args:Array Value)(fuel:Nat)(h:c.os=os)
  (j:(c.forCall (fun _ _=>0) ⟨#[],args,[]⟩).Shaped C.prog)
  (d:Input.okWideB C.prog (c.forCall (fun _ _=>0) ⟨#[],args,[]⟩) f ⟨#[],args,[]⟩=true)
  (e:s.preB enc C.prog g b apart (c.forCall (fun _ _=>0) ⟨#[],args,[]⟩).memory args fuel=true)
  (k:s.sizedB enc C.prog g apart (c.forCall (fun _ _=>0) ⟨#[],args,[]⟩).memory args fuel=true)
  (l:X (c.forCall (fun _ _=>0) ⟨#[],args,[]⟩).memory args) :
  ∃(w:World)(a:Tape)(i:Input),w.os=os/\(w.forCall a i).Shaped C.prog/\i.vars=[]/\Input.okWide C.prog (w.forCall a i) .any w.heap.size f i /\
   ((s.pre enc C.prog g b apart (w.forCall a i).memory i.args/\X (w.forCall a i).memory i.args)/\sizedMet enc C.prog g (OpenSpec.ofChange s) apart (w.forCall a i).memory i.args)/\({calm:=true}:Assume).holds C.prog (lone (Frame.enter C.prog f i.args .normal) [] (w.forCall a i)) :=
 ⟨c,fun _ _=>0,⟨#[],args,[]⟩,h,j,(Input.okWide_of_okWideB (base:=0) d).1,(Input.okWide_of_okWideB d).2,⟨⟨ChangeSpec.pre_of_preB e,l⟩,sizedMet_of_sizedB k⟩,by
  simp only [Assume.holds]
  exact⟨by simp,fun _ _ _ _=>rfl,by simp,by simp,by simp⟩⟩
end
section
variable {H:Type} {enc:TypeId×Value->H}
theorem dV{a:Assume}{C:Checked}{os:Os}{f:FuncId}{k:Func}{s:ChangeSpec}{F:Stop.Interp}{g:List PathCond}{apart fresh handsOn:Bool}{X:World->Array Value->Prop}
  (L:∀(w J:World)(b:Array Value),w.heap=J.heap->X w b->X J b)
  (z:ownKnob C.prog.godebug=none) (l:os.Started) (n:C.prog.inits.idxOf? f=none) (A:C.prog.funcs[f]?=some k)
  (m:∃(w:World)(c:Tape)(i:Input),w.os=os/\(w.forCall c i).Shaped C.prog/\i.vars=[]/\Input.okWide C.prog (w.forCall c i) .any w.heap.size f i /\
   ((s.pre enc C.prog k g apart (w.forCall c i).memory i.args/\X (w.forCall c i).memory i.args)/\sizedMet enc C.prog k (OpenSpec.ofChange s) apart (w.forCall c i).memory i.args)/\a.holds C.prog (lone (Frame.enter C.prog f i.args .normal) [] (w.forCall c i)))
  (h:∀(W:World)(o:Nat)(b:Array Value) (p q:List (DataW H)) (d:List MemPlace),W.ShapedOpen C.prog ->
   (∀(j:Nat) t v,k.params[j]?=some t->b[j]?=some v->Value.okWide C.prog W .any o t v) ->
   DataW.Whole enc C.prog k.params.toList s.vars apart W b.toList p q d ->
   g.all (PathCond.test C.prog ⟨k.params.toList,p,s.plain.varTypes C.prog,q⟩)=true ->
   (DataW.weightsEach C.prog (k.params.toList++s.plain.varTypes C.prog) (p++q)).all (·<=reachBytes)=true->X W b ->
   Calls C.prog f b W fun e B=>∃v,e=.returned v/\s.post enc C.prog k apart fresh handsOn false W b v B/\B.os=W.os) :
  ReturnsInLeavingWide a C os f .any (fun w b=>(s.pre enc C.prog k g apart w b/\X w b)/\sizedMet enc C.prog k (OpenSpec.ofChange s) apart w b) ((OpenSpec.ofChange s).postWith enc C.prog k F (outsideKept [.timePasses]) apart fresh handsOn):=by
 refine gV (returnsInHanded_of_calls z l n m ?_);intro w c i _ D _ E r _;obtain⟨_,_,_,G,u,_,_,_,_,x⟩:=E;have e:G=k:=i_ (u.symm.trans A);subst e;obtain⟨⟨⟨p,q,d,K,M⟩,N⟩,O⟩:=r;have I:=DataW.Whole.of_heap (w':=w.forCall c i) (by rfl) K;refine(h (w.forCall c i) w.heap.size i.args p q d D x I M (O.weights K) (L _ _ _ (by rfl) N)).mono fun e B ⟨v,P,Q,y⟩=>?_;subst P;refine postWith_blind (postWith_of_post (by rw [<- y];exact Q) ⟨0,by rw [y];rfl⟩)
end
theorem Tryz.glob7:(((begin prog (fun _ _=>0) default).world.heap[7]?).bind Obj.row?).isSome=true:=by kernel_rfl
theorem Tryz.globN:7<prog.globals.size:=of_decide_eq_true (by kernel_rfl)
theorem size_of_shaped{W:World}(h:W.ShapedOpen prog):8<=W.heap.size:=by obtain⟨⟨z,t⟩,a⟩:=Option.isSome_iff_exists.1 Tryz.glob7;obtain⟨c,b,_⟩:=h.1 7 z t Tryz.globN a;have:=(Array.getElem?_eq_some_iff.1 b).1;omega
end
open Pl (PV PW AE)
section
open Go.RowKit Go.Maps Go.Lib
variable {w w':World} {M O P:Nat->Prop} {N k g gb:Nat}
def Ow(O:Nat->Prop)(v:Value)(k:Nat):Prop:=O k\/v.ownBlock=some k
theorem FW.ownApp{L:Lo}{F:Fg}{W:PW}{v v':Value}{n n':Nat}{xs xs':List Value}(h:FW L M (Ow O v) w F N W)(ho:w.ownsRow 0 B9 1 v n xs)(s:w.grownBy w' v.ownBlock)(z:w'.ownsRow 0 B9 1 v' n' xs')(A:∀g,v'.ownBlock=some g->v.ownBlock=some g\/w.heap.size<=g)(hO:∀g,v.ownBlock=some g->¬O g) :FW L (Mn M (fun k=>v'.ownBlock=some k/\w.heap.size<=k)) (Ow O v') w' F N W/\Stp M w (Mn M (fun k=>v'.ownBlock=some k/\w.heap.size<=k)) w'/\(∀k,O k->w'.heap[k]?=w.heap[k]?)/\(∀k,M k->k<w.heap.size->v.ownBlock≠some k->w'.heap[k]?=w.heap[k]?)/\∀g,v'.ownBlock=some g->¬O g:=by
 have B:=h.CY.mlt;have P:∀k,v.ownBlock=some k->M k:=fun k a=>(h.oth k (.inr a)).1;have j:Stp M w (Mn M (fun k=>v'.ownBlock=some k/\w.heap.size<=k)) w':=⟨s.os,s.tape,s.output,s.size,fun k a hn=>⟨s.block k a (fun e=>hn (P k e.symm)),fun x=>x.elim hn (fun y=>by have:=y.2;omega)⟩⟩
 have f:∀k,k<w.heap.size->v.ownBlock≠some k->w'.heap[k]?=w.heap[k]? := fun k a e=>s.block k a (fun q=>e q.symm)
 have r:∀{k:Nat} {T:TypeId} {Q:Array Value},w.heap[k]?=some (.cells Q T (0,0))->T≠B9->w'.heap[k]?=some (.cells Q T (0,0)):=fun {k} {T} {Q} a hT=>(f k (aB a) (fun e=>by
  obtain⟨d,u⟩:=aF9 ho e
  exact aGF a u hT rfl)).trans a
 obtain⟨R,nn,C⟩:=h.map.F6;obtain⟨ab,n2,t⟩:=h.CY.B3.F6
 have l:∀{k:Nat} {R:Array MapEntry} {n:Nat},w.heap[k]?=some (.map R n)->w'.heap[k]?=w.heap[k]? := fun {k} {R} {n} a=>f k (aB a) (fun e=>by
  obtain⟨d,u⟩:=aF9 ho e
  exact aGN a u rfl)
 have hl:=Fg.Le.refl F
 have S:∀g,v'.ownBlock=some g->¬O g:=fun g U D=>by
  rcases A g U with q | q
  ·exact hO g q D
  ·have:=B g (h.oth g (.inl D)).1;omega
 have E:∀k,O k->w'.heap[k]?=w.heap[k]? := fun k a=>by obtain⟨K,⟨d,V⟩,_⟩:=h.oth k (.inl a);exact f k (aB V) (fun e=>hO k e a)
 refine⟨⟨⟨h.CY.B3.keep (j.block _ h.CY.B3.lt.1 h.CY.JJ).1 (l t),h.CY.pairs.AQ j,.inl h.CY.FV,(j.block _ h.CY.B3.lt.1 h.CY.JJ).2,fun k a=>?_⟩,h.NN.go j,.inl h.TH,h.UE,h.map.keep (l C),h.gn,fun k g a=>?_,h.ginj,h.gall,h.gpl,fun G m=>?_,h.sn1,h.sn2,h.sgl,h.pql,h.pqi,fun i b q H I X=>(h.pqa i b q H I X).go j hl,h.AG.mono (fun b x hx=>hx.go j hl),⟨h.places.len,h.places.inj,fun i g o p J Y=>?_⟩,fun k a=>?_,h.pr,h.gs.AQ j,h.JQ.AQ h.gs j,(bY h.gs j kT).trans h.gt,?_,h.tq,h.tc,h.nl⟩,j,E,fun k _ a e=>f k a e,S⟩
 ·rcases a with a | a
  ·exact l_ (B k a) s.size
  ·exact(z.lt k a.1).2
 ·obtain⟨H,v',c,nm,I,X,h4⟩:=h.gat k g a;exact⟨.inl H,v',c,nm,I,r X tVs.2.2.1.symm,h4⟩
 ·obtain⟨k,a⟩:=h.sgl G m;obtain⟨us,mv,gv,c,e,e1,e2,e3,_⟩:=(h.sit G m).ex;exact(h.sit G m).go j (.inl (h.sit G m).mb) (.inl (h.sit G m).sb) ((r e1 tVs.1.symm).trans e1.symm) ((r e2 tVs.2.1.symm).trans e2.symm) ((r e3 tVs.2.2.1.symm).trans e3.symm)
 ·obtain⟨k1,d,x,k2,k3,k4⟩:=h.places.at_ i g o p J Y;exact⟨.inl k1,d,x,(f g (aB k2) (fun e=>(h.oth g (.inr e)).2.2 i o J)).trans k2,k3,k4⟩
 ·rcases a with a | a
  ·obtain⟨K,⟨d,V⟩,Z⟩:=h.oth k (.inl a);exact⟨.inl K,⟨d,(E k a).trans V⟩,Z⟩
  ·obtain⟨d,u⟩:=aF9 z a;rcases A k a with q | q
   ·obtain⟨K,_,Z⟩:=h.oth k (.inr q);exact⟨.inl K,⟨d,u⟩,Z⟩
   ·refine⟨.inr ⟨a,q⟩,⟨d,u⟩,fun i o e=>?_⟩;have aa:=(s_ e).1;obtain⟨p,Y⟩:∃p,W.places[i]?=some p:=⟨_,g_ (by rw [<- h.places.len];exact aa)⟩
    have:=aB (h.places.at_ i k o p e Y).2.choose_spec.choose_spec.1;omega
 ·obtain⟨v,H,I⟩:=h.ge;exact⟨v,(bY h.gs j kU).trans H,I⟩
def Mz(M:Nat->Prop)(v:Value)(k:Nat):Prop:=M k/\v.ownBlock≠some k
theorem Stp.freeze(M:Nat->Prop)(v:Value)(w:World):Stp M w (Mz M v) w:=⟨rfl,rfl,rfl,n_,fun _ _ a=>⟨rfl,fun x=>a x.1⟩⟩
theorem FW.freeze{L:Lo}{F:Fg}{W:PW}{v:Value}{n:Nat}{xs:List Value}(h:FW L M (Ow O v) w F N W)(D:w.ownsRow 0 B9 1 v n xs)(H:∀g,v.ownBlock=some g->¬O g):FW L (Mz M v) O w F N W:=by
 have m:=Stp.freeze M v w;have E:=Fg.Le.refl F;have f:∀{k:Nat} {T:TypeId} {G:Array Value},w.heap[k]?=some (.cells G T (0,0))->T≠B9->v.ownBlock≠some k:=fun {k} {T} {G} a I e=>by obtain⟨j,z⟩:=aF9 D e;exact aGF a z I rfl
 have r:∀{k:Nat} {A:Array MapEntry} {n:Nat},w.heap[k]?=some (.map A n)->v.ownBlock≠some k:=fun {k} {A} {n} a e=>by obtain⟨j,z⟩:=aF9 D e;exact aGN a z rfl
 obtain⟨A,nn,s⟩:=h.map.F6;obtain⟨J,n2,l⟩:=h.CY.B3.F6;refine⟨⟨h.CY.B3,h.CY.pairs.AQ m,⟨h.CY.FV,r l⟩,fun x=>h.CY.JJ x.1,fun k a=>h.CY.mlt k a.1⟩,h.NN.go m,⟨h.TH,r s⟩,h.UE,h.map,h.gn,fun k g a=>?_,h.ginj,h.gall,h.gpl,fun u d=>?_,h.sn1,h.sn2,h.sgl,h.pql,h.pqi,fun i b q B C y=>(h.pqa i b q B C y).go m E,h.AG.mono (fun b x K=>K.go m E),⟨h.places.len,h.places.inj,fun i g o p t P=>?_⟩,fun k a=>?_,h.pr,h.gs.AQ m,h.JQ,h.gt,h.ge,h.tq,h.tc,h.nl⟩
 ·obtain⟨B,Q,c,R,C,y,S⟩:=h.gat k g a;exact⟨⟨B,f y tVs.2.2.1.symm⟩,Q,c,R,C,y,S⟩
 ·obtain⟨us,mv,gv,c,e,U,V,e3,_⟩:=(h.sit u d).ex;exact(h.sit u d).go m ⟨(h.sit u d).mb,f U tVs.1.symm⟩ ⟨(h.sit u d).sb,f V tVs.2.1.symm⟩ rfl rfl rfl
 ·obtain⟨X,j,x,Y,Z,k4⟩:=h.places.at_ i g o p t P;exact⟨⟨X,fun e=>(h.oth g (.inr e)).2.2 i o t⟩,j,x,Y,Z,k4⟩
 ·obtain⟨a1,a2,a3⟩:=h.oth k (.inl a);exact⟨⟨a1,fun e=>H k e a⟩,a2,a3⟩
def Cr(M:Nat->Prop)(w:World)(F:Fg)(k:Nat):Prop:=M k/\(∃cur T,w.heap[k]?=some (.cells cur T (0,0))/\((T=TCod\/T=TInt)\/T=TFMc))/\∀st∈F.cs,st.mb≠k/\st.sb≠k
theorem tCs{T:TypeId}(h:(T=TCod\/T=TInt)\/T=TFMc):B9≠T/\TGlb≠T:=by rcases h with(rfl | rfl) | rfl<;>decide
theorem FW.codeSet{L:Lo}{F:Fg}{W:PW}(h:FW L M O w F N W)(I:Cr M w F k)(o:Nat)(v:Value) :FW L M O (w.setCell ⟨k,o,none⟩ v) F N W/\Stp M w M (w.setCell ⟨k,o,none⟩ v)/\∀b,b≠k->(w.setCell ⟨k,o,none⟩ v).heap[b]?=w.heap[b]? := by
 obtain⟨C,⟨J,T,r,K⟩,z⟩:=I;obtain⟨D,E⟩:=tCs K;have a:=Och.set r o v;have l:=a.AQ C;obtain⟨es,n,A⟩:=h.map.F6;obtain⟨P,n2,s⟩:=h.CY.B3.F6;have B:=Fg.Le.refl F;refine⟨⟨h.CY.och a C (aGN s r),h.NN.go l,h.TH,h.UE,h.map.keep (a.other _ (fun e=>aGN A r e.symm)),h.gn,fun j G Q=>?_,h.ginj,h.gall,h.gpl,fun u d=>?_,h.sn1,h.sn2,h.sgl,h.pql,h.pqi,fun i b q t m y=>(h.pqa i b q t m y).go l B,h.AG.mono (fun b x R=>R.go l B),⟨h.places.len,h.places.inj,fun i g S p U V=>?_⟩,fun j X=>?_,h.pr,h.gs.AQ l,h.JQ.AQ h.gs l,(bY h.gs l kT).trans h.gt,?_,h.tq,h.tc,h.nl⟩,l,fun b Y=>a.other b Y⟩
 ·obtain⟨t,Z,c,nm,m,y,h4⟩:=h.gat j G Q;exact⟨t,Z,c,nm,m,(a.other G (aGF y r E)).trans y,h4⟩
 ·obtain⟨us,mv,gv,c,e,e1,e2,e3,_⟩:=(h.sit u d).ex;exact(h.sit u d).go l (h.sit u d).mb (h.sit u d).sb (a.other _ (z u d).1) (a.other _ (z u d).2) (a.other _ (aGF e3 r E))
 ·obtain⟨k1,f,v2,H,k3⟩:=h.places.at_ i g S p U V;exact⟨k1,f,v2,(a.other g (aGF H r D)).trans H,k3⟩
 ·obtain⟨t,⟨f,m⟩,y⟩:=h.oth j X;exact⟨t,⟨f,(a.other j (aGF m r D)).trans m⟩,y⟩
 ·obtain⟨v,t,m⟩:=h.ge;exact⟨v,(bY h.gs l kU).trans t,m⟩
def Ms(M:Nat->Prop)(k j:Nat):Prop:=M j/\j≠k
theorem Stp.shut(M:Nat->Prop)(k:Nat)(w:World):Stp M w (Ms M k) w:=⟨rfl,rfl,rfl,n_,fun _ _ a=>⟨rfl,fun x=>a x.1⟩⟩
theorem FW.codeEnd{L:Lo}{F:Fg}{W:PW}(h:FW L M O w F N W)(v:Cr M w F k):FW L (Ms M k) O w F N W:=by
 obtain⟨hm,⟨m,T,n,H⟩,r⟩:=v;obtain⟨C,I⟩:=tCs H;have f:=Stp.shut M k w;have D:=Fg.Le.refl F;obtain⟨es,nn,s⟩:=h.map.F6;obtain⟨J,n2,d⟩:=h.CY.B3.F6;refine⟨⟨h.CY.B3,h.CY.pairs.AQ f,⟨h.CY.FV,(aGN d n).symm⟩,fun x=>h.CY.JJ x.1,fun k v=>h.CY.mlt k v.1⟩,h.NN.go f,⟨h.TH,(aGN s n).symm⟩,h.UE,h.map,h.gn,fun j g y=>?_,h.ginj,h.gall,h.gpl,fun l a=>?_,h.sn1,h.sn2,h.sgl,h.pql,h.pqi,fun i b q z A u=>(h.pqa i b q z A u).go f D,h.AG.mono (fun b x K=>K.go f D),⟨h.places.len,h.places.inj,fun i g o p B P=>?_⟩,fun j y=>?_,h.pr,h.gs.AQ f,h.JQ,h.gt,h.ge,h.tq,h.tc,h.nl⟩
 ·obtain⟨z,Q,c,R,A,u,S⟩:=h.gat j g y;exact⟨⟨z,aGF u n I⟩,Q,c,R,A,u,S⟩
 ·obtain⟨us,mv,gv,c,e,e1,e2,e3,_⟩:=(h.sit l a).ex;exact(h.sit l a).go f ⟨(h.sit l a).mb,(r l a).1⟩ ⟨(h.sit l a).sb,(r l a).2⟩ rfl rfl rfl
 ·obtain⟨U,m,x,E,V,X⟩:=h.places.at_ i g o p B P;exact⟨⟨U,aGF E n C⟩,m,x,E,V,X⟩
 ·obtain⟨Y,⟨t,G⟩,Z⟩:=h.oth j y;exact⟨⟨Y,aGF G n C⟩,⟨t,G⟩,Z⟩
theorem FW.more{L:Lo}{F:Fg}{W:PW}(h:FW L M O w F N W)(a:Below w.heap.size w w')(X:Nat->Prop)(b:∀k,X k->w.heap.size<=k)(c:∀k,X k->k<w'.heap.size):FW L (Mn M X) O w' F N W/\Stp M w (Mn M X) w':=by have:=Mf.wide (M:=M) X b a c;exact⟨h.mf this,this.AQ⟩
structure Cmp(L:Lo)(M O P:Nat->Prop)(w:World)(F:Fg)(W:PW)(M':Nat->Prop)(w':World)(G:Fg)(N:Nat):Prop where
 AQ:Stp M w M' w'
 le:Fg.Le F G
 s:G.s=F.s
 fw:FW L M' O w' G N W
 oth:∀b,O b->w'.heap[b]?=w.heap[b]?
 row:∀k,P k->w'.heap[k]?=w.heap[k]?
 cr:∀k,P k->Cr M' w' G k
theorem Cmp.refl{L:Lo}{F:Fg}{W:PW}(h:FW L M O w F N W)(hp:∀k,P k->Cr M w F k):Cmp L M O P w F W M w F N:=⟨Stp.refl _ _,Fg.Le.refl _,rfl,h,fun _ _=>rfl,fun _ _=>rfl,hp⟩
theorem Cmp.trans{L:Lo}{M1 M2 M3:Nat->Prop}{a b c:World}{F G H:Fg}{W:PW}{N':Nat}(h:Cmp L M1 O P a F W M2 b G N)(k:Cmp L M2 O P b G W M3 c H N'):Cmp L M1 O P a F W M3 c H N' :=⟨h.AQ.trans k.AQ,h.le.trans k.le,k.s.trans h.s,k.fw,fun b d=>(k.oth b d).trans (h.oth b d),fun i e=>(k.row i e).trans (h.row i e),k.cr⟩
theorem Cmp.up{L:Lo}{M':Nat->Prop}{F G:Fg}{W:PW}{N':Nat}(h:Cmp L M O P w F W M' w' G N)(a:N<=N'):Cmp L M O P w F W M' w' G N':=⟨h.AQ,h.le,h.s,h.fw.up a,h.oth,h.row,h.cr⟩
theorem Cr.lt{F:Fg}(h:Cr M w F k):k<w.heap.size:=by obtain⟨_,⟨a,_,b,_⟩,_⟩:=h;exact aB b
theorem Cr.below{F:Fg}(h:Cr M w F k)(c:Below w.heap.size w w'):Cr M w' F k:=by obtain⟨d,⟨a,T,b,e⟩,f⟩:=h;exact⟨d,⟨a,T,(c.block k (aB b)).trans b,e⟩,f⟩
theorem Cmp.below{L:Lo}{M':Nat->Prop}{w2:World}{F G:Fg}{W:PW}(h:Cmp L M O P w F W M' w' G N)(a:Below w'.heap.size w' w2):Cmp L M O P w F W M' w2 G N :=⟨h.AQ.trans (Stp.AA a),h.le,h.s,h.fw.below a,fun b d=>(a.block b (h.fw.olt d)).trans (h.oth b d),fun k c=>(a.block k (h.cr k c).lt).trans (h.row k c),fun k c=>(h.cr k c).below a⟩
theorem zeroGl(w:World):(zeroValue 268).run prog w=.ok (.pointer none) w:=by kernel_rfl
theorem gl_yes{F:Fg}(h:GmAt w gb F)(f:k<=MH)(i:F.gl k=some g):∀a,a.heap[gb]?=w.heap[gb]? -> (Instr.lookup 265 (.map (some gb)) (.int .i64 (k:Int)) true).run prog a=.ok (.tuple #[pt g,.bool true]) a:=by
 obtain⟨D,⟨j,c,l,m⟩,n⟩:=h;obtain⟨o,p⟩:=n.yes k g i;intro a q;have b:a.ownsMap prog 3 heldE gb F.gn D:=⟨j,c,q.trans l,m⟩
 obtain⟨r,s,d,e⟩:=b.look_ok aKS underlying265 (zeroGl a) (zd:=.held (.pointer none)) (zp:=[]) rfl (TQ f);rw [p] at e;simp only [heldE,o_,Prod.mk.injEq,DataW.held.injEq] at e;rw [d,o,e.1]
theorem gl_no{F:Fg}(h:GmAt w gb F)(g:k<=MH)(i:F.gl k=none):∀a,a.heap[gb]?=w.heap[gb]? -> (Instr.lookup 265 (.map (some gb)) (.int .i64 (k:Int)) true).run prog a=.ok (.tuple #[.pointer none,.bool false]) a:=by
 obtain⟨D,⟨j,c,l,m⟩,n⟩:=h;have f:=n.no k i;intro a o;have b:a.ownsMap prog 3 heldE gb F.gn D:=⟨j,c,o.trans l,m⟩
 obtain⟨p,q,d,e⟩:=b.look_ok aKS underlying265 (zeroGl a) (zd:=.held (.pointer none)) (zp:=[]) rfl (TQ g);rw [atKey_of_not_has f] at e;simp only [heldE,o_,Prod.mk.injEq,DataW.held.injEq] at e;rw [d,f,e.1]
def Fg.addG(F:Fg)(k g:Nat):Fg:={F with gl:=fun j=>if j=k then some g else F.gl j,gn:=F.gn+1}
theorem Fg.addG_le{F:Fg}(b:F.gl k=none):Fg.Le F (F.addG k g):=⟨Sg.Le.refl _,fun j x a=>by
 show(if j=k then some g else F.gl j)=some x;rw [if_neg (fun e=>by rw [e,b] at a;cases a)]
 exact a,List.prefix_refl _,List.prefix_refl _⟩
theorem GmD.new{D:DataW Value}{F:Fg}(h:GmD D F):GmD (D.put (.int .i64 (k:Int)) (.held (pt g))) (F.addG k g):=by
 have b:WideAt.IsKeyLit (.int .i64 (k:Int)):=trivial;refine⟨h.tidy.put b _,fun j x c=>?_,fun j c=>?_⟩
 ·have a:(if j=k then some g else F.gl j)=some x:=c;by_cases e:j=k
  ·subst e;rw [if_pos rfl] at a;obtain rfl:=i_ a;exact⟨has_put_same h.tidy.isMap b _,fun z=>atKey_put_same h.tidy.isMap b _ z⟩
  ·rw [if_neg e] at a;obtain⟨d,f⟩:=h.yes j x a;exact⟨by rw [has_put_other (eK e)];exact d,fun z=>by rw [atKey_put_other (eK e)];exact f z⟩
 ·have a:(if j=k then some g else F.gl j)=none:=c;by_cases e:j=k
  ·rw [if_pos e] at a;cases a
  ·rw [if_neg e] at a;rw [has_put_other (eK e)];exact h.no j a
theorem BM.map{s:Sg}{tb mb:Nat}{ps:List (PV×PV)}(h:BM M w s tb mb ps)(a:w.grownBy w' (some gb))(f:M gb)(b:gb≠mb):BM M w' s tb mb ps:=by have d:Stp M w M w':=Stp.DX a (fun k c=>by obtain rfl:=i_ c;exact f);exact⟨h.B3.keep (d.block tb h.B3.lt.1 h.JJ).1 (a.block mb h.B3.lt.2 (fun e=>b (i_ e).symm)),h.pairs.AQ d,h.FV,h.JJ,fun k c=>l_ (h.mlt k c) a.size⟩
theorem FW.newGlob{L:Lo}{F:Fg}{W:PW}(h:FW L M O w F N W)(hP:∀k,P k->Cr M w F k){nm:AE}(Z:F.s.ns[k]?=some nm)(hk:F.gl k=none)(hN:N+1<=9000000000000000000){w1:World}(X:Below w.heap.size w w1)(af:w.heap.size<=g)(hg:w1.heap[g]?=some (.cells #[.nilIface,.int .i64 0] TGlb (0,0))) :∃A,(Instr.mapUpdate 265 (.map (some L.gb)) (.int .i64 (k:Int)) (pt g)).run prog w1=.ok () A/\w1.grownBy A (some L.gb)/\Cmp L M O P w F W (Mn M (fun j=>j=g)) A (F.addG k g) (N+1):=by
 obtain⟨m,s2⟩:=h.more X (fun j=>j=g) (fun j n=>by omega) (fun j n=>by subst n;exact aB hg);obtain⟨D,I,hD⟩:=m.map;have aa:F.s.ns.Nodup:=by obtain⟨D,_,hD⟩:=h.CY.B3.map;exact hD.nodup
 have ab:k<=MH:=by have:=(s_ Z).1;have:=h.CY.B3.nsok;unfold CT at this;omega
 have ag:=h.gn;obtain⟨A,J,B,C⟩:=I.store aKS underlying265 (by unfold maxLen;omega) (TQ ab) (d:=.held (pt g)) (ps:=[]) (val:=pt g) rfl;have Y:=C.grown;obtain⟨es,c,K⟩:=m.map.F6;have z:Stp (Mn M (fun j=>j=g)) w1 (Mn M (fun j=>j=g)) A:=Stp.DX Y (fun j n=>by obtain rfl:=i_ n;exact m.TH);have f:∀{j:Nat} {r:Array Value} {T:TypeId},w1.heap[j]?=some (.cells r T (0,0))->A.heap[j]?=some (.cells r T (0,0)):=fun {j} {r} {T} n=>(Y.block j (aB n) (fun e=>aGN K n (i_ e))).trans n;have l:=Fg.addG_le (g:=g) hk
 have ac:Pl.find W.globals nm=none:=by
  cases hf:Pl.find W.globals nm with
  | none=>rfl
  | some i =>obtain⟨⟨E,Q,G,y⟩,_⟩:=h.gall nm i hf;obtain rfl:E=k:=aLI aa G Z;rw [hk] at y;cases y
 have t:∀{j x:Nat},(F.addG k g).gl j=some x->(j=k/\x=g)\/(j≠k/\F.gl j=some x):=fun {j} {x} n=>by
  have s:(if j=k then some g else F.gl j)=some x:=n;by_cases e:j=k
  ·rw [if_pos e] at s;exact .inl ⟨e,(i_ s).symm⟩
  ·rw [if_neg e] at s;exact .inr ⟨e,s⟩
 have R:∀{j x:Nat},F.gl j=some x->x<w.heap.size:=fun {j} {x} n=>by obtain⟨_,_,_,_,_,q,_⟩:=h.gat j x n;exact aB q
 have ad:FW L (Mn M (fun j=>j=g)) O A (F.addG k g) (N+1) W:=by
  refine⟨m.CY.map Y m.TH m.UE,m.NN.go z,m.TH,m.UE,⟨_,B,hD.new⟩,Nat.succ_le_succ h.gn,fun j x n=>?_,fun a b x ha hb=>?_,fun a i hi=>?_,m.gpl,fun st H=>?_,m.sn1,m.sn2,fun st H=>?_,m.pql,m.pqi,fun i b q a1 a2 a3=>(m.pqa i b q a1 a2 a3).go z l,m.AG.mono (fun b x hx=>hx.go z l),⟨m.places.len,m.places.inj,fun i Q o p hi hp=>?_⟩,fun j n=>?_,m.pr,m.gs.AQ z,m.JQ.AQ m.gs z,(bY m.gs z kT).trans m.gt,?_,m.tq,m.tc,m.nl⟩
  ·rcases t n with⟨rfl,rfl⟩ | ⟨_,s⟩
   ·exact⟨.inr rfl,.nilIface,0,nm,Z,f hg,Nat.zero_le _,.inl ⟨ac,rfl⟩⟩
   ·obtain⟨G,v,c',ae,y,q3,q4,q5⟩:=m.gat j x s;exact⟨G,v,c',ae,y,f q3,by omega,q5⟩
  ·rcases t ha with⟨rfl,rfl⟩ | ⟨_,S⟩<;>rcases t hb with⟨rfl,e⟩ | ⟨_,U⟩
   ·rfl
   ·have:=R U;omega
   ·have:=R S;omega
   ·exact h.ginj a b x S U
  ·obtain⟨⟨E,Q,G,y⟩,q3⟩:=h.gall a i hi;exact⟨⟨E,Q,G,l.gl E Q y⟩,q3⟩
  ·have q:=m.sit st H;obtain⟨us,mv,gv,c',e,e1,e2,e3,_⟩:=q.ex;exact q.go z q.mb q.sb ((f e1).trans e1.symm) ((f e2).trans e2.symm) ((f e3).trans e3.symm)
  ·obtain⟨E,q⟩:=h.sgl st H;exact⟨E,l.gl E _ q⟩
  ·obtain⟨k1,r,x,k2,k3⟩:=m.places.at_ i Q o p hi hp;exact⟨k1,r,x,f k2,k3⟩
  ·obtain⟨a1,⟨V,a2⟩,a3⟩:=m.oth j n;exact⟨a1,⟨V,f a2⟩,a3⟩
  ·obtain⟨u,G,y⟩:=m.ge;exact⟨u,(bY m.gs z kU).trans G,y⟩
 refine⟨A,J,Y,s2.trans z,l,rfl,ad,fun b hb=>?_,fun j n=>?_,fun j n=>?_⟩
 ·obtain⟨_,⟨r,q⟩,_⟩:=h.oth b hb;exact(f ((X.block b (aB q)).trans q)).trans q.symm
 ·obtain⟨_,⟨r,_,q,_⟩,_⟩:=hP j n;exact(f ((X.block j (aB q)).trans q)).trans q.symm
 ·obtain⟨q0,⟨r,T,q,hT⟩,y⟩:=hP j n;exact⟨.inl q0,⟨r,T,f ((X.block j (aB q)).trans q),hT⟩,y⟩
end
end Go.Proofs.YtkgbdddkcjpgfaaGreatDoor
