import Derived.Test.YtkgbdddkcjpgfaaGreatDoorQ13
import Derived.Lib.AppendZerosOnto
namespace Go.Proofs.YtkgbdddkcjpgfaaGreatDoor
set_option maxHeartbeats 4000000
set_option maxRecDepth 100000
open Go.Proofs.Tryz
open Pl (PV PW PS PF CW SR AE Env)
section
open Go.RowKit Go.Lib Go.Maps
variable {kv ev gv ov fv:Value} {M:Nat->Prop} {w w2:World} {tb mb sb gb rb:Nat}
def gD(W:PW)(S:PS)(nm:AE):SR:=match Pl.DL W S.env nm with
 | some i=>⟨0,W,S.A1 (W.places[i]?.getD .nothing)⟩
 | none=>⟨8,W,S⟩
theorem iU{s:Sg}{W:PW}(h:Wd M w s tb mb sb gb W):gb<w.heap.size/\sb<w.heap.size:=by obtain⟨b,c,a⟩:=h.DI.F6;exact⟨aB a,aB h.NN⟩
theorem eX{s:Sg}{S:PS}{q:PV}{v:Value}(a:RV s v q):FE M w2 s .nilIface (.pointer none) v (S.A1 q):=⟨rfl,a⟩
theorem iG{s:Sg}{W:PW}{S':PS}{d:ByteArray}{c:Nat}(f:Wd M w s tb mb sb gb W)(a:C0 M w sb rb fv ev gv kv ov)(g:DS M w ov W.out)(b:Below w.heap.size w w2)(h:c≠0):AS M w s tb mb sb gb rb ⟨c,W,S'⟩ (.returned (aY d c)) w2:=by have e:Mv M w M w2:=Mv.below b;exact⟨M,s,e.AQ,⟨Sg.Le.refl _,EG.refl _ _⟩,f.mv e,.inr ⟨d,h,rfl,⟨fv,ev,gv,kv,ov,⟨(b.block rb (aB a.blk)).trans a.blk,a.JK⟩,g.below b⟩⟩⟩
theorem yS(M:Nat->Prop)(w:World)(s:Sg)(tb mb j n b:Nat)(W:PW)(S:PS)(N:Wd M w s tb mb j n W)(hN:CT s)(F:C0 M w j b fv ev gv kv ov)(O:CX M w s ev S.env)(hf:GW M w s kv S.AB)(ho:DS M w ov W.out)(nm:AE)(k:Nat)(P:s.ns[k]?=some nm)(hl:nm.length<=1000) :Calls prog 170 #[.pointer (some ⟨b,0,none⟩),.agg #[.string ⟨nm.toArray⟩,.int .i64 (k:Int)]] w fun e Q=>AS M w s tb mb j n b (gD W S nm) e Q:=by
 have t:Below w.heap.size w (w.alloc (.cells #[.string ⟨nm.toArray⟩,.int .i64 (k:Int)] B6)).drew:=b_.drew;have R:=aB F.blk;have e0:w.cell? ⟨b,0,none⟩=some (.pointer (some ⟨j,0,none⟩)):=aA F.blk 0;have e2:w.cell? ⟨b,2,none⟩=some ev:=aA F.blk 2
 have HP:Hid (Calls prog 194 #[ev,.agg #[.string ⟨nm.toArray⟩,.int .i64 (k:Int)]] (w.alloc (.cells #[.string ⟨nm.toArray⟩,.int .i64 (k:Int)] B6)).drew fun e G=>∃v,e=.returned (.pointer v)/\Hid (Below w.heap.size w G/\G.heap[w.heap.size]?=some (.cells #[.string ⟨nm.toArray⟩,.int .i64 (k:Int)] B6 (0,0))/\VG s S.env nm (.returned (.pointer v)))) :=
  show Calls _ _ _ _ _ from(uW M _ s ev S.env nm k N.nodup (O.go (Stp.AA t) (Sg.Le.refl _)) P).mono (fun e G h=>by
   have c:G.heap[w.heap.size]?=some (.cells #[.string ⟨nm.toArray⟩,.int .i64 (k:Int)] B6 (0,0)):=(h.1.block w.heap.size (by simp)).trans (heap_alloc_new w _);rcases h.2 with⟨H,rfl⟩ | ⟨i,g,o,H,h2,rfl⟩
   ·exact⟨_,rfl,t.trans (h.1.mono (by simp)),c,.inl ⟨H,rfl⟩⟩
   ·exact⟨_,rfl,t.trans (h.1.mono (by simp)),c,.inr ⟨i,g,o,H,h2,rfl⟩⟩)
 have r:=h_ N;have U:=h_ F;have HF:=h_ hf;have HO:=h_ ho;have C:Hid (s.ns[k]?=some nm/\CT s):=⟨P,hN⟩
 obtain⟨oe,rfl⟩:=O.ptr;clear N hN F O hf ho P t;go_enter func170,ntmps170
 go_upto_region 1 with fail
 go_cut [5] (fun x wx=>∃v,x=.pointer v/\Hid (Below w.heap.size w wx/\wx.heap[w.heap.size]?=some (.cells #[.string ⟨nm.toArray⟩,.int .i64 (k:Int)] B6 (0,0))/\VG s S.env nm (.returned (.pointer v))))
 case first =>
  go_region_with (go_at_call 194;refine Calls.mono HP ?_;rintro e G ⟨v,rfl,D⟩)
  all_goals
   go_wp2_with fail
   go_meet
   exact⟨v,rfl,D⟩
 case rest =>
  obtain⟨v,rfl,D⟩:=hcut;obtain⟨a,c,V⟩:=D.out;have l:=(a.block b R).trans U.blk;have X:=h_ a;have HG:Hid (∀I:World,I.heap[b]?=wc.heap[b]? -> ∀v,(∃T x,v=.iface T x)->Calls prog 169 #[.pointer (some ⟨b,1,none⟩),v] I fun e Q=>e=.returned (.tuple #[])/\AI I b #[.pointer (some ⟨j,0,none⟩),.nilIface,.pointer none,v,kv,ov] Q):=fun I H v d=>jF I b _ _ _ _ _ _ v (H.trans l) d;have J:Hid (∀q v,RV s v q->gD W S nm=⟨0,W,S.A1 q⟩->∀m,AI wc b #[.pointer (some ⟨j,0,none⟩),.nilIface,.pointer none,v,kv,ov] m->AS M w s tb mb j n b (gD W S nm) (.returned .nilIface) m):=fun q v d hq m hc=>by rw [hq];refine(eH (r.mv (Mv.below a)) l U.JK hc (fun _=>eX d) (fun hs=>?_) (HO.below a)).after (Stp.AA a);exact(HF.go (Stp.AA a) (Sg.Le.refl _)).go hs (Sg.Le.refl _)
  rcases V with⟨u,d⟩ | ⟨i,g,o,hi,z,d⟩
  ·simp only [Ending.returned.injEq,Value.pointer.injEq] at d;subst d;have Y:=(iU r).2;have y:=(iU r).1;have d0:wc.cell? ⟨b,0,none⟩=some (.pointer (some ⟨j,0,none⟩)):=aA l 0;have d1:wc.cell? ⟨j,0,none⟩=some (.map (some n)):=aA ((a.block j Y).trans r.NN) 0;have d2:wc.cell? ⟨w.heap.size,0,none⟩=some (.string ⟨nm.toArray⟩):=aA c 0;have d3:wc.cell? ⟨w.heap.size,1,none⟩=some (.int .i64 (k:Int)):=aA c 1
   cases f:Pl.find W.globals nm with
   | some i =>
    obtain⟨v,p,E,d,A⟩:=rE r.DI C.2 C.1 f;have K:Hid (∀m,AI wc b #[.pointer (some ⟨j,0,none⟩),.nilIface,.pointer none,v,kv,ov] m->AS M w s tb mb j n b (gD W S nm) (.returned .nilIface) m):=J.out p v d (by unfold gD Pl.DL;rw [u];dsimp only;rw [f];dsimp only;rw [E];rfl);have l1:=A wc (a.block n y);have l2:=A wc.drew (a.block n y);obtain⟨T,x,rfl⟩:=d.iface;clear A d E f u a c l D;go_wp2_with fail
    go_region
    all_goals
     go_wp2_with (go_at_call 169;refine(HG _ (by rfl) _ ⟨_,_,rfl⟩).mono ?_;rintro e m ⟨rfl,B⟩)
     go_ret;exact K.out _ (B.after (r_.drew))
   | none =>
    have l1:=pS r.DI C.2 C.1 f wc (a.block n y);have l2:=pS r.DI C.2 C.1 f wc.drew (a.block n y);have K:Hid (gD W S nm=⟨8,W,S⟩):=show gD W S nm=_ from by unfold gD Pl.DL;rw [u];dsimp only;rw [f]
    clear f u a c l D;go_wp2_with fail
    go_region
    all_goals
     go_wp2_with (go_at_call 78;refine(bJ _ _ _).mono ?_;rintro e m ⟨rfl,rfl⟩)
     go_ret;rw [K.out];exact iG r U HO X.drew (by decide)
  ·simp only [Ending.returned.injEq,Value.pointer.injEq] at d;subst d;have Z:=(s_ z).1;obtain⟨p,E⟩:∃p,W.places[i]?=some p:=⟨_,g_ (by rw [<- r.places.len];exact Z)⟩
   obtain⟨_,aa,v,hg,L,d⟩:=r.places.at_ i g o p z E;have cg:wc.cell? ⟨g,o,none⟩=some v:=(aA ((a.block g (aB hg)).trans hg) o).trans L;have K:Hid (∀m,AI wc b #[.pointer (some ⟨j,0,none⟩),.nilIface,.pointer none,v,kv,ov] m->AS M w s tb mb j n b (gD W S nm) (.returned .nilIface) m):=J.out p v d (by unfold gD Pl.DL;rw [hi];dsimp only;rw [E];rfl);obtain⟨T,x,rfl⟩:=d.iface;clear d E hi z a c l D hg L;go_wp2_with fail;go_region_with (go_at_call 169;refine(HG _ (by rfl) _ ⟨_,_,rfl⟩).mono ?_;rintro e m ⟨rfl,B⟩)
   all_goals
    go_wp2_with fail
    go_ret;exact K.out _ (B.after (r_.drew))
theorem iP{s:Sg}{W:PW}{S:PS}{f:PF}{env:Env}{fv' ev':Value}(d:Wd M w s tb mb sb gb W)(c:C0 M w sb rb fv ev gv kv ov)(e:GW M w s kv S.AB)(g:DS M w ov W.out)(h:CP M w s fv' f)(i:CX M w s ev' env)(j:AI w rb #[.pointer (some ⟨sb,0,none⟩),fv',ev',.nilIface,kv,ov] w2){o:Option PF}(b:o=some f):AS M w s tb mb sb gb rb ⟨0,W,S.work o env⟩ (.returned .nilIface) w2:=by subst b;exact eH d c.blk c.JK j (fun a=>⟨h.go a (Sg.Le.refl _),i.go a (Sg.Le.refl _)⟩) (fun a=>e.go a (Sg.Le.refl _)) g
theorem YV{s:Sg}{p:Nat}{cs cs0:Array Value}{fs:List CW}{top:Value}{fr:CW}(c:∀k,M k->k<w.heap.size)(d:w.heap[rb]?=some (.cells cs0 BT (0,0)))(e:M rb)(f:AI w rb cs w2)(g:GW M w s kv fs)(h:FF M w s top fr)(hp:w.heap.size<=p)(a:w2.heap[p]?=some (.cells #[top,kv,.int .i64 ((fs.length+1:Nat):Int)] DQ (0,0))):GW M w2 s (.pointer (some ⟨p,0,none⟩)) (fr::fs):=by have b:=(f.mv d e).AQ;exact⟨p,top,kv,rfl,fun i=>by have:=c p i;omega,a,h.go b (Sg.Le.refl _),g.go b (Sg.Le.refl _)⟩
theorem dL{w1:World}{s:Sg}{p:Nat}{W:PW}{S:PS}{f:PF}{fr:CW}{env:Env}{fv' ev' top:Value}{cs:Array Value}(h:Wd M w s tb mb sb gb W)(b:C0 M w sb rb fv ev gv kv ov)(j:GW M w s kv S.AB)(k:DS M w ov W.out)(l:CP M w s fv' f)(m:CX M w s ev' env)(n:FF M w s top fr)(c:AI w rb cs w1)(hp:w.heap.size<=p)(d:w1.heap[p]?=some (.cells #[top,kv,.int .i64 ((S.AB.length+1:Nat):Int)] DQ (0,0)))
  (a:AI w1 rb #[.pointer (some ⟨sb,0,none⟩),fv',ev',.nilIface,.pointer (some ⟨p,0,none⟩),ov] w2) {o:Option PF} (g:o=some f):AS M w s tb mb sb gb rb ⟨0,W,(S.push fr).work o env⟩ (.returned .nilIface) w2:=by
 subst g;have q:=aB b.blk;have e:=(a.other p (aB d) (by omega)).trans d;exact eH h b.blk b.JK (c.trans a) (fun i=>⟨l.go i (Sg.Le.refl _),m.go i (Sg.Le.refl _)⟩) (fun _=>YV h.CY.mlt b.blk b.JK (c.trans a) j n hp e) k
theorem yF(M:Nat->Prop)(w:World)(s:Sg)(tb mb m E g:Nat)(W:PW)(S:PS)(env:Env)(B:Wd M w s tb mb m E W){ev0 a b c:Value}(p:C0 M w m g fv ev0 gv kv ov)(F:GW M w s kv S.AB)(G:DS M w ov W.out)(r:CX M w s ev env)(y z:PF)(R:∃T x,a=.iface T x)(C:CP M w s b y)(D:CP M w s c z)(v:Value)(q:PV)(n:RV s v q)(o:Option PF)(h:o=if q=.AT false then some z else some y) :Calls prog 380 #[.agg #[a,b,c,ev],.pointer (some ⟨g,0,none⟩),v] w fun e t=>AS M w s tb mb m E g ⟨0,W,S.work o env⟩ e t:=by
 have H:=aB p.blk;have K:=fun t=>n.eqFalse B.NH t;have L:Hid (∀j,Below w.heap.size w (w.alloc j)):=fun j=>b_;have N:Hid (∀j I d f,CP M w s d f->o=some f->AI (w.alloc j) g #[.pointer (some ⟨m,0,none⟩),d,ev,.nilIface,kv,ov] I->AS M w s tb mb m E g ⟨0,W,S.work o env⟩ (.returned .nilIface) I):=fun j I d f J U V=>iP B p F G J r (V.after (L j)) U;have O:Hid (∀u:World,u.heap[g]?=w.heap[g]? -> ∀d,(∃T x,d=.iface T x)->Calls prog 172 #[.pointer (some ⟨g,1,none⟩),d,ev] u fun e t=>e=.returned (.tuple #[])/\AI u g #[.pointer (some ⟨m,0,none⟩),d,ev,.nilIface,kv,ov] t):=fun u J d n=>cU u g _ _ _ _ _ _ d ev (J.trans p.blk) n r.ptr;have P:Hid (∀j,(w.alloc j).drew.heap[g]?=w.heap[g]?):=fun j=>(L j).block g H;have Q:Hid (CP M w s b y/\CP M w s c z):=⟨C,D⟩
 obtain⟨Y,rfl⟩:=r.ptr;obtain⟨T,x,rfl⟩:=n.iface;obtain⟨Z,xa,rfl⟩:=R;obtain⟨Tb,xb,rfl⟩:=C.iface;obtain⟨Tc,xc,rfl⟩:=D.iface;by_cases i:q=.AT false
 ·have A:decide (q=.AT false)=true:=by simpa using i
  rw [A] at K;rw [if_pos i] at h;have k:=h_ h;clear B p F G r C D n i A h;go_enter func380,ntmps380;go_wp2_with fail;go_region_with (go_at_call 172;refine(O _ (P _) _ ⟨_,_,rfl⟩).mono ?_;rintro e X ⟨rfl,l⟩)
  all_goals
   go_wp2_with fail
   go_ret;exact N.out _ _ _ z Q.2 k (l.after (r_.drew))
 ·have A:decide (q=.AT false)=false:=by simpa using i
  rw [A] at K;rw [if_neg i] at h;have k:=h_ h;clear B p F G r C D n i A h;go_enter func380,ntmps380;go_wp2_with fail;go_region_with (go_at_call 172;refine(O _ (P _) _ ⟨_,_,rfl⟩).mono ?_;rintro e X ⟨rfl,l⟩)
  all_goals
   go_wp2_with fail
   go_ret;exact N.out _ _ _ y Q.1 k (l.after (r_.drew))
def VE(w:World)(sb rb:Nat)(us:List Value)(u0:Value)(sl ev kv ov:Value)(n:Nat)(w':World):Prop :=
 (us.length=0/\AI w rb #[.pointer (some ⟨sb,0,none⟩),u0,ev,.nilIface,kv,ov] w') \/
 (us.length≠0/\∃p g off ao c cs w1,w.heap.size<=p/\sl=.slice (some ⟨g,off,none⟩) (us.length+1) c/\ao=some ⟨g,off+1,none⟩/\(∃c',us.length<=c'/\w1.heap[p]?=some (.cells #[.iface 375 (.agg #[.slice ao us.length c',ev]),kv,.int .i64 ((n+1:Nat):Int)] DQ (0,0)))/\AI w rb cs w1/\AI w1 rb #[.pointer (some ⟨sb,0,none⟩),u0,ev,.nilIface,.pointer (some ⟨p,0,none⟩),ov] w')
theorem m6(w:World)(l d:Nat)(H s I D j sl ev J:Value)(us:List Value)(n:Nat)(B:w.heap[d]?=some (.cells #[.pointer (some ⟨l,0,none⟩),H,s,I,D,j] BT (0,0)))(K:DB w sl (J::us))(M:∀a n c,sl=.slice (some a) n c->a.block≠d)(hl:us.length<=2000)(hi:∃T x,J=.iface T x)(hp:∃o,ev=.pointer o)(hk:∃o,D=.pointer o)(N:LI w D n)(O:n<=6500000000000000000) :Calls prog 173 #[.pointer (some ⟨d,0,none⟩),sl,ev] w fun e h=>e=.returned (.tuple #[])/\VE w l d us J sl ev D j n h:=by
 have ab:=aB B;obtain⟨g,i,C,rfl,r,hg,c0,_⟩:=K.cell0;have P:g≠d:=M ⟨g,i,none⟩ _ _ rfl;obtain⟨T,x,rfl⟩:=hi;obtain⟨k,rfl⟩:=hp;obtain⟨E,rfl⟩:=hk;have Q:Hid (∀(f:World)(R:Value) S,f.heap[d]?=some (.cells S BT (0,0))->(∃a b c,S=#[.pointer (some ⟨l,0,none⟩),a,b,c,R,j])->Calls prog 172 #[.pointer (some ⟨d,1,none⟩),.iface T x,.pointer k] f fun e h=>e=.returned (.tuple #[])/\AI f d #[.pointer (some ⟨l,0,none⟩),.iface T x,.pointer k,.nilIface,R,j] h):=fun f R S q ⟨a,b,c,z⟩=>by subst z;exact cU f d _ _ _ _ _ _ _ _ q ⟨_,_,rfl⟩ ⟨_,rfl⟩
 have HP:Hid (∀(U:Option Addr)(L c:Nat),L=us.length->us.length<=c->U=some ⟨g,i+1,none⟩->Calls prog 171 #[.pointer (some ⟨d,1,none⟩),.iface 375 (.agg #[.slice U L c,.pointer k])] w.drew fun e h=>e=.returned (.tuple #[])/\Hid (∃p t,us.length<=t/\w.heap.size<=p/\h.heap[p]?=some (.cells #[.iface 375 (.agg #[.slice (some ⟨g,i+1,none⟩) us.length t,.pointer k]),.pointer E,.int .i64 ((n+1:Nat):Int)] DQ (0,0))/\AI w d #[.pointer (some ⟨l,0,none⟩),H,s,I,.pointer (some ⟨p,0,none⟩),j] h)):=fun U L c q z A=>by subst q A;exact(kS w.drew d _ _ _ _ _ j _ n B ⟨_,_,rfl⟩ ⟨_,rfl⟩ (N.below (r_.drew)) O).mono (fun e h ⟨q,p,V,A,u⟩=>⟨q,p,c,z,V,A,u.after (r_.drew)⟩)
 have W:Hid (∃m,us.length+1=m):=⟨_,rfl⟩
 obtain⟨m,X⟩:=W.out;unfold VE;rw [X] at r ⊢;by_cases F:us.length=0
 ·have Y:decide ((1:Int)<(m:Int))=false:=by simp;omega
  have Z:=h_ F;have aa:(0:Int)<(m:Int):=by omega
  have v:Hid (∀f:World,f.heap[d]?=w.heap[d]? -> Calls prog 172 #[.pointer (some ⟨d,1,none⟩),.iface T x,.pointer k] f fun e h=>e=.returned (.tuple #[])/\AI f d #[.pointer (some ⟨l,0,none⟩),.iface T x,.pointer k,.nilIface,.pointer E,j] h):=fun f q=>Q.out f _ _ (q.trans B) ⟨_,_,_,rfl⟩;clear K N B F HP W Q;go_enter func173,ntmps173;go_wp2_with fail;go_region_with (go_at_call 172;refine(v _ (by rfl)).mono ?_;rintro e w3 ⟨rfl,y⟩)
  all_goals
   go_wp2_with fail
   go_end0
   exact⟨rfl,.inl ⟨Z,y.after (r_.drew)⟩⟩
 ·have Y:decide ((1:Int)<(m:Int))=true:=by simp;omega
  have Z:=h_ F;have aa:(0:Int)<(m:Int):=by omega
  have ac:(1:Int)<=(m:Int):=by omega
  obtain⟨c,rfl⟩:∃c,C=c+2:=⟨C-2,by omega⟩
  have HC:=h_ r;clear K N B F W;go_enter func173,ntmps173
  go_upto_region 1 with fail
  go_cut [] (fun wx=>Hid (∃p t,us.length<=t/\w.heap.size<=p/\wx.heap[p]?=some (.cells #[.iface 375 (.agg #[.slice (some ⟨g,i+1,none⟩) us.length t,.pointer k]),.pointer E,.int .i64 ((n+1:Nat):Int)] DQ (0,0))/\AI w d #[.pointer (some ⟨l,0,none⟩),H,s,I,.pointer (some ⟨p,0,none⟩),j] wx))
  case first =>
   go_region_with (go_at_call 171;refine(HP _ _ _ (by omega) (by have:=HC.out;omega) rfl).mono ?_;rintro e w3 ⟨rfl,G⟩)
   all_goals
    go_wp2_with fail
    go_meet
    exact G
  case rest =>
   have G:=hcut;obtain⟨p,t,q,z,A,u⟩:=G.out;have ad:wc.cell? ⟨g,i,none⟩=some (.iface T x):=(World.cell?_of_block (w:=w) (u.other g hg P)).trans c0;have HX:Hid (∀h,AI wc d #[.pointer (some ⟨l,0,none⟩),.iface T x,.pointer k,.nilIface,.pointer (some ⟨p,0,none⟩),j] h->_):=fun h hc=>(Or.inr ⟨Z,p,g,i,_,c+2,_,wc,z,by rw [X],rfl,⟨t,q,A⟩,u,hc⟩:VE w l d us (.iface T x) (.slice (some ⟨g,i,none⟩) (us.length+1) (c+2)) (.pointer k) (.pointer E) j n h)
   have v:Hid (∀f:World,f.heap[d]?=wc.heap[d]? -> Calls prog 172 #[.pointer (some ⟨d,1,none⟩),.iface T x,.pointer k] f fun e h=>e=.returned (.tuple #[])/\AI f d #[.pointer (some ⟨l,0,none⟩),.iface T x,.pointer k,.nilIface,.pointer (some ⟨p,0,none⟩),j] h):=fun f e1=>Q.out f _ _ (e1.trans u.blk) ⟨_,_,_,rfl⟩;have ae:d<wc.heap.size:=aB u.blk;clear q z A u G hcut;go_wp2_with fail;go_region_with (go_at_call 172;refine(v _ (by rfl)).mono ?_;rintro e w3 ⟨rfl,y⟩)
   all_goals
    go_wp2_with fail
    go_end0
    have:=HX.out _ (y.after (r_.drew));unfold VE at this;rw [X] at this;exact⟨rfl,this⟩
theorem Tryz.LU(v:Value)(w:World):(Instr.typeAssert (.iface 223 v) 61 223 true).run prog w=.ok (.tuple #[v,.bool true]) w:=by kernel_rfl
theorem Tryz.RJ(v:Value)(w:World):(Instr.typeAssert (.iface 214 v) 61 214 true).run prog w=.ok (.tuple #[v,.bool true]) w:=by kernel_rfl
theorem Tryz.JA(v:Value)(w:World):(Instr.typeAssert (.iface 214 v) 61 223 true).run prog w=.ok (.tuple #[.agg #[.nilIface,.bool false],.bool false]) w:=by kernel_rfl
theorem Tryz.N7(v:Value)(w:World):(Instr.typeAssert (.iface 329 v) 61 329 true).run prog w=.ok (.tuple #[v,.bool true]) w:=by kernel_rfl
theorem Tryz.IP(v:Value)(w:World):(Instr.typeAssert (.iface 329 v) 61 223 true).run prog w=.ok (.tuple #[.agg #[.nilIface,.bool false],.bool false]) w:=by kernel_rfl
theorem Tryz.KH(v:Value)(w:World):(Instr.typeAssert (.iface 329 v) 61 214 true).run prog w=.ok (.tuple #[.agg #[.string ⟨#[]⟩,.int .i64 0],.bool false]) w:=by kernel_rfl
theorem Tryz.YT(v:Value)(w:World):(Instr.typeAssert (.iface 335 v) 61 335 true).run prog w=.ok (.tuple #[v,.bool true]) w:=by kernel_rfl
theorem Tryz.KI(v:Value)(w:World):(Instr.typeAssert (.iface 335 v) 61 223 true).run prog w=.ok (.tuple #[.agg #[.nilIface,.bool false],.bool false]) w:=by kernel_rfl
theorem Tryz.OB(v:Value)(w:World):(Instr.typeAssert (.iface 335 v) 61 214 true).run prog w=.ok (.tuple #[.agg #[.string ⟨#[]⟩,.int .i64 0],.bool false]) w:=by kernel_rfl
theorem Tryz.LV(v:Value)(w:World):(Instr.typeAssert (.iface 335 v) 61 329 true).run prog w=.ok (.tuple #[.agg #[.slice none 0 0,.nilIface],.bool false]) w:=by kernel_rfl
theorem Tryz.UH(v:Value)(w:World):(Instr.typeAssert (.iface 340 v) 61 340 true).run prog w=.ok (.tuple #[v,.bool true]) w:=by kernel_rfl
theorem Tryz.JV(v:Value)(w:World):(Instr.typeAssert (.iface 340 v) 61 223 true).run prog w=.ok (.tuple #[.agg #[.nilIface,.bool false],.bool false]) w:=by kernel_rfl
theorem Tryz.MV(v:Value)(w:World):(Instr.typeAssert (.iface 340 v) 61 214 true).run prog w=.ok (.tuple #[.agg #[.string ⟨#[]⟩,.int .i64 0],.bool false]) w:=by kernel_rfl
theorem Tryz.K5(v:Value)(w:World):(Instr.typeAssert (.iface 340 v) 61 329 true).run prog w=.ok (.tuple #[.agg #[.slice none 0 0,.nilIface],.bool false]) w:=by kernel_rfl
theorem Tryz.PY(v:Value)(w:World):(Instr.typeAssert (.iface 340 v) 61 335 true).run prog w=.ok (.tuple #[.agg #[.nilIface,.nilIface,.nilIface],.bool false]) w:=by kernel_rfl
theorem Tryz.N8(v:Value)(w:World):(Instr.typeAssert (.iface 218 v) 61 218 true).run prog w=.ok (.tuple #[v,.bool true]) w:=by kernel_rfl
theorem Tryz.IQ(v:Value)(w:World):(Instr.typeAssert (.iface 218 v) 61 223 true).run prog w=.ok (.tuple #[.agg #[.nilIface,.bool false],.bool false]) w:=by kernel_rfl
theorem Tryz.KJ(v:Value)(w:World):(Instr.typeAssert (.iface 218 v) 61 214 true).run prog w=.ok (.tuple #[.agg #[.string ⟨#[]⟩,.int .i64 0],.bool false]) w:=by kernel_rfl
theorem Tryz.JB(v:Value)(w:World):(Instr.typeAssert (.iface 218 v) 61 329 true).run prog w=.ok (.tuple #[.agg #[.slice none 0 0,.nilIface],.bool false]) w:=by kernel_rfl
theorem Tryz.LW(v:Value)(w:World):(Instr.typeAssert (.iface 218 v) 61 335 true).run prog w=.ok (.tuple #[.agg #[.nilIface,.nilIface,.nilIface],.bool false]) w:=by kernel_rfl
theorem Tryz.K6(v:Value)(w:World):(Instr.typeAssert (.iface 218 v) 61 340 true).run prog w=.ok (.tuple #[.agg #[.string ⟨#[]⟩,.int .i64 0,.nilIface],.bool false]) w:=by kernel_rfl
theorem Tryz.PX(v:Value)(w:World):(Instr.typeAssert (.iface 347 v) 61 347 true).run prog w=.ok (.tuple #[v,.bool true]) w:=by kernel_rfl
theorem Tryz.I1(v:Value)(w:World):(Instr.typeAssert (.iface 347 v) 61 223 true).run prog w=.ok (.tuple #[.agg #[.nilIface,.bool false],.bool false]) w:=by kernel_rfl
theorem Tryz.K8(v:Value)(w:World):(Instr.typeAssert (.iface 347 v) 61 214 true).run prog w=.ok (.tuple #[.agg #[.string ⟨#[]⟩,.int .i64 0],.bool false]) w:=by kernel_rfl
theorem Tryz.JW(v:Value)(w:World):(Instr.typeAssert (.iface 347 v) 61 329 true).run prog w=.ok (.tuple #[.agg #[.slice none 0 0,.nilIface],.bool false]) w:=by kernel_rfl
theorem Tryz.MX(v:Value)(w:World):(Instr.typeAssert (.iface 347 v) 61 335 true).run prog w=.ok (.tuple #[.agg #[.nilIface,.nilIface,.nilIface],.bool false]) w:=by kernel_rfl
theorem Tryz.LY(v:Value)(w:World):(Instr.typeAssert (.iface 347 v) 61 340 true).run prog w=.ok (.tuple #[.agg #[.string ⟨#[]⟩,.int .i64 0,.nilIface],.bool false]) w:=by kernel_rfl
theorem Tryz.JX(v:Value)(w:World):(Instr.typeAssert (.iface 347 v) 61 218 true).run prog w=.ok (.tuple #[.agg #[.string ⟨#[]⟩,.int .i64 0,.nilIface],.bool false]) w:=by kernel_rfl
theorem Tryz.RK(v:Value)(w:World):(Instr.typeAssert (.iface 349 v) 61 349 true).run prog w=.ok (.tuple #[v,.bool true]) w:=by kernel_rfl
theorem Tryz.JC(v:Value)(w:World):(Instr.typeAssert (.iface 349 v) 61 223 true).run prog w=.ok (.tuple #[.agg #[.nilIface,.bool false],.bool false]) w:=by kernel_rfl
theorem Tryz.LX(v:Value)(w:World):(Instr.typeAssert (.iface 349 v) 61 214 true).run prog w=.ok (.tuple #[.agg #[.string ⟨#[]⟩,.int .i64 0],.bool false]) w:=by kernel_rfl
theorem Tryz.KL(v:Value)(w:World):(Instr.typeAssert (.iface 349 v) 61 329 true).run prog w=.ok (.tuple #[.agg #[.slice none 0 0,.nilIface],.bool false]) w:=by kernel_rfl
theorem Tryz.OC(v:Value)(w:World):(Instr.typeAssert (.iface 349 v) 61 335 true).run prog w=.ok (.tuple #[.agg #[.nilIface,.nilIface,.nilIface],.bool false]) w:=by kernel_rfl
theorem Tryz.MW(v:Value)(w:World):(Instr.typeAssert (.iface 349 v) 61 340 true).run prog w=.ok (.tuple #[.agg #[.string ⟨#[]⟩,.int .i64 0,.nilIface],.bool false]) w:=by kernel_rfl
theorem Tryz.KM(v:Value)(w:World):(Instr.typeAssert (.iface 349 v) 61 218 true).run prog w=.ok (.tuple #[.agg #[.string ⟨#[]⟩,.int .i64 0,.nilIface],.bool false]) w:=by kernel_rfl
theorem Tryz.K7(v:Value)(w:World):(Instr.typeAssert (.iface 349 v) 61 347 true).run prog w=.ok (.tuple #[.agg #[.slice none 0 0],.bool false]) w:=by kernel_rfl
theorem uM(M:Nat->Prop)(w:World)(s:Sg)(tb mb f i a:Nat)(W:PW)(S:PS)(r:Wd M w s tb mb f i W){v:Value}{b:Bool}{q:PV}(d:C0 M w f a (.iface 223 (.agg #[v,.bool b])) ev gv kv ov)(z:∃o,ev=.pointer o)(t:GW M w s kv S.AB)(u:DS M w ov W.out)(h:RV s v q) :Calls prog 128 #[.pointer (some ⟨a,0,none⟩)] w fun e j=>AS M w s tb mb f i a ⟨0,W,S.A1 q⟩ e j:=by
 generalize k:Value.iface 223 (.agg #[v,.bool b])=l at d;have m:=aB d.blk;have G:w.cell? ⟨a,1,none⟩=some l:=aA d.blk 1;have H:w.cell? ⟨a,2,none⟩=some ev:=aA d.blk 2;have y:Hid (∀c,Below w.heap.size w (w.alloc c)):=fun c=>b_;have A:Hid (∀c,(w.alloc c).drew.heap[a]?=w.heap[a]?):=fun c=>(y c).block a m;subst k;have I:=Tryz.LU;have B:Hid (∀c n,AI (w.alloc c) a #[.pointer (some ⟨f,0,none⟩),.nilIface,.pointer none,v,kv,ov] n->AS M w s tb mb f i a ⟨0,W,S.A1 q⟩ (.returned .nilIface) n):=fun c n C=>eH r d.blk d.JK (C.after (y c)) (fun _=>eX h) (fun D=>t.go D (Sg.Le.refl _)) u;have E:Hid (∀g:World,g.heap[a]?=w.heap[a]? -> Calls prog 169 #[.pointer (some ⟨a,1,none⟩),v] g fun e j=>e=.returned (.tuple #[])/\AI g a #[.pointer (some ⟨f,0,none⟩),.nilIface,.pointer none,v,kv,ov] j):=fun g F=>jF g a _ _ _ _ _ _ v (F.trans d.blk) h.iface;obtain⟨J,rfl⟩:=z;obtain⟨T,x,rfl⟩:=h.iface;clear r d t u h;go_enter func128,ntmps128;go_wp2_with fail;go_region_with (go_at_call 169;refine(E _ (A _)).mono ?_;rintro e K ⟨rfl,p⟩)
 all_goals
  go_wp2_with fail
  go_ret;exact B.out _ _ (p.after (r_.drew))
theorem yC(M:Nat->Prop)(w:World)(s:Sg)(tb mb f i b:Nat)(W:PW)(S:PS)(o:Wd M w s tb mb f i W)(p:CT s)(nm:AE)(k:Nat)(c:C0 M w f b (.iface 214 (.agg #[.string ⟨nm.toArray⟩,.int .i64 (k:Int)])) ev gv kv ov)(l:CX M w s ev S.env)(q:GW M w s kv S.AB)(r:DS M w ov W.out)(t:s.ns[k]?=some nm)(u:nm.length<=1000) :Calls prog 128 #[.pointer (some ⟨b,0,none⟩)] w fun e j=>AS M w s tb mb f i b (gD W S nm) e j:=by
 generalize m:Value.iface 214 (.agg #[.string ⟨nm.toArray⟩,.int .i64 (k:Int)])=n at c;have g:=aB c.blk;have A:w.cell? ⟨b,1,none⟩=some n:=aA c.blk 1;have B:w.cell? ⟨b,2,none⟩=some ev:=aA c.blk 2;have d:Hid (∀a,Below w.heap.size w (w.alloc a)):=fun a=>b_;have C:Hid (∀a,(w.alloc a).drew.heap[b]?=w.heap[b]?):=fun a=>(d a).block b g;subst m;have D:=Tryz.RJ;have v:=Tryz.JA
 have y:Hid (∀a,Calls prog 170 #[.pointer (some ⟨b,0,none⟩),.agg #[.string ⟨nm.toArray⟩,.int .i64 (k:Int)]] (w.alloc a) fun e j=>∃x,e=.returned x/\Hid (AS M w s tb mb f i b (gD W S nm) (.returned x) j)):=fun a =>
  (yS M _ s tb mb f i b W S (o.mv (Mv.below (d a))) p ⟨((d a).block b g).trans c.blk,c.JK⟩ (l.go (Stp.AA (d a)) (Sg.Le.refl _)) (q.go (Stp.AA (d a)) (Sg.Le.refl _)) (r.below (d a)) nm k t u).mono (fun e j h=>by
   obtain⟨x,rfl⟩:=h.one
   exact⟨x,rfl,h.after (Stp.AA (d a))⟩)
 obtain⟨E,rfl⟩:=l.ptr;clear o c q r l p t;go_enter func128,ntmps128;go_wp2_with (go_at_call 170;refine(y _).mono ?_;rintro e F ⟨x,rfl,z⟩);go_ret;exact z
end
section
open Go.RowKit Go.Lib
theorem Tryz.YJ:(prog.info? 161).map (fun i=>(i.zero,i.size,i.bytes))=some (some .nilIface,1,16):=by kernel_rfl
theorem rD:∃i,prog.info? B9=some i/\i.zero=some .nilIface/\i.size=1/\i.bytes=16:=by obtain⟨i,b,a⟩:=m_ Tryz.YJ;simp only [Prod.mk.injEq] at a;exact⟨i,b,a.1,a.2.1,a.2.2⟩
theorem dC{P:Program}(w:World){b:Array Oper}{rest:List Oper}{o:Oper}{a:Act}{Q:Exit->Act->World->Prop}(c:o.guard=none)(sl x:Operand)(t u:TypeId)
  (f:o.op=.call {callee:=.builtin .append,args:=#[sl,x],argTypes:=#[t,u]}) (v:Value) (g:a.eval sl=v) (y:Value) (i:a.eval x=y) {v':Value} {w':World} (e:TypeId) (d:o.type=e) (j:(Builtin.append_ #[t,u] e #[v,y]).run P w=.ok v' w') (h:wpList P b Q rest (a.put o.dst v') w'):wpList P b Q (o::rest) a w:=by
 refine wpList_plain c fun K k=>?_;unfold Oper.wp execOp;simp only [f,resolve,invoke,builtin,Sem.run_bind,Sem.run_pure,Result.andThen_ok,List.map_toArray,List.map_cons,List.map_nil,g,i,d,j];exact k _ _ h
theorem p_grow(w:World)(n:Nat)(q:0<n)(y:n<=100000):Calls prog 393 #[.slice none 0 0,.int .i64 (n:Int)] w fun e j=>∃a,n<=a/\e=.returned (.slice (some ⟨w.heap.size,0,none⟩) 0 a)/\Below w.heap.size w j/\j.ownsRow w.heap.size B9 1 (.slice (some ⟨w.heap.size,0,none⟩) 0 a) 0 []/\w.heap.size<j.heap.size:=by
 obtain⟨k,d,f,l,c⟩:=rD;have g:Builtin.nextslicecap n 0*k.bytes<=281474976710656:=by rw [c];exact growslice_fits (by omega) (by omega)
 have h:=run_append_grow_zeros (P:=prog) w 350 3 350 B9 k .nilIface .i64 .i64 underlying350 underlying3 d f none 0 0 [] (by simpa using run_firstCells_none w.drew k.size 0 0 0) n q (by omega) (by omega) (by omega) (by rw [c];omega) (by simpa using g);simp only [Nat.zero_add] at h;have m:=grownCap_ge w n 0 B9;have p:grownCap w n 0 B9<=maxLen:=grownCap_le_maxLen w n 0 B9 (by unfold maxLen;omega);generalize grownCap w n 0 B9=a at *;have r:Hid (∀b:Array Value,b.size=a->(w.alloc (.cells b B9)).drew.ownsRow w.heap.size B9 1 (.slice (some ⟨w.heap.size,0,none⟩) 0 a) 0 []):=fun b s=>World.ownsRow_made w b a n_ p (by rw [Nat.mul_one];exact s);have t:Hid (∀o,Below w.heap.size w (w.alloc o).drew):=fun o=>(r_.alloc n_ o).drew;have u:wrap64 ((n:Int)-0)=(n:Int):=by unfold wrap64;omega
 have v:¬((n:Int)<0):=by omega
 have x:decide ((0:Int)<(n:Int))=true:=by simp;omega
 clear d f l c g;go_enter func393,ntmps393;go_wp2_with (at_builtin;refine dC _ rfl _ _ 350 3 rfl _ rfl _ rfl 350 rfl h ?_);go_ret;refine⟨a,m,rfl,t _,r _ ?_,by simp⟩;have i:(#[Value.nilIface]:Array Value).size=1:=rfl;simp only [Array.size_append,size_zeroCells,i];omega
theorem sR{P:Program}(w:World)(base:Nat)(t h e:TypeId)(i:TypeInfo)(a:Nat)(f:P.underlying t=some (.slice e))(hi:P.info? e=some i)(v:Value)(n:Nat)(j:List Value)(b:w.ownsRow base e a v n j)(c:Nat):(Builtin.append_ #[t,t] h #[v,.slice none 0 c]).run P w=.ok v w:=by
 rcases b.2 with⟨rfl,rfl⟩ | ⟨g,k,l,rfl,_,_,d,_⟩
 ·simp [Builtin.append_,run_underlying f,sizeOf,typeInfo,hi,Builtin.lenOf,Builtin.firstCells]
 ·simp [Builtin.append_,run_underlying f,sizeOf,typeInfo,hi,Builtin.lenOf,Builtin.firstCells,d,storeCells]
def CatQ(w:World)(l:List Value)(v:Value)(w':World):Prop:=Below w.heap.size w w'/\w'.ownsRow w.heap.size B9 1 v l.length l/\∃g cap,v=.slice (some ⟨g,0,none⟩) l.length cap
theorem yX(w:World)(F G:Nat)(sl:Value)(vs:List Value)(v:Value)(hS:DB w sl vs)(i:∀u∈vs,u.oneCell'=true)(hv:v.oneCell'=true)(hl:vs.length<=2000)(h0:w.cell? ⟨F,0,none⟩=some sl)(h1:w.cell? ⟨F,1,none⟩=some (.slice (some ⟨G,0,none⟩) 1 1))(U:w.cell? ⟨G,0,none⟩=some v) :Calls prog 391 #[.slice (some ⟨F,0,none⟩) 2 2] w fun e H=>∃x,e=.returned x/\CatQ w (vs++[v]) x H:=by
 obtain⟨O,t,B,C,D⟩:=rD;obtain⟨V,o,rfl,ae,Q⟩:=hS;have R:=h_ Q;have W:=h_ i;have E:=World.block_lt_of_cell? _ _ h0;have I:=World.block_lt_of_cell? _ _ U;have ai:wrap64 (0+(vs.length:Int))=(vs.length:Int):=by unfold wrap64;omega
 have aj:wrap64 ((vs.length:Int)+1)=((vs.length+1:Nat):Int):=by unfold wrap64;omega
 have af:¬((vs.length:Int)<0):=by omega
 have ag:¬(((vs.length+1:Nat):Int)<0):=by omega
 have X:Hid (Calls prog 393 #[.slice none 0 0,.int .i64 ((vs.length+1:Nat):Int)] w fun e H=>∃o,vs.length+1<=o/\e=.returned (.slice (some ⟨w.heap.size,0,none⟩) 0 o)/\Below w.heap.size w H/\H.ownsRow w.heap.size B9 1 (.slice (some ⟨w.heap.size,0,none⟩) 0 o) 0 []/\w.heap.size<H.heap.size):=p_grow w (vs.length+1) (by omega) (by omega);clear Q i;go_enter func391,ntmps391;go_wp2_with fail;refine wp_loop_rounds 3 ?_;rw [rounds_succ];go_wp2_with fail;rw [rounds_succ];go_wp2_with fail;rw [rounds_succ];go_wp2_with (go_at_call 393;refine Calls.mono X ?_;rintro e S ⟨cg,ak,rfl,f,q,al⟩;have k0:=(f.cell (p:=⟨F,0,none⟩) E).trans h0;have k1:=(f.cell (p:=⟨F,1,none⟩) E).trans h1);have A:∀{x:Value} {n:Nat} {xs:List Value} {Y:World},S.ownsRow w.heap.size B9 1 x n xs->S.grownBy Y x.ownBlock->Below w.heap.size w Y:=fun hx Z=>f.grown Z f.size (fun k hk=>(hx.lt k hk).1);have am:=h_ f;have HV:=h_ hv;refine wp_loop_rounds 3 ?_;by_cases J:∃a,V=some a
 ·obtain⟨a,rfl⟩:=J;have r:∀(j:Nat)(u:Value),vs[j]?=some u->S.cell? (a.add j)=some u:=fun j u y=>by obtain⟨g,K,e,Z,Q⟩:=R.out j u y;simp only [o_] at e;subst e;rw [Addr.add_lit];exact(f.cell (p:=⟨g,K+j,none⟩) Z).trans Q
  have i:=W.out;clear R W X;rw [rounds_succ];go_wp2_with (at_builtin;refine wpList_append_own _ rfl _ _ 350 rfl w.heap.size B9 O .nilIface 1 16 underlying350 t B C D rfl (by decide) _ 0 [] rfl q a vs.length o vs rfl (by simp) r i (by unfold maxLen;omega) (by omega) f.size ?_;intro v1 Y h m _);have z:=A q m;simp only [Nat.zero_add,List.nil_append] at h;have q1:=(z.cell (p:=⟨F,1,none⟩) E).trans h1;have q2:=(z.cell (p:=⟨G,0,none⟩) I).trans U;obtain⟨an,ah,rfl,_⟩:=cJ h;have L:=h_ z;clear m r i k0 k1;rw [rounds_succ];go_wp2_with (at_builtin;refine wpList_append_own _ rfl _ _ 350 rfl w.heap.size B9 O .nilIface 1 16 underlying350 t B C D rfl (by decide) _ vs.length vs rfl h ⟨G,0,none⟩ 1 1 [v] rfl (by simp) (fun j u y=>(by cases j with | zero=>simp at y;subst y;simpa [Addr.add_lit] using q2 | succ j=>simp at y)) (fun u M=>(by simp at M;subst M;exact HV)) (by unfold maxLen;omega) (by omega) z.size ?_;intro v2 T b d l);have s:Below w.heap.size w T:=L.grown d L.size (fun k hk=>(h.lt k hk).1)
  have HX:Hid (CatQ w (vs++[v]) v2 T):=by
   refine⟨s,by simpa using b,?_⟩;rcases b.2 with⟨_,hz⟩ | ⟨g,c,aa,rfl,_⟩
   ·omega
   ·exact⟨g,c,by simp⟩
  obtain⟨ab,N,rfl,_⟩:=cJ b;clear b d l s;rw [rounds_succ];go_wp2_with fail;go_ret;exact⟨_,rfl,HX⟩
 ·obtain rfl:V=none:=by
   cases V with
   | none=>rfl
   | some a=>exact absurd ⟨a,rfl⟩ J
  have ac:vs=[]:=by
   cases vs with
   | nil=>rfl
   | cons u us=>obtain⟨g,K,e,_⟩:=R.out 0 u rfl;cases e
  subst ac;have ad:=sR (P:=prog) S w.heap.size 350 350 B9 O 1 underlying350 t _ 0 [] q o;have q2:=(f.cell (p:=⟨G,0,none⟩) I).trans U;simp only [z_] at k0 q;clear R W X;rw [rounds_succ];go_wp2_with (at_builtin;refine dC _ rfl _ _ 350 350 rfl _ rfl _ rfl 350 rfl ad ?_);rw [rounds_succ];go_wp2_with (at_builtin;refine wpList_append_own _ rfl _ _ 350 rfl w.heap.size B9 O .nilIface 1 16 underlying350 t B C D rfl (by decide) _ 0 [] rfl q ⟨G,0,none⟩ 1 1 [v] rfl (by simp) (fun j u y=>(by cases j with | zero=>simp at y;subst y;simpa [Addr.add_lit] using q2 | succ j=>simp at y)) (fun u M=>(by simp at M;subst M;exact HV)) (by unfold maxLen;omega) (by omega) f.size ?_;intro v2 T b d l);have s:=A q d
  have HX:Hid (CatQ w ([]++[v]) v2 T):=by
   refine⟨s,by simpa using b,?_⟩;rcases b.2 with⟨_,hz⟩ | ⟨g,c,aa,rfl,_⟩
   ·omega
   ·exact⟨g,c,by simp⟩
  obtain⟨ab,N,rfl,_⟩:=cJ b;clear b d l s;rw [rounds_succ];go_wp2_with fail;go_ret;exact⟨_,rfl,HX⟩
end
end Go.Proofs.YtkgbdddkcjpgfaaGreatDoor
