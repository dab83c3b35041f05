import Derived.Test.YtkgbdddkcjpgfaaGreatDoorT42
namespace Go.Proofs.YtkgbdddkcjpgfaaGreatDoor
set_option maxHeartbeats 4000000
set_option maxRecDepth 100000
open Go.Proofs.Tryz
open Pl (PV PW PS PF CW SR AE Env)
section
open Go.RowKit Go.Lib Go.Maps
variable {kv gv ov ev fv ev0 sl v ev':Value} {M:Nat->Prop} {w w2 w1:World} {rb tb mb sb gb:Nat}
def gD(W:PW)(S:PS)(nm:AE):SR:=match Pl.DL W S.env nm with
 | some i=>⟨0,W,S.A1 (W.places[i]?.getD .nothing)⟩
 | none=>⟨8,W,S⟩
theorem iU{s:Sg}{W:PW}(h:Wd M w s tb mb sb gb W):gb<w.heap.size/\sb<w.heap.size:=by obtain⟨b,c,a⟩:=h.DI.F6;exact⟨aB a,aB h.NN⟩
theorem eX{s:Sg}{S:PS}{q:PV}(a:RV s v q):FE M w2 s .nilIface (.pointer none) v (S.A1 q):=⟨rfl,a⟩
theorem iG{s:Sg}{W:PW}{S':PS}{d:ByteArray}{c:Nat}(f:Wd M w s tb mb sb gb W)(a:C0 M w sb rb fv ev gv kv ov)(g:DS M w ov W.out)(b:Below w.heap.size w w2)(h:c≠0):AS M w s tb mb sb gb rb ⟨c,W,S'⟩ (.returned (aY d c)) w2:=by have e:Mv M w M w2:=Mv.below b;exact⟨M,s,e.AQ,⟨Sg.Le.refl _,EG.refl _ _⟩,f.mv e,.inr ⟨d,h,rfl,⟨fv,ev,gv,kv,ov,⟨(b.block rb (aB a.blk)).trans a.blk,a.JK⟩,g.below b⟩⟩⟩
theorem yS(M:Nat->Prop)(w:World)(s:Sg)(tb mb j n b:Nat)(W:PW)(S:PS)(N:Wd M w s tb mb j n W)(hN:G5 s)(F:C0 M w j b fv ev gv kv ov)(O:CX M w s ev S.env)(hf:GW M w s kv S.AB)(ho:DS M w ov W.out)(nm:AE)(k:Nat)(P:s.ns[k]?=some nm)(hl:nm.length<=1000) :Calls prog 170 #[.pointer (some ⟨b,0,none⟩),.agg #[.string ⟨nm.toArray⟩,.int .i64 (k:Int)]] w fun e Q=>AS M w s tb mb j n b (gD W S nm) e Q:=by
 have t:Below w.heap.size w (w.alloc (.cells #[.string ⟨nm.toArray⟩,.int .i64 (k:Int)] B6)).drew:=b_.drew;have R:=aB F.blk;have e0:w.cell? ⟨b,0,none⟩=some (.pointer (some ⟨j,0,none⟩)):=aA F.blk 0;have e2:w.cell? ⟨b,2,none⟩=some ev:=aA F.blk 2
 have HP:Hid (Calls prog 194 #[ev,.agg #[.string ⟨nm.toArray⟩,.int .i64 (k:Int)]] (w.alloc (.cells #[.string ⟨nm.toArray⟩,.int .i64 (k:Int)] B6)).drew fun e G=>∃v,e=.returned (.pointer v)/\Hid (Below w.heap.size w G/\G.heap[w.heap.size]?=some (.cells #[.string ⟨nm.toArray⟩,.int .i64 (k:Int)] B6 (0,0))/\VG s S.env nm (.returned (.pointer v)))) :=
  show Calls _ _ _ _ _ from(uW M _ s ev S.env nm k N.nodup (O.go (Stp.AA t) (Sg.Le.refl _)) P).mono (fun e G h=>by
   have c:G.heap[w.heap.size]?=some (.cells #[.string ⟨nm.toArray⟩,.int .i64 (k:Int)] B6 (0,0)):=(h.1.block w.heap.size (by simp)).trans (heap_alloc_new w _);rcases h.2 with⟨H,rfl⟩ | ⟨i,g,o,H,h2,rfl⟩
   ·exact⟨_,rfl,t.trans (h.1.mono (by simp)),c,.inl ⟨H,rfl⟩⟩
   ·exact⟨_,rfl,t.trans (h.1.mono (by simp)),c,.inr ⟨i,g,o,H,h2,rfl⟩⟩)
 have r:=h_ N;have U:=h_ F;have HF:=h_ hf;have HO:=h_ ho;have C:Hid (s.ns[k]?=some nm/\G5 s):=⟨P,hN⟩
 obtain⟨oe,rfl⟩:=O.ptr;clear N hN F O hf ho P t;go_enter func170,ntmps170
 go_upto_region 1 with fail
 go_cut [5] (fun x wx=>∃v,x=.pointer v/\Hid (Below w.heap.size w wx/\wx.heap[w.heap.size]?=some (.cells #[.string ⟨nm.toArray⟩,.int .i64 (k:Int)] B6 (0,0))/\VG s S.env nm (.returned (.pointer v))))
 case first =>
  go_region_with (go_at_call 194;refine Calls.mono HP ?_;rintro e G ⟨v,rfl,D⟩)
  all_goals
   go_wp2_with fail
   go_meet
   exact⟨v,rfl,D⟩
 case rest =>
  obtain⟨v,rfl,D⟩:=hcut;obtain⟨a,c,V⟩:=D.out;have l:=(a.block b R).trans U.blk;have X:=h_ a;have HG:Hid (∀I:World,I.heap[b]?=wc.heap[b]? -> ∀v,(∃T x,v=.iface T x)->Calls prog 169 #[.pointer (some ⟨b,1,none⟩),v] I fun e Q=>e=.returned (.tuple #[])/\AI I b #[.pointer (some ⟨j,0,none⟩),.nilIface,.pointer none,v,kv,ov] Q):=fun I H v d=>jF I b _ _ _ _ _ _ v (H.trans l) d;have J:Hid (∀q v,RV s v q->gD W S nm=⟨0,W,S.A1 q⟩->∀m,AI wc b #[.pointer (some ⟨j,0,none⟩),.nilIface,.pointer none,v,kv,ov] m->AS M w s tb mb j n b (gD W S nm) (.returned .nilIface) m):=fun q v d hq m hc=>by rw [hq];refine(eH (r.mv (Mv.below a)) l U.JK hc (fun _=>eX d) (fun hs=>?_) (HO.below a)).after (Stp.AA a);exact(HF.go (Stp.AA a) (Sg.Le.refl _)).go hs (Sg.Le.refl _)
  rcases V with⟨u,d⟩ | ⟨i,g,o,hi,z,d⟩
  ·simp only [Ending.returned.injEq,Value.pointer.injEq] at d;subst d;have Y:=(iU r).2;have y:=(iU r).1;have d0:wc.cell? ⟨b,0,none⟩=some (.pointer (some ⟨j,0,none⟩)):=aA l 0;have d1:wc.cell? ⟨j,0,none⟩=some (.map (some n)):=aA ((a.block j Y).trans r.NN) 0;have d2:wc.cell? ⟨w.heap.size,0,none⟩=some (.string ⟨nm.toArray⟩):=aA c 0;have d3:wc.cell? ⟨w.heap.size,1,none⟩=some (.int .i64 (k:Int)):=aA c 1
   cases f:Pl.find W.globals nm with
   | some i =>
    obtain⟨v,p,E,d,A⟩:=rE r.DI C.2 C.1 f;have K:Hid (∀m,AI wc b #[.pointer (some ⟨j,0,none⟩),.nilIface,.pointer none,v,kv,ov] m->AS M w s tb mb j n b (gD W S nm) (.returned .nilIface) m):=J.out p v d (by unfold gD Pl.DL;rw [u];dsimp only;rw [f];dsimp only;rw [E];rfl);have l1:=A wc (a.block n y);have l2:=A wc.drew (a.block n y);obtain⟨T,x,rfl⟩:=d.iface;clear A d E f u a c l D;go_wp2_with fail
    go_region
    all_goals
     go_wp2_with (go_at_call 169;refine(HG _ (by rfl) _ ⟨_,_,rfl⟩).mono ?_;rintro e m ⟨rfl,B⟩)
     go_ret;exact K.out _ (B.after (r_.drew))
   | none =>
    have l1:=pS r.DI C.2 C.1 f wc (a.block n y);have l2:=pS r.DI C.2 C.1 f wc.drew (a.block n y);have K:Hid (gD W S nm=⟨8,W,S⟩):=show gD W S nm=_ from by unfold gD Pl.DL;rw [u];dsimp only;rw [f]
    clear f u a c l D;go_wp2_with fail
    go_region
    all_goals
     go_wp2_with (go_at_call 78;refine(bJ _ _ _).mono ?_;rintro e m ⟨rfl,rfl⟩)
     go_ret;rw [K.out];exact iG r U HO X.drew (by decide)
  ·simp only [Ending.returned.injEq,Value.pointer.injEq] at d;subst d;have Z:=(s_ z).1;obtain⟨p,E⟩:∃p,W.places[i]?=some p:=⟨_,g_ (by rw [<- r.places.len];exact Z)⟩
   obtain⟨_,aa,v,hg,L,d⟩:=r.places.at_ i g o p z E;have cg:wc.cell? ⟨g,o,none⟩=some v:=(aA ((a.block g (aB hg)).trans hg) o).trans L;have K:Hid (∀m,AI wc b #[.pointer (some ⟨j,0,none⟩),.nilIface,.pointer none,v,kv,ov] m->AS M w s tb mb j n b (gD W S nm) (.returned .nilIface) m):=J.out p v d (by unfold gD Pl.DL;rw [hi];dsimp only;rw [E];rfl);obtain⟨T,x,rfl⟩:=d.iface;clear d E hi z a c l D hg L;go_wp2_with fail;go_region_with (go_at_call 169;refine(HG _ (by rfl) _ ⟨_,_,rfl⟩).mono ?_;rintro e m ⟨rfl,B⟩)
   all_goals
    go_wp2_with fail
    go_ret;exact K.out _ (B.after (r_.drew))
theorem iP{s:Sg}{W:PW}{S:PS}{f:PF}{env:Env}{fv':Value}(d:Wd M w s tb mb sb gb W)(c:C0 M w sb rb fv ev gv kv ov)(e:GW M w s kv S.AB)(g:DS M w ov W.out)(h:CP M w s fv' f)(i:CX M w s ev' env)(j:AI w rb #[.pointer (some ⟨sb,0,none⟩),fv',ev',.nilIface,kv,ov] w2){o:Option PF}(b:o=some f):AS M w s tb mb sb gb rb ⟨0,W,S.work o env⟩ (.returned .nilIface) w2:=by subst b;exact eH d c.blk c.JK j (fun a=>⟨h.go a (Sg.Le.refl _),i.go a (Sg.Le.refl _)⟩) (fun a=>e.go a (Sg.Le.refl _)) g
theorem YV{s:Sg}{p:Nat}{cs cs0:Array Value}{a:List CW}{top:Value}{fr:CW}(d:∀k,M k->k<w.heap.size)(e:w.heap[rb]?=some (.cells cs0 BT (0,0)))(f:M rb)(g:AI w rb cs w2)(h:GW M w s kv a)(i:FF M w s top fr)(hp:w.heap.size<=p)(b:w2.heap[p]?=some (.cells #[top,kv,.int .i64 ((a.length+1:Nat):Int)] DQ (0,0))):GW M w2 s (.pointer (some ⟨p,0,none⟩)) (fr::a):=by have c:=(g.mv e f).AQ;exact⟨p,top,kv,rfl,fun j=>by have:=d p j;omega,b,i.go c (Sg.Le.refl _),h.go c (Sg.Le.refl _)⟩
theorem dL{s:Sg}{p:Nat}{W:PW}{S:PS}{f:PF}{fr:CW}{env:Env}{fv' top:Value}{cs:Array Value}(h:Wd M w s tb mb sb gb W)(b:C0 M w sb rb fv ev gv kv ov)(j:GW M w s kv S.AB)(k:DS M w ov W.out)(l:CP M w s fv' f)(m:CX M w s ev' env)(n:FF M w s top fr)(c:AI w rb cs w1)(hp:w.heap.size<=p)(d:w1.heap[p]?=some (.cells #[top,kv,.int .i64 ((S.AB.length+1:Nat):Int)] DQ (0,0)))
  (a:AI w1 rb #[.pointer (some ⟨sb,0,none⟩),fv',ev',.nilIface,.pointer (some ⟨p,0,none⟩),ov] w2) {o:Option PF} (g:o=some f):AS M w s tb mb sb gb rb ⟨0,W,(S.push fr).work o env⟩ (.returned .nilIface) w2:=by
 subst g;have q:=aB b.blk;have e:=(a.other p (aB d) (by omega)).trans d;exact eH h b.blk b.JK (c.trans a) (fun i=>⟨l.go i (Sg.Le.refl _),m.go i (Sg.Le.refl _)⟩) (fun _=>YV h.CY.mlt b.blk b.JK (c.trans a) j n hp e) k
theorem yF(M:Nat->Prop)(w:World)(s:Sg)(tb mb m E g:Nat)(W:PW)(S:PS)(env:Env)(B:Wd M w s tb mb m E W){a b c:Value}(p:C0 M w m g fv ev0 gv kv ov)(F:GW M w s kv S.AB)(G:DS M w ov W.out)(r:CX M w s ev env)(y z:PF)(R:∃T x,a=.iface T x)(C:CP M w s b y)(D:CP M w s c z)(v:Value)(q:PV)(n:RV s v q)(o:Option PF)(h:o=if q=.AT false then some z else some y) :Calls prog 380 #[.agg #[a,b,c,ev],.pointer (some ⟨g,0,none⟩),v] w fun e t=>AS M w s tb mb m E g ⟨0,W,S.work o env⟩ e t:=by
 have H:=aB p.blk;have K:=fun t=>n.eqFalse B.NH t;have L:Hid (∀j,Below w.heap.size w (w.alloc j)):=fun j=>b_;have N:Hid (∀j I d f,CP M w s d f->o=some f->AI (w.alloc j) g #[.pointer (some ⟨m,0,none⟩),d,ev,.nilIface,kv,ov] I->AS M w s tb mb m E g ⟨0,W,S.work o env⟩ (.returned .nilIface) I):=fun j I d f J U V=>iP B p F G J r (V.after (L j)) U;have O:Hid (∀u:World,u.heap[g]?=w.heap[g]? -> ∀d,(∃T x,d=.iface T x)->Calls prog 172 #[.pointer (some ⟨g,1,none⟩),d,ev] u fun e t=>e=.returned (.tuple #[])/\AI u g #[.pointer (some ⟨m,0,none⟩),d,ev,.nilIface,kv,ov] t):=fun u J d n=>cU u g _ _ _ _ _ _ d ev (J.trans p.blk) n r.ptr;have P:Hid (∀j,(w.alloc j).drew.heap[g]?=w.heap[g]?):=fun j=>(L j).block g H;have Q:Hid (CP M w s b y/\CP M w s c z):=⟨C,D⟩
 obtain⟨Y,rfl⟩:=r.ptr;obtain⟨T,x,rfl⟩:=n.iface;obtain⟨Z,xa,rfl⟩:=R;obtain⟨Tb,xb,rfl⟩:=C.iface;obtain⟨Tc,xc,rfl⟩:=D.iface;by_cases i:q=.AT false
 ·have A:decide (q=.AT false)=true:=by simpa using i
  rw [A] at K;rw [if_pos i] at h;have k:=h_ h;clear B p F G r C D n i A h;go_enter func380,ntmps380;go_wp2_with fail;go_region_with (go_at_call 172;refine(O _ (P _) _ ⟨_,_,rfl⟩).mono ?_;rintro e X ⟨rfl,l⟩)
  all_goals
   go_wp2_with fail
   go_ret;exact N.out _ _ _ z Q.2 k (l.after (r_.drew))
 ·have A:decide (q=.AT false)=false:=by simpa using i
  rw [A] at K;rw [if_neg i] at h;have k:=h_ h;clear B p F G r C D n i A h;go_enter func380,ntmps380;go_wp2_with fail;go_region_with (go_at_call 172;refine(O _ (P _) _ ⟨_,_,rfl⟩).mono ?_;rintro e X ⟨rfl,l⟩)
  all_goals
   go_wp2_with fail
   go_ret;exact N.out _ _ _ y Q.1 k (l.after (r_.drew))
def VE(w:World)(sb rb:Nat)(us:List Value)(u0:Value)(sl ev kv ov:Value)(n:Nat)(w':World):Prop :=
 (us.length=0/\AI w rb #[.pointer (some ⟨sb,0,none⟩),u0,ev,.nilIface,kv,ov] w') \/
 (us.length≠0/\∃p g off ao c cs w1,w.heap.size<=p/\sl=.slice (some ⟨g,off,none⟩) (us.length+1) c/\ao=some ⟨g,off+1,none⟩/\(∃c',us.length<=c'/\w1.heap[p]?=some (.cells #[.iface 375 (.agg #[.slice ao us.length c',ev]),kv,.int .i64 ((n+1:Nat):Int)] DQ (0,0)))/\AI w rb cs w1/\AI w1 rb #[.pointer (some ⟨sb,0,none⟩),u0,ev,.nilIface,.pointer (some ⟨p,0,none⟩),ov] w')
theorem m6(w:World)(q d:Nat)(I t J E k sl K M:Value)(j:List Value)(n:Nat)(C:w.heap[d]?=some (.cells #[.pointer (some ⟨q,0,none⟩),I,t,J,E,k] BT (0,0)))(N:F0 w sl (M::j))(O:∀a n c,sl=.slice (some a) n c->a.block≠d)(hl:j.length<=2000)(hi:∃T x,M=.iface T x)(hp:∃o,K=.pointer o)(hk:∃o,E=.pointer o)(P:LI w E n)(Q:n<=6500000000000000000) :Calls prog 173 #[.pointer (some ⟨d,0,none⟩),sl,K] w fun e h=>e=.returned (.tuple #[])/\VE w q d j M sl K E k n h:=by
 have ac:=aB C;obtain⟨g,i,D,rfl,s,hg,c0,_⟩:=N.cell0;have R:g≠d:=O ⟨g,i,none⟩ _ _ rfl;obtain⟨T,x,rfl⟩:=hi;obtain⟨l,rfl⟩:=hp;obtain⟨F,rfl⟩:=hk;have S:Hid (∀(f:World)(U:Value) V,f.heap[d]?=some (.cells V BT (0,0))->(∃a b c,V=#[.pointer (some ⟨q,0,none⟩),a,b,c,U,k])->Calls prog 172 #[.pointer (some ⟨d,1,none⟩),.iface T x,.pointer l] f fun e h=>e=.returned (.tuple #[])/\AI f d #[.pointer (some ⟨q,0,none⟩),.iface T x,.pointer l,.nilIface,U,k] h):=fun f U V r ⟨a,b,c,A⟩=>by subst A;exact cU f d _ _ _ _ _ _ _ _ r ⟨_,_,rfl⟩ ⟨_,rfl⟩
 have HP:Hid (∀(W:Option Addr)(L c:Nat),L=j.length->j.length<=c->W=some ⟨g,i+1,none⟩->Calls prog 171 #[.pointer (some ⟨d,1,none⟩),.iface 375 (.agg #[.slice W L c,.pointer l])] w.drew fun e h=>e=.returned (.tuple #[])/\Hid (∃p u,j.length<=u/\w.heap.size<=p/\h.heap[p]?=some (.cells #[.iface 375 (.agg #[.slice (some ⟨g,i+1,none⟩) j.length u,.pointer l]),.pointer F,.int .i64 ((n+1:Nat):Int)] DQ (0,0))/\AI w d #[.pointer (some ⟨q,0,none⟩),I,t,J,.pointer (some ⟨p,0,none⟩),k] h)):=fun W L c r A B=>by subst r B;exact(kS w.drew d _ _ _ _ _ k _ n C ⟨_,_,rfl⟩ ⟨_,rfl⟩ (P.below (r_.drew)) Q).mono (fun e h ⟨r,p,X,B,v⟩=>⟨r,p,c,A,X,B,v.after (r_.drew)⟩)
 have Y:Hid (∃m,j.length+1=m):=⟨_,rfl⟩
 obtain⟨m,Z⟩:=Y.out;unfold VE;rw [Z] at s ⊢;by_cases G:j.length=0
 ·have aa:decide ((1:Int)<(m:Int))=false:=by simp;omega
  have HL:=h_ G;have ab:(0:Int)<(m:Int):=by omega
  have y:Hid (∀f:World,f.heap[d]?=w.heap[d]? -> Calls prog 172 #[.pointer (some ⟨d,1,none⟩),.iface T x,.pointer l] f fun e h=>e=.returned (.tuple #[])/\AI f d #[.pointer (some ⟨q,0,none⟩),.iface T x,.pointer l,.nilIface,.pointer F,k] h):=fun f r=>S.out f _ _ (r.trans C) ⟨_,_,_,rfl⟩;clear N P C G HP Y S;go_enter func173,ntmps173;go_wp2_with fail;go_region_with (go_at_call 172;refine(y _ (by rfl)).mono ?_;rintro e w3 ⟨rfl,z⟩)
  all_goals
   go_wp2_with fail
   go_end0
   exact⟨rfl,.inl ⟨HL,z.after (r_.drew)⟩⟩
 ·have aa:decide ((1:Int)<(m:Int))=true:=by simp;omega
  have HL:=h_ G;have ab:(0:Int)<(m:Int):=by omega
  have ad:(1:Int)<=(m:Int):=by omega
  obtain⟨c,rfl⟩:∃c,D=c+2:=⟨D-2,by omega⟩
  have HC:=h_ s;clear N P C G Y;go_enter func173,ntmps173
  go_upto_region 1 with fail
  go_cut [] (fun wx=>Hid (∃p u,j.length<=u/\w.heap.size<=p/\wx.heap[p]?=some (.cells #[.iface 375 (.agg #[.slice (some ⟨g,i+1,none⟩) j.length u,.pointer l]),.pointer F,.int .i64 ((n+1:Nat):Int)] DQ (0,0))/\AI w d #[.pointer (some ⟨q,0,none⟩),I,t,J,.pointer (some ⟨p,0,none⟩),k] wx))
  case first =>
   go_region_with (go_at_call 171;refine(HP _ _ _ (by omega) (by have:=HC.out;omega) rfl).mono ?_;rintro e w3 ⟨rfl,H⟩)
   all_goals
    go_wp2_with fail
    go_meet
    exact H
  case rest =>
   have H:=hcut;obtain⟨p,u,r,A,B,v⟩:=H.out;have ae:wc.cell? ⟨g,i,none⟩=some (.iface T x):=(World.cell?_of_block (w:=w) (v.other g hg R)).trans c0;have HX:Hid (∀h,AI wc d #[.pointer (some ⟨q,0,none⟩),.iface T x,.pointer l,.nilIface,.pointer (some ⟨p,0,none⟩),k] h->_):=fun h hc=>(Or.inr ⟨HL,p,g,i,_,c+2,_,wc,A,by rw [Z],rfl,⟨u,r,B⟩,v,hc⟩:VE w q d j (.iface T x) (.slice (some ⟨g,i,none⟩) (j.length+1) (c+2)) (.pointer l) (.pointer F) k n h)
   have y:Hid (∀f:World,f.heap[d]?=wc.heap[d]? -> Calls prog 172 #[.pointer (some ⟨d,1,none⟩),.iface T x,.pointer l] f fun e h=>e=.returned (.tuple #[])/\AI f d #[.pointer (some ⟨q,0,none⟩),.iface T x,.pointer l,.nilIface,.pointer (some ⟨p,0,none⟩),k] h):=fun f e1=>S.out f _ _ (e1.trans v.blk) ⟨_,_,_,rfl⟩;have af:d<wc.heap.size:=aB v.blk;clear r A B v H hcut;go_wp2_with fail;go_region_with (go_at_call 172;refine(y _ (by rfl)).mono ?_;rintro e w3 ⟨rfl,z⟩)
   all_goals
    go_wp2_with fail
    go_end0
    have:=HX.out _ (z.after (r_.drew));unfold VE at this;rw [Z] at this;exact⟨rfl,this⟩
theorem Tryz.LU(v:Value)(w:World):(Instr.typeAssert (.iface 223 v) 61 223 true).run prog w=.ok (.tuple #[v,.bool true]) w:=by kernel_rfl
theorem Tryz.RJ(v:Value)(w:World):(Instr.typeAssert (.iface 214 v) 61 214 true).run prog w=.ok (.tuple #[v,.bool true]) w:=by kernel_rfl
theorem Tryz.JA(v:Value)(w:World):(Instr.typeAssert (.iface 214 v) 61 223 true).run prog w=.ok (.tuple #[.agg #[.nilIface,.bool false],.bool false]) w:=by kernel_rfl
theorem Tryz.N7(v:Value)(w:World):(Instr.typeAssert (.iface 329 v) 61 329 true).run prog w=.ok (.tuple #[v,.bool true]) w:=by kernel_rfl
theorem Tryz.IP(v:Value)(w:World):(Instr.typeAssert (.iface 329 v) 61 223 true).run prog w=.ok (.tuple #[.agg #[.nilIface,.bool false],.bool false]) w:=by kernel_rfl
theorem Tryz.KH(v:Value)(w:World):(Instr.typeAssert (.iface 329 v) 61 214 true).run prog w=.ok (.tuple #[.agg #[.string ⟨#[]⟩,.int .i64 0],.bool false]) w:=by kernel_rfl
theorem Tryz.YT(v:Value)(w:World):(Instr.typeAssert (.iface 335 v) 61 335 true).run prog w=.ok (.tuple #[v,.bool true]) w:=by kernel_rfl
theorem Tryz.KI(v:Value)(w:World):(Instr.typeAssert (.iface 335 v) 61 223 true).run prog w=.ok (.tuple #[.agg #[.nilIface,.bool false],.bool false]) w:=by kernel_rfl
theorem Tryz.OB(v:Value)(w:World):(Instr.typeAssert (.iface 335 v) 61 214 true).run prog w=.ok (.tuple #[.agg #[.string ⟨#[]⟩,.int .i64 0],.bool false]) w:=by kernel_rfl
theorem Tryz.LV(v:Value)(w:World):(Instr.typeAssert (.iface 335 v) 61 329 true).run prog w=.ok (.tuple #[.agg #[.slice none 0 0,.nilIface],.bool false]) w:=by kernel_rfl
theorem Tryz.UH(v:Value)(w:World):(Instr.typeAssert (.iface 340 v) 61 340 true).run prog w=.ok (.tuple #[v,.bool true]) w:=by kernel_rfl
theorem Tryz.JV(v:Value)(w:World):(Instr.typeAssert (.iface 340 v) 61 223 true).run prog w=.ok (.tuple #[.agg #[.nilIface,.bool false],.bool false]) w:=by kernel_rfl
theorem Tryz.MV(v:Value)(w:World):(Instr.typeAssert (.iface 340 v) 61 214 true).run prog w=.ok (.tuple #[.agg #[.string ⟨#[]⟩,.int .i64 0],.bool false]) w:=by kernel_rfl
theorem Tryz.K5(v:Value)(w:World):(Instr.typeAssert (.iface 340 v) 61 329 true).run prog w=.ok (.tuple #[.agg #[.slice none 0 0,.nilIface],.bool false]) w:=by kernel_rfl
theorem Tryz.PY(v:Value)(w:World):(Instr.typeAssert (.iface 340 v) 61 335 true).run prog w=.ok (.tuple #[.agg #[.nilIface,.nilIface,.nilIface],.bool false]) w:=by kernel_rfl
theorem Tryz.N8(v:Value)(w:World):(Instr.typeAssert (.iface 218 v) 61 218 true).run prog w=.ok (.tuple #[v,.bool true]) w:=by kernel_rfl
theorem Tryz.IQ(v:Value)(w:World):(Instr.typeAssert (.iface 218 v) 61 223 true).run prog w=.ok (.tuple #[.agg #[.nilIface,.bool false],.bool false]) w:=by kernel_rfl
theorem Tryz.KJ(v:Value)(w:World):(Instr.typeAssert (.iface 218 v) 61 214 true).run prog w=.ok (.tuple #[.agg #[.string ⟨#[]⟩,.int .i64 0],.bool false]) w:=by kernel_rfl
theorem Tryz.JB(v:Value)(w:World):(Instr.typeAssert (.iface 218 v) 61 329 true).run prog w=.ok (.tuple #[.agg #[.slice none 0 0,.nilIface],.bool false]) w:=by kernel_rfl
theorem Tryz.LW(v:Value)(w:World):(Instr.typeAssert (.iface 218 v) 61 335 true).run prog w=.ok (.tuple #[.agg #[.nilIface,.nilIface,.nilIface],.bool false]) w:=by kernel_rfl
theorem Tryz.K6(v:Value)(w:World):(Instr.typeAssert (.iface 218 v) 61 340 true).run prog w=.ok (.tuple #[.agg #[.string ⟨#[]⟩,.int .i64 0,.nilIface],.bool false]) w:=by kernel_rfl
theorem Tryz.PX(v:Value)(w:World):(Instr.typeAssert (.iface 347 v) 61 347 true).run prog w=.ok (.tuple #[v,.bool true]) w:=by kernel_rfl
theorem Tryz.I1(v:Value)(w:World):(Instr.typeAssert (.iface 347 v) 61 223 true).run prog w=.ok (.tuple #[.agg #[.nilIface,.bool false],.bool false]) w:=by kernel_rfl
theorem Tryz.K8(v:Value)(w:World):(Instr.typeAssert (.iface 347 v) 61 214 true).run prog w=.ok (.tuple #[.agg #[.string ⟨#[]⟩,.int .i64 0],.bool false]) w:=by kernel_rfl
theorem Tryz.JW(v:Value)(w:World):(Instr.typeAssert (.iface 347 v) 61 329 true).run prog w=.ok (.tuple #[.agg #[.slice none 0 0,.nilIface],.bool false]) w:=by kernel_rfl
theorem Tryz.MX(v:Value)(w:World):(Instr.typeAssert (.iface 347 v) 61 335 true).run prog w=.ok (.tuple #[.agg #[.nilIface,.nilIface,.nilIface],.bool false]) w:=by kernel_rfl
theorem Tryz.LY(v:Value)(w:World):(Instr.typeAssert (.iface 347 v) 61 340 true).run prog w=.ok (.tuple #[.agg #[.string ⟨#[]⟩,.int .i64 0,.nilIface],.bool false]) w:=by kernel_rfl
theorem Tryz.JX(v:Value)(w:World):(Instr.typeAssert (.iface 347 v) 61 218 true).run prog w=.ok (.tuple #[.agg #[.string ⟨#[]⟩,.int .i64 0,.nilIface],.bool false]) w:=by kernel_rfl
theorem Tryz.RK(v:Value)(w:World):(Instr.typeAssert (.iface 349 v) 61 349 true).run prog w=.ok (.tuple #[v,.bool true]) w:=by kernel_rfl
theorem Tryz.JC(v:Value)(w:World):(Instr.typeAssert (.iface 349 v) 61 223 true).run prog w=.ok (.tuple #[.agg #[.nilIface,.bool false],.bool false]) w:=by kernel_rfl
theorem Tryz.LX(v:Value)(w:World):(Instr.typeAssert (.iface 349 v) 61 214 true).run prog w=.ok (.tuple #[.agg #[.string ⟨#[]⟩,.int .i64 0],.bool false]) w:=by kernel_rfl
theorem Tryz.KL(v:Value)(w:World):(Instr.typeAssert (.iface 349 v) 61 329 true).run prog w=.ok (.tuple #[.agg #[.slice none 0 0,.nilIface],.bool false]) w:=by kernel_rfl
theorem Tryz.OC(v:Value)(w:World):(Instr.typeAssert (.iface 349 v) 61 335 true).run prog w=.ok (.tuple #[.agg #[.nilIface,.nilIface,.nilIface],.bool false]) w:=by kernel_rfl
theorem Tryz.MW(v:Value)(w:World):(Instr.typeAssert (.iface 349 v) 61 340 true).run prog w=.ok (.tuple #[.agg #[.string ⟨#[]⟩,.int .i64 0,.nilIface],.bool false]) w:=by kernel_rfl
theorem Tryz.KM(v:Value)(w:World):(Instr.typeAssert (.iface 349 v) 61 218 true).run prog w=.ok (.tuple #[.agg #[.string ⟨#[]⟩,.int .i64 0,.nilIface],.bool false]) w:=by kernel_rfl
theorem Tryz.K7(v:Value)(w:World):(Instr.typeAssert (.iface 349 v) 61 347 true).run prog w=.ok (.tuple #[.agg #[.slice none 0 0],.bool false]) w:=by kernel_rfl
theorem uM(M:Nat->Prop)(w:World)(s:Sg)(tb mb f i a:Nat)(W:PW)(S:PS)(r:Wd M w s tb mb f i W){b:Bool}{q:PV}(d:C0 M w f a (.iface 223 (.agg #[v,.bool b])) ev gv kv ov)(z:∃o,ev=.pointer o)(t:GW M w s kv S.AB)(u:DS M w ov W.out)(h:RV s v q) :Calls prog 128 #[.pointer (some ⟨a,0,none⟩)] w fun e j=>AS M w s tb mb f i a ⟨0,W,S.A1 q⟩ e j:=by
 generalize k:Value.iface 223 (.agg #[v,.bool b])=l at d;have m:=aB d.blk;have G:w.cell? ⟨a,1,none⟩=some l:=aA d.blk 1;have H:w.cell? ⟨a,2,none⟩=some ev:=aA d.blk 2;have y:Hid (∀c,Below w.heap.size w (w.alloc c)):=fun c=>b_;have A:Hid (∀c,(w.alloc c).drew.heap[a]?=w.heap[a]?):=fun c=>(y c).block a m;subst k;have I:=Tryz.LU;have B:Hid (∀c n,AI (w.alloc c) a #[.pointer (some ⟨f,0,none⟩),.nilIface,.pointer none,v,kv,ov] n->AS M w s tb mb f i a ⟨0,W,S.A1 q⟩ (.returned .nilIface) n):=fun c n C=>eH r d.blk d.JK (C.after (y c)) (fun _=>eX h) (fun D=>t.go D (Sg.Le.refl _)) u;have E:Hid (∀g:World,g.heap[a]?=w.heap[a]? -> Calls prog 169 #[.pointer (some ⟨a,1,none⟩),v] g fun e j=>e=.returned (.tuple #[])/\AI g a #[.pointer (some ⟨f,0,none⟩),.nilIface,.pointer none,v,kv,ov] j):=fun g F=>jF g a _ _ _ _ _ _ v (F.trans d.blk) h.iface;obtain⟨J,rfl⟩:=z;obtain⟨T,x,rfl⟩:=h.iface;clear r d t u h;go_enter func128,ntmps128;go_wp2_with fail;go_region_with (go_at_call 169;refine(E _ (A _)).mono ?_;rintro e K ⟨rfl,p⟩)
 all_goals
  go_wp2_with fail
  go_ret;exact B.out _ _ (p.after (r_.drew))
theorem yC(M:Nat->Prop)(w:World)(s:Sg)(tb mb f i b:Nat)(W:PW)(S:PS)(o:Wd M w s tb mb f i W)(p:G5 s)(nm:AE)(k:Nat)(c:C0 M w f b (.iface 214 (.agg #[.string ⟨nm.toArray⟩,.int .i64 (k:Int)])) ev gv kv ov)(l:CX M w s ev S.env)(q:GW M w s kv S.AB)(r:DS M w ov W.out)(t:s.ns[k]?=some nm)(u:nm.length<=1000) :Calls prog 128 #[.pointer (some ⟨b,0,none⟩)] w fun e j=>AS M w s tb mb f i b (gD W S nm) e j:=by
 generalize m:Value.iface 214 (.agg #[.string ⟨nm.toArray⟩,.int .i64 (k:Int)])=n at c;have g:=aB c.blk;have A:w.cell? ⟨b,1,none⟩=some n:=aA c.blk 1;have B:w.cell? ⟨b,2,none⟩=some ev:=aA c.blk 2;have d:Hid (∀a,Below w.heap.size w (w.alloc a)):=fun a=>b_;have C:Hid (∀a,(w.alloc a).drew.heap[b]?=w.heap[b]?):=fun a=>(d a).block b g;subst m;have D:=Tryz.RJ;have v:=Tryz.JA
 have y:Hid (∀a,Calls prog 170 #[.pointer (some ⟨b,0,none⟩),.agg #[.string ⟨nm.toArray⟩,.int .i64 (k:Int)]] (w.alloc a) fun e j=>∃x,e=.returned x/\Hid (AS M w s tb mb f i b (gD W S nm) (.returned x) j)):=fun a =>
  (yS M _ s tb mb f i b W S (o.mv (Mv.below (d a))) p ⟨((d a).block b g).trans c.blk,c.JK⟩ (l.go (Stp.AA (d a)) (Sg.Le.refl _)) (q.go (Stp.AA (d a)) (Sg.Le.refl _)) (r.below (d a)) nm k t u).mono (fun e j h=>by
   obtain⟨x,rfl⟩:=h.one
   exact⟨x,rfl,h.after (Stp.AA (d a))⟩)
 obtain⟨E,rfl⟩:=l.ptr;clear o c q r l p t;go_enter func128,ntmps128;go_wp2_with (go_at_call 170;refine(y _).mono ?_;rintro e F ⟨x,rfl,z⟩);go_ret;exact z
theorem Kept.after{w':World}(h:Kept M w1 rb w')(a:Below w.heap.size w w1)(d:rb<w.heap.size):Kept M w rb w' :=⟨(Stp.AA a).trans h.AQ,h.run.trans (a.block rb d),fun g b e c=>(h.outs g b e ((a.block g (aB c)).trans c)).trans (a.block g (aB c))⟩
theorem iF{s t:Sg}{W W':PW}{S S':PS}{q:PV}(c:C0 M w sb rb fv ev gv kv ov)(d:GW M w s kv S.AB)(e:DS M w ov W.out)(a:Kept M w rb w1)(l:Sg.Le s t)(f:EG w s t)(h:Wd M w1 t tb mb sb gb W')(i:W'.out=W.out)(j:RV t v q)(k:S'=S.A1 q)(m:AI w1 rb #[.pointer (some ⟨sb,0,none⟩),.nilIface,.pointer none,v,kv,ov] w2):AS M w s tb mb sb gb rb ⟨0,W',S'⟩ (.returned .nilIface) w2:=by
 subst k;refine(eH h (a.run.trans c.blk) c.JK m (fun _=>eX j) (fun n=>?_) ?_).M7 a.AQ l f
 ·exact(d.go a.AQ l).go n (Sg.Le.refl _)
 ·rw [i];exact e.keep (fun g b o p r=>⟨a.outs g b o r,p⟩)
def VC(M:Nat->Prop)(w:World)(s:Sg)(tb mb sb gb rb:Nat)(W:PW)(env:Env)(nm:AE)(q:PV)(v:Value)(w':World):Prop :=(∃i,Pl.DL W env nm=some i/\v=.nilIface/\Wd M w' s tb mb sb gb {W with places:=W.places.set i q}/\Kept M w rb w')\/(Pl.DL W env nm=none/\(∃es,v=aY es 8)/\Below w.heap.size w w')
theorem p_setR(M:Nat->Prop)(w:World)(s:Sg)(tb mb r B n:Nat)(W:PW)(env:Env)(N:Wd M w s tb mb r B W)(Y:G5 s)(F:W.globals.length<=6500000000000000000)(O:C0 M w r n fv ev0 gv kv ov)(P:CX M w s ev env)(nm:AE)(k:Nat)(Q:s.ns[k]?=some nm)(hl:nm.length<=1000)(v:Value)(q:PV)(f:RV s v q) :Calls prog 384 #[.pointer (some ⟨n,0,none⟩),.agg #[.string ⟨nm.toArray⟩,.int .i64 (k:Int)],ev,v] w fun e w'=>∃x,e=.returned x/\VC M w s tb mb r B n W env nm q x w':=by
 have t:Below w.heap.size w (w.alloc (.cells #[.string ⟨nm.toArray⟩,.int .i64 (k:Int)] B6)):=b_;have C:=aB O.blk
 have HP:Hid (Calls prog 194 #[ev,.agg #[.string ⟨nm.toArray⟩,.int .i64 (k:Int)]] (w.alloc (.cells #[.string ⟨nm.toArray⟩,.int .i64 (k:Int)] B6)) fun e K=>∃v,e=.returned (.pointer v)/\Hid (Below w.heap.size w K/\K.heap[w.heap.size]?=some (.cells #[.string ⟨nm.toArray⟩,.int .i64 (k:Int)] B6 (0,0))/\VG s env nm (.returned (.pointer v)))) :=
  show Calls _ _ _ _ _ from(uW M _ s ev env nm k N.nodup (P.go (Stp.AA t) (Sg.Le.refl _)) Q).mono (fun e K h=>by
   have b:K.heap[w.heap.size]?=some (.cells #[.string ⟨nm.toArray⟩,.int .i64 (k:Int)] B6 (0,0)):=(h.1.block w.heap.size (by simp)).trans (heap_alloc_new w _);rcases h.2 with⟨R,rfl⟩ | ⟨i,g,o,R,h2,rfl⟩
   ·exact⟨_,rfl,t.trans (h.1.mono (by simp)),b,.inl ⟨R,rfl⟩⟩
   ·exact⟨_,rfl,t.trans (h.1.mono (by simp)),b,.inr ⟨i,g,o,R,h2,rfl⟩⟩)
 have D:=h_ N;have HR:=h_ O;have E:Hid (s.ns[k]?=some nm/\G5 s/\W.globals.length<=6500000000000000000):=⟨Q,Y,F⟩
 have Z:=h_ f;obtain⟨oe,rfl⟩:=P.ptr;obtain⟨T,x,rfl⟩:=f.iface;clear N Y O P Q t F f;go_enter func384,ntmps384
 go_upto_region 2 with(go_at_call 194;refine Calls.mono HP ?_;rintro e wc ⟨v,rfl,L⟩)
 obtain⟨a,b,S⟩:=L.out;have d:=(a.block n C).trans HR.blk;have y:=h_ a;have z:=D.mv (Mv.below a);rcases S with⟨A,f⟩ | ⟨i,g,o,hi,G,f⟩
 ·simp only [Ending.returned.injEq,Value.pointer.injEq] at f;subst f;have U:=(iU D).2;have H:=(iU D).1;have d0:wc.cell? ⟨n,0,none⟩=some (.pointer (some ⟨r,0,none⟩)):=aA d 0;have d1:wc.cell? ⟨r,0,none⟩=some (.map (some B)):=aA ((a.block r U).trans D.NN) 0;have d2:wc.cell? ⟨w.heap.size,0,none⟩=some (.string ⟨nm.toArray⟩):=aA b 0;have d3:wc.cell? ⟨w.heap.size,1,none⟩=some (.int .i64 (k:Int)):=aA b 1
  cases c:Pl.find W.globals nm with
  | some i =>
   obtain⟨v,p,hp,f,I⟩:=rE D.DI E.2.1 E.1 c;have l2:=I wc.drew (a.block B H);have j:Pl.DL W env nm=some i:=by unfold Pl.DL;rw [A];exact c
   obtain⟨w3,V,l,m⟩:=Wd.putG (w:=wc.drew.drew) (D.mv (Mv.below y.drew.drew)) E.2.1 E.1 c Z E.2.2 n _ d;have J:Hid (VC M w s tb mb r B n W env nm q .nilIface w3):=.inl ⟨i,j,rfl,l,m.after y.drew.drew C⟩;obtain⟨T',x',rfl⟩:=f.iface;clear I f hp c A a b d L z j l m;go_wp2_with fail
   go_region
   all_goals
    go_wp2_with fail
    go_region
    all_goals
     go_wp2_with fail
     go_ret;exact⟨_,rfl,J⟩
  | none =>
   have l2:=pS D.DI E.2.1 E.1 c wc.drew (a.block B H);have J:Hid (∀X,VC M w s tb mb r B n W env nm q (aY X 8) wc.drew):=fun X=>.inr ⟨by unfold Pl.DL;rw [A];exact c,⟨X,rfl⟩,y.drew⟩;clear c A a b d L z;go_wp2_with fail
   go_region
   all_goals
    go_wp2_with (go_at_call 78;refine(bJ _ _ _).mono ?_;rintro e w3 ⟨rfl,rfl⟩)
    go_ret;exact⟨_,rfl,J _⟩
 ·simp only [Ending.returned.injEq,Value.pointer.injEq] at f;subst f;have j:Pl.DL W env nm=some i:=by unfold Pl.DL;rw [hi]
  obtain⟨l,m,aa,u,ab⟩:=z.SU G Z n _ d;have J:Hid (VC M w s tb mb r B n W env nm q .nilIface (wc.setCell ⟨g,o,none⟩ (.iface T x))):=.inl ⟨i,j,rfl,l,m.after y C⟩;clear hi G a b d L z j l m;go_wp2_with fail;go_ret;exact⟨_,rfl,J⟩
theorem uO(M:Nat->Prop)(w:World)(s:Sg)(tb mb g l b:Nat)(W:PW)(S:PS)(env:Env)(C:Wd M w s tb mb g l W)(J:G5 s)(m:W.globals.length<=6500000000000000000)(n:C0 M w g b fv ev0 gv kv ov)(K:GW M w s kv S.AB)(L:DS M w ov W.out)(D:CX M w s ev env)(nm:AE)(k:Nat)(N:s.ns[k]?=some nm)(R:nm.length<=1000)(v:Value)(q:PV)(E:RV s v q)(r:SR)
  (c:r=match Pl.DL W env nm with | some i=>⟨0,{W with places:=W.places.set i q},S.A1 .nothing⟩ | none=>⟨8,W,S⟩) :
  Calls prog 383 #[.agg #[.string ⟨nm.toArray⟩,.int .i64 (k:Int),ev],.pointer (some ⟨b,0,none⟩),v] w fun e o=>AS M w s tb mb g l b r e o:=by
 have d:Below w.heap.size w (w.alloc (.cells #[.string ⟨nm.toArray⟩,.int .i64 (k:Int),ev] 342)):=b_;have p:=aB n.blk;have t:Stp M w M (w.alloc (.cells #[.string ⟨nm.toArray⟩,.int .i64 (k:Int),ev] 342)):=Stp.AA d;have O:Hid (Calls prog 384 #[.pointer (some ⟨b,0,none⟩),.agg #[.string ⟨nm.toArray⟩,.int .i64 (k:Int)],ev,v] (w.alloc (.cells #[.string ⟨nm.toArray⟩,.int .i64 (k:Int),ev] 342)) fun e o=>∃x,e=.returned x/\VC M (w.alloc (.cells #[.string ⟨nm.toArray⟩,.int .i64 (k:Int),ev] 342)) s tb mb g l b W env nm q x o) :=p_setR M _ s tb mb g l b W env (C.mv (Mv.below d)) J m ⟨(d.block b p).trans n.blk,n.JK⟩ (D.go t (Sg.Le.refl _)) nm k N R v q E;have h:=h_ d;have U:=h_ C;have F:=h_ n;have V:=h_ K;have P:=h_ L;obtain⟨oe,rfl⟩:=D.ptr;obtain⟨T,x,rfl⟩:=E.iface;clear C J n D K L N d t m E
 cases f:Pl.DL W env nm with
 | some i =>
  rw [f] at c;have j:=h_ c;clear c;go_enter func383,ntmps383
  go_upto_region 2 with(go_at_call 384;refine Calls.mono O ?_;rintro e wc ⟨X,rfl,G⟩)
  rcases G with⟨Q,a,rfl,u,y⟩ | ⟨a,_⟩
  ·obtain rfl:Q=i:=i_ (a.symm.trans f);have H:=y.after h p;have A:Hid (∀B,AI wc b #[.pointer (some ⟨g,0,none⟩),.nilIface,.pointer none,.iface 299 (.agg #[]),kv,ov] B->AS M w s tb mb g l b r (.returned .nilIface) B):=fun B Y=>by rw [j.out];exact iF (W:=W) F V P H (Sg.Le.refl _) (EG.refl _ _) u rfl .nothing rfl Y
   have Z:Hid (Calls prog 169 #[.pointer (some ⟨b,1,none⟩),.iface 299 (.agg #[])] wc fun e o=>e=.returned (.tuple #[])/\AI wc b #[.pointer (some ⟨g,0,none⟩),.nilIface,.pointer none,.iface 299 (.agg #[]),kv,ov] o):=jF wc b _ _ _ _ _ _ _ (H.run.trans F.blk) ⟨_,_,rfl⟩;clear u y H;go_wp2_with (go_at_call 169;refine Calls.mono Z ?_;rintro e B ⟨rfl,I⟩);go_ret;exact A.out _ I
  ·rw [f] at a;cases a
 | none =>
  rw [f] at c;have j:=h_ c;clear c;go_enter func383,ntmps383
  go_upto_region 2 with(go_at_call 384;refine Calls.mono O ?_;rintro e wc ⟨X,rfl,G⟩)
  rcases G with⟨Q,a,_⟩ | ⟨_,⟨es,rfl⟩,z⟩
  ·rw [f] at a;cases a
  ·have A:Hid (AS M w s tb mb g l b r (.returned (aY es 8)) wc):=show AS _ _ _ _ _ _ _ _ _ _ _ from by
    rw [j.out];exact iG U F P (h.trans (z.mono h.size)) (by decide)
   clear z;unfold aY at A ⊢;go_wp2_with fail;go_ret;exact A
theorem m7(M:Nat->Prop)(w:World)(s:Sg)(tb mb f n a:Nat)(W:PW)(S:PS)(p:Wd M w s tb mb f n W)(B:G5 s)(r:LG W W.globals)(h:W.globals.length<=6500000000000000000)(o:C0 M w f a fv ev0 gv kv ov)(J:GW M w s kv S.AB)(K:DS M w ov W.out)(nm:AE)(k:Nat)(C:s.ns[k]?=some nm)(v:Value)(q:PV)(z:RV s v q) :Calls prog 385 #[.agg #[.string ⟨nm.toArray⟩,.int .i64 (k:Int)],.pointer (some ⟨a,0,none⟩),v] w fun e D=>AS M w s tb mb f n a ⟨0,Pl.bind W nm q,S.A1 .nothing⟩ e D:=by
 have d:Below w.heap.size w (w.alloc (.cells #[.string ⟨nm.toArray⟩,.int .i64 (k:Int)] 344)).drew:=b_.drew;have j:=aB o.blk;have N:=(iU p).2;have R:w.cell? ⟨a,0,none⟩=some (.pointer (some ⟨f,0,none⟩)):=aA o.blk 0;have U:w.cell? ⟨f,0,none⟩=some (.map (some n)):=aA p.NN 0;have l:=(d.block a j).trans o.blk
 have u:∃c t,(Instr.mapUpdate 145 (.map (some n)) (.int .i64 (k:Int)) v).run prog (w.alloc (.cells #[.string ⟨nm.toArray⟩,.int .i64 (k:Int)] 344)).drew=.ok () c/\(Sg.Le s t/\EG w s t)/\Wd M c t tb mb f n (Pl.bind W nm q)/\(Pl.bind W nm q).out=W.out/\Kept M w a c:=by
  cases b:Pl.find W.globals nm with
  | some i =>
   obtain⟨c,E,F,G⟩:=Wd.putG (p.mv (Mv.below d)) B C b z h a _ l;refine⟨c,s,E,⟨Sg.Le.refl _,EG.refl _ _⟩,?_,?_,G.after d j⟩
   ·unfold Pl.bind;rw [b];exact F
   ·unfold Pl.bind;rw [b]
  | none =>
   obtain⟨c,E,F,G⟩:=Wd.newG (p.mv (Mv.below d)) B C b z r h a _ l;refine⟨c,s.FO,E,⟨s.FC,EG.same rfl rfl⟩,?_,?_,G.after d j⟩
   ·unfold Pl.bind;rw [b];exact F
   ·unfold Pl.bind;rw [b]
 obtain⟨c,t,L,m,y,g,H⟩:=u;have O:Hid (∀A,AI c a #[.pointer (some ⟨f,0,none⟩),.nilIface,.pointer none,.iface 299 (.agg #[]),kv,ov] A->AS M w s tb mb f n a ⟨0,Pl.bind W nm q,S.A1 .nothing⟩ (.returned .nilIface) A):=fun A P=>iF (W:=W) o J K H m.1 m.2 y g .nothing rfl P;have Q:Hid (Calls prog 169 #[.pointer (some ⟨a,1,none⟩),.iface 299 (.agg #[])] c fun e D=>e=.returned (.tuple #[])/\AI c a #[.pointer (some ⟨f,0,none⟩),.nilIface,.pointer none,.iface 299 (.agg #[]),kv,ov] D):=jF c a _ _ _ _ _ _ _ (H.run.trans o.blk) ⟨_,_,rfl⟩;obtain⟨T,x,rfl⟩:=z.iface;clear p B r h o J K C z m y g H l;go_enter func385,ntmps385;go_wp2_with fail
 go_region
 all_goals
  go_wp2_with (go_at_call 169;refine Calls.mono Q ?_;rintro e A ⟨rfl,I⟩)
  go_ret;exact O.out _ I
theorem E3.cons{s:Sg}{g:List PF}(h:E3 M w s sl g){d:PF}{rest:List PF}(e:g=d::rest):∃c a,Sl M w D8 1 sl (a.length+1) (c::a)/\CP M w s c d/\BY (CP M w s) a rest:=by
 subst e;obtain⟨a,f,b⟩:=h
 match a,f,b with
 | [],_,b=>have:=b.1;simp at this
 | c::a,f,b=>exact⟨c,a,f,b.2 0 c d rfl rfl,by have:=b.drop 1;simpa using this⟩
theorem Sl.ne{T:TypeId}{n:Nat}{xs:List Value}(h:Sl M w T 1 sl (n+1) xs)(d:M rb):∀a m c,sl=.slice (some a) m c->a.block≠rb:=by
 intro a m c e;obtain⟨_,r,f,i,_,b⟩:=h;rw [i] at e;simp only [Value.slice.injEq] at e;rcases b with b | ⟨g,j,k,l,o,_⟩
 ·omega
 ·rw [l] at e;have:=e.1;simp only [o_] at this;subst this;intro p;exact o (by have q:g=rb:=p;rw [q];exact d)
theorem Sl.rest{T:TypeId}{g off c L:Nat}{u:Value}{us:List Value}(h:Sl M w T 1 (.slice (some ⟨g,off,none⟩) L c) (us.length+1) (u::us))(a:Option Addr)(b:Nat)(d:us.length<=b)(e:us.length≠0->a=some ⟨g,off+1,none⟩):Sl M w T 1 (.slice a us.length b) us.length us:=Sl.J4 h us.length rfl a b d e
theorem pX{s:Sg}{W:PW}{S:PS}{n:PF}{rest:List PF}{fr:CW}{env:Env}{u0:Value}{us:List Value}(q:Wd M w s tb mb sb gb W)(r:C0 M w sb rb fv ev gv kv ov)(t:GW M w s kv S.AB)(u:DS M w ov W.out)(y:Sl M w D8 1 sl (us.length+1) (u0::us))(v:CP M w s u0 n)(b:BY (CP M w s) us rest)(d:CX M w s ev' env)
  (z:fr.form.k=.begin) (e:fr.form.ks.drop fr.pos=rest) (f:fr.env=env) (A:VE w sb rb us u0 sl ev' kv ov S.AB.length w2) {o:Option PF} (a:o=some n) (S':PS) (h:S'=if 0<rest.length then S.push fr else S):AS M w s tb mb sb gb rb ⟨0,W,S'.work o env⟩ (.returned .nilIface) w2:=by
 subst h;rcases A with⟨x,B⟩ | ⟨x,p,g,C,D,c,G,H,E,rfl,i,⟨F,j,k⟩,l,m⟩
 ·rw [if_neg (by rw [<- b.1,x];decide)];exact iP q r t u v d B a
 ·rw [if_pos (by rw [<- b.1];omega)];subst f;exact dL q r t u v d (.begin _ ev' fr z (by rw [e];exact⟨us,y.rest D F j (fun _=>i),b⟩) d) l E k m a
theorem oT(M:Nat->Prop)(w:World)(s:Sg)(tb mb h r b:Nat)(W:PW)(S:PS)(z:Wd M w s tb mb h r W)(t:S.AB.length<=6500000000000000000){rv:Value}(g:C0 M w h b fv ev0 gv kv ov)(n:GW M w s kv S.AB)(A:DS M w ov W.out)(fr:CW)(p:CX M w s ev fr.env)(B:fr.form.k=.begin)(C:PF)(rest:List PF)(d:fr.form.ks.drop fr.pos=C::rest)(i:E3 M w s rv (fr.form.ks.drop fr.pos))(j:rest.length<=2000)(v:Value)(E:∃T x,v=.iface T x)(S':PS)(k:S'=if 0<rest.length then S.push {fr with B8:=[],pos:=fr.pos+1} else S)(o:Option PF)(l:o=some C) :Calls prog 401 #[.agg #[rv,ev],.pointer (some ⟨b,0,none⟩),v] w fun e q=>AS M w s tb mb h r b ⟨0,W,S'.work o fr.env⟩ e q:=by
 obtain⟨F,G,a,u,y⟩:=i.cons d;have m:=aB g.blk;have f:Below w.heap.size w (w.alloc (.cells #[rv,ev] 375)):=b_;have c:Stp M w M (w.alloc (.cells #[rv,ev] 375)):=Stp.AA f
 have D:fr.form.ks.drop (fr.pos+1)=rest:=by
  have:(fr.form.ks.drop fr.pos).drop 1=rest:=by rw [d];rfl
  rw [List.drop_drop] at this;exact this
 have H:Hid (Calls prog 173 #[.pointer (some ⟨b,0,none⟩),rv,ev] (w.alloc (.cells #[rv,ev] 375)) fun e q=>e=.returned (.tuple #[])/\Hid (AS M w s tb mb h r b ⟨0,W,S'.work o fr.env⟩ (.returned .nilIface) q)):=show Calls _ _ _ _ _ from
  (m6 _ h b fv ev0 gv kv ov rv ev F G S.AB.length ((f.block b m).trans g.blk) (Sl.C7 (a.AQ c)) (a.ne g.JK) (by rw [y.1];exact j) u.iface p.ptr n.ptr (n.J7.below f) t).mono (fun e q ⟨I,J⟩=>⟨I,
   (pX (fr:={fr with B8:=[],pos:=fr.pos+1}) (z.mv (Mv.below f)) ⟨(f.block b m).trans g.blk,g.JK⟩ (n.go c (Sg.Le.refl _)) (A.below f) (a.AQ c) (u.go c (Sg.Le.refl _)) (y.mono (fun _ _ x=>x.go c (Sg.Le.refl _))) (p.go c (Sg.Le.refl _)) B D rfl J l S' k).after c⟩)
 obtain⟨N,rfl⟩:=p.ptr;obtain⟨_,O,K,rfl,_⟩:=a;obtain⟨T,x,rfl⟩:=E;clear z g n A p i u y f c D k l d B;go_enter func401,ntmps401;go_wp2_with (go_at_call 173;refine Calls.mono H ?_;rintro e P ⟨rfl,L⟩);go_ret;exact L
theorem uN(M:Nat->Prop)(w:World)(s:Sg)(tb mb k v a:Nat)(W:PW)(S:PS)(C:Wd M w s tb mb k v W)(y:S.AB.length<=6500000000000000000)(f:PF)(c:C0 M w k a (.iface 347 (.agg #[sl])) ev gv kv ov)(r:CX M w s ev S.env)(t:GW M w s kv S.AB)(D:DS M w ov W.out)(E:f.k=.begin)(F:PF)(rest:List PF)(g:f.ks=F::rest)(l:E3 M w s sl f.ks)(m:rest.length<=2000)(S':PS)(n:S'=if 0<rest.length then S.push ⟨f,[],1,S.env⟩ else S)(o:Option PF)(p:o=some F) :Calls prog 128 #[.pointer (some ⟨a,0,none⟩)] w fun e u=>AS M w s tb mb k v a ⟨0,W,S'.work o S.env⟩ e u:=by
 generalize z:Value.iface 347 (.agg #[sl])=q at c;have h:=aB c.blk;have Y:w.cell? ⟨a,1,none⟩=some q:=aA c.blk 1;have Z:w.cell? ⟨a,2,none⟩=some ev:=aA c.blk 2;have G:Hid (∀b,Below w.heap.size w (w.alloc b)):=fun b=>b_;have HK:Hid (∀b,(w.alloc b).drew.heap[a]?=w.heap[a]?):=fun b=>(G b).block a h;obtain⟨I,J,d,A,B⟩:=l.cons g;have H:f.ks.drop 1=rest:=by rw [g];rfl
 have K:Hid (∀b,Calls prog 173 #[.pointer (some ⟨a,0,none⟩),sl,ev] (w.alloc b) fun e u=>e=.returned (.tuple #[])/\Hid (AS M w s tb mb k v a ⟨0,W,S'.work o S.env⟩ (.returned .nilIface) u)):=fun b=>by
  have j:=G.out b;have i:Stp M w M (w.alloc b):=Stp.AA j
  exact(m6 _ k a q ev gv kv ov sl ev I J S.AB.length ((j.block a h).trans c.blk) (Sl.C7 (d.AQ i)) (d.ne c.JK) (by rw [B.1];exact m) A.iface r.ptr t.ptr (t.J7.below j) y).mono (fun e u ⟨L,N⟩=>⟨L,
   (pX (fr:=⟨f,[],1,S.env⟩) (C.mv (Mv.below j)) ⟨(j.block a h).trans c.blk,c.JK⟩ (t.go i (Sg.Le.refl _)) (D.below j) (d.AQ i) (A.go i (Sg.Le.refl _)) (B.mono (fun _ _ x=>x.go i (Sg.Le.refl _))) (r.go i (Sg.Le.refl _)) E H rfl N p S' n).after i⟩)
 subst z;have fy:=Tryz.PX;have O:=Tryz.I1;have P:=Tryz.K8;have Q:=Tryz.JW;have R:=Tryz.MX;have T:=Tryz.LY;have U:=Tryz.JX;obtain⟨oe,rfl⟩:=r.ptr;obtain⟨_,ao,V,rfl,_⟩:=d;clear C c t D r l A B H n p g E;go_enter func128,ntmps128;go_wp2_with (go_at_call 173;refine(K _).mono ?_;rintro e w3 ⟨rfl,X⟩);go_ret;exact X
theorem yD(M:Nat->Prop)(w:World)(s:Sg)(tb mb k J h:Nat)(W:PW)(S:PS)(hW:Wd M w s tb mb k J W)(V:S.AB.length<=6500000000000000000)(f:PF)(t:C0 M w k h (.iface 349 (.agg #[sl])) ev gv kv ov)(B:CX M w s ev S.env)(K:GW M w s kv S.AB)(ho:DS M w ov W.out)(hk:f.k=.call)(f0:PF)(rest:List PF)(v:f.ks=f0::rest)(C:E3 M w s sl f.ks)(o:Option PF)(D:o=some f0) :Calls prog 128 #[.pointer (some ⟨h,0,none⟩)] w fun e l=>AS M w s tb mb k J h ⟨0,W,(S.push ⟨f,[],1,S.env⟩).work o S.env⟩ e l:=by
 generalize X:Value.iface 349 (.agg #[sl])=Y at t;have Z:=aB t.blk;have e1:w.cell? ⟨h,1,none⟩=some Y:=aA t.blk 1;have e2:w.cell? ⟨h,2,none⟩=some ev:=aA t.blk 2;have E:Hid (∀i,Below w.heap.size w (w.alloc i)):=fun i=>b_;have HK:Hid (∀i,(w.alloc i).drew.heap[h]?=w.heap[h]?):=fun i=>(E i).block h Z;obtain⟨N,y,r,O,hA⟩:=C.cons v;have hd:f.ks.drop 1=rest:=by rw [v];rfl
 obtain⟨g,j,n,rfl,u,hg,c0,_⟩:=(Sl.C7 r).cell0;have aa:g≠h:=r.ne t.JK ⟨g,j,none⟩ _ _ rfl
 have HP:Hid (∀i (P:Option Addr) (L c:Nat),L=y.length->y.length<=c->(y.length≠0->P=some ⟨g,j+1,none⟩)->Calls prog 171 #[.pointer (some ⟨h,1,none⟩),.iface 352 (.agg #[.slice none 0 0,.slice P L c,ev])] (w.alloc i).drew fun e l=>e=.returned (.tuple #[])/\Hid (l.heap[w.heap.size]?=(w.alloc i).heap[w.heap.size]? /\ l.heap[g]?=w.heap[g]? /\ ∃p a b d,l.heap[h]?=some (.cells #[.pointer (some ⟨k,0,none⟩),a,b,d,.pointer (some ⟨p,0,none⟩),ov] BT (0,0))/\∀z,AI l h #[.pointer (some ⟨k,0,none⟩),N,ev,.nilIface,.pointer (some ⟨p,0,none⟩),ov] z->AS M w s tb mb k J h ⟨0,W,(S.push ⟨f,[],1,S.env⟩).work o S.env⟩ (.returned .nilIface) z)):=fun i P L c A Q F=>by
  subst A
  exact(kS (w.alloc i).drew h _ _ _ _ kv ov _ S.AB.length ((HK i).trans t.blk) ⟨_,_,rfl⟩ K.ptr (K.J7.below (E i).drew) V).mono (fun e l ⟨G,p,k2,k3,R⟩=>⟨G,R.other _ (by simp) (by omega),(R.after (E i).drew).other g hg aa,p,_,_,_,R.blk,fun z hc =>
   dL hW t K ho O B (.call (.slice none 0 0) _ ev ⟨f,[],1,S.env⟩ hk ⟨[],⟨rfl,none,0,rfl,n_,.inl rfl⟩,BY.nil _⟩ (by show E3 _ _ _ _ (f.ks.drop 1);rw [hd];exact⟨y,r.rest P c Q F,hA⟩) B) (R.after (E i).drew) (t_ (E i).size k2) k3 hc D⟩)
 have HG:Hid (∀(w0 q:World) c1 c2 c3 G,w0.heap[h]?=some (.cells #[.pointer (some ⟨k,0,none⟩),c1,c2,c3,G,ov] BT (0,0))->q.heap[h]?=w0.heap[h]? -> Calls prog 172 #[.pointer (some ⟨h,1,none⟩),N,ev] q fun e l=>e=.returned (.tuple #[])/\AI q h #[.pointer (some ⟨k,0,none⟩),N,ev,.nilIface,G,ov] l):=fun w0 q c1 c2 c3 G ab A=>cU q h _ _ _ _ _ _ N ev (A.trans ab) O.iface B.ptr;subst X;have fy:=Tryz.RK;have ag:=Tryz.JC;have ah:=Tryz.LX;have ai:=Tryz.KL;have aj:=Tryz.OC;have ak:=Tryz.MW;have al:=Tryz.KM;have am:=Tryz.K7;obtain⟨oe,rfl⟩:=B.ptr;obtain⟨T,x,rfl⟩:=O.iface;obtain⟨m,hm⟩:∃m,y.length+1=m:=⟨_,rfl⟩
 rw [hm] at e1 u;have an:(0:Int)<(m:Int):=by omega
 have ap:(1:Int)<=(m:Int):=by omega
 have H:Hid ((w.alloc (.cells #[.slice (some ⟨g,j,none⟩) m n] 349)).heap[w.heap.size]?=some (.cells #[.slice (some ⟨g,j,none⟩) m n] 349 (0,0))):=heap_alloc_new w _;have ac:=h_ c0;have HM:Hid (y.length+1=m/\m<=n):=⟨hm,u⟩
 clear hW t K ho B C O hA hd D v hk r;obtain⟨c,rfl⟩:∃c,n=c+1:=⟨n-1,by omega⟩
 go_enter func128,ntmps128
 go_upto_region 29 with fail
 go_cut [] (fun U=>Hid (U.heap[w.heap.size]?=some (.cells #[.slice (some ⟨g,j,none⟩) m (c+1)] 349 (0,0))/\U.heap[g]?=w.heap[g]? /\ ∃p a b d,U.heap[h]?=some (.cells #[.pointer (some ⟨k,0,none⟩),a,b,d,.pointer (some ⟨p,0,none⟩),ov] BT (0,0))/\∀z,AI U h #[.pointer (some ⟨k,0,none⟩),.iface T x,.pointer oe,.nilIface,.pointer (some ⟨p,0,none⟩),ov] z->AS M w s tb mb k J h ⟨0,W,(S.push ⟨f,[],1,S.env⟩).work o S.env⟩ (.returned .nilIface) z))
 case first =>
  rcases c with _ | c
  all_goals
   go_region_with (go_at_call 171;refine(HP _ _ _ _ (by have:=HM.out;omega) (by have:=HM.out;omega) (by intro hh;first | rfl | (exfalso;have:=HM.out;omega))).mono ?_;rintro e w3 ⟨rfl,I⟩)
   all_goals
    go_wp2_with fail
    go_meet
    exact⟨I.1.trans H,I.2⟩
 case rest =>
  have I:=hcut;obtain⟨A,Q,p,a,b,d,F,h4⟩:=I.out;have ad:=h_ h4;have ae:Hid (∀q:World,q.heap[h]?=wc.heap[h]? -> Calls prog 172 #[.pointer (some ⟨h,1,none⟩),.iface T x,.pointer oe] q fun e l=>e=.returned (.tuple #[])/\AI q h #[.pointer (some ⟨k,0,none⟩),.iface T x,.pointer oe,.nilIface,.pointer (some ⟨p,0,none⟩),ov] l):=fun q e1=>HG.out wc q _ _ _ _ F e1;have b0:wc.cell? ⟨w.heap.size,0,none⟩=some (.slice (some ⟨g,j,none⟩) m (c+1)):=aA A 0;have aq:wc.cell? ⟨g,j,none⟩=some (.iface T x):=(World.cell?_of_block (w:=w) Q).trans ac;have ar:h<wc.heap.size:=aB F;clear A Q F h4 I hcut HP HG H;go_wp2_with fail;go_region_with (go_at_call 172;refine(ae _ (by rfl)).mono ?_;rintro e w3 ⟨rfl,af⟩)
  all_goals
   go_wp2_with fail
   go_ret;exact ad.out _ (af.after (r_.drew))
end
end Go.Proofs.YtkgbdddkcjpgfaaGreatDoor
