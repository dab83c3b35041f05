import Derived.Test.YtieooapcfpimlaaGreatDoorL20
namespace Go.Proofs.YtieooapcfpimlaaGreatDoor
set_option maxHeartbeats 4000000
set_option maxRecDepth 100000
open Go.Proofs.Tryz
open Pl (PV PW PS PF CW AE Env)
section
open Go.RowKit Go.Lib Go.Maps
variable {kv ev gv ov fv sl ev':Value} {M:Nat->Prop} {w w2:World} {rb tb mb sb gb:Nat}
theorem iP{s:Sg}{W:PW}{S:PS}{f:PF}{env:Env}{fv':Value}(d:Wd M w s tb mb sb gb W)(c:C0 M w sb rb fv ev gv kv ov)(e:GW M w s kv S.AB)(g:DS M w ov W.out)(h:CP M w s fv' f)(i:CX M w s ev' env)(j:AI w rb #[.pointer (some ⟨sb,0,none⟩),fv',ev',.nilIface,kv,ov] w2){o:Option PF}(b:o=some f):AS M w s tb mb sb gb rb ⟨0,W,S.work o env⟩ (.returned .nilIface) w2:=by subst b;exact eH d c.blk c.JK j (fun a=>⟨h.go a (Sg.Le.refl _),i.go a (Sg.Le.refl _)⟩) (fun a=>e.go a (Sg.Le.refl _)) g
theorem YV{s:Sg}{p:Nat}{cs cs0:Array Value}{fs:List CW}{top:Value}{fr:CW}(c:∀k,M k->k<w.heap.size)(d:w.heap[rb]?=some (.cells cs0 BT (0,0)))(e:M rb)(f:AI w rb cs w2)(g:GW M w s kv fs)(h:FF M w s top fr)(hp:w.heap.size<=p)(a:w2.heap[p]?=some (.cells #[top,kv,.int .i64 ((fs.length+1:Nat):Int)] DQ (0,0))):GW M w2 s (.pointer (some ⟨p,0,none⟩)) (fr::fs):=by have b:=(f.mv d e).AQ;exact⟨p,top,kv,rfl,fun i=>by have:=c p i;omega,a,h.go b (Sg.Le.refl _),g.go b (Sg.Le.refl _)⟩
theorem dL{w1:World}{s:Sg}{p:Nat}{W:PW}{S:PS}{f:PF}{fr:CW}{env:Env}{fv' top:Value}{cs:Array Value}(h:Wd M w s tb mb sb gb W)(b:C0 M w sb rb fv ev gv kv ov)(j:GW M w s kv S.AB)(k:DS M w ov W.out)(l:CP M w s fv' f)(m:CX M w s ev' env)(n:FF M w s top fr)(c:AI w rb cs w1)(hp:w.heap.size<=p)(d:w1.heap[p]?=some (.cells #[top,kv,.int .i64 ((S.AB.length+1:Nat):Int)] DQ (0,0)))
  (a:AI w1 rb #[.pointer (some ⟨sb,0,none⟩),fv',ev',.nilIface,.pointer (some ⟨p,0,none⟩),ov] w2) {o:Option PF} (g:o=some f):AS M w s tb mb sb gb rb ⟨0,W,(S.push fr).work o env⟩ (.returned .nilIface) w2:=by
 subst g;have q:=aB b.blk;have e:=(a.other p (aB d) (by omega)).trans d;exact eH h b.blk b.JK (c.trans a) (fun i=>⟨l.go i (Sg.Le.refl _),m.go i (Sg.Le.refl _)⟩) (fun _=>YV h.CY.mlt b.blk b.JK (c.trans a) j n hp e) k
theorem yF(M:Nat->Prop)(w:World)(s:Sg)(tb mb m E g:Nat)(W:PW)(S:PS)(env:Env)(B:Wd M w s tb mb m E W){ev0 a b c:Value}(p:C0 M w m g fv ev0 gv kv ov)(F:GW M w s kv S.AB)(G:DS M w ov W.out)(r:CX M w s ev env)(y z:PF)(R:∃T x,a=.iface T x)(C:CP M w s b y)(D:CP M w s c z)(v:Value)(q:PV)(n:RV s v q)(o:Option PF)(h:o=if q=.AT false then some z else some y) :Calls prog 291 #[.agg #[a,b,c,ev],.pointer (some ⟨g,0,none⟩),v] w fun e t=>AS M w s tb mb m E g ⟨0,W,S.work o env⟩ e t:=by
 have H:=aB p.blk;have K:=fun t=>n.eqFalse B.NH t;have L:Hid (∀j,Below w.heap.size w (w.alloc j)):=fun j=>b_;have N:Hid (∀j I d f,CP M w s d f->o=some f->AI (w.alloc j) g #[.pointer (some ⟨m,0,none⟩),d,ev,.nilIface,kv,ov] I->AS M w s tb mb m E g ⟨0,W,S.work o env⟩ (.returned .nilIface) I):=fun j I d f J U V=>iP B p F G J r (V.after (L j)) U;have O:Hid (∀u:World,u.heap[g]?=w.heap[g]? -> ∀d,(∃T x,d=.iface T x)->Calls prog 152 #[.pointer (some ⟨g,1,none⟩),d,ev] u fun e t=>e=.returned (.tuple #[])/\AI u g #[.pointer (some ⟨m,0,none⟩),d,ev,.nilIface,kv,ov] t):=fun u J d n=>cU u g _ _ _ _ _ _ d ev (J.trans p.blk) n r.ptr;have P:Hid (∀j,(w.alloc j).drew.heap[g]?=w.heap[g]?):=fun j=>(L j).block g H;have Q:Hid (CP M w s b y/\CP M w s c z):=⟨C,D⟩
 obtain⟨Y,rfl⟩:=r.ptr;obtain⟨T,x,rfl⟩:=n.iface;obtain⟨Z,xa,rfl⟩:=R;obtain⟨Tb,xb,rfl⟩:=C.iface;obtain⟨Tc,xc,rfl⟩:=D.iface;by_cases i:q=.AT false
 ·have A:decide (q=.AT false)=true:=by simpa using i
  rw [A] at K;rw [if_pos i] at h;have k:=h_ h;clear B p F G r C D n i A h;go_enter func291,ntmps291;go_wp2_with fail;go_region_with (go_at_call 152;refine(O _ (P _) _ ⟨_,_,rfl⟩).mono ?_;rintro e X ⟨rfl,l⟩)
  all_goals
   go_wp2_with fail
   go_ret;exact N.out _ _ _ z Q.2 k (l.after (r_.drew))
 ·have A:decide (q=.AT false)=false:=by simpa using i
  rw [A] at K;rw [if_neg i] at h;have k:=h_ h;clear B p F G r C D n i A h;go_enter func291,ntmps291;go_wp2_with fail;go_region_with (go_at_call 152;refine(O _ (P _) _ ⟨_,_,rfl⟩).mono ?_;rintro e X ⟨rfl,l⟩)
  all_goals
   go_wp2_with fail
   go_ret;exact N.out _ _ _ y Q.1 k (l.after (r_.drew))
def VE(w:World)(sb rb:Nat)(us:List Value)(u0:Value)(sl ev kv ov:Value)(n:Nat)(w':World):Prop :=
 (us.length=0/\AI w rb #[.pointer (some ⟨sb,0,none⟩),u0,ev,.nilIface,kv,ov] w') \/
 (us.length≠0/\∃p g off ao c cs w1,w.heap.size<=p/\sl=.slice (some ⟨g,off,none⟩) (us.length+1) c/\ao=some ⟨g,off+1,none⟩/\(∃c',us.length<=c'/\w1.heap[p]?=some (.cells #[.iface 300 (.agg #[.slice ao us.length c',ev]),kv,.int .i64 ((n+1:Nat):Int)] DQ (0,0)))/\AI w rb cs w1/\AI w1 rb #[.pointer (some ⟨sb,0,none⟩),u0,ev,.nilIface,.pointer (some ⟨p,0,none⟩),ov] w')
theorem m6(w:World)(l d:Nat)(H s I D j sl ev J:Value)(us:List Value)(n:Nat)(B:w.heap[d]?=some (.cells #[.pointer (some ⟨l,0,none⟩),H,s,I,D,j] BT (0,0)))(K:DB w sl (J::us))(M:∀a n c,sl=.slice (some a) n c->a.block≠d)(hl:us.length<=2000)(hi:∃T x,J=.iface T x)(hp:∃o,ev=.pointer o)(hk:∃o,D=.pointer o)(N:LI w D n)(O:n<=6500000000000000000) :Calls prog 153 #[.pointer (some ⟨d,0,none⟩),sl,ev] w fun e h=>e=.returned (.tuple #[])/\VE w l d us J sl ev D j n h:=by
 have ab:=aB B;obtain⟨g,i,C,rfl,r,hg,c0,_⟩:=K.cell0;have P:g≠d:=M ⟨g,i,none⟩ _ _ rfl;obtain⟨T,x,rfl⟩:=hi;obtain⟨k,rfl⟩:=hp;obtain⟨E,rfl⟩:=hk;have Q:Hid (∀(f:World)(R:Value) S,f.heap[d]?=some (.cells S BT (0,0))->(∃a b c,S=#[.pointer (some ⟨l,0,none⟩),a,b,c,R,j])->Calls prog 152 #[.pointer (some ⟨d,1,none⟩),.iface T x,.pointer k] f fun e h=>e=.returned (.tuple #[])/\AI f d #[.pointer (some ⟨l,0,none⟩),.iface T x,.pointer k,.nilIface,R,j] h):=fun f R S q ⟨a,b,c,z⟩=>by subst z;exact cU f d _ _ _ _ _ _ _ _ q ⟨_,_,rfl⟩ ⟨_,rfl⟩
 have HP:Hid (∀(U:Option Addr)(L c:Nat),L=us.length->us.length<=c->U=some ⟨g,i+1,none⟩->Calls prog 151 #[.pointer (some ⟨d,1,none⟩),.iface 300 (.agg #[.slice U L c,.pointer k])] w.drew fun e h=>e=.returned (.tuple #[])/\Hid (∃p t,us.length<=t/\w.heap.size<=p/\h.heap[p]?=some (.cells #[.iface 300 (.agg #[.slice (some ⟨g,i+1,none⟩) us.length t,.pointer k]),.pointer E,.int .i64 ((n+1:Nat):Int)] DQ (0,0))/\AI w d #[.pointer (some ⟨l,0,none⟩),H,s,I,.pointer (some ⟨p,0,none⟩),j] h)):=fun U L c q z A=>by subst q A;exact(kS w.drew d _ _ _ _ _ j _ n B ⟨_,_,rfl⟩ ⟨_,rfl⟩ (N.below (r_.drew)) O).mono (fun e h ⟨q,p,V,A,u⟩=>⟨q,p,c,z,V,A,u.after (r_.drew)⟩)
 have W:Hid (∃m,us.length+1=m):=⟨_,rfl⟩
 obtain⟨m,X⟩:=W.out;unfold VE;rw [X] at r ⊢;by_cases F:us.length=0
 ·have Y:decide ((1:Int)<(m:Int))=false:=by simp;omega
  have Z:=h_ F;have aa:(0:Int)<(m:Int):=by omega
  have v:Hid (∀f:World,f.heap[d]?=w.heap[d]? -> Calls prog 152 #[.pointer (some ⟨d,1,none⟩),.iface T x,.pointer k] f fun e h=>e=.returned (.tuple #[])/\AI f d #[.pointer (some ⟨l,0,none⟩),.iface T x,.pointer k,.nilIface,.pointer E,j] h):=fun f q=>Q.out f _ _ (q.trans B) ⟨_,_,_,rfl⟩;clear K N B F HP W Q;go_enter func153,ntmps153;go_wp2_with fail;go_region_with (go_at_call 152;refine(v _ (by rfl)).mono ?_;rintro e w3 ⟨rfl,y⟩)
  all_goals
   go_wp2_with fail
   go_end0
   exact⟨rfl,.inl ⟨Z,y.after (r_.drew)⟩⟩
 ·have Y:decide ((1:Int)<(m:Int))=true:=by simp;omega
  have Z:=h_ F;have aa:(0:Int)<(m:Int):=by omega
  have ac:(1:Int)<=(m:Int):=by omega
  obtain⟨c,rfl⟩:∃c,C=c+2:=⟨C-2,by omega⟩
  have HC:=h_ r;clear K N B F W;go_enter func153,ntmps153
  go_upto_region 1 with fail
  go_cut [] (fun wx=>Hid (∃p t,us.length<=t/\w.heap.size<=p/\wx.heap[p]?=some (.cells #[.iface 300 (.agg #[.slice (some ⟨g,i+1,none⟩) us.length t,.pointer k]),.pointer E,.int .i64 ((n+1:Nat):Int)] DQ (0,0))/\AI w d #[.pointer (some ⟨l,0,none⟩),H,s,I,.pointer (some ⟨p,0,none⟩),j] wx))
  case first =>
   go_region_with (go_at_call 151;refine(HP _ _ _ (by omega) (by have:=HC.out;omega) rfl).mono ?_;rintro e w3 ⟨rfl,G⟩)
   all_goals
    go_wp2_with fail
    go_meet
    exact G
  case rest =>
   have G:=hcut;obtain⟨p,t,q,z,A,u⟩:=G.out;have ad:wc.cell? ⟨g,i,none⟩=some (.iface T x):=(World.cell?_of_block (w:=w) (u.other g hg P)).trans c0;have HX:Hid (∀h,AI wc d #[.pointer (some ⟨l,0,none⟩),.iface T x,.pointer k,.nilIface,.pointer (some ⟨p,0,none⟩),j] h->_):=fun h hc=>(Or.inr ⟨Z,p,g,i,_,c+2,_,wc,z,by rw [X],rfl,⟨t,q,A⟩,u,hc⟩:VE w l d us (.iface T x) (.slice (some ⟨g,i,none⟩) (us.length+1) (c+2)) (.pointer k) (.pointer E) j n h)
   have v:Hid (∀f:World,f.heap[d]?=wc.heap[d]? -> Calls prog 152 #[.pointer (some ⟨d,1,none⟩),.iface T x,.pointer k] f fun e h=>e=.returned (.tuple #[])/\AI f d #[.pointer (some ⟨l,0,none⟩),.iface T x,.pointer k,.nilIface,.pointer (some ⟨p,0,none⟩),j] h):=fun f e1=>Q.out f _ _ (e1.trans u.blk) ⟨_,_,_,rfl⟩;have ae:d<wc.heap.size:=aB u.blk;clear q z A u G hcut;go_wp2_with fail;go_region_with (go_at_call 152;refine(v _ (by rfl)).mono ?_;rintro e w3 ⟨rfl,y⟩)
   all_goals
    go_wp2_with fail
    go_end0
    have:=HX.out _ (y.after (r_.drew));unfold VE at this;rw [X] at this;exact⟨rfl,this⟩
theorem Tryz.LU(v:Value)(w:World):(Instr.typeAssert (.iface 157 v) 76 157 true).run prog w=.ok (.tuple #[v,.bool true]) w:=by kernel_rfl
theorem Tryz.RJ(v:Value)(w:World):(Instr.typeAssert (.iface 148 v) 76 148 true).run prog w=.ok (.tuple #[v,.bool true]) w:=by kernel_rfl
theorem Tryz.JA(v:Value)(w:World):(Instr.typeAssert (.iface 148 v) 76 157 true).run prog w=.ok (.tuple #[.agg #[.nilIface,.bool false],.bool false]) w:=by kernel_rfl
theorem Tryz.N7(v:Value)(w:World):(Instr.typeAssert (.iface 210 v) 76 210 true).run prog w=.ok (.tuple #[v,.bool true]) w:=by kernel_rfl
theorem Tryz.IP(v:Value)(w:World):(Instr.typeAssert (.iface 210 v) 76 157 true).run prog w=.ok (.tuple #[.agg #[.nilIface,.bool false],.bool false]) w:=by kernel_rfl
theorem Tryz.KH(v:Value)(w:World):(Instr.typeAssert (.iface 210 v) 76 148 true).run prog w=.ok (.tuple #[.agg #[.string ⟨#[]⟩,.int .i64 0],.bool false]) w:=by kernel_rfl
theorem Tryz.YT(v:Value)(w:World):(Instr.typeAssert (.iface 202 v) 76 202 true).run prog w=.ok (.tuple #[v,.bool true]) w:=by kernel_rfl
theorem Tryz.KI(v:Value)(w:World):(Instr.typeAssert (.iface 202 v) 76 157 true).run prog w=.ok (.tuple #[.agg #[.nilIface,.bool false],.bool false]) w:=by kernel_rfl
theorem Tryz.H3(v:Value)(w:World):(Instr.typeAssert (.iface 202 v) 76 148 true).run prog w=.ok (.tuple #[.agg #[.string ⟨#[]⟩,.int .i64 0],.bool false]) w:=by kernel_rfl
theorem Tryz.LV(v:Value)(w:World):(Instr.typeAssert (.iface 202 v) 76 210 true).run prog w=.ok (.tuple #[.agg #[.slice none 0 0,.nilIface],.bool false]) w:=by kernel_rfl
theorem Tryz.UH(v:Value)(w:World):(Instr.typeAssert (.iface 205 v) 76 205 true).run prog w=.ok (.tuple #[v,.bool true]) w:=by kernel_rfl
theorem Tryz.JV(v:Value)(w:World):(Instr.typeAssert (.iface 205 v) 76 157 true).run prog w=.ok (.tuple #[.agg #[.nilIface,.bool false],.bool false]) w:=by kernel_rfl
theorem Tryz.MV(v:Value)(w:World):(Instr.typeAssert (.iface 205 v) 76 148 true).run prog w=.ok (.tuple #[.agg #[.string ⟨#[]⟩,.int .i64 0],.bool false]) w:=by kernel_rfl
theorem Tryz.K5(v:Value)(w:World):(Instr.typeAssert (.iface 205 v) 76 210 true).run prog w=.ok (.tuple #[.agg #[.slice none 0 0,.nilIface],.bool false]) w:=by kernel_rfl
theorem Tryz.PY(v:Value)(w:World):(Instr.typeAssert (.iface 205 v) 76 202 true).run prog w=.ok (.tuple #[.agg #[.nilIface,.nilIface,.nilIface],.bool false]) w:=by kernel_rfl
theorem Tryz.N8(v:Value)(w:World):(Instr.typeAssert (.iface 152 v) 76 152 true).run prog w=.ok (.tuple #[v,.bool true]) w:=by kernel_rfl
theorem Tryz.IQ(v:Value)(w:World):(Instr.typeAssert (.iface 152 v) 76 157 true).run prog w=.ok (.tuple #[.agg #[.nilIface,.bool false],.bool false]) w:=by kernel_rfl
theorem Tryz.KJ(v:Value)(w:World):(Instr.typeAssert (.iface 152 v) 76 148 true).run prog w=.ok (.tuple #[.agg #[.string ⟨#[]⟩,.int .i64 0],.bool false]) w:=by kernel_rfl
theorem Tryz.JB(v:Value)(w:World):(Instr.typeAssert (.iface 152 v) 76 210 true).run prog w=.ok (.tuple #[.agg #[.slice none 0 0,.nilIface],.bool false]) w:=by kernel_rfl
theorem Tryz.LW(v:Value)(w:World):(Instr.typeAssert (.iface 152 v) 76 202 true).run prog w=.ok (.tuple #[.agg #[.nilIface,.nilIface,.nilIface],.bool false]) w:=by kernel_rfl
theorem Tryz.K6(v:Value)(w:World):(Instr.typeAssert (.iface 152 v) 76 205 true).run prog w=.ok (.tuple #[.agg #[.string ⟨#[]⟩,.int .i64 0,.nilIface],.bool false]) w:=by kernel_rfl
theorem Tryz.PX(v:Value)(w:World):(Instr.typeAssert (.iface 204 v) 76 204 true).run prog w=.ok (.tuple #[v,.bool true]) w:=by kernel_rfl
theorem Tryz.I1(v:Value)(w:World):(Instr.typeAssert (.iface 204 v) 76 157 true).run prog w=.ok (.tuple #[.agg #[.nilIface,.bool false],.bool false]) w:=by kernel_rfl
theorem Tryz.K8(v:Value)(w:World):(Instr.typeAssert (.iface 204 v) 76 148 true).run prog w=.ok (.tuple #[.agg #[.string ⟨#[]⟩,.int .i64 0],.bool false]) w:=by kernel_rfl
theorem Tryz.JW(v:Value)(w:World):(Instr.typeAssert (.iface 204 v) 76 210 true).run prog w=.ok (.tuple #[.agg #[.slice none 0 0,.nilIface],.bool false]) w:=by kernel_rfl
theorem Tryz.MX(v:Value)(w:World):(Instr.typeAssert (.iface 204 v) 76 202 true).run prog w=.ok (.tuple #[.agg #[.nilIface,.nilIface,.nilIface],.bool false]) w:=by kernel_rfl
theorem Tryz.LY(v:Value)(w:World):(Instr.typeAssert (.iface 204 v) 76 205 true).run prog w=.ok (.tuple #[.agg #[.string ⟨#[]⟩,.int .i64 0,.nilIface],.bool false]) w:=by kernel_rfl
theorem Tryz.JX(v:Value)(w:World):(Instr.typeAssert (.iface 204 v) 76 152 true).run prog w=.ok (.tuple #[.agg #[.string ⟨#[]⟩,.int .i64 0,.nilIface],.bool false]) w:=by kernel_rfl
theorem Tryz.RK(v:Value)(w:World):(Instr.typeAssert (.iface 211 v) 76 211 true).run prog w=.ok (.tuple #[v,.bool true]) w:=by kernel_rfl
theorem Tryz.JC(v:Value)(w:World):(Instr.typeAssert (.iface 211 v) 76 157 true).run prog w=.ok (.tuple #[.agg #[.nilIface,.bool false],.bool false]) w:=by kernel_rfl
theorem Tryz.LX(v:Value)(w:World):(Instr.typeAssert (.iface 211 v) 76 148 true).run prog w=.ok (.tuple #[.agg #[.string ⟨#[]⟩,.int .i64 0],.bool false]) w:=by kernel_rfl
theorem Tryz.KL(v:Value)(w:World):(Instr.typeAssert (.iface 211 v) 76 210 true).run prog w=.ok (.tuple #[.agg #[.slice none 0 0,.nilIface],.bool false]) w:=by kernel_rfl
theorem Tryz.OC(v:Value)(w:World):(Instr.typeAssert (.iface 211 v) 76 202 true).run prog w=.ok (.tuple #[.agg #[.nilIface,.nilIface,.nilIface],.bool false]) w:=by kernel_rfl
theorem Tryz.MW(v:Value)(w:World):(Instr.typeAssert (.iface 211 v) 76 205 true).run prog w=.ok (.tuple #[.agg #[.string ⟨#[]⟩,.int .i64 0,.nilIface],.bool false]) w:=by kernel_rfl
theorem Tryz.KM(v:Value)(w:World):(Instr.typeAssert (.iface 211 v) 76 152 true).run prog w=.ok (.tuple #[.agg #[.string ⟨#[]⟩,.int .i64 0,.nilIface],.bool false]) w:=by kernel_rfl
theorem Tryz.K7(v:Value)(w:World):(Instr.typeAssert (.iface 211 v) 76 204 true).run prog w=.ok (.tuple #[.agg #[.slice none 0 0],.bool false]) w:=by kernel_rfl
theorem uM(M:Nat->Prop)(w:World)(s:Sg)(tb mb f i a:Nat)(W:PW)(S:PS)(r:Wd M w s tb mb f i W){v:Value}{b:Bool}{q:PV}(d:C0 M w f a (.iface 157 (.agg #[v,.bool b])) ev gv kv ov)(z:∃o,ev=.pointer o)(t:GW M w s kv S.AB)(u:DS M w ov W.out)(h:RV s v q) :Calls prog 147 #[.pointer (some ⟨a,0,none⟩)] w fun e j=>AS M w s tb mb f i a ⟨0,W,S.A1 q⟩ e j:=by
 generalize k:Value.iface 157 (.agg #[v,.bool b])=l at d;have m:=aB d.blk;have G:w.cell? ⟨a,1,none⟩=some l:=aA d.blk 1;have H:w.cell? ⟨a,2,none⟩=some ev:=aA d.blk 2;have y:Hid (∀c,Below w.heap.size w (w.alloc c)):=fun c=>b_;have A:Hid (∀c,(w.alloc c).drew.heap[a]?=w.heap[a]?):=fun c=>(y c).block a m;subst k;have I:=Tryz.LU;have B:Hid (∀c n,AI (w.alloc c) a #[.pointer (some ⟨f,0,none⟩),.nilIface,.pointer none,v,kv,ov] n->AS M w s tb mb f i a ⟨0,W,S.A1 q⟩ (.returned .nilIface) n):=fun c n C=>eH r d.blk d.JK (C.after (y c)) (fun _=>eX h) (fun D=>t.go D (Sg.Le.refl _)) u;have E:Hid (∀g:World,g.heap[a]?=w.heap[a]? -> Calls prog 149 #[.pointer (some ⟨a,1,none⟩),v] g fun e j=>e=.returned (.tuple #[])/\AI g a #[.pointer (some ⟨f,0,none⟩),.nilIface,.pointer none,v,kv,ov] j):=fun g F=>jF g a _ _ _ _ _ _ v (F.trans d.blk) h.iface;obtain⟨J,rfl⟩:=z;obtain⟨T,x,rfl⟩:=h.iface;clear r d t u h;go_enter func147,ntmps147;go_wp2_with fail;go_region_with (go_at_call 149;refine(E _ (A _)).mono ?_;rintro e K ⟨rfl,p⟩)
 all_goals
  go_wp2_with fail
  go_ret;exact B.out _ _ (p.after (r_.drew))
theorem yC(M:Nat->Prop)(w:World)(s:Sg)(tb mb f i b:Nat)(W:PW)(S:PS)(o:Wd M w s tb mb f i W)(p:CT s)(nm:AE)(k:Nat)(c:C0 M w f b (.iface 148 (.agg #[.string ⟨nm.toArray⟩,.int .i64 (k:Int)])) ev gv kv ov)(l:CX M w s ev S.env)(q:GW M w s kv S.AB)(r:DS M w ov W.out)(t:s.ns[k]?=some nm)(u:nm.length<=1000) :Calls prog 147 #[.pointer (some ⟨b,0,none⟩)] w fun e j=>AS M w s tb mb f i b (gD W S nm) e j:=by
 generalize m:Value.iface 148 (.agg #[.string ⟨nm.toArray⟩,.int .i64 (k:Int)])=n at c;have g:=aB c.blk;have A:w.cell? ⟨b,1,none⟩=some n:=aA c.blk 1;have B:w.cell? ⟨b,2,none⟩=some ev:=aA c.blk 2;have d:Hid (∀a,Below w.heap.size w (w.alloc a)):=fun a=>b_;have C:Hid (∀a,(w.alloc a).drew.heap[b]?=w.heap[b]?):=fun a=>(d a).block b g;subst m;have D:=Tryz.RJ;have v:=Tryz.JA
 have y:Hid (∀a,Calls prog 150 #[.pointer (some ⟨b,0,none⟩),.agg #[.string ⟨nm.toArray⟩,.int .i64 (k:Int)]] (w.alloc a) fun e j=>∃x,e=.returned x/\Hid (AS M w s tb mb f i b (gD W S nm) (.returned x) j)):=fun a =>
  (yS M _ s tb mb f i b W S (o.mv (Mv.below (d a))) p ⟨((d a).block b g).trans c.blk,c.JK⟩ (l.go (Stp.AA (d a)) (Sg.Le.refl _)) (q.go (Stp.AA (d a)) (Sg.Le.refl _)) (r.below (d a)) nm k t u).mono (fun e j h=>by
   obtain⟨x,rfl⟩:=h.one
   exact⟨x,rfl,h.after (Stp.AA (d a))⟩)
 obtain⟨E,rfl⟩:=l.ptr;clear o c q r l p t;go_enter func147,ntmps147;go_wp2_with (go_at_call 150;refine(y _).mono ?_;rintro e F ⟨x,rfl,z⟩);go_ret;exact z
theorem E3.cons{s:Sg}{fs:List PF}(h:E3 M w s sl fs){d:PF}{rest:List PF}(e:fs=d::rest):∃c a,Sl M w D8 1 sl (a.length+1) (c::a)/\CP M w s c d/\BY (CP M w s) a rest:=by
 subst e;obtain⟨a,f,b⟩:=h
 match a,f,b with
 | [],_,b=>have:=b.1;simp at this
 | c::a,f,b=>exact⟨c,a,f,b.2 0 c d rfl rfl,by have:=b.drop 1;simpa using this⟩
theorem Sl.ne{T:TypeId}{n:Nat}{xs:List Value}(h:Sl M w T 1 sl (n+1) xs)(d:M rb):∀a m c,sl=.slice (some a) m c->a.block≠rb:=by
 intro a m c e;obtain⟨_,r,f,i,_,b⟩:=h;rw [i] at e;simp only [Value.slice.injEq] at e;rcases b with b | ⟨g,j,k,l,o,_⟩
 ·omega
 ·rw [l] at e;have:=e.1;simp only [o_] at this;subst this;intro p;exact o (by have q:g=rb:=p;rw [q];exact d)
theorem Sl.rest{T:TypeId}{g off c L:Nat}{u:Value}{us:List Value}(h:Sl M w T 1 (.slice (some ⟨g,off,none⟩) L c) (us.length+1) (u::us))(a:Option Addr)(b:Nat)(d:us.length<=b)(e:us.length≠0->a=some ⟨g,off+1,none⟩):Sl M w T 1 (.slice a us.length b) us.length us:=Sl.J4 h us.length rfl a b d e
theorem pX{s:Sg}{W:PW}{S:PS}{n:PF}{rest:List PF}{fr:CW}{env:Env}{u0:Value}{us:List Value}(q:Wd M w s tb mb sb gb W)(r:C0 M w sb rb fv ev gv kv ov)(t:GW M w s kv S.AB)(u:DS M w ov W.out)(y:Sl M w D8 1 sl (us.length+1) (u0::us))(v:CP M w s u0 n)(b:BY (CP M w s) us rest)(d:CX M w s ev' env)
  (z:fr.form.k=.begin) (e:fr.form.ks.drop fr.pos=rest) (f:fr.env=env) (A:VE w sb rb us u0 sl ev' kv ov S.AB.length w2) {o:Option PF} (a:o=some n) (S':PS) (h:S'=if 0<rest.length then S.push fr else S):AS M w s tb mb sb gb rb ⟨0,W,S'.work o env⟩ (.returned .nilIface) w2:=by
 subst h;rcases A with⟨x,B⟩ | ⟨x,p,g,C,D,c,G,H,E,rfl,i,⟨F,j,k⟩,l,m⟩
 ·rw [if_neg (by rw [<- b.1,x];decide)];exact iP q r t u v d B a
 ·rw [if_pos (by rw [<- b.1];omega)];subst f;exact dL q r t u v d (.begin _ ev' fr z (by rw [e];exact⟨us,y.rest D F j (fun _=>i),b⟩) d) l E k m a
theorem oT(M:Nat->Prop)(w:World)(s:Sg)(tb mb h r b:Nat)(W:PW)(S:PS)(z:Wd M w s tb mb h r W)(t:S.AB.length<=6500000000000000000){ev0 rv:Value}(g:C0 M w h b fv ev0 gv kv ov)(n:GW M w s kv S.AB)(A:DS M w ov W.out)(fr:CW)(p:CX M w s ev fr.env)(B:fr.form.k=.begin)(C:PF)(rest:List PF)(d:fr.form.ks.drop fr.pos=C::rest)(i:E3 M w s rv (fr.form.ks.drop fr.pos))(j:rest.length<=2000)(v:Value)(E:∃T x,v=.iface T x)(S':PS)(k:S'=if 0<rest.length then S.push {fr with B8:=[],pos:=fr.pos+1} else S)(o:Option PF)(l:o=some C) :Calls prog 302 #[.agg #[rv,ev],.pointer (some ⟨b,0,none⟩),v] w fun e q=>AS M w s tb mb h r b ⟨0,W,S'.work o fr.env⟩ e q:=by
 obtain⟨F,G,a,u,y⟩:=i.cons d;have m:=aB g.blk;have f:Below w.heap.size w (w.alloc (.cells #[rv,ev] 300)):=b_;have c:Stp M w M (w.alloc (.cells #[rv,ev] 300)):=Stp.AA f
 have D:fr.form.ks.drop (fr.pos+1)=rest:=by
  have:(fr.form.ks.drop fr.pos).drop 1=rest:=by rw [d];rfl
  rw [List.drop_drop] at this;exact this
 have H:Hid (Calls prog 153 #[.pointer (some ⟨b,0,none⟩),rv,ev] (w.alloc (.cells #[rv,ev] 300)) fun e q=>e=.returned (.tuple #[])/\Hid (AS M w s tb mb h r b ⟨0,W,S'.work o fr.env⟩ (.returned .nilIface) q)):=show Calls _ _ _ _ _ from
  (m6 _ h b fv ev0 gv kv ov rv ev F G S.AB.length ((f.block b m).trans g.blk) (Sl.C7 (a.AQ c)) (a.ne g.JK) (by rw [y.1];exact j) u.iface p.ptr n.ptr (n.J7.below f) t).mono (fun e q ⟨I,J⟩=>⟨I,
   (pX (fr:={fr with B8:=[],pos:=fr.pos+1}) (z.mv (Mv.below f)) ⟨(f.block b m).trans g.blk,g.JK⟩ (n.go c (Sg.Le.refl _)) (A.below f) (a.AQ c) (u.go c (Sg.Le.refl _)) (y.mono (fun _ _ x=>x.go c (Sg.Le.refl _))) (p.go c (Sg.Le.refl _)) B D rfl J l S' k).after c⟩)
 obtain⟨N,rfl⟩:=p.ptr;obtain⟨_,O,K,rfl,_⟩:=a;obtain⟨T,x,rfl⟩:=E;clear z g n A p i u y f c D k l d B;go_enter func302,ntmps302;go_wp2_with (go_at_call 153;refine Calls.mono H ?_;rintro e P ⟨rfl,L⟩);go_ret;exact L
theorem uN(M:Nat->Prop)(w:World)(s:Sg)(tb mb k v a:Nat)(W:PW)(S:PS)(C:Wd M w s tb mb k v W)(y:S.AB.length<=6500000000000000000)(f:PF)(c:C0 M w k a (.iface 204 (.agg #[sl])) ev gv kv ov)(r:CX M w s ev S.env)(t:GW M w s kv S.AB)(D:DS M w ov W.out)(E:f.k=.begin)(F:PF)(rest:List PF)(g:f.ks=F::rest)(l:E3 M w s sl f.ks)(m:rest.length<=2000)(S':PS)(n:S'=if 0<rest.length then S.push ⟨f,[],1,S.env⟩ else S)(o:Option PF)(p:o=some F) :Calls prog 147 #[.pointer (some ⟨a,0,none⟩)] w fun e u=>AS M w s tb mb k v a ⟨0,W,S'.work o S.env⟩ e u:=by
 generalize z:Value.iface 204 (.agg #[sl])=q at c;have h:=aB c.blk;have Y:w.cell? ⟨a,1,none⟩=some q:=aA c.blk 1;have Z:w.cell? ⟨a,2,none⟩=some ev:=aA c.blk 2;have G:Hid (∀b,Below w.heap.size w (w.alloc b)):=fun b=>b_;have HK:Hid (∀b,(w.alloc b).drew.heap[a]?=w.heap[a]?):=fun b=>(G b).block a h;obtain⟨I,J,d,A,B⟩:=l.cons g;have H:f.ks.drop 1=rest:=by rw [g];rfl
 have K:Hid (∀b,Calls prog 153 #[.pointer (some ⟨a,0,none⟩),sl,ev] (w.alloc b) fun e u=>e=.returned (.tuple #[])/\Hid (AS M w s tb mb k v a ⟨0,W,S'.work o S.env⟩ (.returned .nilIface) u)):=fun b=>by
  have j:=G.out b;have i:Stp M w M (w.alloc b):=Stp.AA j
  exact(m6 _ k a q ev gv kv ov sl ev I J S.AB.length ((j.block a h).trans c.blk) (Sl.C7 (d.AQ i)) (d.ne c.JK) (by rw [B.1];exact m) A.iface r.ptr t.ptr (t.J7.below j) y).mono (fun e u ⟨L,N⟩=>⟨L,
   (pX (fr:=⟨f,[],1,S.env⟩) (C.mv (Mv.below j)) ⟨(j.block a h).trans c.blk,c.JK⟩ (t.go i (Sg.Le.refl _)) (D.below j) (d.AQ i) (A.go i (Sg.Le.refl _)) (B.mono (fun _ _ x=>x.go i (Sg.Le.refl _))) (r.go i (Sg.Le.refl _)) E H rfl N p S' n).after i⟩)
 subst z;have fy:=Tryz.PX;have O:=Tryz.I1;have P:=Tryz.K8;have Q:=Tryz.JW;have R:=Tryz.MX;have T:=Tryz.LY;have U:=Tryz.JX;obtain⟨oe,rfl⟩:=r.ptr;obtain⟨_,ao,V,rfl,_⟩:=d;clear C c t D r l A B H n p g E;go_enter func147,ntmps147;go_wp2_with (go_at_call 153;refine(K _).mono ?_;rintro e w3 ⟨rfl,X⟩);go_ret;exact X
theorem yD(M:Nat->Prop)(w:World)(s:Sg)(tb mb k J h:Nat)(W:PW)(S:PS)(hW:Wd M w s tb mb k J W)(V:S.AB.length<=6500000000000000000)(f:PF)(t:C0 M w k h (.iface 211 (.agg #[sl])) ev gv kv ov)(B:CX M w s ev S.env)(K:GW M w s kv S.AB)(ho:DS M w ov W.out)(hk:f.k=.call)(f0:PF)(rest:List PF)(v:f.ks=f0::rest)(C:E3 M w s sl f.ks)(o:Option PF)(D:o=some f0) :Calls prog 147 #[.pointer (some ⟨h,0,none⟩)] w fun e l=>AS M w s tb mb k J h ⟨0,W,(S.push ⟨f,[],1,S.env⟩).work o S.env⟩ e l:=by
 generalize X:Value.iface 211 (.agg #[sl])=Y at t;have Z:=aB t.blk;have e1:w.cell? ⟨h,1,none⟩=some Y:=aA t.blk 1;have e2:w.cell? ⟨h,2,none⟩=some ev:=aA t.blk 2;have E:Hid (∀i,Below w.heap.size w (w.alloc i)):=fun i=>b_;have HK:Hid (∀i,(w.alloc i).drew.heap[h]?=w.heap[h]?):=fun i=>(E i).block h Z;obtain⟨N,y,r,O,hA⟩:=C.cons v;have hd:f.ks.drop 1=rest:=by rw [v];rfl
 obtain⟨g,j,n,rfl,u,hg,c0,_⟩:=(Sl.C7 r).cell0;have aa:g≠h:=r.ne t.JK ⟨g,j,none⟩ _ _ rfl
 have HP:Hid (∀i (P:Option Addr) (L c:Nat),L=y.length->y.length<=c->(y.length≠0->P=some ⟨g,j+1,none⟩)->Calls prog 151 #[.pointer (some ⟨h,1,none⟩),.iface 295 (.agg #[.slice none 0 0,.slice P L c,ev])] (w.alloc i).drew fun e l=>e=.returned (.tuple #[])/\Hid (l.heap[w.heap.size]?=(w.alloc i).heap[w.heap.size]? /\ l.heap[g]?=w.heap[g]? /\ ∃p a b d,l.heap[h]?=some (.cells #[.pointer (some ⟨k,0,none⟩),a,b,d,.pointer (some ⟨p,0,none⟩),ov] BT (0,0))/\∀z,AI l h #[.pointer (some ⟨k,0,none⟩),N,ev,.nilIface,.pointer (some ⟨p,0,none⟩),ov] z->AS M w s tb mb k J h ⟨0,W,(S.push ⟨f,[],1,S.env⟩).work o S.env⟩ (.returned .nilIface) z)):=fun i P L c A Q F=>by
  subst A
  exact(kS (w.alloc i).drew h _ _ _ _ kv ov _ S.AB.length ((HK i).trans t.blk) ⟨_,_,rfl⟩ K.ptr (K.J7.below (E i).drew) V).mono (fun e l ⟨G,p,k2,k3,R⟩=>⟨G,R.other _ (by simp) (by omega),(R.after (E i).drew).other g hg aa,p,_,_,_,R.blk,fun z hc =>
   dL hW t K ho O B (.call (.slice none 0 0) _ ev ⟨f,[],1,S.env⟩ hk ⟨[],⟨rfl,none,0,rfl,n_,.inl rfl⟩,BY.nil _⟩ (by show E3 _ _ _ _ (f.ks.drop 1);rw [hd];exact⟨y,r.rest P c Q F,hA⟩) B) (R.after (E i).drew) (t_ (E i).size k2) k3 hc D⟩)
 have HG:Hid (∀(w0 q:World) c1 c2 c3 G,w0.heap[h]?=some (.cells #[.pointer (some ⟨k,0,none⟩),c1,c2,c3,G,ov] BT (0,0))->q.heap[h]?=w0.heap[h]? -> Calls prog 152 #[.pointer (some ⟨h,1,none⟩),N,ev] q fun e l=>e=.returned (.tuple #[])/\AI q h #[.pointer (some ⟨k,0,none⟩),N,ev,.nilIface,G,ov] l):=fun w0 q c1 c2 c3 G ab A=>cU q h _ _ _ _ _ _ N ev (A.trans ab) O.iface B.ptr;subst X;have fy:=Tryz.RK;have ag:=Tryz.JC;have ah:=Tryz.LX;have ai:=Tryz.KL;have aj:=Tryz.OC;have ak:=Tryz.MW;have al:=Tryz.KM;have am:=Tryz.K7;obtain⟨oe,rfl⟩:=B.ptr;obtain⟨T,x,rfl⟩:=O.iface;obtain⟨m,hm⟩:∃m,y.length+1=m:=⟨_,rfl⟩
 rw [hm] at e1 u;have an:(0:Int)<(m:Int):=by omega
 have ap:(1:Int)<=(m:Int):=by omega
 have H:Hid ((w.alloc (.cells #[.slice (some ⟨g,j,none⟩) m n] 211)).heap[w.heap.size]?=some (.cells #[.slice (some ⟨g,j,none⟩) m n] 211 (0,0))):=heap_alloc_new w _;have ac:=h_ c0;have HM:Hid (y.length+1=m/\m<=n):=⟨hm,u⟩
 clear hW t K ho B C O hA hd D v hk r;obtain⟨c,rfl⟩:∃c,n=c+1:=⟨n-1,by omega⟩
 go_enter func147,ntmps147
 go_upto_region 29 with fail
 go_cut [] (fun U=>Hid (U.heap[w.heap.size]?=some (.cells #[.slice (some ⟨g,j,none⟩) m (c+1)] 211 (0,0))/\U.heap[g]?=w.heap[g]? /\ ∃p a b d,U.heap[h]?=some (.cells #[.pointer (some ⟨k,0,none⟩),a,b,d,.pointer (some ⟨p,0,none⟩),ov] BT (0,0))/\∀z,AI U h #[.pointer (some ⟨k,0,none⟩),.iface T x,.pointer oe,.nilIface,.pointer (some ⟨p,0,none⟩),ov] z->AS M w s tb mb k J h ⟨0,W,(S.push ⟨f,[],1,S.env⟩).work o S.env⟩ (.returned .nilIface) z))
 case first =>
  rcases c with _ | c
  all_goals
   go_region_with (go_at_call 151;refine(HP _ _ _ _ (by have:=HM.out;omega) (by have:=HM.out;omega) (by intro hh;first | rfl | (exfalso;have:=HM.out;omega))).mono ?_;rintro e w3 ⟨rfl,I⟩)
   all_goals
    go_wp2_with fail
    go_meet
    exact⟨I.1.trans H,I.2⟩
 case rest =>
  have I:=hcut;obtain⟨A,Q,p,a,b,d,F,h4⟩:=I.out;have ad:=h_ h4;have ae:Hid (∀q:World,q.heap[h]?=wc.heap[h]? -> Calls prog 152 #[.pointer (some ⟨h,1,none⟩),.iface T x,.pointer oe] q fun e l=>e=.returned (.tuple #[])/\AI q h #[.pointer (some ⟨k,0,none⟩),.iface T x,.pointer oe,.nilIface,.pointer (some ⟨p,0,none⟩),ov] l):=fun q e1=>HG.out wc q _ _ _ _ F e1;have b0:wc.cell? ⟨w.heap.size,0,none⟩=some (.slice (some ⟨g,j,none⟩) m (c+1)):=aA A 0;have aq:wc.cell? ⟨g,j,none⟩=some (.iface T x):=(World.cell?_of_block (w:=w) Q).trans ac;have ar:h<wc.heap.size:=aB F;clear A Q F h4 I hcut HP HG H;go_wp2_with fail;go_region_with (go_at_call 152;refine(ae _ (by rfl)).mono ?_;rintro e w3 ⟨rfl,af⟩)
  all_goals
   go_wp2_with fail
   go_ret;exact ad.out _ (af.after (r_.drew))
end
end Go.Proofs.YtieooapcfpimlaaGreatDoor
