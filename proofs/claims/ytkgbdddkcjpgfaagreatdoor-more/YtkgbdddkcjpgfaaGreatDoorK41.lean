import Derived.Test.YtkgbdddkcjpgfaaGreatDoorK39
import Derived.Test.YtkgbdddkcjpgfaaGreatDoorK40
namespace Go.Proofs.YtkgbdddkcjpgfaaGreatDoor
set_option maxHeartbeats 4000000
set_option maxRecDepth 100000
open Go.Proofs.Tryz
open Pl (PV PW PS PF PFr SR Env)
section
open Go.RowKit Go.Lib Go.Maps
variable {M:Nat->Prop} {w:World} {ev gv kv ov sl fv:Value} {us:List Value} {rb tb mb sb gb:Nat}
theorem FmsAt.cons{s:Sg}{fs:List PF}(h:FmsAt M w s sl fs){f0:PF}{rest:List PF}(e:fs=f0::rest):∃u0 us,Sl M w TForm 1 sl (us.length+1) (u0::us)/\RFm M w s u0 f0/\All2 (RFm M w s) us rest:=by
 subst e;obtain⟨us,h1,h2⟩:=h
 match us,h1,h2 with
 | [],_,h2=>have:=h2.1;simp at this
 | u0::us,h1,h2=>exact⟨u0,us,h1,h2.2 0 u0 f0 rfl rfl,by have:=h2.drop 1;simpa using this⟩
theorem Sl.ne{T:TypeId}{n:Nat}{xs:List Value}(h:Sl M w T 1 sl (n+1) xs)(hM:M rb):∀a m c,sl=.slice (some a) m c->a.block≠rb:=by
 intro a m c e;obtain⟨_,ao,cap,e1,_,h3⟩:=h;rw [e1] at e;simp only [Value.slice.injEq] at e;rcases h3 with h3 | ⟨g,off,cur,h4,hm,_⟩
 ·omega
 ·rw [h4] at e;have:=e.1;simp only [Option.some.injEq] at this;subst this;intro e2;exact hm (by have e3:g=rb:=e2;rw [e3];exact hM)
theorem Sl.rest{T:TypeId}{g off c L:Nat}{u:Value}(h:Sl M w T 1 (.slice (some ⟨g,off,none⟩) L c) (us.length+1) (u::us))(ao:Option Addr)(c':Nat)(hc:us.length<=c')(ha:us.length≠0->ao=some ⟨g,off+1,none⟩):Sl M w T 1 (.slice ao us.length c') us.length us:=Sl.tail1 h us.length rfl ao c' hc ha
theorem pX{w2:World}{s:Sg}{W:PW}{S:PS}{f0:PF}{rest:List PF}{fr:PFr}{env:Env}{ev' u0:Value}(hW:Wd M w s tb mb sb gb W)(hr:RunAt M w sb rb fv ev gv kv ov)(hf:FrR M w s kv S.frames)(ho:OutR M w ov W.out)(hs:Sl M w TForm 1 sl (us.length+1) (u0::us))(h0:RFm M w s u0 f0)(hA:All2 (RFm M w s) us rest)(he:EnvR M w s ev' env)
  (hk:fr.form.k=.begin) (hfr:fr.form.ks.drop fr.pos=rest) (hfe:fr.env=env) (hq:RowQ w sb rb us u0 sl ev' kv ov S.frames.length w2) {o:Option PF} (hoo:o=some f0) (S':PS) (hS':S'=if 0<rest.length then S.push fr else S):Went M w s tb mb sb gb rb ⟨0,W,S'.work o env⟩ (.returned .nilIface) w2:=by
 subst hS';rcases hq with⟨hl,hc⟩ | ⟨hl,p,g,off,ao,c,cs,w1,hp,rfl,hao,⟨c',hc',hpc⟩,hc1,hc2⟩
 ·rw [if_neg (by rw [<- hA.1,hl];decide)];exact iP hW hr hf ho h0 he hc hoo
 ·rw [if_pos (by rw [<- hA.1];omega)];subst hfe;exact dL hW hr hf ho h0 he (.begin _ ev' fr hk (by rw [hfr];exact⟨us,hs.rest ao c' hc' (fun _=>hao),hA⟩) he) hc1 hp hpc hc2 hoo
theorem oT(M:Nat->Prop)(w:World)(s:Sg)(tb mb sb gb rb:Nat)(W:PW)(S:PS)(hW:Wd M w s tb mb sb gb W)(hFl:S.frames.length<=6500000000000000000){ev0 rv:Value}(hr:RunAt M w sb rb fv ev0 gv kv ov)(hf:FrR M w s kv S.frames)(ho:OutR M w ov W.out)(fr:PFr)(he:EnvR M w s ev fr.env)(hk:fr.form.k=.begin)(f0:PF)(rest:List PF)(hfs:fr.form.ks.drop fr.pos=f0::rest)(hrv:FmsAt M w s rv (fr.form.ks.drop fr.pos))(hlen:rest.length<=2000)(v:Value)(hv:∃T x,v=.iface T x)(S':PS)(hS':S'=if 0<rest.length then S.push {fr with got:=[],pos:=fr.pos+1} else S)(o:Option PF)(hoo:o=some f0) :Calls prog 401 #[.agg #[rv,ev],.pointer (some ⟨rb,0,none⟩),v] w fun e w'=>Went M w s tb mb sb gb rb ⟨0,W,S'.work o fr.env⟩ e w':=by
 obtain⟨u0,us,hsl,h0,hA⟩:=hrv.cons hfs;have hrl:=aB hr.blk;have hB:Below w.heap.size w (w.alloc (.cells #[rv,ev] 375)):=(Below.refl _ _).alloc (Nat.le_refl _) _;have hs:Stp M w M (w.alloc (.cells #[rv,ev] 375)):=Stp.of_below hB
 have hd:fr.form.ks.drop (fr.pos+1)=rest:=by
  have:(fr.form.ks.drop fr.pos).drop 1=rest:=by rw [hfs];rfl
  rw [List.drop_drop] at this;exact this
 have HC:Hid (Calls prog 173 #[.pointer (some ⟨rb,0,none⟩),rv,ev] (w.alloc (.cells #[rv,ev] 375)) fun e w'=>e=.returned (.tuple #[])/\Hid (Went M w s tb mb sb gb rb ⟨0,W,S'.work o fr.env⟩ (.returned .nilIface) w')):=show Calls _ _ _ _ _ from
  (m6 _ sb rb fv ev0 gv kv ov rv ev u0 us S.frames.length ((hB.block rb hrl).trans hr.blk) (Sl.slOf (hsl.stp hs)) (hsl.ne hr.mrb) (by rw [hA.1];exact hlen) h0.iface he.ptr hf.ptr (hf.pileN.below hB) hFl).mono (fun e w' ⟨h1,h2⟩=>⟨h1,
   (pX (fr:={fr with got:=[],pos:=fr.pos+1}) (hW.mv (Mv.below hB)) ⟨(hB.block rb hrl).trans hr.blk,hr.mrb⟩ (hf.go hs (Sg.Le.refl _)) (ho.below hB) (hsl.stp hs) (h0.go hs (Sg.Le.refl _)) (hA.mono (fun _ _ x=>x.go hs (Sg.Le.refl _))) (he.go hs (Sg.Le.refl _)) hk hd rfl h2 hoo S' hS').after hs⟩)
 obtain⟨oe,rfl⟩:=he.ptr;obtain⟨_,ao,cap,rfl,_⟩:=hsl;obtain⟨T,x,rfl⟩:=hv;clear hW hr hf ho he hrv h0 hA hB hs hd hS' hoo hfs hk;go_enter func401,ntmps401;go_wp2_with (go_at_call 173;refine Calls.mono HC.out ?_;rintro e w3 ⟨rfl,HQ⟩);go_ret;exact HQ.out
theorem uN(M:Nat->Prop)(w:World)(s:Sg)(tb mb sb gb rb:Nat)(W:PW)(S:PS)(hW:Wd M w s tb mb sb gb W)(hFl:S.frames.length<=6500000000000000000)(f:PF)(hr:RunAt M w sb rb (.iface 347 (.agg #[sl])) ev gv kv ov)(he:EnvR M w s ev S.env)(hf:FrR M w s kv S.frames)(ho:OutR M w ov W.out)(hk:f.k=.begin)(f0:PF)(rest:List PF)(hfs:f.ks=f0::rest)(hrv:FmsAt M w s sl f.ks)(hlen:rest.length<=2000)(S':PS)(hS':S'=if 0<rest.length then S.push ⟨f,[],1,S.env⟩ else S)(o:Option PF)(hoo:o=some f0) :Calls prog 128 #[.pointer (some ⟨rb,0,none⟩)] w fun e w'=>Went M w s tb mb sb gb rb ⟨0,W,S'.work o S.env⟩ e w':=by
 generalize hfv:Value.iface 347 (.agg #[sl])=fv0 at hr;have hrl:=aB hr.blk;have e1:w.cell? ⟨rb,1,none⟩=some fv0:=aA hr.blk 1;have e2:w.cell? ⟨rb,2,none⟩=some ev:=aA hr.blk 2;have HB:Hid (∀ob,Below w.heap.size w (w.alloc ob)):=fun ob=>(Below.refl _ _).alloc (Nat.le_refl _) _;have HK:Hid (∀ob,(w.alloc ob).drew.heap[rb]?=w.heap[rb]?):=fun ob=>(HB.out ob).block rb hrl;obtain⟨u0,us,hsl,h0,hA⟩:=hrv.cons hfs;have hd:f.ks.drop 1=rest:=by rw [hfs];rfl
 have HC:Hid (∀ob,Calls prog 173 #[.pointer (some ⟨rb,0,none⟩),sl,ev] (w.alloc ob) fun e w'=>e=.returned (.tuple #[])/\Hid (Went M w s tb mb sb gb rb ⟨0,W,S'.work o S.env⟩ (.returned .nilIface) w')):=fun ob=>by
  have hB:=HB.out ob;have hs:Stp M w M (w.alloc ob):=Stp.of_below hB
  exact(m6 _ sb rb fv0 ev gv kv ov sl ev u0 us S.frames.length ((hB.block rb hrl).trans hr.blk) (Sl.slOf (hsl.stp hs)) (hsl.ne hr.mrb) (by rw [hA.1];exact hlen) h0.iface he.ptr hf.ptr (hf.pileN.below hB) hFl).mono (fun e w' ⟨h1,h2⟩=>⟨h1,
   (pX (fr:=⟨f,[],1,S.env⟩) (hW.mv (Mv.below hB)) ⟨(hB.block rb hrl).trans hr.blk,hr.mrb⟩ (hf.go hs (Sg.Le.refl _)) (ho.below hB) (hsl.stp hs) (h0.go hs (Sg.Le.refl _)) (hA.mono (fun _ _ x=>x.go hs (Sg.Le.refl _))) (he.go hs (Sg.Le.refl _)) hk hd rfl h2 hoo S' hS').after hs⟩)
 subst hfv;have fy:=Tryz.fyes_Begin;have fn0:=Tryz.fno_Begin_Constant;have fn1:=Tryz.fno_Begin_Name;have fn2:=Tryz.fno_Begin_Lambda;have fn3:=Tryz.fno_Begin_If;have fn4:=Tryz.fno_Begin_Set;have fn5:=Tryz.fno_Begin_Define;obtain⟨oe,rfl⟩:=he.ptr;obtain⟨_,ao,cap,rfl,_⟩:=hsl;clear hW hr hf ho he hrv h0 hA hd hS' hoo hfs hk;go_enter func128,ntmps128;go_wp2_with (go_at_call 173;refine(HC.out _).mono ?_;rintro e w3 ⟨rfl,HQ⟩);go_ret;exact HQ.out
theorem yD(M:Nat->Prop)(w:World)(s:Sg)(tb mb sb gb rb:Nat)(W:PW)(S:PS)(hW:Wd M w s tb mb sb gb W)(hFl:S.frames.length<=6500000000000000000)(f:PF)(hr:RunAt M w sb rb (.iface 349 (.agg #[sl])) ev gv kv ov)(he:EnvR M w s ev S.env)(hf:FrR M w s kv S.frames)(ho:OutR M w ov W.out)(hk:f.k=.call)(f0:PF)(rest:List PF)(hfs:f.ks=f0::rest)(hrv:FmsAt M w s sl f.ks)(o:Option PF)(hoo:o=some f0) :Calls prog 128 #[.pointer (some ⟨rb,0,none⟩)] w fun e w'=>Went M w s tb mb sb gb rb ⟨0,W,(S.push ⟨f,[],1,S.env⟩).work o S.env⟩ e w':=by
 generalize hfv:Value.iface 349 (.agg #[sl])=fv0 at hr;have hrl:=aB hr.blk;have e1:w.cell? ⟨rb,1,none⟩=some fv0:=aA hr.blk 1;have e2:w.cell? ⟨rb,2,none⟩=some ev:=aA hr.blk 2;have HB:Hid (∀ob,Below w.heap.size w (w.alloc ob)):=fun ob=>(Below.refl _ _).alloc (Nat.le_refl _) _;have HK:Hid (∀ob,(w.alloc ob).drew.heap[rb]?=w.heap[rb]?):=fun ob=>(HB.out ob).block rb hrl;obtain⟨u0,us,hsl,h0,hA⟩:=hrv.cons hfs;have hd:f.ks.drop 1=rest:=by rw [hfs];rfl
 obtain⟨g,off,cap,rfl,hcap,hg,c0,_⟩:=(Sl.slOf hsl).cell0;have hgr:g≠rb:=hsl.ne hr.mrb ⟨g,off,none⟩ _ _ rfl
 have HP:Hid (∀ob (ao:Option Addr) (L c:Nat),L=us.length->us.length<=c->(us.length≠0->ao=some ⟨g,off+1,none⟩)->Calls prog 171 #[.pointer (some ⟨rb,1,none⟩),.iface 352 (.agg #[.slice none 0 0,.slice ao L c,ev])] (w.alloc ob).drew fun e w'=>e=.returned (.tuple #[])/\Hid (w'.heap[w.heap.size]?=(w.alloc ob).heap[w.heap.size]? /\ w'.heap[g]?=w.heap[g]? /\ ∃p a b d,w'.heap[rb]?=some (.cells #[.pointer (some ⟨sb,0,none⟩),a,b,d,.pointer (some ⟨p,0,none⟩),ov] TRun (0,0))/\∀w2,RunCh w' rb #[.pointer (some ⟨sb,0,none⟩),u0,ev,.nilIface,.pointer (some ⟨p,0,none⟩),ov] w2->Went M w s tb mb sb gb rb ⟨0,W,(S.push ⟨f,[],1,S.env⟩).work o S.env⟩ (.returned .nilIface) w2)):=fun ob ao L c h1 h2 h3=>by
  subst h1
  exact(kS (w.alloc ob).drew rb _ _ _ _ kv ov _ S.frames.length ((HK.out ob).trans hr.blk) ⟨_,_,rfl⟩ hf.ptr (hf.pileN.below (HB.out ob).drew) hFl).mono (fun e w' ⟨k1,p,k2,k3,k4⟩=>⟨k1,k4.other _ (by simp) (by omega),(k4.after (HB.out ob).drew).other g hg hgr,p,_,_,_,k4.blk,fun w2 hc =>
   dL hW hr hf ho h0 he (.call (.slice none 0 0) _ ev ⟨f,[],1,S.env⟩ hk ⟨[],⟨rfl,none,0,rfl,Nat.le_refl _,.inl rfl⟩,All2.nil _⟩ (by show FmsAt _ _ _ _ (f.ks.drop 1);rw [hd];exact⟨us,hsl.rest ao c h2 h3,hA⟩) he) (k4.after (HB.out ob).drew) (Nat.le_trans (HB.out ob).size k2) k3 hc hoo⟩)
 have HG:Hid (∀(w0 w1:World) c1 c2 c3 k1,w0.heap[rb]?=some (.cells #[.pointer (some ⟨sb,0,none⟩),c1,c2,c3,k1,ov] TRun (0,0))->w1.heap[rb]?=w0.heap[rb]? -> Calls prog 172 #[.pointer (some ⟨rb,1,none⟩),u0,ev] w1 fun e w'=>e=.returned (.tuple #[])/\RunCh w1 rb #[.pointer (some ⟨sb,0,none⟩),u0,ev,.nilIface,k1,ov] w'):=fun w0 w1 c1 c2 c3 k1 h0' h1=>cU w1 rb _ _ _ _ _ _ u0 ev (h1.trans h0') h0.iface he.ptr;subst hfv;have fy:=Tryz.fyes_Call;have fn0:=Tryz.fno_Call_Constant;have fn1:=Tryz.fno_Call_Name;have fn2:=Tryz.fno_Call_Lambda;have fn3:=Tryz.fno_Call_If;have fn4:=Tryz.fno_Call_Set;have fn5:=Tryz.fno_Call_Define;have fn6:=Tryz.fno_Call_Begin;obtain⟨oe,rfl⟩:=he.ptr;obtain⟨T,x,rfl⟩:=h0.iface;obtain⟨m,hm⟩:∃m,us.length+1=m:=⟨_,rfl⟩
 rw [hm] at e1 hcap;have hl1:(0:Int)<(m:Int):=by omega
 have hl2:(1:Int)<=(m:Int):=by omega
 have HBx:Hid ((w.alloc (.cells #[.slice (some ⟨g,off,none⟩) m cap] 349)).heap[w.heap.size]?=some (.cells #[.slice (some ⟨g,off,none⟩) m cap] 349 (0,0))):=heap_alloc_new w _;have HC0:Hid (w.cell? ⟨g,off,none⟩=some (.iface T x)):=c0;have HM:Hid (us.length+1=m/\m<=cap):=⟨hm,hcap⟩
 clear hW hr hf ho he hrv h0 hA hd hoo hfs hk hsl;obtain⟨c,rfl⟩:∃c,cap=c+1:=⟨cap-1,by omega⟩
 go_enter func128,ntmps128
 go_upto_region 29 with fail
 go_cut [] (fun wx=>Hid (wx.heap[w.heap.size]?=some (.cells #[.slice (some ⟨g,off,none⟩) m (c+1)] 349 (0,0))/\wx.heap[g]?=w.heap[g]? /\ ∃p a b d,wx.heap[rb]?=some (.cells #[.pointer (some ⟨sb,0,none⟩),a,b,d,.pointer (some ⟨p,0,none⟩),ov] TRun (0,0))/\∀w2,RunCh wx rb #[.pointer (some ⟨sb,0,none⟩),.iface T x,.pointer oe,.nilIface,.pointer (some ⟨p,0,none⟩),ov] w2->Went M w s tb mb sb gb rb ⟨0,W,(S.push ⟨f,[],1,S.env⟩).work o S.env⟩ (.returned .nilIface) w2))
 case first =>
  rcases c with _ | c
  all_goals
   go_region_with (go_at_call 171;refine(HP.out _ _ _ _ (by have:=HM.out;omega) (by have:=HM.out;omega) (by intro hh;first | rfl | (exfalso;have:=HM.out;omega))).mono ?_;rintro e w3 ⟨rfl,HQ⟩)
   all_goals
    go_wp2_with fail
    go_meet
    exact⟨HQ.out.1.trans HBx.out,HQ.out.2⟩
 case rest =>
  have HQ:=hcut;obtain⟨h1,h2,p,a,b,d,h3,h4⟩:=HQ.out;have HX2:Hid (∀w2,RunCh wc rb #[.pointer (some ⟨sb,0,none⟩),.iface T x,.pointer oe,.nilIface,.pointer (some ⟨p,0,none⟩),ov] w2->Went M w s tb mb sb gb rb ⟨0,W,(S.push ⟨f,[],1,S.env⟩).work o S.env⟩ (.returned .nilIface) w2):=h4;have HG2:Hid (∀w1:World,w1.heap[rb]?=wc.heap[rb]? -> Calls prog 172 #[.pointer (some ⟨rb,1,none⟩),.iface T x,.pointer oe] w1 fun e w'=>e=.returned (.tuple #[])/\RunCh w1 rb #[.pointer (some ⟨sb,0,none⟩),.iface T x,.pointer oe,.nilIface,.pointer (some ⟨p,0,none⟩),ov] w'):=fun w1 e1=>HG.out wc w1 _ _ _ _ h3 e1;have b0:wc.cell? ⟨w.heap.size,0,none⟩=some (.slice (some ⟨g,off,none⟩) m (c+1)):=aA h1 0;have c0':wc.cell? ⟨g,off,none⟩=some (.iface T x):=(World.cell?_of_block (w:=w) h2).trans HC0.out;have hrw:rb<wc.heap.size:=aB h3;clear h1 h2 h3 h4 HQ hcut HP HG HBx;go_wp2_with fail;go_region_with (go_at_call 172;refine(HG2.out _ (by rfl)).mono ?_;rintro e w3 ⟨rfl,hc3⟩)
  all_goals
   go_wp2_with fail
   go_ret;exact HX2.out _ (hc3.after ((Below.refl _ _).drew))
structure Ap(M:Nat->Prop)(w0 w:World)(s:Sg)(tb mb sb gb rb:Nat)(W:PW)(S:PS)(fv ev gv kv ov av:Value)(us:List Value)(args:List PV):Prop where
 below:Below w0.heap.size w0 w
 wd:Wd M w0 s tb mb sb gb W
 run:RunAt M w0 sb rb fv ev gv kv ov
 fr:FrR M w0 s kv S.frames
 out:OutR M w0 ov W.out
 vals:All2 (RV s) us args
 len:us.length<=2000
 args:∃ao cap,av=.slice ao us.length cap/\us.length<=cap/\(us.length≠0->∃(g off:Nat)(cur:Array Value),ao=some ⟨g,off,none⟩/\w0.heap.size<=g/\w.heap[g]?=some (Obj.cells cur TVal (0,0))/\∀(i:Nat)(u:Value),us[i]?=some u->cur[off+i]?=some u)
def kJ(g off:Nat):Nat->List (Option (Nat×Nat))
 | 0=>[]
 | n+1=>kJ g off n++[some (g,off+n)]
theorem dU(g off:Nat):∀n,(kJ g off n).length=n
 | 0=>rfl
 | n+1=>by simp [kJ,dU g off n]
theorem jL(g off:Nat):∀(n i:Nat),i<n->(kJ g off n)[i]?=some (some (g,off+i))
 | 0,i,h=>by omega
 | n+1,i,h=>by
  rcases Nat.lt_or_ge i n with hi | hi
  ·rw [kJ,List.getElem?_append_left (by rw [dU];exact hi)];exact jL g off n i hi
  ·obtain rfl:i=n:=by omega
   rw [kJ,List.getElem?_append_right (by rw [dU];exact Nat.le_refl _),dU];simp
theorem dS(g off n i:Nat)(c:Option (Nat×Nat))(h:(kJ g off n)[i]?=some c):i<n/\c=some (g,off+i):=by
 have hi:i<n:=by have:=(List.getElem?_eq_some_iff.1 h).1;rw [dU] at this;exact this
 rw [jL g off n i hi] at h;exact⟨hi,(Option.some.inj h).symm⟩
def Sg.addPl(s:Sg)(g off n:Nat):Sg:={s with lp:=s.lp++kJ g off n}
theorem Sg.addPl_le(s:Sg)(g off n:Nat):Sg.Le s (s.addPl g off n):=⟨rfl,rfl,List.prefix_refl _,List.prefix_refl _,List.prefix_refl _,List.prefix_append _ _,List.prefix_refl _⟩
def Mg(M:Nat->Prop)(g n:Nat):Nat->Prop:=Mn M (fun k=>n≠0/\k=g)
theorem wR{α:Type}{a b:List α}{i:Nat}{x:α}(h:(a++b)[i]?=some x):(i<a.length/\a[i]?=some x)\/(a.length<=i/\b[i-a.length]?=some x):=by
 rcases Nat.lt_or_ge i a.length with hi | hi
 ·left;rw [List.getElem?_append_left hi] at h;exact⟨hi,h⟩
 ·right;rw [List.getElem?_append_right hi] at h;exact⟨hi,h⟩
theorem Wd.addPl{w':World}{s:Sg}{W:PW}(h:Wd M w s tb mb sb gb W)(hB:Below w.heap.size w w'){args:List PV}(hA:All2 (RV s) us args)(g off:Nat)(cur:Array Value)(hg:us.length≠0->w.heap.size<=g/\w'.heap[g]?=some (.cells cur TVal (0,0))/\∀(i:Nat)(u:Value),us[i]?=some u->cur[off+i]?=some u) :Wd (Mg M g us.length) w' (s.addPl g off us.length) tb mb sb gb {W with places:=W.places++args}/\Mv M w (Mg M g us.length) w':=by
 have hm:Mv M w (Mg M g us.length) w':=Mv.wide _ (fun k hk=>by rw [hk.2];exact(hg hk.1).1) hB (fun k hk=>by rw [hk.2];exact aB (hg hk.1).2.1);have h':=h.mv hm;have l:=s.addPl_le g off us.length;have hlt:∀i g' o',s.lp[i]?=some (some (g',o'))->g'<w.heap.size:=fun i g' o' hi=>by have hl:=(List.getElem?_eq_some_iff.1 hi).1;obtain⟨_,_,_,h2,_⟩:=h.places.at_ i g' o' _ hi (List.getElem?_eq_getElem (by rw [<- h.places.len];exact hl));exact aB h2
 refine⟨⟨⟨h'.rdr.tab,h'.rdr.pairs.le l rfl,h'.rdr.mmb,h'.rdr.mtb,h'.rdr.mlt⟩,h'.ses,h'.msb,?_,h'.mgb,h'.gne,h'.procs.mono (fun b x hx=>hx.go (Stp.refl _ _) l),h'.conts.mono (fun b x hx=>hx.go (Stp.refl _ _) l),?_,h'.gs,h'.prm,h'.gt,h'.ge,h'.tq,h'.tc⟩,hm⟩
 ·obtain⟨D,h1,h2⟩:=h'.glob;refine⟨D,h1,h2.tidy,fun k nm i hk hf=>?_,h2.no,h2.keys,fun nm i hf=>?_,h2.inj⟩
  ·obtain⟨k1,v,p,k2,k3,k4⟩:=h2.yes k nm i hk hf;exact⟨k1,v,p,k2,bS (List.prefix_append _ _) k3,k4.le l⟩
  ·obtain⟨k1,k2⟩:=h2.names nm i hf;exact⟨k1,bS l.lp k2⟩
 ·refine⟨?_,?_,?_⟩
  ·show(s.lp++kJ g off us.length).length=(W.places++args).length;rw [List.length_append,List.length_append,dU,h.places.len,hA.1]
  ·intro i j c hi hj;rcases wR hi with⟨i1,i2⟩ | ⟨i1,i2⟩<;>rcases wR hj with⟨j1,j2⟩ | ⟨j1,j2⟩
   ·exact h.places.inj i j c i2 j2
   ·obtain⟨j3,j4⟩:=dS _ _ _ _ _ j2;have:=Option.some.inj j4;subst this;have k1:=hlt i _ _ i2;have k2:=(hg (by omega)).1;omega
   ·obtain⟨i3,i4⟩:=dS _ _ _ _ _ i2;have:=Option.some.inj i4;subst this;have k1:=hlt j _ _ j2;have k2:=(hg (by omega)).1;omega
   ·obtain⟨i3,i4⟩:=dS _ _ _ _ _ i2;obtain⟨j3,j4⟩:=dS _ _ _ _ _ j2;have e1:=Option.some.inj i4;have e2:=Option.some.inj j4;rw [e1] at e2;simp only [Prod.mk.injEq,true_and] at e2;omega
  ·intro i g' o' p hi hp;rcases wR hi with⟨i1,i2⟩ | ⟨i1,i2⟩
   ·have hp':W.places[i]?=some p:=by
     have:(W.places++args)[i]?=some p:=hp
     rwa [List.getElem?_append_left (by rw [<- h.places.len];exact i1)] at this
    obtain⟨k1,cur',v,k2,k3,k4⟩:=h'.places.at_ i g' o' p i2 hp';exact⟨k1,cur',v,k2,k3,k4.le l⟩
   ·obtain⟨i3,i4⟩:=dS _ _ _ _ _ i2;have e:=Option.some.inj i4;simp only [Prod.mk.injEq] at e;obtain⟨rfl,rfl⟩:=e
    have hp':args[i-s.lp.length]?=some p:=by
     have:(W.places++args)[i]?=some p:=hp
     rwa [List.getElem?_append_right (by rw [<- h.places.len];exact i1),<-h.places.len] at this
    obtain⟨u,hu,hr⟩:=hA.at_ hp';obtain⟨_,k2,k3⟩:=hg (by omega);exact⟨.inr ⟨by omega,rfl⟩,cur,u,k2,k3 _ u hu,hr.le l⟩
def jC(W:PW)(S:PS)(q:PF×Env)(args:List PV):SR:=if args.length≠q.1.ns.length then⟨10,W,S⟩ else⟨0,{W with places:=W.places++args},S.work q.1.ks[0]? (q.2++Pl.numb q.1.ns W.places.length)⟩
theorem Ap.no{w0 w2:World}{s:Sg}{W:PW}{S S':PS}{av:Value}{args:List PV}(h:Ap M w0 w s tb mb sb gb rb W S fv ev gv kv ov av us args)(hB:Below w.heap.size w w2){es:ByteArray}{c:Nat}(hc:c≠0):Went M w0 s tb mb sb gb rb ⟨c,W,S'⟩ (.returned (aY es c)) w2:=iG h.wd h.run h.out (h.below.trans (hB.mono h.below.size)) hc
theorem Ap.rb_blk{w0:World}{s:Sg}{W:PW}{S:PS}{av:Value}{args:List PV}(h:Ap M w0 w s tb mb sb gb rb W S fv ev gv kv ov av us args):w.heap[rb]?=some (.cells #[.pointer (some ⟨sb,0,none⟩),fv,ev,gv,kv,ov] TRun (0,0)):=(h.below.block rb (aB h.run.blk)).trans h.run.blk
end
end Go.Proofs.YtkgbdddkcjpgfaaGreatDoor
