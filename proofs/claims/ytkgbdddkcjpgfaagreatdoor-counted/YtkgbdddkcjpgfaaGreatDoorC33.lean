import Derived.Test.YtkgbdddkcjpgfaaGreatDoorC32
namespace Go.Proofs.YtkgbdddkcjpgfaaGreatDoor
set_option maxHeartbeats 4000000
set_option maxRecDepth 100000
open Go.Proofs.Tryz
open Pl (PV PW PS PF PFr SR Byt Env)
section
open Go.RowKit Go.Lib Go.Maps
variable {M:Nat->Prop} {w w':World} {ev kv gv ov sl fv a:Value} {tb mb sb gb rb:Nat} {us:List Value}
theorem Kept.of_below(h:Below w.heap.size w w')(hl:rb<w.heap.size):Kept M w rb w':=⟨Stp.of_below h,h.block rb hl,fun g _ _ hg=>h.block g (aB hg)⟩
theorem GlobD.le{D:DataW Value}{s t:Sg}{W W':PW}(h:GlobD D s W)(l:Sg.Le s t)(hn:t.ns=s.ns)(e1:W'.globals=W.globals)(e2:W'.places=W.places):GlobD D t W' :=
 ⟨h.tidy,fun k nm i hk hf=>by
  rw [hn] at hk;rw [e1] at hf;obtain⟨h1,v,p,h2,h3,h4⟩:=h.yes k nm i hk hf
  exact⟨h1,v,p,h2,by rw [e2];exact h3,h4.le l⟩,fun k nm hk hf=>by rw [hn] at hk;rw [e1] at hf;exact h.no k nm hk hf,fun k hk=>by rw [hn];exact h.keys k hk,fun nm i hf=>by
  rw [e1] at hf;obtain⟨h1,h2⟩:=h.names nm i hf
  exact⟨by rw [hn];exact h1,bS l.lp h2⟩,fun a b i ha hb=>by rw [e1] at ha hb;exact h.inj a b i ha hb⟩
theorem Wd.more{s t:Sg}{W W':PW}(h:Wd M w s tb mb sb gb W)(l:Sg.Le s t)(lp:t.pb=s.pb)(ll:t.lp=s.lp)(ln:t.ns=s.ns)(e1:W'.pairs=W.pairs)(e2:W'.places=W.places)(e3:W'.globals=W.globals)(hq:Bls (ProcAt M w t) t.qb W'.procs)(hc:Bls (ContAt M w t) t.cb W'.conts):Wd M w t tb mb sb gb W':=by refine⟨⟨by rw [ln];exact h.rdr.tab,by rw [e1];exact h.rdr.pairs.le l lp,h.rdr.mmb,h.rdr.mtb,h.rdr.mlt⟩,h.ses,h.msb,?_,h.mgb,h.gne,hq,hc,by rw [e2];exact h.places.le l ll,h.gs,h.prm,h.gt,h.ge,by rw [l.tq];exact h.tq,by rw [l.tc];exact h.tc⟩;obtain⟨D,h1,h2⟩:=h.glob;exact⟨D,by rw [e3];exact h1,h2.le l ln e3 e2⟩
def Sg.addProc(s:Sg)(b:Nat):Sg:={s with qb:=s.qb++[b]}
def Sg.addCont(s:Sg)(b:Nat):Sg:={s with cb:=s.cb++[b]}
theorem Sg.addProc_le(s:Sg)(b:Nat):Sg.Le s (s.addProc b):=⟨rfl,rfl,List.prefix_refl _,List.prefix_append _ _,List.prefix_refl _,List.prefix_refl _,List.prefix_refl _⟩
theorem Sg.addCont_le(s:Sg)(b:Nat):Sg.Le s (s.addCont b):=⟨rfl,rfl,List.prefix_refl _,List.prefix_refl _,List.prefix_append _ _,List.prefix_refl _,List.prefix_refl _⟩
theorem Bls.lt{α:Type}{R:Nat->α->Prop}{bs:List Nat}{l:List α}(h:Bls R bs l){n:Nat}(hr:∀b x,R b x->b<n):∀b∈bs,b<n:=fun b hb=>by obtain⟨i,hi⟩:=List.getElem?_of_mem hb;obtain⟨x,_,hx⟩:=h.get hi;exact hr b x hx
theorem Wd.addProc{s:Sg}{W:PW}(h:Wd M w s tb mb sb gb W)(hB:Below w.heap.size w w'){p:Nat}(hp:w.heap.size<=p){nv body:Value}(hpc:w'.heap[p]?=some (.cells #[nv,body,ev] TPrS (0,0)))(q:PF×Env)(x:PF)(hks:q.1.ks=[x])(hn:NmRow M w s nv q.1.ns)(hb:RFm M w s body x)(he:EnvR M w s ev q.2) :Wd M w' (s.addProc p) tb mb sb gb {W with procs:=W.procs++[q]}/\RV (s.addProc p) (.iface 330 (.pointer (some ⟨p,0,none⟩))) (.proc W.procs.length):=by
 have hs:Stp M w M w':=Stp.of_below hB;have l:=s.addProc_le p;have h':=h.mv (Mv.below hB);refine⟨h'.more l rfl rfl rfl rfl rfl rfl (Bls.push (h'.procs.mono (fun b x hx=>hx.go (Stp.refl _ _) l)) ?_ ?_) (h'.conts.mono (fun b x hx=>hx.go (Stp.refl _ _) l)),?_⟩
 ·exact⟨fun hm=>by have:=h.rdr.mlt p hm;omega,nv,body,ev,x,hpc,hks,hn.go hs l,hb.go hs l,he.go hs l⟩
 ·intro hm;have:=h.procs.lt (n:=w.heap.size) (fun b x hx=>by obtain⟨_,_,_,_,_,h2,_⟩:=hx;exact aB h2) p hm;omega
 ·rw [<- h.tq];exact .proc _ p (by show(s.qb++[p])[W.procs.length]?=some p;rw [<- h.procs.len];simp)
theorem Wd.addCont{s:Sg}{W:PW}(h:Wd M w s tb mb sb gb W)(hB:Below w.heap.size w w'){p:Nat}(hp:w.heap.size<=p)(hpc:w'.heap[p]?=some (.cells #[kv] TCoS (0,0)))(fs:List PFr)(hf:FrR M w s kv fs) :Wd M w' (s.addCont p) tb mb sb gb {W with conts:=W.conts++[fs]}/\RV (s.addCont p) (.iface 522 (.pointer (some ⟨p,0,none⟩))) (.cont W.conts.length):=by
 have hs:Stp M w M w':=Stp.of_below hB;have l:=s.addCont_le p;have h':=h.mv (Mv.below hB);refine⟨h'.more l rfl rfl rfl rfl rfl rfl (h'.procs.mono (fun b x hx=>hx.go (Stp.refl _ _) l)) (Bls.push (h'.conts.mono (fun b x hx=>hx.go (Stp.refl _ _) l)) ?_ ?_),?_⟩
 ·exact⟨fun hm=>by have:=h.rdr.mlt p hm;omega,kv,hpc,hf.go hs l⟩
 ·intro hm;have:=h.conts.lt (n:=w.heap.size) (fun b x hx=>by obtain⟨_,_,h2,_⟩:=hx;exact aB h2) p hm;omega
 ·rw [<- h.tc];exact .cont _ p (by show(s.cb++[p])[W.conts.length]?=some p;rw [<- h.conts.len];simp)
theorem r8(M:Nat->Prop)(w:World)(s:Sg)(tb mb sb gb rb:Nat)(W:PW)(S:PS)(hW:Wd M w s tb mb sb gb W){nv body:Value}(f x:PF)(hr:RunAt M w sb rb (.iface 329 (.agg #[nv,body])) ev gv kv ov)(he:EnvR M w s ev S.env)(hf:FrR M w s kv S.frames)(ho:OutR M w ov W.out)(hks:f.ks=[x])(hn:NmRow M w s nv f.ns)(hb:RFm M w s body x) :Calls prog 128 #[.pointer (some ⟨rb,0,none⟩)] w fun e w'=>Went M w s tb mb sb gb rb ⟨0,{W with procs:=W.procs++[(f,S.env)]},S.give (.proc W.procs.length)⟩ e w':=by
 generalize hfv:Value.iface 329 (.agg #[nv,body])=fv0 at hr;have hrl:=aB hr.blk;have e1:w.cell? ⟨rb,1,none⟩=some fv0:=aA hr.blk 1;have e2:w.cell? ⟨rb,2,none⟩=some ev:=aA hr.blk 2;have HB:Hid (∀ob,Below w.heap.size w (w.alloc ob)):=fun ob=>(Below.refl _ _).alloc (Nat.le_refl _) _;have HK:Hid (∀ob,(w.alloc ob).drew.heap[rb]?=w.heap[rb]?):=fun ob=>(HB.out ob).block rb hrl;subst hfv;have fy:=Tryz.fyes_Lambda;have fn0:=Tryz.fno_Lambda_Constant;have fn1:=Tryz.fno_Lambda_Name;have HX:Hid (∀wp p,Below w.heap.size w wp->w.heap.size<=p->wp.heap[p]?=some (.cells #[nv,body,ev] TPrS (0,0))->∀w2,RunCh wp rb #[.pointer (some ⟨sb,0,none⟩),.nilIface,.pointer none,.iface 330 (.pointer (some ⟨p,0,none⟩)),kv,ov] w2->Went M w s tb mb sb gb rb ⟨0,{W with procs:=W.procs++[(f,S.env)]},S.give (.proc W.procs.length)⟩ (.returned .nilIface) w2):=fun wp p hB hp hpc w2 hc=>by obtain⟨h1,h2⟩:=hW.addProc hB hp hpc (f,S.env) x hks hn hb he;exact iF (W:=W) hr hf ho (Kept.of_below hB hrl) (s.addProc_le p) (NsPb.same rfl rfl) h1 rfl h2 rfl hc
 have HG:Hid (∀(w1:World) v,w1.heap[rb]?=w.heap[rb]? -> (∃T x,v=.iface T x)->Calls prog 169 #[.pointer (some ⟨rb,1,none⟩),v] w1 fun e w'=>e=.returned (.tuple #[])/\RunCh w1 rb #[.pointer (some ⟨sb,0,none⟩),.nilIface,.pointer none,v,kv,ov] w'):=fun w1 v h1 hv=>jF w1 rb _ _ _ _ _ _ v (h1.trans hr.blk) hv;have HK2:Hid (∀o1 o2,((w.alloc o1).alloc o2).drew.heap[rb]?=w.heap[rb]?):=fun o1 o2=>(((HB.out o1).alloc (HB.out o1).size o2)).block rb hrl;have HN:Hid (∀o1,((w.alloc o1).alloc (.cells #[nv,body,ev] TPrS)).drew.heap[w.heap.size+1]?=some (.cells #[nv,body,ev] TPrS (0,0))):=fun o1=>by have:=heap_alloc_new (w.alloc o1) (.cells #[nv,body,ev] TPrS);rw [show(w.alloc o1).heap.size=w.heap.size+1 from by simp] at this;exact this
 obtain⟨oe,rfl⟩:=he.ptr;obtain⟨T,x',rfl⟩:=hb.iface;obtain⟨ao,cap,rfl⟩:∃ao cap,nv=.slice ao f.ns.length cap:=by obtain⟨⟨ks,_,_,ao,cap,rfl,_⟩,_,_⟩:=hn;exact⟨ao,cap,rfl⟩
 clear hW hr hf ho hb hn hks;go_enter func128,ntmps128;go_wp2_with fail;go_region_with (go_at_call 169;refine(HG.out _ _ (HK2.out _ _) ⟨_,_,rfl⟩).mono ?_;rintro e w3 ⟨rfl,hc3⟩)
 all_goals
  go_wp2_with fail
  go_ret;exact HX.out _ (w.heap.size+1) (((HB.out _).alloc (HB.out _).size _).drew) (by omega) (HN.out _) _ hc3
theorem p_wfIf(M:Nat->Prop)(w:World)(s:Sg)(tb mb sb gb rb:Nat)(W:PW)(S:PS)(hW:Wd M w s tb mb sb gb W)(hFl:S.frames.length<=6500000000000000000){b c:Value}(y z:PF)(f x:PF)(hr:RunAt M w sb rb (.iface 335 (.agg #[a,b,c])) ev gv kv ov)(he:EnvR M w s ev S.env)(hf:FrR M w s kv S.frames)(ho:OutR M w ov W.out)(ha:RFm M w s a x)(hk:f.k=.iff)(hks:f.ks=[x,y,z])(hb:RFm M w s b y)(hc:RFm M w s c z)(o:Option PF)(hoo:o=some x) :Calls prog 128 #[.pointer (some ⟨rb,0,none⟩)] w fun e w'=>Went M w s tb mb sb gb rb ⟨0,W,(S.push ⟨f,[],1,S.env⟩).work o S.env⟩ e w':=by
 generalize hfv:Value.iface 335 (.agg #[a,b,c])=fv0 at hr;have hrl:=aB hr.blk;have e1:w.cell? ⟨rb,1,none⟩=some fv0:=aA hr.blk 1;have e2:w.cell? ⟨rb,2,none⟩=some ev:=aA hr.blk 2;have HB:Hid (∀ob,Below w.heap.size w (w.alloc ob)):=fun ob=>(Below.refl _ _).alloc (Nat.le_refl _) _;have HK:Hid (∀ob,(w.alloc ob).drew.heap[rb]?=w.heap[rb]?):=fun ob=>(HB.out ob).block rb hrl;subst hfv;have fy:=Tryz.fyes_If;have fn0:=Tryz.fno_If_Constant;have fn1:=Tryz.fno_If_Name;have fn2:=Tryz.fno_If_Lambda;have HT:Hid (TopR M w s (.iface 338 (.agg #[a,b,c,ev])) ⟨f,[],1,S.env⟩):=.iff a b c ev _ x y z hk hks ha.iface hb hc he;have HX:Hid (∀w1 p cs,w.heap.size<=p->w1.heap[p]?=some (.cells #[.iface 338 (.agg #[a,b,c,ev]),kv,.int .i64 ((S.frames.length+1:Nat):Int)] TPile (0,0))->RunCh w rb cs w1->∀w2,RunCh w1 rb #[.pointer (some ⟨sb,0,none⟩),a,ev,.nilIface,.pointer (some ⟨p,0,none⟩),ov] w2->Went M w s tb mb sb gb rb ⟨0,W,(S.push ⟨f,[],1,S.env⟩).work o S.env⟩ (.returned .nilIface) w2):=fun w1 p cs h1 h2 h3 w2 h4=>dL hW hr hf ho ha he HT.out h3 h1 h2 h4 hoo;have HP:Hid (∀ob,Calls prog 171 #[.pointer (some ⟨rb,1,none⟩),.iface 338 (.agg #[a,b,c,ev])] (w.alloc ob).drew fun e w'=>e=.returned (.tuple #[])/\Hid (∃p,w.heap.size<=p/\w'.heap[p]?=some (.cells #[.iface 338 (.agg #[a,b,c,ev]),kv,.int .i64 ((S.frames.length+1:Nat):Int)] TPile (0,0))/\RunCh w rb #[.pointer (some ⟨sb,0,none⟩),.iface 335 (.agg #[a,b,c]),ev,gv,.pointer (some ⟨p,0,none⟩),ov] w'/\w'.heap[w.heap.size]?=(w.alloc ob).heap[w.heap.size]?)):=fun ob =>(kS (w.alloc ob).drew rb _ _ _ _ kv ov _ S.frames.length ((HK.out ob).trans hr.blk) ⟨_,_,rfl⟩ hf.ptr (hf.pileN.below (HB.out ob).drew) hFl).mono (fun e w' ⟨h1,p,h2,h3,h4⟩=>⟨h1,p,Nat.le_trans (HB.out ob).size h2,h3,h4.after (HB.out ob).drew,h4.other _ (by simp) (by omega)⟩);have HG:Hid (∀(w0 w1:World) c1 c2 c3 k1,w0.heap[rb]?=some (.cells #[.pointer (some ⟨sb,0,none⟩),c1,c2,c3,k1,ov] TRun (0,0))->w1.heap[rb]?=w0.heap[rb]? -> Calls prog 172 #[.pointer (some ⟨rb,1,none⟩),a,ev] w1 fun e w'=>e=.returned (.tuple #[])/\RunCh w1 rb #[.pointer (some ⟨sb,0,none⟩),a,ev,.nilIface,k1,ov] w'):=fun w0 w1 c1 c2 c3 k1 h0 h1=>cU w1 rb _ _ _ _ _ _ a ev (h1.trans h0) ha.iface he.ptr;have HBx:Hid ((w.alloc (.cells #[a,b,c] 335)).heap[w.heap.size]?=some (.cells #[a,b,c] 335 (0,0))):=heap_alloc_new w _;obtain⟨Tb,xb,rfl⟩:=hb.iface;obtain⟨Tc,xc,rfl⟩:=hc.iface;obtain⟨oe,rfl⟩:=he.ptr;obtain⟨T,x',rfl⟩:=ha.iface;clear hW hr hf ho ha;go_enter func128,ntmps128
 go_upto_region 14 with fail
 go_cut [] (fun wx=>Hid (∃p,w.heap.size<=p/\wx.heap[p]?=some (.cells #[.iface 338 (.agg #[.iface T x',.iface Tb xb,.iface Tc xc,.pointer oe]),kv,.int .i64 ((S.frames.length+1:Nat):Int)] TPile (0,0))/\RunCh w rb #[.pointer (some ⟨sb,0,none⟩),.iface 335 (.agg #[.iface T x',.iface Tb xb,.iface Tc xc]),.pointer oe,gv,.pointer (some ⟨p,0,none⟩),ov] wx/\wx.heap[w.heap.size]?=some (.cells #[.iface T x',.iface Tb xb,.iface Tc xc] 335 (0,0))))
 case first =>
  go_region_with (go_at_call 171;refine(HP.out _).mono ?_;rintro e w3 ⟨rfl,HQ⟩)
  all_goals
   go_wp2_with fail
   go_meet
   obtain⟨p,h1,h2,h3,h4⟩:=HQ.out;exact⟨p,h1,h2,h3,h4.trans HBx.out⟩
 case rest =>
  have HQ:=hcut;obtain⟨p,h1,h2,h3,h4⟩:=HQ.out;have HY:=HX.out wc p _ h1 h2 h3;have HX2:Hid (∀w2,RunCh wc rb #[.pointer (some ⟨sb,0,none⟩),.iface T x',.pointer oe,.nilIface,.pointer (some ⟨p,0,none⟩),ov] w2->Went M w s tb mb sb gb rb ⟨0,W,(S.push ⟨f,[],1,S.env⟩).work o S.env⟩ (.returned .nilIface) w2):=HY;have HG2:Hid (∀w1:World,w1.heap[rb]?=wc.heap[rb]? -> Calls prog 172 #[.pointer (some ⟨rb,1,none⟩),.iface T x',.pointer oe] w1 fun e w'=>e=.returned (.tuple #[])/\RunCh w1 rb #[.pointer (some ⟨sb,0,none⟩),.iface T x',.pointer oe,.nilIface,.pointer (some ⟨p,0,none⟩),ov] w'):=fun w1 e1=>HG.out wc w1 _ _ _ _ h3.blk e1;have b0:=aA h4 0;have b2:=aA h4 2;simp only [List.getElem?_toArray,List.getElem?_cons_zero,List.getElem?_cons_succ] at b0 b2;have hrw:rb<wc.heap.size:=aB h3.blk;clear h1 h2 h3 h4 HQ hcut HY HX HP HG HBx;go_wp2_with fail;go_region_with (go_at_call 172;refine(HG2.out _ (by rfl)).mono ?_;rintro e w3 ⟨rfl,hc3⟩)
  all_goals
   go_wp2_with fail
   go_ret;exact HX2.out _ (hc3.after ((Below.refl _ _).drew))
theorem p_wfSet(M:Nat->Prop)(w:World)(s:Sg)(tb mb sb gb rb:Nat)(W:PW)(S:PS)(hW:Wd M w s tb mb sb gb W)(hFl:S.frames.length<=6500000000000000000)(nm:Byt)(k:Nat)(f x:PF)(hr:RunAt M w sb rb (.iface 340 (.agg #[.string ⟨nm.toArray⟩,.int .i64 (k:Int),a])) ev gv kv ov)(he:EnvR M w s ev S.env)(hf:FrR M w s kv S.frames)(ho:OutR M w ov W.out)(ha:RFm M w s a x)(hk:f.k=.set)(hnm:f.nm=nm)(hns:s.ns[k]?=some nm)(o:Option PF)(hoo:o=some x) :Calls prog 128 #[.pointer (some ⟨rb,0,none⟩)] w fun e w'=>Went M w s tb mb sb gb rb ⟨0,W,(S.push ⟨f,[],1,S.env⟩).work o S.env⟩ e w':=by
 generalize hfv:Value.iface 340 (.agg #[.string ⟨nm.toArray⟩,.int .i64 (k:Int),a])=fv0 at hr;have hrl:=aB hr.blk;have e1:w.cell? ⟨rb,1,none⟩=some fv0:=aA hr.blk 1;have e2:w.cell? ⟨rb,2,none⟩=some ev:=aA hr.blk 2;have HB:Hid (∀ob,Below w.heap.size w (w.alloc ob)):=fun ob=>(Below.refl _ _).alloc (Nat.le_refl _) _;have HK:Hid (∀ob,(w.alloc ob).drew.heap[rb]?=w.heap[rb]?):=fun ob=>(HB.out ob).block rb hrl;subst hfv;have fy:=Tryz.fyes_Set;have fn0:=Tryz.fno_Set_Constant;have fn1:=Tryz.fno_Set_Name;have fn2:=Tryz.fno_Set_Lambda;have fn3:=Tryz.fno_Set_If;have HT:Hid (TopR M w s (.iface 342 (.agg #[.string ⟨nm.toArray⟩,.int .i64 (k:Int),ev])) ⟨f,[],1,S.env⟩):=show TopR _ _ _ _ _ from by subst hnm;exact .set k ev ⟨f,[],1,S.env⟩ hk hns he
 have HX:Hid (∀w1 p cs,w.heap.size<=p->w1.heap[p]?=some (.cells #[.iface 342 (.agg #[.string ⟨nm.toArray⟩,.int .i64 (k:Int),ev]),kv,.int .i64 ((S.frames.length+1:Nat):Int)] TPile (0,0))->RunCh w rb cs w1->∀w2,RunCh w1 rb #[.pointer (some ⟨sb,0,none⟩),a,ev,.nilIface,.pointer (some ⟨p,0,none⟩),ov] w2->Went M w s tb mb sb gb rb ⟨0,W,(S.push ⟨f,[],1,S.env⟩).work o S.env⟩ (.returned .nilIface) w2):=fun w1 p cs h1 h2 h3 w2 h4=>dL hW hr hf ho ha he HT.out h3 h1 h2 h4 hoo;have HP:Hid (∀ob,Calls prog 171 #[.pointer (some ⟨rb,1,none⟩),.iface 342 (.agg #[.string ⟨nm.toArray⟩,.int .i64 (k:Int),ev])] (w.alloc ob).drew fun e w'=>e=.returned (.tuple #[])/\Hid (∃p,w.heap.size<=p/\w'.heap[p]?=some (.cells #[.iface 342 (.agg #[.string ⟨nm.toArray⟩,.int .i64 (k:Int),ev]),kv,.int .i64 ((S.frames.length+1:Nat):Int)] TPile (0,0))/\RunCh w rb #[.pointer (some ⟨sb,0,none⟩),.iface 340 (.agg #[.string ⟨nm.toArray⟩,.int .i64 (k:Int),a]),ev,gv,.pointer (some ⟨p,0,none⟩),ov] w'/\w'.heap[w.heap.size]?=(w.alloc ob).heap[w.heap.size]?)):=fun ob =>(kS (w.alloc ob).drew rb _ _ _ _ kv ov _ S.frames.length ((HK.out ob).trans hr.blk) ⟨_,_,rfl⟩ hf.ptr (hf.pileN.below (HB.out ob).drew) hFl).mono (fun e w' ⟨h1,p,h2,h3,h4⟩=>⟨h1,p,Nat.le_trans (HB.out ob).size h2,h3,h4.after (HB.out ob).drew,h4.other _ (by simp) (by omega)⟩);have HG:Hid (∀(w0 w1:World) c1 c2 c3 k1,w0.heap[rb]?=some (.cells #[.pointer (some ⟨sb,0,none⟩),c1,c2,c3,k1,ov] TRun (0,0))->w1.heap[rb]?=w0.heap[rb]? -> Calls prog 172 #[.pointer (some ⟨rb,1,none⟩),a,ev] w1 fun e w'=>e=.returned (.tuple #[])/\RunCh w1 rb #[.pointer (some ⟨sb,0,none⟩),a,ev,.nilIface,k1,ov] w'):=fun w0 w1 c1 c2 c3 k1 h0 h1=>cU w1 rb _ _ _ _ _ _ a ev (h1.trans h0) ha.iface he.ptr;have HBx:Hid ((w.alloc (.cells #[.string ⟨nm.toArray⟩,.int .i64 (k:Int),a] 340)).heap[w.heap.size]?=some (.cells #[.string ⟨nm.toArray⟩,.int .i64 (k:Int),a] 340 (0,0))):=heap_alloc_new w _
 skip
 obtain⟨oe,rfl⟩:=he.ptr;obtain⟨T,x',rfl⟩:=ha.iface;clear hW hr hf ho ha;go_enter func128,ntmps128
 go_upto_region 18 with fail
 go_cut [] (fun wx=>Hid (∃p,w.heap.size<=p/\wx.heap[p]?=some (.cells #[.iface 342 (.agg #[.string ⟨nm.toArray⟩,.int .i64 (k:Int),.pointer oe]),kv,.int .i64 ((S.frames.length+1:Nat):Int)] TPile (0,0))/\RunCh w rb #[.pointer (some ⟨sb,0,none⟩),.iface 340 (.agg #[.string ⟨nm.toArray⟩,.int .i64 (k:Int),.iface T x']),.pointer oe,gv,.pointer (some ⟨p,0,none⟩),ov] wx/\wx.heap[w.heap.size]?=some (.cells #[.string ⟨nm.toArray⟩,.int .i64 (k:Int),.iface T x'] 340 (0,0))))
 case first =>
  go_region_with (go_at_call 171;refine(HP.out _).mono ?_;rintro e w3 ⟨rfl,HQ⟩)
  all_goals
   go_wp2_with fail
   go_meet
   obtain⟨p,h1,h2,h3,h4⟩:=HQ.out;exact⟨p,h1,h2,h3,h4.trans HBx.out⟩
 case rest =>
  have HQ:=hcut;obtain⟨p,h1,h2,h3,h4⟩:=HQ.out;have HY:=HX.out wc p _ h1 h2 h3;have HX2:Hid (∀w2,RunCh wc rb #[.pointer (some ⟨sb,0,none⟩),.iface T x',.pointer oe,.nilIface,.pointer (some ⟨p,0,none⟩),ov] w2->Went M w s tb mb sb gb rb ⟨0,W,(S.push ⟨f,[],1,S.env⟩).work o S.env⟩ (.returned .nilIface) w2):=HY;have HG2:Hid (∀w1:World,w1.heap[rb]?=wc.heap[rb]? -> Calls prog 172 #[.pointer (some ⟨rb,1,none⟩),.iface T x',.pointer oe] w1 fun e w'=>e=.returned (.tuple #[])/\RunCh w1 rb #[.pointer (some ⟨sb,0,none⟩),.iface T x',.pointer oe,.nilIface,.pointer (some ⟨p,0,none⟩),ov] w'):=fun w1 e1=>HG.out wc w1 _ _ _ _ h3.blk e1;have b0:=aA h4 0;have b2:=aA h4 2;simp only [List.getElem?_toArray,List.getElem?_cons_zero,List.getElem?_cons_succ] at b0 b2;have hrw:rb<wc.heap.size:=aB h3.blk;clear h1 h2 h3 h4 HQ hcut HY HX HP HG HBx;go_wp2_with fail;go_region_with (go_at_call 172;refine(HG2.out _ (by rfl)).mono ?_;rintro e w3 ⟨rfl,hc3⟩)
  all_goals
   go_wp2_with fail
   go_ret;exact HX2.out _ (hc3.after ((Below.refl _ _).drew))
theorem r9(M:Nat->Prop)(w:World)(s:Sg)(tb mb sb gb rb:Nat)(W:PW)(S:PS)(hW:Wd M w s tb mb sb gb W)(hFl:S.frames.length<=6500000000000000000)(nm:Byt)(k:Nat)(f x:PF)(hr:RunAt M w sb rb (.iface 218 (.agg #[.string ⟨nm.toArray⟩,.int .i64 (k:Int),a])) ev gv kv ov)(he:EnvR M w s ev S.env)(hf:FrR M w s kv S.frames)(ho:OutR M w ov W.out)(ha:RFm M w s a x)(hk:f.k=.define)(hnm:f.nm=nm)(hns:s.ns[k]?=some nm)(o:Option PF)(hoo:o=some x) :Calls prog 128 #[.pointer (some ⟨rb,0,none⟩)] w fun e w'=>Went M w s tb mb sb gb rb ⟨0,W,(S.push ⟨f,[],1,S.env⟩).work o S.env⟩ e w':=by
 generalize hfv:Value.iface 218 (.agg #[.string ⟨nm.toArray⟩,.int .i64 (k:Int),a])=fv0 at hr;have hrl:=aB hr.blk;have e1:w.cell? ⟨rb,1,none⟩=some fv0:=aA hr.blk 1;have e2:w.cell? ⟨rb,2,none⟩=some ev:=aA hr.blk 2;have HB:Hid (∀ob,Below w.heap.size w (w.alloc ob)):=fun ob=>(Below.refl _ _).alloc (Nat.le_refl _) _;have HK:Hid (∀ob,(w.alloc ob).drew.heap[rb]?=w.heap[rb]?):=fun ob=>(HB.out ob).block rb hrl;subst hfv;have fy:=Tryz.fyes_Define;have fn0:=Tryz.fno_Define_Constant;have fn1:=Tryz.fno_Define_Name;have fn2:=Tryz.fno_Define_Lambda;have fn3:=Tryz.fno_Define_If;have fn4:=Tryz.fno_Define_Set;have HT:Hid (TopR M w s (.iface 344 (.agg #[.string ⟨nm.toArray⟩,.int .i64 (k:Int)])) ⟨f,[],1,S.env⟩):=show TopR _ _ _ _ _ from by subst hnm;exact .define k ⟨f,[],1,S.env⟩ hk hns
 have HX:Hid (∀w1 p cs,w.heap.size<=p->w1.heap[p]?=some (.cells #[.iface 344 (.agg #[.string ⟨nm.toArray⟩,.int .i64 (k:Int)]),kv,.int .i64 ((S.frames.length+1:Nat):Int)] TPile (0,0))->RunCh w rb cs w1->∀w2,RunCh w1 rb #[.pointer (some ⟨sb,0,none⟩),a,ev,.nilIface,.pointer (some ⟨p,0,none⟩),ov] w2->Went M w s tb mb sb gb rb ⟨0,W,(S.push ⟨f,[],1,S.env⟩).work o S.env⟩ (.returned .nilIface) w2):=fun w1 p cs h1 h2 h3 w2 h4=>dL hW hr hf ho ha he HT.out h3 h1 h2 h4 hoo;have HP:Hid (∀ob,Calls prog 171 #[.pointer (some ⟨rb,1,none⟩),.iface 344 (.agg #[.string ⟨nm.toArray⟩,.int .i64 (k:Int)])] (w.alloc ob).drew fun e w'=>e=.returned (.tuple #[])/\Hid (∃p,w.heap.size<=p/\w'.heap[p]?=some (.cells #[.iface 344 (.agg #[.string ⟨nm.toArray⟩,.int .i64 (k:Int)]),kv,.int .i64 ((S.frames.length+1:Nat):Int)] TPile (0,0))/\RunCh w rb #[.pointer (some ⟨sb,0,none⟩),.iface 218 (.agg #[.string ⟨nm.toArray⟩,.int .i64 (k:Int),a]),ev,gv,.pointer (some ⟨p,0,none⟩),ov] w'/\w'.heap[w.heap.size]?=(w.alloc ob).heap[w.heap.size]?)):=fun ob =>(kS (w.alloc ob).drew rb _ _ _ _ kv ov _ S.frames.length ((HK.out ob).trans hr.blk) ⟨_,_,rfl⟩ hf.ptr (hf.pileN.below (HB.out ob).drew) hFl).mono (fun e w' ⟨h1,p,h2,h3,h4⟩=>⟨h1,p,Nat.le_trans (HB.out ob).size h2,h3,h4.after (HB.out ob).drew,h4.other _ (by simp) (by omega)⟩);have HG:Hid (∀(w0 w1:World) c1 c2 c3 k1,w0.heap[rb]?=some (.cells #[.pointer (some ⟨sb,0,none⟩),c1,c2,c3,k1,ov] TRun (0,0))->w1.heap[rb]?=w0.heap[rb]? -> Calls prog 172 #[.pointer (some ⟨rb,1,none⟩),a,ev] w1 fun e w'=>e=.returned (.tuple #[])/\RunCh w1 rb #[.pointer (some ⟨sb,0,none⟩),a,ev,.nilIface,k1,ov] w'):=fun w0 w1 c1 c2 c3 k1 h0 h1=>cU w1 rb _ _ _ _ _ _ a ev (h1.trans h0) ha.iface he.ptr;have HBx:Hid ((w.alloc (.cells #[.string ⟨nm.toArray⟩,.int .i64 (k:Int),a] 218)).heap[w.heap.size]?=some (.cells #[.string ⟨nm.toArray⟩,.int .i64 (k:Int),a] 218 (0,0))):=heap_alloc_new w _
 skip
 obtain⟨oe,rfl⟩:=he.ptr;obtain⟨T,x',rfl⟩:=ha.iface;clear hW hr hf ho ha;go_enter func128,ntmps128
 go_upto_region 22 with fail
 go_cut [] (fun wx=>Hid (∃p,w.heap.size<=p/\wx.heap[p]?=some (.cells #[.iface 344 (.agg #[.string ⟨nm.toArray⟩,.int .i64 (k:Int)]),kv,.int .i64 ((S.frames.length+1:Nat):Int)] TPile (0,0))/\RunCh w rb #[.pointer (some ⟨sb,0,none⟩),.iface 218 (.agg #[.string ⟨nm.toArray⟩,.int .i64 (k:Int),.iface T x']),.pointer oe,gv,.pointer (some ⟨p,0,none⟩),ov] wx/\wx.heap[w.heap.size]?=some (.cells #[.string ⟨nm.toArray⟩,.int .i64 (k:Int),.iface T x'] 218 (0,0))))
 case first =>
  go_region_with (go_at_call 171;refine(HP.out _).mono ?_;rintro e w3 ⟨rfl,HQ⟩)
  all_goals
   go_wp2_with fail
   go_meet
   obtain⟨p,h1,h2,h3,h4⟩:=HQ.out;exact⟨p,h1,h2,h3,h4.trans HBx.out⟩
 case rest =>
  have HQ:=hcut;obtain⟨p,h1,h2,h3,h4⟩:=HQ.out;have HY:=HX.out wc p _ h1 h2 h3;have HX2:Hid (∀w2,RunCh wc rb #[.pointer (some ⟨sb,0,none⟩),.iface T x',.pointer oe,.nilIface,.pointer (some ⟨p,0,none⟩),ov] w2->Went M w s tb mb sb gb rb ⟨0,W,(S.push ⟨f,[],1,S.env⟩).work o S.env⟩ (.returned .nilIface) w2):=HY;have HG2:Hid (∀w1:World,w1.heap[rb]?=wc.heap[rb]? -> Calls prog 172 #[.pointer (some ⟨rb,1,none⟩),.iface T x',.pointer oe] w1 fun e w'=>e=.returned (.tuple #[])/\RunCh w1 rb #[.pointer (some ⟨sb,0,none⟩),.iface T x',.pointer oe,.nilIface,.pointer (some ⟨p,0,none⟩),ov] w'):=fun w1 e1=>HG.out wc w1 _ _ _ _ h3.blk e1;have b0:=aA h4 0;have b2:=aA h4 2;simp only [List.getElem?_toArray,List.getElem?_cons_zero,List.getElem?_cons_succ] at b0 b2;have hrw:rb<wc.heap.size:=aB h3.blk;clear h1 h2 h3 h4 HQ hcut HY HX HP HG HBx;go_wp2_with fail;go_region_with (go_at_call 172;refine(HG2.out _ (by rfl)).mono ?_;rintro e w3 ⟨rfl,hc3⟩)
  all_goals
   go_wp2_with fail
   go_ret;exact HX2.out _ (hc3.after ((Below.refl _ _).drew))
theorem FmsAt.cons{s:Sg}{fs:List PF}(h:FmsAt M w s sl fs){f0:PF}{rest:List PF}(e:fs=f0::rest):∃u0 us,Sl M w TForm 1 sl (us.length+1) (u0::us)/\RFm M w s u0 f0/\All2 (RFm M w s) us rest:=by
 subst e;obtain⟨us,h1,h2⟩:=h
 match us,h1,h2 with
 | [],_,h2=>have:=h2.1;simp at this
 | u0::us,h1,h2=>exact⟨u0,us,h1,h2.2 0 u0 f0 rfl rfl,by have:=h2.drop 1;simpa using this⟩
theorem Sl.ne{T:TypeId}{n:Nat}{xs:List Value}(h:Sl M w T 1 sl (n+1) xs)(hM:M rb):∀a m c,sl=.slice (some a) m c->a.block≠rb:=by
 intro a m c e;obtain⟨_,ao,cap,e1,_,h3⟩:=h;rw [e1] at e;simp only [Value.slice.injEq] at e;rcases h3 with h3 | ⟨g,off,cur,h4,hm,_⟩
 ·omega
 ·rw [h4] at e;have:=e.1;simp only [Option.some.injEq] at this;subst this;intro e2;exact hm (by have e3:g=rb:=e2;rw [e3];exact hM)
theorem Sl.rest{T:TypeId}{g off c L:Nat}{u:Value}(h:Sl M w T 1 (.slice (some ⟨g,off,none⟩) L c) (us.length+1) (u::us))(ao:Option Addr)(c':Nat)(hc:us.length<=c')(ha:us.length≠0->ao=some ⟨g,off+1,none⟩):Sl M w T 1 (.slice ao us.length c') us.length us:=Sl.tail1 h us.length rfl ao c' hc ha
theorem pX{w2:World}{s:Sg}{W:PW}{S:PS}{f0:PF}{rest:List PF}{fr:PFr}{env:Env}{ev' u0:Value}(hW:Wd M w s tb mb sb gb W)(hr:RunAt M w sb rb fv ev gv kv ov)(hf:FrR M w s kv S.frames)(ho:OutR M w ov W.out)(hs:Sl M w TForm 1 sl (us.length+1) (u0::us))(h0:RFm M w s u0 f0)(hA:All2 (RFm M w s) us rest)(he:EnvR M w s ev' env)
  (hk:fr.form.k=.begin) (hfr:fr.form.ks.drop fr.pos=rest) (hfe:fr.env=env) (hq:RowQ w sb rb us u0 sl ev' kv ov S.frames.length w2) {o:Option PF} (hoo:o=some f0) (S':PS) (hS':S'=if 0<rest.length then S.push fr else S):Went M w s tb mb sb gb rb ⟨0,W,S'.work o env⟩ (.returned .nilIface) w2:=by
 subst hS';rcases hq with⟨hl,hc⟩ | ⟨hl,p,g,off,ao,c,cs,w1,hp,rfl,hao,⟨c',hc',hpc⟩,hc1,hc2⟩
 ·rw [if_neg (by rw [<- hA.1,hl];decide)];exact iP hW hr hf ho h0 he hc hoo
 ·rw [if_pos (by rw [<- hA.1];omega)];subst hfe;exact dL hW hr hf ho h0 he (.begin _ ev' fr hk (by rw [hfr];exact⟨us,hs.rest ao c' hc' (fun _=>hao),hA⟩) he) hc1 hp hpc hc2 hoo
theorem oT(M:Nat->Prop)(w:World)(s:Sg)(tb mb sb gb rb:Nat)(W:PW)(S:PS)(hW:Wd M w s tb mb sb gb W)(hFl:S.frames.length<=6500000000000000000){ev0 rv:Value}(hr:RunAt M w sb rb fv ev0 gv kv ov)(hf:FrR M w s kv S.frames)(ho:OutR M w ov W.out)(fr:PFr)(he:EnvR M w s ev fr.env)(hk:fr.form.k=.begin)(f0:PF)(rest:List PF)(hfs:fr.form.ks.drop fr.pos=f0::rest)(hrv:FmsAt M w s rv (fr.form.ks.drop fr.pos))(hlen:rest.length<=2000)(v:Value)(hv:∃T x,v=.iface T x)(S':PS)(hS':S'=if 0<rest.length then S.push {fr with got:=[],pos:=fr.pos+1} else S)(o:Option PF)(hoo:o=some f0) :Calls prog 401 #[.agg #[rv,ev],.pointer (some ⟨rb,0,none⟩),v] w fun e w'=>Went M w s tb mb sb gb rb ⟨0,W,S'.work o fr.env⟩ e w':=by
 obtain⟨u0,us,hsl,h0,hA⟩:=hrv.cons hfs;have hrl:=aB hr.blk;have hB:Below w.heap.size w (w.alloc (.cells #[rv,ev] 375)):=(Below.refl _ _).alloc (Nat.le_refl _) _;have hs:Stp M w M (w.alloc (.cells #[rv,ev] 375)):=Stp.of_below hB
 have hd:fr.form.ks.drop (fr.pos+1)=rest:=by
  have:(fr.form.ks.drop fr.pos).drop 1=rest:=by rw [hfs];rfl
  rw [List.drop_drop] at this;exact this
 have HC:Hid (Calls prog 173 #[.pointer (some ⟨rb,0,none⟩),rv,ev] (w.alloc (.cells #[rv,ev] 375)) fun e w'=>e=.returned (.tuple #[])/\Hid (Went M w s tb mb sb gb rb ⟨0,W,S'.work o fr.env⟩ (.returned .nilIface) w')):=show Calls _ _ _ _ _ from
  (m6 _ sb rb fv ev0 gv kv ov rv ev u0 us S.frames.length ((hB.block rb hrl).trans hr.blk) (Sl.slOf (hsl.stp hs)) (hsl.ne hr.mrb) (by rw [hA.1];exact hlen) h0.iface he.ptr hf.ptr (hf.pileN.below hB) hFl).mono (fun e w' ⟨h1,h2⟩=>⟨h1,
   (pX (fr:={fr with got:=[],pos:=fr.pos+1}) (hW.mv (Mv.below hB)) ⟨(hB.block rb hrl).trans hr.blk,hr.mrb⟩ (hf.go hs (Sg.Le.refl _)) (ho.below hB) (hsl.stp hs) (h0.go hs (Sg.Le.refl _)) (hA.mono (fun _ _ x=>x.go hs (Sg.Le.refl _))) (he.go hs (Sg.Le.refl _)) hk hd rfl h2 hoo S' hS').after hs⟩)
 obtain⟨oe,rfl⟩:=he.ptr;obtain⟨_,ao,cap,rfl,_⟩:=hsl;obtain⟨T,x,rfl⟩:=hv;clear hW hr hf ho he hrv h0 hA hB hs hd hS' hoo hfs hk;go_enter func401,ntmps401;go_wp2_with (go_at_call 173;refine Calls.mono HC.out ?_;rintro e w3 ⟨rfl,HQ⟩);go_ret;exact HQ.out
theorem uN(M:Nat->Prop)(w:World)(s:Sg)(tb mb sb gb rb:Nat)(W:PW)(S:PS)(hW:Wd M w s tb mb sb gb W)(hFl:S.frames.length<=6500000000000000000)(f:PF)(hr:RunAt M w sb rb (.iface 347 (.agg #[sl])) ev gv kv ov)(he:EnvR M w s ev S.env)(hf:FrR M w s kv S.frames)(ho:OutR M w ov W.out)(hk:f.k=.begin)(f0:PF)(rest:List PF)(hfs:f.ks=f0::rest)(hrv:FmsAt M w s sl f.ks)(hlen:rest.length<=2000)(S':PS)(hS':S'=if 0<rest.length then S.push ⟨f,[],1,S.env⟩ else S)(o:Option PF)(hoo:o=some f0) :Calls prog 128 #[.pointer (some ⟨rb,0,none⟩)] w fun e w'=>Went M w s tb mb sb gb rb ⟨0,W,S'.work o S.env⟩ e w':=by
 generalize hfv:Value.iface 347 (.agg #[sl])=fv0 at hr;have hrl:=aB hr.blk;have e1:w.cell? ⟨rb,1,none⟩=some fv0:=aA hr.blk 1;have e2:w.cell? ⟨rb,2,none⟩=some ev:=aA hr.blk 2;have HB:Hid (∀ob,Below w.heap.size w (w.alloc ob)):=fun ob=>(Below.refl _ _).alloc (Nat.le_refl _) _;have HK:Hid (∀ob,(w.alloc ob).drew.heap[rb]?=w.heap[rb]?):=fun ob=>(HB.out ob).block rb hrl;obtain⟨u0,us,hsl,h0,hA⟩:=hrv.cons hfs;have hd:f.ks.drop 1=rest:=by rw [hfs];rfl
 have HC:Hid (∀ob,Calls prog 173 #[.pointer (some ⟨rb,0,none⟩),sl,ev] (w.alloc ob) fun e w'=>e=.returned (.tuple #[])/\Hid (Went M w s tb mb sb gb rb ⟨0,W,S'.work o S.env⟩ (.returned .nilIface) w')):=fun ob=>by
  have hB:=HB.out ob;have hs:Stp M w M (w.alloc ob):=Stp.of_below hB
  exact(m6 _ sb rb fv0 ev gv kv ov sl ev u0 us S.frames.length ((hB.block rb hrl).trans hr.blk) (Sl.slOf (hsl.stp hs)) (hsl.ne hr.mrb) (by rw [hA.1];exact hlen) h0.iface he.ptr hf.ptr (hf.pileN.below hB) hFl).mono (fun e w' ⟨h1,h2⟩=>⟨h1,
   (pX (fr:=⟨f,[],1,S.env⟩) (hW.mv (Mv.below hB)) ⟨(hB.block rb hrl).trans hr.blk,hr.mrb⟩ (hf.go hs (Sg.Le.refl _)) (ho.below hB) (hsl.stp hs) (h0.go hs (Sg.Le.refl _)) (hA.mono (fun _ _ x=>x.go hs (Sg.Le.refl _))) (he.go hs (Sg.Le.refl _)) hk hd rfl h2 hoo S' hS').after hs⟩)
 subst hfv;have fy:=Tryz.fyes_Begin;have fn0:=Tryz.fno_Begin_Constant;have fn1:=Tryz.fno_Begin_Name;have fn2:=Tryz.fno_Begin_Lambda;have fn3:=Tryz.fno_Begin_If;have fn4:=Tryz.fno_Begin_Set;have fn5:=Tryz.fno_Begin_Define;obtain⟨oe,rfl⟩:=he.ptr;obtain⟨_,ao,cap,rfl,_⟩:=hsl;clear hW hr hf ho he hrv h0 hA hd hS' hoo hfs hk;go_enter func128,ntmps128;go_wp2_with (go_at_call 173;refine(HC.out _).mono ?_;rintro e w3 ⟨rfl,HQ⟩);go_ret;exact HQ.out
theorem yD(M:Nat->Prop)(w:World)(s:Sg)(tb mb sb gb rb:Nat)(W:PW)(S:PS)(hW:Wd M w s tb mb sb gb W)(hFl:S.frames.length<=6500000000000000000)(f:PF)(hr:RunAt M w sb rb (.iface 349 (.agg #[sl])) ev gv kv ov)(he:EnvR M w s ev S.env)(hf:FrR M w s kv S.frames)(ho:OutR M w ov W.out)(hk:f.k=.call)(f0:PF)(rest:List PF)(hfs:f.ks=f0::rest)(hrv:FmsAt M w s sl f.ks)(o:Option PF)(hoo:o=some f0) :Calls prog 128 #[.pointer (some ⟨rb,0,none⟩)] w fun e w'=>Went M w s tb mb sb gb rb ⟨0,W,(S.push ⟨f,[],1,S.env⟩).work o S.env⟩ e w':=by
 generalize hfv:Value.iface 349 (.agg #[sl])=fv0 at hr;have hrl:=aB hr.blk;have e1:w.cell? ⟨rb,1,none⟩=some fv0:=aA hr.blk 1;have e2:w.cell? ⟨rb,2,none⟩=some ev:=aA hr.blk 2;have HB:Hid (∀ob,Below w.heap.size w (w.alloc ob)):=fun ob=>(Below.refl _ _).alloc (Nat.le_refl _) _;have HK:Hid (∀ob,(w.alloc ob).drew.heap[rb]?=w.heap[rb]?):=fun ob=>(HB.out ob).block rb hrl;obtain⟨u0,us,hsl,h0,hA⟩:=hrv.cons hfs;have hd:f.ks.drop 1=rest:=by rw [hfs];rfl
 obtain⟨g,off,cap,rfl,hcap,hg,c0,_⟩:=(Sl.slOf hsl).cell0;have hgr:g≠rb:=hsl.ne hr.mrb ⟨g,off,none⟩ _ _ rfl
 have HP:Hid (∀ob (ao:Option Addr) (L c:Nat),L=us.length->us.length<=c->(us.length≠0->ao=some ⟨g,off+1,none⟩)->Calls prog 171 #[.pointer (some ⟨rb,1,none⟩),.iface 352 (.agg #[.slice none 0 0,.slice ao L c,ev])] (w.alloc ob).drew fun e w'=>e=.returned (.tuple #[])/\Hid (w'.heap[w.heap.size]?=(w.alloc ob).heap[w.heap.size]? /\ w'.heap[g]?=w.heap[g]? /\ ∃p a b d,w'.heap[rb]?=some (.cells #[.pointer (some ⟨sb,0,none⟩),a,b,d,.pointer (some ⟨p,0,none⟩),ov] TRun (0,0))/\∀w2,RunCh w' rb #[.pointer (some ⟨sb,0,none⟩),u0,ev,.nilIface,.pointer (some ⟨p,0,none⟩),ov] w2->Went M w s tb mb sb gb rb ⟨0,W,(S.push ⟨f,[],1,S.env⟩).work o S.env⟩ (.returned .nilIface) w2)):=fun ob ao L c h1 h2 h3=>by
  subst h1
  exact(kS (w.alloc ob).drew rb _ _ _ _ kv ov _ S.frames.length ((HK.out ob).trans hr.blk) ⟨_,_,rfl⟩ hf.ptr (hf.pileN.below (HB.out ob).drew) hFl).mono (fun e w' ⟨k1,p,k2,k3,k4⟩=>⟨k1,k4.other _ (by simp) (by omega),(k4.after (HB.out ob).drew).other g hg hgr,p,_,_,_,k4.blk,fun w2 hc =>
   dL hW hr hf ho h0 he (.call (.slice none 0 0) _ ev ⟨f,[],1,S.env⟩ hk ⟨[],⟨rfl,none,0,rfl,Nat.le_refl _,.inl rfl⟩,All2.nil _⟩ (by show FmsAt _ _ _ _ (f.ks.drop 1);rw [hd];exact⟨us,hsl.rest ao c h2 h3,hA⟩) he) (k4.after (HB.out ob).drew) (Nat.le_trans (HB.out ob).size k2) k3 hc hoo⟩)
 have HG:Hid (∀(w0 w1:World) c1 c2 c3 k1,w0.heap[rb]?=some (.cells #[.pointer (some ⟨sb,0,none⟩),c1,c2,c3,k1,ov] TRun (0,0))->w1.heap[rb]?=w0.heap[rb]? -> Calls prog 172 #[.pointer (some ⟨rb,1,none⟩),u0,ev] w1 fun e w'=>e=.returned (.tuple #[])/\RunCh w1 rb #[.pointer (some ⟨sb,0,none⟩),u0,ev,.nilIface,k1,ov] w'):=fun w0 w1 c1 c2 c3 k1 h0' h1=>cU w1 rb _ _ _ _ _ _ u0 ev (h1.trans h0') h0.iface he.ptr;subst hfv;have fy:=Tryz.fyes_Call;have fn0:=Tryz.fno_Call_Constant;have fn1:=Tryz.fno_Call_Name;have fn2:=Tryz.fno_Call_Lambda;have fn3:=Tryz.fno_Call_If;have fn4:=Tryz.fno_Call_Set;have fn5:=Tryz.fno_Call_Define;have fn6:=Tryz.fno_Call_Begin;obtain⟨oe,rfl⟩:=he.ptr;obtain⟨T,x,rfl⟩:=h0.iface;obtain⟨m,hm⟩:∃m,us.length+1=m:=⟨_,rfl⟩
 rw [hm] at e1 hcap;have hl1:(0:Int)<(m:Int):=by omega
 have hl2:(1:Int)<=(m:Int):=by omega
 have HBx:Hid ((w.alloc (.cells #[.slice (some ⟨g,off,none⟩) m cap] 349)).heap[w.heap.size]?=some (.cells #[.slice (some ⟨g,off,none⟩) m cap] 349 (0,0))):=heap_alloc_new w _;have HC0:Hid (w.cell? ⟨g,off,none⟩=some (.iface T x)):=c0;have HM:Hid (us.length+1=m/\m<=cap):=⟨hm,hcap⟩
 clear hW hr hf ho he hrv h0 hA hd hoo hfs hk hsl;obtain⟨c,rfl⟩:∃c,cap=c+1:=⟨cap-1,by omega⟩
 go_enter func128,ntmps128
 go_upto_region 29 with fail
 go_cut [] (fun wx=>Hid (wx.heap[w.heap.size]?=some (.cells #[.slice (some ⟨g,off,none⟩) m (c+1)] 349 (0,0))/\wx.heap[g]?=w.heap[g]? /\ ∃p a b d,wx.heap[rb]?=some (.cells #[.pointer (some ⟨sb,0,none⟩),a,b,d,.pointer (some ⟨p,0,none⟩),ov] TRun (0,0))/\∀w2,RunCh wx rb #[.pointer (some ⟨sb,0,none⟩),.iface T x,.pointer oe,.nilIface,.pointer (some ⟨p,0,none⟩),ov] w2->Went M w s tb mb sb gb rb ⟨0,W,(S.push ⟨f,[],1,S.env⟩).work o S.env⟩ (.returned .nilIface) w2))
 case first =>
  rcases c with _ | c
  all_goals
   go_region_with (go_at_call 171;refine(HP.out _ _ _ _ (by have:=HM.out;omega) (by have:=HM.out;omega) (by intro hh;first | rfl | (exfalso;have:=HM.out;omega))).mono ?_;rintro e w3 ⟨rfl,HQ⟩)
   all_goals
    go_wp2_with fail
    go_meet
    exact⟨HQ.out.1.trans HBx.out,HQ.out.2⟩
 case rest =>
  have HQ:=hcut;obtain⟨h1,h2,p,a,b,d,h3,h4⟩:=HQ.out;have HX2:Hid (∀w2,RunCh wc rb #[.pointer (some ⟨sb,0,none⟩),.iface T x,.pointer oe,.nilIface,.pointer (some ⟨p,0,none⟩),ov] w2->Went M w s tb mb sb gb rb ⟨0,W,(S.push ⟨f,[],1,S.env⟩).work o S.env⟩ (.returned .nilIface) w2):=h4;have HG2:Hid (∀w1:World,w1.heap[rb]?=wc.heap[rb]? -> Calls prog 172 #[.pointer (some ⟨rb,1,none⟩),.iface T x,.pointer oe] w1 fun e w'=>e=.returned (.tuple #[])/\RunCh w1 rb #[.pointer (some ⟨sb,0,none⟩),.iface T x,.pointer oe,.nilIface,.pointer (some ⟨p,0,none⟩),ov] w'):=fun w1 e1=>HG.out wc w1 _ _ _ _ h3 e1;have b0:wc.cell? ⟨w.heap.size,0,none⟩=some (.slice (some ⟨g,off,none⟩) m (c+1)):=aA h1 0;have c0':wc.cell? ⟨g,off,none⟩=some (.iface T x):=(World.cell?_of_block (w:=w) h2).trans HC0.out;have hrw:rb<wc.heap.size:=aB h3;clear h1 h2 h3 h4 HQ hcut HP HG HBx;go_wp2_with fail;go_region_with (go_at_call 172;refine(HG2.out _ (by rfl)).mono ?_;rintro e w3 ⟨rfl,hc3⟩)
  all_goals
   go_wp2_with fail
   go_ret;exact HX2.out _ (hc3.after ((Below.refl _ _).drew))
structure Ap(M:Nat->Prop)(w0 w:World)(s:Sg)(tb mb sb gb rb:Nat)(W:PW)(S:PS)(fv ev gv kv ov av:Value)(us:List Value)(args:List PV):Prop where
 below:Below w0.heap.size w0 w
 wd:Wd M w0 s tb mb sb gb W
 run:RunAt M w0 sb rb fv ev gv kv ov
 fr:FrR M w0 s kv S.frames
 out:OutR M w0 ov W.out
 vals:All2 (RV s) us args
 len:us.length<=2000
 args:∃ao cap,av=.slice ao us.length cap/\us.length<=cap/\(us.length≠0->∃(g off:Nat)(cur:Array Value),ao=some ⟨g,off,none⟩/\w0.heap.size<=g/\w.heap[g]?=some (Obj.cells cur TVal (0,0))/\∀(i:Nat)(u:Value),us[i]?=some u->cur[off+i]?=some u)
def kJ(g off:Nat):Nat->List (Option (Nat×Nat))
 | 0=>[]
 | n+1=>kJ g off n++[some (g,off+n)]
theorem dU(g off:Nat):∀n,(kJ g off n).length=n
 | 0=>rfl
 | n+1=>by simp [kJ,dU g off n]
theorem jL(g off:Nat):∀(n i:Nat),i<n->(kJ g off n)[i]?=some (some (g,off+i))
 | 0,i,h=>by omega
 | n+1,i,h=>by
  rcases Nat.lt_or_ge i n with hi | hi
  ·rw [kJ,List.getElem?_append_left (by rw [dU];exact hi)];exact jL g off n i hi
  ·obtain rfl:i=n:=by omega
   rw [kJ,List.getElem?_append_right (by rw [dU];exact Nat.le_refl _),dU];simp
theorem dS(g off n i:Nat)(c:Option (Nat×Nat))(h:(kJ g off n)[i]?=some c):i<n/\c=some (g,off+i):=by
 have hi:i<n:=by have:=(List.getElem?_eq_some_iff.1 h).1;rw [dU] at this;exact this
 rw [jL g off n i hi] at h;exact⟨hi,(Option.some.inj h).symm⟩
def Sg.addPl(s:Sg)(g off n:Nat):Sg:={s with lp:=s.lp++kJ g off n}
theorem Sg.addPl_le(s:Sg)(g off n:Nat):Sg.Le s (s.addPl g off n):=⟨rfl,rfl,List.prefix_refl _,List.prefix_refl _,List.prefix_refl _,List.prefix_append _ _,List.prefix_refl _⟩
def Mg(M:Nat->Prop)(g n:Nat):Nat->Prop:=Mn M (fun k=>n≠0/\k=g)
theorem wR{α:Type}{a b:List α}{i:Nat}{x:α}(h:(a++b)[i]?=some x):(i<a.length/\a[i]?=some x)\/(a.length<=i/\b[i-a.length]?=some x):=by
 rcases Nat.lt_or_ge i a.length with hi | hi
 ·left;rw [List.getElem?_append_left hi] at h;exact⟨hi,h⟩
 ·right;rw [List.getElem?_append_right hi] at h;exact⟨hi,h⟩
theorem Wd.addPl{s:Sg}{W:PW}(h:Wd M w s tb mb sb gb W)(hB:Below w.heap.size w w'){args:List PV}(hA:All2 (RV s) us args)(g off:Nat)(cur:Array Value)(hg:us.length≠0->w.heap.size<=g/\w'.heap[g]?=some (.cells cur TVal (0,0))/\∀(i:Nat)(u:Value),us[i]?=some u->cur[off+i]?=some u) :Wd (Mg M g us.length) w' (s.addPl g off us.length) tb mb sb gb {W with places:=W.places++args}/\Mv M w (Mg M g us.length) w':=by
 have hm:Mv M w (Mg M g us.length) w':=Mv.wide _ (fun k hk=>by rw [hk.2];exact(hg hk.1).1) hB (fun k hk=>by rw [hk.2];exact aB (hg hk.1).2.1);have h':=h.mv hm;have l:=s.addPl_le g off us.length;have hlt:∀i g' o',s.lp[i]?=some (some (g',o'))->g'<w.heap.size:=fun i g' o' hi=>by have hl:=(List.getElem?_eq_some_iff.1 hi).1;obtain⟨_,_,_,h2,_⟩:=h.places.at_ i g' o' _ hi (List.getElem?_eq_getElem (by rw [<- h.places.len];exact hl));exact aB h2
 refine⟨⟨⟨h'.rdr.tab,h'.rdr.pairs.le l rfl,h'.rdr.mmb,h'.rdr.mtb,h'.rdr.mlt⟩,h'.ses,h'.msb,?_,h'.mgb,h'.gne,h'.procs.mono (fun b x hx=>hx.go (Stp.refl _ _) l),h'.conts.mono (fun b x hx=>hx.go (Stp.refl _ _) l),?_,h'.gs,h'.prm,h'.gt,h'.ge,h'.tq,h'.tc⟩,hm⟩
 ·obtain⟨D,h1,h2⟩:=h'.glob;refine⟨D,h1,h2.tidy,fun k nm i hk hf=>?_,h2.no,h2.keys,fun nm i hf=>?_,h2.inj⟩
  ·obtain⟨k1,v,p,k2,k3,k4⟩:=h2.yes k nm i hk hf;exact⟨k1,v,p,k2,bS (List.prefix_append _ _) k3,k4.le l⟩
  ·obtain⟨k1,k2⟩:=h2.names nm i hf;exact⟨k1,bS l.lp k2⟩
 ·refine⟨?_,?_,?_⟩
  ·show(s.lp++kJ g off us.length).length=(W.places++args).length;rw [List.length_append,List.length_append,dU,h.places.len,hA.1]
  ·intro i j c hi hj;rcases wR hi with⟨i1,i2⟩ | ⟨i1,i2⟩<;>rcases wR hj with⟨j1,j2⟩ | ⟨j1,j2⟩
   ·exact h.places.inj i j c i2 j2
   ·obtain⟨j3,j4⟩:=dS _ _ _ _ _ j2;have:=Option.some.inj j4;subst this;have k1:=hlt i _ _ i2;have k2:=(hg (by omega)).1;omega
   ·obtain⟨i3,i4⟩:=dS _ _ _ _ _ i2;have:=Option.some.inj i4;subst this;have k1:=hlt j _ _ j2;have k2:=(hg (by omega)).1;omega
   ·obtain⟨i3,i4⟩:=dS _ _ _ _ _ i2;obtain⟨j3,j4⟩:=dS _ _ _ _ _ j2;have e1:=Option.some.inj i4;have e2:=Option.some.inj j4;rw [e1] at e2;simp only [Prod.mk.injEq,true_and] at e2;omega
  ·intro i g' o' p hi hp;rcases wR hi with⟨i1,i2⟩ | ⟨i1,i2⟩
   ·have hp':W.places[i]?=some p:=by
     have:(W.places++args)[i]?=some p:=hp
     rwa [List.getElem?_append_left (by rw [<- h.places.len];exact i1)] at this
    obtain⟨k1,cur',v,k2,k3,k4⟩:=h'.places.at_ i g' o' p i2 hp';exact⟨k1,cur',v,k2,k3,k4.le l⟩
   ·obtain⟨i3,i4⟩:=dS _ _ _ _ _ i2;have e:=Option.some.inj i4;simp only [Prod.mk.injEq] at e;obtain⟨rfl,rfl⟩:=e
    have hp':args[i-s.lp.length]?=some p:=by
     have:(W.places++args)[i]?=some p:=hp
     rwa [List.getElem?_append_right (by rw [<- h.places.len];exact i1),<-h.places.len] at this
    obtain⟨u,hu,hr⟩:=hA.at_ hp';obtain⟨_,k2,k3⟩:=hg (by omega);exact⟨.inr ⟨by omega,rfl⟩,cur,u,k2,k3 _ u hu,hr.le l⟩
def jC(W:PW)(S:PS)(q:PF×Env)(args:List PV):SR:=if args.length≠q.1.ns.length then⟨10,W,S⟩ else⟨0,{W with places:=W.places++args},S.work q.1.ks[0]? (q.2++Pl.numb q.1.ns W.places.length)⟩
theorem Ap.no{w0 w2:World}{s:Sg}{W:PW}{S S':PS}{av:Value}{args:List PV}(h:Ap M w0 w s tb mb sb gb rb W S fv ev gv kv ov av us args)(hB:Below w.heap.size w w2){es:ByteArray}{c:Nat}(hc:c≠0):Went M w0 s tb mb sb gb rb ⟨c,W,S'⟩ (.returned (aY es c)) w2:=iG h.wd h.run h.out (h.below.trans (hB.mono h.below.size)) hc
theorem Ap.rb_blk{w0:World}{s:Sg}{W:PW}{S:PS}{av:Value}{args:List PV}(h:Ap M w0 w s tb mb sb gb rb W S fv ev gv kv ov av us args):w.heap[rb]?=some (.cells #[.pointer (some ⟨sb,0,none⟩),fv,ev,gv,kv,ov] TRun (0,0)):=(h.below.block rb (aB h.run.blk)).trans h.run.blk
end
end Go.Proofs.YtkgbdddkcjpgfaaGreatDoor
