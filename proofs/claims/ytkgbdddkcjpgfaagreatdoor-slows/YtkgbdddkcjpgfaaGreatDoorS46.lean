import Derived.Test.YtkgbdddkcjpgfaaGreatDoorS39
namespace Go.Proofs.YtkgbdddkcjpgfaaGreatDoor
set_option maxHeartbeats 4000000
set_option maxRecDepth 100000
open Go.Proofs.Tryz
open Pl (PV PW PS PF PFr Byt Env)
section
open Go.RowKit Go.Lib Go.Maps
variable {kv ev gv ov fv sl ev':Value} {M:Nat->Prop} {w w2:World} {rb tb mb sb gb:Nat}
theorem iP{s:Sg}{W:PW}{S:PS}{f:PF}{env:Env}{fv':Value}(hW:Wd M w s tb mb sb gb W)(hr:RunAt M w sb rb fv ev gv kv ov)(hf:FrR M w s kv S.frames)(ho:OutR M w ov W.out)(h1:RFm M w s fv' f)(h2:EnvR M w s ev' env)(hc:RunCh w rb #[.pointer (some ⟨sb,0,none⟩),fv',ev',.nilIface,kv,ov] w2){o:Option PF}(hfo:o=some f):Went M w s tb mb sb gb rb ⟨0,W,S.work o env⟩ (.returned .nilIface) w2:=by subst hfo;exact eH hW hr.blk hr.mrb hc (fun hs=>⟨h1.go hs (Sg.Le.refl _),h2.go hs (Sg.Le.refl _)⟩) (fun hs=>hf.go hs (Sg.Le.refl _)) ho
theorem fr_push{s:Sg}{p:Nat}{cs cs0:Array Value}{fs:List PFr}{top:Value}{fr:PFr}(hl:∀k,M k->k<w.heap.size)(hb:w.heap[rb]?=some (.cells cs0 TRun (0,0)))(hM:M rb)(hc:RunCh w rb cs w2)(hf:FrR M w s kv fs)(ht:TopR M w s top fr)(hp:w.heap.size<=p)(hpc:w2.heap[p]?=some (.cells #[top,kv,.int .i64 ((fs.length+1:Nat):Int)] TPile (0,0))):FrR M w2 s (.pointer (some ⟨p,0,none⟩)) (fr::fs):=by have hs:=(hc.mv hb hM).stp;exact⟨p,top,kv,rfl,fun hm=>by have:=hl p hm;omega,hpc,ht.go hs (Sg.Le.refl _),hf.go hs (Sg.Le.refl _)⟩
theorem dL{w1:World}{s:Sg}{p:Nat}{W:PW}{S:PS}{f:PF}{fr:PFr}{env:Env}{fv' top:Value}{cs:Array Value}(hW:Wd M w s tb mb sb gb W)(hr:RunAt M w sb rb fv ev gv kv ov)(hf:FrR M w s kv S.frames)(ho:OutR M w ov W.out)(h1:RFm M w s fv' f)(h2:EnvR M w s ev' env)(ht:TopR M w s top fr)(hc1:RunCh w rb cs w1)(hp:w.heap.size<=p)(hpc:w1.heap[p]?=some (.cells #[top,kv,.int .i64 ((S.frames.length+1:Nat):Int)] TPile (0,0)))
  (hc2:RunCh w1 rb #[.pointer (some ⟨sb,0,none⟩),fv',ev',.nilIface,.pointer (some ⟨p,0,none⟩),ov] w2) {o:Option PF} (hfo:o=some f):Went M w s tb mb sb gb rb ⟨0,W,(S.push fr).work o env⟩ (.returned .nilIface) w2:=by
 subst hfo;have hrl:=aB hr.blk;have hpc2:=(hc2.other p (aB hpc) (by omega)).trans hpc;exact eH hW hr.blk hr.mrb (hc1.trans hc2) (fun hs=>⟨h1.go hs (Sg.Le.refl _),h2.go hs (Sg.Le.refl _)⟩) (fun _=>fr_push hW.rdr.mlt hr.blk hr.mrb (hc1.trans hc2) hf ht hp hpc2) ho
theorem yF(M:Nat->Prop)(w:World)(s:Sg)(tb mb sb gb rb:Nat)(W:PW)(S:PS)(env:Env)(hW:Wd M w s tb mb sb gb W){ev0 a b c:Value}(hr:RunAt M w sb rb fv ev0 gv kv ov)(hf:FrR M w s kv S.frames)(ho:OutR M w ov W.out)(he:EnvR M w s ev env)(y z:PF)(ha:∃T x,a=.iface T x)(hb:RFm M w s b y)(hc:RFm M w s c z)(v:Value)(q:PV)(hv:RV s v q)(o:Option PF)(hoo:o=if q=.truth false then some z else some y) :Calls prog 380 #[.agg #[a,b,c,ev],.pointer (some ⟨rb,0,none⟩),v] w fun e w'=>Went M w s tb mb sb gb rb ⟨0,W,S.work o env⟩ e w':=by
 have hrl:=aB hr.blk;have hq:=fun w'=>hv.eqFalse hW.eng w';have HB:Hid (∀ob,Below w.heap.size w (w.alloc ob)):=fun ob=>(Below.refl _ _).alloc (Nat.le_refl _) _;have HX:Hid (∀ob w2 fv' f,RFm M w s fv' f->o=some f->RunCh (w.alloc ob) rb #[.pointer (some ⟨sb,0,none⟩),fv',ev,.nilIface,kv,ov] w2->Went M w s tb mb sb gb rb ⟨0,W,S.work o env⟩ (.returned .nilIface) w2):=fun ob w2 fv' f h1 h2 h3=>iP hW hr hf ho h1 he (h3.after (HB.out ob)) h2;have HG:Hid (∀w1:World,w1.heap[rb]?=w.heap[rb]? -> ∀fv',(∃T x,fv'=.iface T x)->Calls prog 172 #[.pointer (some ⟨rb,1,none⟩),fv',ev] w1 fun e w'=>e=.returned (.tuple #[])/\RunCh w1 rb #[.pointer (some ⟨sb,0,none⟩),fv',ev,.nilIface,kv,ov] w'):=fun w1 h1 fv' hv=>cU w1 rb _ _ _ _ _ _ fv' ev (h1.trans hr.blk) hv he.ptr;have HK:Hid (∀ob,(w.alloc ob).drew.heap[rb]?=w.heap[rb]?):=fun ob=>(HB.out ob).block rb hrl;have HZ:Hid (RFm M w s b y/\RFm M w s c z):=⟨hb,hc⟩
 obtain⟨oe,rfl⟩:=he.ptr;obtain⟨T,x,rfl⟩:=hv.iface;obtain⟨Ta,xa,rfl⟩:=ha;obtain⟨Tb,xb,rfl⟩:=hb.iface;obtain⟨Tc,xc,rfl⟩:=hc.iface;by_cases hqf:q=.truth false
 ·have hd:decide (q=.truth false)=true:=by simpa using hqf
  rw [hd] at hq;rw [if_pos hqf] at hoo;have HO2:Hid (o=some z):=hoo;clear hW hr hf ho he hb hc hv hqf hd hoo;go_enter func380,ntmps380;go_wp2_with fail;go_region_with (go_at_call 172;refine(HG.out _ (HK.out _) _ ⟨_,_,rfl⟩).mono ?_;rintro e w3 ⟨rfl,hc3⟩)
  all_goals
   go_wp2_with fail
   go_ret;exact HX.out _ _ _ z HZ.out.2 HO2.out (hc3.after ((Below.refl _ _).drew))
 ·have hd:decide (q=.truth false)=false:=by simpa using hqf
  rw [hd] at hq;rw [if_neg hqf] at hoo;have HO2:Hid (o=some y):=hoo;clear hW hr hf ho he hb hc hv hqf hd hoo;go_enter func380,ntmps380;go_wp2_with fail;go_region_with (go_at_call 172;refine(HG.out _ (HK.out _) _ ⟨_,_,rfl⟩).mono ?_;rintro e w3 ⟨rfl,hc3⟩)
  all_goals
   go_wp2_with fail
   go_ret;exact HX.out _ _ _ y HZ.out.1 HO2.out (hc3.after ((Below.refl _ _).drew))
def RowQ(w:World)(sb rb:Nat)(us:List Value)(u0:Value)(sl ev kv ov:Value)(n:Nat)(w':World):Prop :=
 (us.length=0/\RunCh w rb #[.pointer (some ⟨sb,0,none⟩),u0,ev,.nilIface,kv,ov] w') \/
 (us.length≠0/\∃p g off ao c cs w1,w.heap.size<=p/\sl=.slice (some ⟨g,off,none⟩) (us.length+1) c/\ao=some ⟨g,off+1,none⟩/\(∃c',us.length<=c'/\w1.heap[p]?=some (.cells #[.iface 375 (.agg #[.slice ao us.length c',ev]),kv,.int .i64 ((n+1:Nat):Int)] TPile (0,0)))/\RunCh w rb cs w1/\RunCh w1 rb #[.pointer (some ⟨sb,0,none⟩),u0,ev,.nilIface,.pointer (some ⟨p,0,none⟩),ov] w')
theorem m6(w:World)(sb rb:Nat)(fv ev0 gv kv ov sl ev u0:Value)(us:List Value)(n:Nat)(hb:w.heap[rb]?=some (.cells #[.pointer (some ⟨sb,0,none⟩),fv,ev0,gv,kv,ov] TRun (0,0)))(hS:SlOf w sl (u0::us))(hne:∀a n c,sl=.slice (some a) n c->a.block≠rb)(hl:us.length<=2000)(hi:∃T x,u0=.iface T x)(hp:∃o,ev=.pointer o)(hk:∃o,kv=.pointer o)(hn:PileN w kv n)(hn2:n<=1000000000) :Calls prog 173 #[.pointer (some ⟨rb,0,none⟩),sl,ev] w fun e w'=>e=.returned (.tuple #[])/\RowQ w sb rb us u0 sl ev kv ov n w':=by
 have hrl:=aB hb;obtain⟨g,off,cap,rfl,hcap,hg,c0,_⟩:=hS.cell0;have hgr:g≠rb:=hne ⟨g,off,none⟩ _ _ rfl;obtain⟨T,x,rfl⟩:=hi;obtain⟨oe,rfl⟩:=hp;obtain⟨ok,rfl⟩:=hk;have HW:Hid (∀(w1:World)(k1:Value) cs,w1.heap[rb]?=some (.cells cs TRun (0,0))->(∃a b c,cs=#[.pointer (some ⟨sb,0,none⟩),a,b,c,k1,ov])->Calls prog 172 #[.pointer (some ⟨rb,1,none⟩),.iface T x,.pointer oe] w1 fun e w'=>e=.returned (.tuple #[])/\RunCh w1 rb #[.pointer (some ⟨sb,0,none⟩),.iface T x,.pointer oe,.nilIface,k1,ov] w'):=fun w1 k1 cs h1 ⟨a,b,c,h2⟩=>by subst h2;exact cU w1 rb _ _ _ _ _ _ _ _ h1 ⟨_,_,rfl⟩ ⟨_,rfl⟩
 have HP:Hid (∀(ao:Option Addr)(L c:Nat),L=us.length->us.length<=c->ao=some ⟨g,off+1,none⟩->Calls prog 171 #[.pointer (some ⟨rb,1,none⟩),.iface 375 (.agg #[.slice ao L c,.pointer oe])] w.drew fun e w'=>e=.returned (.tuple #[])/\Hid (∃p c',us.length<=c'/\w.heap.size<=p/\w'.heap[p]?=some (.cells #[.iface 375 (.agg #[.slice (some ⟨g,off+1,none⟩) us.length c',.pointer oe]),.pointer ok,.int .i64 ((n+1:Nat):Int)] TPile (0,0))/\RunCh w rb #[.pointer (some ⟨sb,0,none⟩),fv,ev0,gv,.pointer (some ⟨p,0,none⟩),ov] w')):=fun ao L c h1 h2 h3=>by subst h1 h3;exact(kS w.drew rb _ _ _ _ _ ov _ n hb ⟨_,_,rfl⟩ ⟨_,rfl⟩ (hn.below ((Below.refl _ _).drew)) hn2).mono (fun e w' ⟨h1,p,h2',h3,h4⟩=>⟨h1,p,c,h2,h2',h3,h4.after ((Below.refl _ _).drew)⟩)
 have HM:Hid (∃m,us.length+1=m):=⟨_,rfl⟩
 obtain⟨m,hm⟩:=HM.out;unfold RowQ;rw [hm] at hcap ⊢;by_cases h0:us.length=0
 ·have hgt:decide ((1:Int)<(m:Int))=false:=by simp;omega
  have HL:Hid (us.length=0):=h0;have hl1:(0:Int)<(m:Int):=by omega
  have HW1:Hid (∀w1:World,w1.heap[rb]?=w.heap[rb]? -> Calls prog 172 #[.pointer (some ⟨rb,1,none⟩),.iface T x,.pointer oe] w1 fun e w'=>e=.returned (.tuple #[])/\RunCh w1 rb #[.pointer (some ⟨sb,0,none⟩),.iface T x,.pointer oe,.nilIface,.pointer ok,ov] w'):=fun w1 h1=>HW.out w1 _ _ (h1.trans hb) ⟨_,_,_,rfl⟩;clear hS hn hb h0 HP HM HW;go_enter func173,ntmps173;go_wp2_with fail;go_region_with (go_at_call 172;refine(HW1.out _ (by rfl)).mono ?_;rintro e w3 ⟨rfl,hc3⟩)
  all_goals
   go_wp2_with fail
   go_end0
   exact⟨rfl,.inl ⟨HL.out,hc3.after ((Below.refl _ _).drew)⟩⟩
 ·have hgt:decide ((1:Int)<(m:Int))=true:=by simp;omega
  have HL:Hid (us.length≠0):=h0;have hl1:(0:Int)<(m:Int):=by omega
  have hl2:(1:Int)<=(m:Int):=by omega
  obtain⟨c,rfl⟩:∃c,cap=c+2:=⟨cap-2,by omega⟩
  have HC:Hid (m<=c+2):=hcap;clear hS hn hb h0 HM;go_enter func173,ntmps173
  go_upto_region 1 with fail
  go_cut [] (fun wx=>Hid (∃p c',us.length<=c'/\w.heap.size<=p/\wx.heap[p]?=some (.cells #[.iface 375 (.agg #[.slice (some ⟨g,off+1,none⟩) us.length c',.pointer oe]),.pointer ok,.int .i64 ((n+1:Nat):Int)] TPile (0,0))/\RunCh w rb #[.pointer (some ⟨sb,0,none⟩),fv,ev0,gv,.pointer (some ⟨p,0,none⟩),ov] wx))
  case first =>
   go_region_with (go_at_call 171;refine(HP.out _ _ _ (by omega) (by have:=HC.out;omega) rfl).mono ?_;rintro e w3 ⟨rfl,HQ⟩)
   all_goals
    go_wp2_with fail
    go_meet
    exact HQ
  case rest =>
   have HQ:=hcut;obtain⟨p,c',h1,h2,h3,h4⟩:=HQ.out;have c03:wc.cell? ⟨g,off,none⟩=some (.iface T x):=(World.cell?_of_block (w:=w) (h4.other g hg hgr)).trans c0;have HX:Hid (∀w',RunCh wc rb #[.pointer (some ⟨sb,0,none⟩),.iface T x,.pointer oe,.nilIface,.pointer (some ⟨p,0,none⟩),ov] w'->_):=fun w' hc=>(Or.inr ⟨HL.out,p,g,off,_,c+2,_,wc,h2,by rw [hm],rfl,⟨c',h1,h3⟩,h4,hc⟩:RowQ w sb rb us (.iface T x) (.slice (some ⟨g,off,none⟩) (us.length+1) (c+2)) (.pointer oe) (.pointer ok) ov n w')
   have HW1:Hid (∀w1:World,w1.heap[rb]?=wc.heap[rb]? -> Calls prog 172 #[.pointer (some ⟨rb,1,none⟩),.iface T x,.pointer oe] w1 fun e w'=>e=.returned (.tuple #[])/\RunCh w1 rb #[.pointer (some ⟨sb,0,none⟩),.iface T x,.pointer oe,.nilIface,.pointer (some ⟨p,0,none⟩),ov] w'):=fun w1 e1=>HW.out w1 _ _ (e1.trans h4.blk) ⟨_,_,_,rfl⟩;have hrw:rb<wc.heap.size:=aB h4.blk;clear h1 h2 h3 h4 HQ hcut;go_wp2_with fail;go_region_with (go_at_call 172;refine(HW1.out _ (by rfl)).mono ?_;rintro e w3 ⟨rfl,hc3⟩)
   all_goals
    go_wp2_with fail
    go_end0
    have:=HX.out _ (hc3.after ((Below.refl _ _).drew));unfold RowQ at this;rw [hm] at this;exact⟨rfl,this⟩
theorem Tryz.fyes_Constant(v:Value)(w:World):(Instr.typeAssert (.iface 223 v) 61 223 true).run prog w=.ok (.tuple #[v,.bool true]) w:=by kernel_rfl
theorem Tryz.fyes_Name(v:Value)(w:World):(Instr.typeAssert (.iface 214 v) 61 214 true).run prog w=.ok (.tuple #[v,.bool true]) w:=by kernel_rfl
theorem Tryz.fno_Name_Constant(v:Value)(w:World):(Instr.typeAssert (.iface 214 v) 61 223 true).run prog w=.ok (.tuple #[.agg #[.nilIface,.bool false],.bool false]) w:=by kernel_rfl
theorem Tryz.fyes_Lambda(v:Value)(w:World):(Instr.typeAssert (.iface 329 v) 61 329 true).run prog w=.ok (.tuple #[v,.bool true]) w:=by kernel_rfl
theorem Tryz.fno_Lambda_Constant(v:Value)(w:World):(Instr.typeAssert (.iface 329 v) 61 223 true).run prog w=.ok (.tuple #[.agg #[.nilIface,.bool false],.bool false]) w:=by kernel_rfl
theorem Tryz.fno_Lambda_Name(v:Value)(w:World):(Instr.typeAssert (.iface 329 v) 61 214 true).run prog w=.ok (.tuple #[.agg #[.string ⟨#[]⟩,.int .i64 0],.bool false]) w:=by kernel_rfl
theorem Tryz.fyes_If(v:Value)(w:World):(Instr.typeAssert (.iface 335 v) 61 335 true).run prog w=.ok (.tuple #[v,.bool true]) w:=by kernel_rfl
theorem Tryz.fno_If_Constant(v:Value)(w:World):(Instr.typeAssert (.iface 335 v) 61 223 true).run prog w=.ok (.tuple #[.agg #[.nilIface,.bool false],.bool false]) w:=by kernel_rfl
theorem Tryz.fno_If_Name(v:Value)(w:World):(Instr.typeAssert (.iface 335 v) 61 214 true).run prog w=.ok (.tuple #[.agg #[.string ⟨#[]⟩,.int .i64 0],.bool false]) w:=by kernel_rfl
theorem Tryz.fno_If_Lambda(v:Value)(w:World):(Instr.typeAssert (.iface 335 v) 61 329 true).run prog w=.ok (.tuple #[.agg #[.slice none 0 0,.nilIface],.bool false]) w:=by kernel_rfl
theorem Tryz.fyes_Set(v:Value)(w:World):(Instr.typeAssert (.iface 340 v) 61 340 true).run prog w=.ok (.tuple #[v,.bool true]) w:=by kernel_rfl
theorem Tryz.fno_Set_Constant(v:Value)(w:World):(Instr.typeAssert (.iface 340 v) 61 223 true).run prog w=.ok (.tuple #[.agg #[.nilIface,.bool false],.bool false]) w:=by kernel_rfl
theorem Tryz.fno_Set_Name(v:Value)(w:World):(Instr.typeAssert (.iface 340 v) 61 214 true).run prog w=.ok (.tuple #[.agg #[.string ⟨#[]⟩,.int .i64 0],.bool false]) w:=by kernel_rfl
theorem Tryz.fno_Set_Lambda(v:Value)(w:World):(Instr.typeAssert (.iface 340 v) 61 329 true).run prog w=.ok (.tuple #[.agg #[.slice none 0 0,.nilIface],.bool false]) w:=by kernel_rfl
theorem Tryz.fno_Set_If(v:Value)(w:World):(Instr.typeAssert (.iface 340 v) 61 335 true).run prog w=.ok (.tuple #[.agg #[.nilIface,.nilIface,.nilIface],.bool false]) w:=by kernel_rfl
theorem Tryz.fyes_Define(v:Value)(w:World):(Instr.typeAssert (.iface 218 v) 61 218 true).run prog w=.ok (.tuple #[v,.bool true]) w:=by kernel_rfl
theorem Tryz.fno_Define_Constant(v:Value)(w:World):(Instr.typeAssert (.iface 218 v) 61 223 true).run prog w=.ok (.tuple #[.agg #[.nilIface,.bool false],.bool false]) w:=by kernel_rfl
theorem Tryz.fno_Define_Name(v:Value)(w:World):(Instr.typeAssert (.iface 218 v) 61 214 true).run prog w=.ok (.tuple #[.agg #[.string ⟨#[]⟩,.int .i64 0],.bool false]) w:=by kernel_rfl
theorem Tryz.fno_Define_Lambda(v:Value)(w:World):(Instr.typeAssert (.iface 218 v) 61 329 true).run prog w=.ok (.tuple #[.agg #[.slice none 0 0,.nilIface],.bool false]) w:=by kernel_rfl
theorem Tryz.fno_Define_If(v:Value)(w:World):(Instr.typeAssert (.iface 218 v) 61 335 true).run prog w=.ok (.tuple #[.agg #[.nilIface,.nilIface,.nilIface],.bool false]) w:=by kernel_rfl
theorem Tryz.fno_Define_Set(v:Value)(w:World):(Instr.typeAssert (.iface 218 v) 61 340 true).run prog w=.ok (.tuple #[.agg #[.string ⟨#[]⟩,.int .i64 0,.nilIface],.bool false]) w:=by kernel_rfl
theorem Tryz.fyes_Begin(v:Value)(w:World):(Instr.typeAssert (.iface 347 v) 61 347 true).run prog w=.ok (.tuple #[v,.bool true]) w:=by kernel_rfl
theorem Tryz.fno_Begin_Constant(v:Value)(w:World):(Instr.typeAssert (.iface 347 v) 61 223 true).run prog w=.ok (.tuple #[.agg #[.nilIface,.bool false],.bool false]) w:=by kernel_rfl
theorem Tryz.fno_Begin_Name(v:Value)(w:World):(Instr.typeAssert (.iface 347 v) 61 214 true).run prog w=.ok (.tuple #[.agg #[.string ⟨#[]⟩,.int .i64 0],.bool false]) w:=by kernel_rfl
theorem Tryz.fno_Begin_Lambda(v:Value)(w:World):(Instr.typeAssert (.iface 347 v) 61 329 true).run prog w=.ok (.tuple #[.agg #[.slice none 0 0,.nilIface],.bool false]) w:=by kernel_rfl
theorem Tryz.fno_Begin_If(v:Value)(w:World):(Instr.typeAssert (.iface 347 v) 61 335 true).run prog w=.ok (.tuple #[.agg #[.nilIface,.nilIface,.nilIface],.bool false]) w:=by kernel_rfl
theorem Tryz.fno_Begin_Set(v:Value)(w:World):(Instr.typeAssert (.iface 347 v) 61 340 true).run prog w=.ok (.tuple #[.agg #[.string ⟨#[]⟩,.int .i64 0,.nilIface],.bool false]) w:=by kernel_rfl
theorem Tryz.fno_Begin_Define(v:Value)(w:World):(Instr.typeAssert (.iface 347 v) 61 218 true).run prog w=.ok (.tuple #[.agg #[.string ⟨#[]⟩,.int .i64 0,.nilIface],.bool false]) w:=by kernel_rfl
theorem Tryz.fyes_Call(v:Value)(w:World):(Instr.typeAssert (.iface 349 v) 61 349 true).run prog w=.ok (.tuple #[v,.bool true]) w:=by kernel_rfl
theorem Tryz.fno_Call_Constant(v:Value)(w:World):(Instr.typeAssert (.iface 349 v) 61 223 true).run prog w=.ok (.tuple #[.agg #[.nilIface,.bool false],.bool false]) w:=by kernel_rfl
theorem Tryz.fno_Call_Name(v:Value)(w:World):(Instr.typeAssert (.iface 349 v) 61 214 true).run prog w=.ok (.tuple #[.agg #[.string ⟨#[]⟩,.int .i64 0],.bool false]) w:=by kernel_rfl
theorem Tryz.fno_Call_Lambda(v:Value)(w:World):(Instr.typeAssert (.iface 349 v) 61 329 true).run prog w=.ok (.tuple #[.agg #[.slice none 0 0,.nilIface],.bool false]) w:=by kernel_rfl
theorem Tryz.fno_Call_If(v:Value)(w:World):(Instr.typeAssert (.iface 349 v) 61 335 true).run prog w=.ok (.tuple #[.agg #[.nilIface,.nilIface,.nilIface],.bool false]) w:=by kernel_rfl
theorem Tryz.fno_Call_Set(v:Value)(w:World):(Instr.typeAssert (.iface 349 v) 61 340 true).run prog w=.ok (.tuple #[.agg #[.string ⟨#[]⟩,.int .i64 0,.nilIface],.bool false]) w:=by kernel_rfl
theorem Tryz.fno_Call_Define(v:Value)(w:World):(Instr.typeAssert (.iface 349 v) 61 218 true).run prog w=.ok (.tuple #[.agg #[.string ⟨#[]⟩,.int .i64 0,.nilIface],.bool false]) w:=by kernel_rfl
theorem Tryz.fno_Call_Begin(v:Value)(w:World):(Instr.typeAssert (.iface 349 v) 61 347 true).run prog w=.ok (.tuple #[.agg #[.slice none 0 0],.bool false]) w:=by kernel_rfl
theorem uM(M:Nat->Prop)(w:World)(s:Sg)(tb mb sb gb rb:Nat)(W:PW)(S:PS)(hW:Wd M w s tb mb sb gb W){v:Value}{b:Bool}{q:PV}(hr:RunAt M w sb rb (.iface 223 (.agg #[v,.bool b])) ev gv kv ov)(he:∃o,ev=.pointer o)(hf:FrR M w s kv S.frames)(ho:OutR M w ov W.out)(hv:RV s v q) :Calls prog 128 #[.pointer (some ⟨rb,0,none⟩)] w fun e w'=>Went M w s tb mb sb gb rb ⟨0,W,S.give q⟩ e w':=by
 generalize hfv:Value.iface 223 (.agg #[v,.bool b])=fv0 at hr;have hrl:=aB hr.blk;have e1:w.cell? ⟨rb,1,none⟩=some fv0:=aA hr.blk 1;have e2:w.cell? ⟨rb,2,none⟩=some ev:=aA hr.blk 2;have HB:Hid (∀ob,Below w.heap.size w (w.alloc ob)):=fun ob=>(Below.refl _ _).alloc (Nat.le_refl _) _;have HK:Hid (∀ob,(w.alloc ob).drew.heap[rb]?=w.heap[rb]?):=fun ob=>(HB.out ob).block rb hrl;subst hfv;have fy:=Tryz.fyes_Constant;have HX:Hid (∀ob w2,RunCh (w.alloc ob) rb #[.pointer (some ⟨sb,0,none⟩),.nilIface,.pointer none,v,kv,ov] w2->Went M w s tb mb sb gb rb ⟨0,W,S.give q⟩ (.returned .nilIface) w2):=fun ob w2 hc=>eH hW hr.blk hr.mrb (hc.after (HB.out ob)) (fun _=>eX hv) (fun hs=>hf.go hs (Sg.Le.refl _)) ho;have HG:Hid (∀w1:World,w1.heap[rb]?=w.heap[rb]? -> Calls prog 169 #[.pointer (some ⟨rb,1,none⟩),v] w1 fun e w'=>e=.returned (.tuple #[])/\RunCh w1 rb #[.pointer (some ⟨sb,0,none⟩),.nilIface,.pointer none,v,kv,ov] w'):=fun w1 h1=>jF w1 rb _ _ _ _ _ _ v (h1.trans hr.blk) hv.iface;obtain⟨oe,rfl⟩:=he;obtain⟨T,x,rfl⟩:=hv.iface;clear hW hr hf ho hv;go_enter func128,ntmps128;go_wp2_with fail;go_region_with (go_at_call 169;refine(HG.out _ (HK.out _)).mono ?_;rintro e w3 ⟨rfl,hc3⟩)
 all_goals
  go_wp2_with fail
  go_ret;exact HX.out _ _ (hc3.after ((Below.refl _ _).drew))
theorem yC(M:Nat->Prop)(w:World)(s:Sg)(tb mb sb gb rb:Nat)(W:PW)(S:PS)(hW:Wd M w s tb mb sb gb W)(hN:NsOk s)(nm:Byt)(k:Nat)(hr:RunAt M w sb rb (.iface 214 (.agg #[.string ⟨nm.toArray⟩,.int .i64 (k:Int)])) ev gv kv ov)(he:EnvR M w s ev S.env)(hf:FrR M w s kv S.frames)(ho:OutR M w ov W.out)(hk:s.ns[k]?=some nm)(hl:nm.length<=1000) :Calls prog 128 #[.pointer (some ⟨rb,0,none⟩)] w fun e w'=>Went M w s tb mb sb gb rb (gD W S nm) e w':=by
 generalize hfv:Value.iface 214 (.agg #[.string ⟨nm.toArray⟩,.int .i64 (k:Int)])=fv0 at hr;have hrl:=aB hr.blk;have e1:w.cell? ⟨rb,1,none⟩=some fv0:=aA hr.blk 1;have e2:w.cell? ⟨rb,2,none⟩=some ev:=aA hr.blk 2;have HB:Hid (∀ob,Below w.heap.size w (w.alloc ob)):=fun ob=>(Below.refl _ _).alloc (Nat.le_refl _) _;have HK:Hid (∀ob,(w.alloc ob).drew.heap[rb]?=w.heap[rb]?):=fun ob=>(HB.out ob).block rb hrl;subst hfv;have fy:=Tryz.fyes_Name;have fn0:=Tryz.fno_Name_Constant
 have HC:Hid (∀ob,Calls prog 170 #[.pointer (some ⟨rb,0,none⟩),.agg #[.string ⟨nm.toArray⟩,.int .i64 (k:Int)]] (w.alloc ob) fun e w'=>∃x,e=.returned x/\Hid (Went M w s tb mb sb gb rb (gD W S nm) (.returned x) w')):=fun ob =>
  (yS M _ s tb mb sb gb rb W S (hW.mv (Mv.below (HB.out ob))) hN ⟨((HB.out ob).block rb hrl).trans hr.blk,hr.mrb⟩ (he.go (Stp.of_below (HB.out ob)) (Sg.Le.refl _)) (hf.go (Stp.of_below (HB.out ob)) (Sg.Le.refl _)) (ho.below (HB.out ob)) nm k hk hl).mono (fun e w' h=>by
   obtain⟨x,rfl⟩:=h.one
   exact⟨x,rfl,h.after (Stp.of_below (HB.out ob))⟩)
 obtain⟨oe,rfl⟩:=he.ptr;clear hW hr hf ho he hN hk;go_enter func128,ntmps128;go_wp2_with (go_at_call 170;refine(HC.out _).mono ?_;rintro e w3 ⟨x,rfl,HQ⟩);go_ret;exact HQ.out
theorem FmsAt.cons{s:Sg}{fs:List PF}(h:FmsAt M w s sl fs){f0:PF}{rest:List PF}(e:fs=f0::rest):∃u0 us,Sl M w TForm 1 sl (us.length+1) (u0::us)/\RFm M w s u0 f0/\All2 (RFm M w s) us rest:=by
 subst e;obtain⟨us,h1,h2⟩:=h
 match us,h1,h2 with
 | [],_,h2=>have:=h2.1;simp at this
 | u0::us,h1,h2=>exact⟨u0,us,h1,h2.2 0 u0 f0 rfl rfl,by have:=h2.drop 1;simpa using this⟩
theorem Sl.ne{T:TypeId}{n:Nat}{xs:List Value}(h:Sl M w T 1 sl (n+1) xs)(hM:M rb):∀a m c,sl=.slice (some a) m c->a.block≠rb:=by
 intro a m c e;obtain⟨_,ao,cap,e1,_,h3⟩:=h;rw [e1] at e;simp only [Value.slice.injEq] at e;rcases h3 with h3 | ⟨g,off,cur,h4,hm,_⟩
 ·omega
 ·rw [h4] at e;have:=e.1;simp only [Option.some.injEq] at this;subst this;intro e2;exact hm (by have e3:g=rb:=e2;rw [e3];exact hM)
theorem Sl.rest{T:TypeId}{g off c L:Nat}{u:Value}{us:List Value}(h:Sl M w T 1 (.slice (some ⟨g,off,none⟩) L c) (us.length+1) (u::us))(ao:Option Addr)(c':Nat)(hc:us.length<=c')(ha:us.length≠0->ao=some ⟨g,off+1,none⟩):Sl M w T 1 (.slice ao us.length c') us.length us:=Sl.tail1 h us.length rfl ao c' hc ha
theorem pX{s:Sg}{W:PW}{S:PS}{f0:PF}{rest:List PF}{fr:PFr}{env:Env}{u0:Value}{us:List Value}(hW:Wd M w s tb mb sb gb W)(hr:RunAt M w sb rb fv ev gv kv ov)(hf:FrR M w s kv S.frames)(ho:OutR M w ov W.out)(hs:Sl M w TForm 1 sl (us.length+1) (u0::us))(h0:RFm M w s u0 f0)(hA:All2 (RFm M w s) us rest)(he:EnvR M w s ev' env)
  (hk:fr.form.k=.begin) (hfr:fr.form.ks.drop fr.pos=rest) (hfe:fr.env=env) (hq:RowQ w sb rb us u0 sl ev' kv ov S.frames.length w2) {o:Option PF} (hoo:o=some f0) (S':PS) (hS':S'=if 0<rest.length then S.push fr else S):Went M w s tb mb sb gb rb ⟨0,W,S'.work o env⟩ (.returned .nilIface) w2:=by
 subst hS';rcases hq with⟨hl,hc⟩ | ⟨hl,p,g,off,ao,c,cs,w1,hp,rfl,hao,⟨c',hc',hpc⟩,hc1,hc2⟩
 ·rw [if_neg (by rw [<- hA.1,hl];decide)];exact iP hW hr hf ho h0 he hc hoo
 ·rw [if_pos (by rw [<- hA.1];omega)];subst hfe;exact dL hW hr hf ho h0 he (.begin _ ev' fr hk (by rw [hfr];exact⟨us,hs.rest ao c' hc' (fun _=>hao),hA⟩) he) hc1 hp hpc hc2 hoo
theorem oT(M:Nat->Prop)(w:World)(s:Sg)(tb mb sb gb rb:Nat)(W:PW)(S:PS)(hW:Wd M w s tb mb sb gb W)(hFl:S.frames.length<=1000000000){ev0 rv:Value}(hr:RunAt M w sb rb fv ev0 gv kv ov)(hf:FrR M w s kv S.frames)(ho:OutR M w ov W.out)(fr:PFr)(he:EnvR M w s ev fr.env)(hk:fr.form.k=.begin)(f0:PF)(rest:List PF)(hfs:fr.form.ks.drop fr.pos=f0::rest)(hrv:FmsAt M w s rv (fr.form.ks.drop fr.pos))(hlen:rest.length<=2000)(v:Value)(hv:∃T x,v=.iface T x)(S':PS)(hS':S'=if 0<rest.length then S.push {fr with got:=[],pos:=fr.pos+1} else S)(o:Option PF)(hoo:o=some f0) :Calls prog 401 #[.agg #[rv,ev],.pointer (some ⟨rb,0,none⟩),v] w fun e w'=>Went M w s tb mb sb gb rb ⟨0,W,S'.work o fr.env⟩ e w':=by
 obtain⟨u0,us,hsl,h0,hA⟩:=hrv.cons hfs;have hrl:=aB hr.blk;have hB:Below w.heap.size w (w.alloc (.cells #[rv,ev] 375)):=(Below.refl _ _).alloc (Nat.le_refl _) _;have hs:Stp M w M (w.alloc (.cells #[rv,ev] 375)):=Stp.of_below hB
 have hd:fr.form.ks.drop (fr.pos+1)=rest:=by
  have:(fr.form.ks.drop fr.pos).drop 1=rest:=by rw [hfs];rfl
  rw [List.drop_drop] at this;exact this
 have HC:Hid (Calls prog 173 #[.pointer (some ⟨rb,0,none⟩),rv,ev] (w.alloc (.cells #[rv,ev] 375)) fun e w'=>e=.returned (.tuple #[])/\Hid (Went M w s tb mb sb gb rb ⟨0,W,S'.work o fr.env⟩ (.returned .nilIface) w')):=show Calls _ _ _ _ _ from
  (m6 _ sb rb fv ev0 gv kv ov rv ev u0 us S.frames.length ((hB.block rb hrl).trans hr.blk) (Sl.slOf (hsl.stp hs)) (hsl.ne hr.mrb) (by rw [hA.1];exact hlen) h0.iface he.ptr hf.ptr (hf.pileN.below hB) hFl).mono (fun e w' ⟨h1,h2⟩=>⟨h1,
   (pX (fr:={fr with got:=[],pos:=fr.pos+1}) (hW.mv (Mv.below hB)) ⟨(hB.block rb hrl).trans hr.blk,hr.mrb⟩ (hf.go hs (Sg.Le.refl _)) (ho.below hB) (hsl.stp hs) (h0.go hs (Sg.Le.refl _)) (hA.mono (fun _ _ x=>x.go hs (Sg.Le.refl _))) (he.go hs (Sg.Le.refl _)) hk hd rfl h2 hoo S' hS').after hs⟩)
 obtain⟨oe,rfl⟩:=he.ptr;obtain⟨_,ao,cap,rfl,_⟩:=hsl;obtain⟨T,x,rfl⟩:=hv;clear hW hr hf ho he hrv h0 hA hB hs hd hS' hoo hfs hk;go_enter func401,ntmps401;go_wp2_with (go_at_call 173;refine Calls.mono HC.out ?_;rintro e w3 ⟨rfl,HQ⟩);go_ret;exact HQ.out
theorem uN(M:Nat->Prop)(w:World)(s:Sg)(tb mb sb gb rb:Nat)(W:PW)(S:PS)(hW:Wd M w s tb mb sb gb W)(hFl:S.frames.length<=1000000000)(f:PF)(hr:RunAt M w sb rb (.iface 347 (.agg #[sl])) ev gv kv ov)(he:EnvR M w s ev S.env)(hf:FrR M w s kv S.frames)(ho:OutR M w ov W.out)(hk:f.k=.begin)(f0:PF)(rest:List PF)(hfs:f.ks=f0::rest)(hrv:FmsAt M w s sl f.ks)(hlen:rest.length<=2000)(S':PS)(hS':S'=if 0<rest.length then S.push ⟨f,[],1,S.env⟩ else S)(o:Option PF)(hoo:o=some f0) :Calls prog 128 #[.pointer (some ⟨rb,0,none⟩)] w fun e w'=>Went M w s tb mb sb gb rb ⟨0,W,S'.work o S.env⟩ e w':=by
 generalize hfv:Value.iface 347 (.agg #[sl])=fv0 at hr;have hrl:=aB hr.blk;have e1:w.cell? ⟨rb,1,none⟩=some fv0:=aA hr.blk 1;have e2:w.cell? ⟨rb,2,none⟩=some ev:=aA hr.blk 2;have HB:Hid (∀ob,Below w.heap.size w (w.alloc ob)):=fun ob=>(Below.refl _ _).alloc (Nat.le_refl _) _;have HK:Hid (∀ob,(w.alloc ob).drew.heap[rb]?=w.heap[rb]?):=fun ob=>(HB.out ob).block rb hrl;obtain⟨u0,us,hsl,h0,hA⟩:=hrv.cons hfs;have hd:f.ks.drop 1=rest:=by rw [hfs];rfl
 have HC:Hid (∀ob,Calls prog 173 #[.pointer (some ⟨rb,0,none⟩),sl,ev] (w.alloc ob) fun e w'=>e=.returned (.tuple #[])/\Hid (Went M w s tb mb sb gb rb ⟨0,W,S'.work o S.env⟩ (.returned .nilIface) w')):=fun ob=>by
  have hB:=HB.out ob;have hs:Stp M w M (w.alloc ob):=Stp.of_below hB
  exact(m6 _ sb rb fv0 ev gv kv ov sl ev u0 us S.frames.length ((hB.block rb hrl).trans hr.blk) (Sl.slOf (hsl.stp hs)) (hsl.ne hr.mrb) (by rw [hA.1];exact hlen) h0.iface he.ptr hf.ptr (hf.pileN.below hB) hFl).mono (fun e w' ⟨h1,h2⟩=>⟨h1,
   (pX (fr:=⟨f,[],1,S.env⟩) (hW.mv (Mv.below hB)) ⟨(hB.block rb hrl).trans hr.blk,hr.mrb⟩ (hf.go hs (Sg.Le.refl _)) (ho.below hB) (hsl.stp hs) (h0.go hs (Sg.Le.refl _)) (hA.mono (fun _ _ x=>x.go hs (Sg.Le.refl _))) (he.go hs (Sg.Le.refl _)) hk hd rfl h2 hoo S' hS').after hs⟩)
 subst hfv;have fy:=Tryz.fyes_Begin;have fn0:=Tryz.fno_Begin_Constant;have fn1:=Tryz.fno_Begin_Name;have fn2:=Tryz.fno_Begin_Lambda;have fn3:=Tryz.fno_Begin_If;have fn4:=Tryz.fno_Begin_Set;have fn5:=Tryz.fno_Begin_Define;obtain⟨oe,rfl⟩:=he.ptr;obtain⟨_,ao,cap,rfl,_⟩:=hsl;clear hW hr hf ho he hrv h0 hA hd hS' hoo hfs hk;go_enter func128,ntmps128;go_wp2_with (go_at_call 173;refine(HC.out _).mono ?_;rintro e w3 ⟨rfl,HQ⟩);go_ret;exact HQ.out
theorem yD(M:Nat->Prop)(w:World)(s:Sg)(tb mb sb gb rb:Nat)(W:PW)(S:PS)(hW:Wd M w s tb mb sb gb W)(hFl:S.frames.length<=1000000000)(f:PF)(hr:RunAt M w sb rb (.iface 349 (.agg #[sl])) ev gv kv ov)(he:EnvR M w s ev S.env)(hf:FrR M w s kv S.frames)(ho:OutR M w ov W.out)(hk:f.k=.call)(f0:PF)(rest:List PF)(hfs:f.ks=f0::rest)(hrv:FmsAt M w s sl f.ks)(o:Option PF)(hoo:o=some f0) :Calls prog 128 #[.pointer (some ⟨rb,0,none⟩)] w fun e w'=>Went M w s tb mb sb gb rb ⟨0,W,(S.push ⟨f,[],1,S.env⟩).work o S.env⟩ e w':=by
 generalize hfv:Value.iface 349 (.agg #[sl])=fv0 at hr;have hrl:=aB hr.blk;have e1:w.cell? ⟨rb,1,none⟩=some fv0:=aA hr.blk 1;have e2:w.cell? ⟨rb,2,none⟩=some ev:=aA hr.blk 2;have HB:Hid (∀ob,Below w.heap.size w (w.alloc ob)):=fun ob=>(Below.refl _ _).alloc (Nat.le_refl _) _;have HK:Hid (∀ob,(w.alloc ob).drew.heap[rb]?=w.heap[rb]?):=fun ob=>(HB.out ob).block rb hrl;obtain⟨u0,us,hsl,h0,hA⟩:=hrv.cons hfs;have hd:f.ks.drop 1=rest:=by rw [hfs];rfl
 obtain⟨g,off,cap,rfl,hcap,hg,c0,_⟩:=(Sl.slOf hsl).cell0;have hgr:g≠rb:=hsl.ne hr.mrb ⟨g,off,none⟩ _ _ rfl
 have HP:Hid (∀ob (ao:Option Addr) (L c:Nat),L=us.length->us.length<=c->(us.length≠0->ao=some ⟨g,off+1,none⟩)->Calls prog 171 #[.pointer (some ⟨rb,1,none⟩),.iface 352 (.agg #[.slice none 0 0,.slice ao L c,ev])] (w.alloc ob).drew fun e w'=>e=.returned (.tuple #[])/\Hid (w'.heap[w.heap.size]?=(w.alloc ob).heap[w.heap.size]? /\ w'.heap[g]?=w.heap[g]? /\ ∃p a b d,w'.heap[rb]?=some (.cells #[.pointer (some ⟨sb,0,none⟩),a,b,d,.pointer (some ⟨p,0,none⟩),ov] TRun (0,0))/\∀w2,RunCh w' rb #[.pointer (some ⟨sb,0,none⟩),u0,ev,.nilIface,.pointer (some ⟨p,0,none⟩),ov] w2->Went M w s tb mb sb gb rb ⟨0,W,(S.push ⟨f,[],1,S.env⟩).work o S.env⟩ (.returned .nilIface) w2)):=fun ob ao L c h1 h2 h3=>by
  subst h1
  exact(kS (w.alloc ob).drew rb _ _ _ _ kv ov _ S.frames.length ((HK.out ob).trans hr.blk) ⟨_,_,rfl⟩ hf.ptr (hf.pileN.below (HB.out ob).drew) hFl).mono (fun e w' ⟨k1,p,k2,k3,k4⟩=>⟨k1,k4.other _ (by simp) (by omega),(k4.after (HB.out ob).drew).other g hg hgr,p,_,_,_,k4.blk,fun w2 hc =>
   dL hW hr hf ho h0 he (.call (.slice none 0 0) _ ev ⟨f,[],1,S.env⟩ hk ⟨[],⟨rfl,none,0,rfl,Nat.le_refl _,.inl rfl⟩,All2.nil _⟩ (by show FmsAt _ _ _ _ (f.ks.drop 1);rw [hd];exact⟨us,hsl.rest ao c h2 h3,hA⟩) he) (k4.after (HB.out ob).drew) (Nat.le_trans (HB.out ob).size k2) k3 hc hoo⟩)
 have HG:Hid (∀(w0 w1:World) c1 c2 c3 k1,w0.heap[rb]?=some (.cells #[.pointer (some ⟨sb,0,none⟩),c1,c2,c3,k1,ov] TRun (0,0))->w1.heap[rb]?=w0.heap[rb]? -> Calls prog 172 #[.pointer (some ⟨rb,1,none⟩),u0,ev] w1 fun e w'=>e=.returned (.tuple #[])/\RunCh w1 rb #[.pointer (some ⟨sb,0,none⟩),u0,ev,.nilIface,k1,ov] w'):=fun w0 w1 c1 c2 c3 k1 h0' h1=>cU w1 rb _ _ _ _ _ _ u0 ev (h1.trans h0') h0.iface he.ptr;subst hfv;have fy:=Tryz.fyes_Call;have fn0:=Tryz.fno_Call_Constant;have fn1:=Tryz.fno_Call_Name;have fn2:=Tryz.fno_Call_Lambda;have fn3:=Tryz.fno_Call_If;have fn4:=Tryz.fno_Call_Set;have fn5:=Tryz.fno_Call_Define;have fn6:=Tryz.fno_Call_Begin;obtain⟨oe,rfl⟩:=he.ptr;obtain⟨T,x,rfl⟩:=h0.iface;obtain⟨m,hm⟩:∃m,us.length+1=m:=⟨_,rfl⟩
 rw [hm] at e1 hcap;have hl1:(0:Int)<(m:Int):=by omega
 have hl2:(1:Int)<=(m:Int):=by omega
 have HBx:Hid ((w.alloc (.cells #[.slice (some ⟨g,off,none⟩) m cap] 349)).heap[w.heap.size]?=some (.cells #[.slice (some ⟨g,off,none⟩) m cap] 349 (0,0))):=heap_alloc_new w _;have HC0:Hid (w.cell? ⟨g,off,none⟩=some (.iface T x)):=c0;have HM:Hid (us.length+1=m/\m<=cap):=⟨hm,hcap⟩
 clear hW hr hf ho he hrv h0 hA hd hoo hfs hk hsl;obtain⟨c,rfl⟩:∃c,cap=c+1:=⟨cap-1,by omega⟩
 go_enter func128,ntmps128
 go_upto_region 29 with fail
 go_cut [] (fun wx=>Hid (wx.heap[w.heap.size]?=some (.cells #[.slice (some ⟨g,off,none⟩) m (c+1)] 349 (0,0))/\wx.heap[g]?=w.heap[g]? /\ ∃p a b d,wx.heap[rb]?=some (.cells #[.pointer (some ⟨sb,0,none⟩),a,b,d,.pointer (some ⟨p,0,none⟩),ov] TRun (0,0))/\∀w2,RunCh wx rb #[.pointer (some ⟨sb,0,none⟩),.iface T x,.pointer oe,.nilIface,.pointer (some ⟨p,0,none⟩),ov] w2->Went M w s tb mb sb gb rb ⟨0,W,(S.push ⟨f,[],1,S.env⟩).work o S.env⟩ (.returned .nilIface) w2))
 case first =>
  rcases c with _ | c
  all_goals
   go_region_with (go_at_call 171;refine(HP.out _ _ _ _ (by have:=HM.out;omega) (by have:=HM.out;omega) (by intro hh;first | rfl | (exfalso;have:=HM.out;omega))).mono ?_;rintro e w3 ⟨rfl,HQ⟩)
   all_goals
    go_wp2_with fail
    go_meet
    exact⟨HQ.out.1.trans HBx.out,HQ.out.2⟩
 case rest =>
  have HQ:=hcut;obtain⟨h1,h2,p,a,b,d,h3,h4⟩:=HQ.out;have HX2:Hid (∀w2,RunCh wc rb #[.pointer (some ⟨sb,0,none⟩),.iface T x,.pointer oe,.nilIface,.pointer (some ⟨p,0,none⟩),ov] w2->Went M w s tb mb sb gb rb ⟨0,W,(S.push ⟨f,[],1,S.env⟩).work o S.env⟩ (.returned .nilIface) w2):=h4;have HG2:Hid (∀w1:World,w1.heap[rb]?=wc.heap[rb]? -> Calls prog 172 #[.pointer (some ⟨rb,1,none⟩),.iface T x,.pointer oe] w1 fun e w'=>e=.returned (.tuple #[])/\RunCh w1 rb #[.pointer (some ⟨sb,0,none⟩),.iface T x,.pointer oe,.nilIface,.pointer (some ⟨p,0,none⟩),ov] w'):=fun w1 e1=>HG.out wc w1 _ _ _ _ h3 e1;have b0:wc.cell? ⟨w.heap.size,0,none⟩=some (.slice (some ⟨g,off,none⟩) m (c+1)):=aA h1 0;have c0':wc.cell? ⟨g,off,none⟩=some (.iface T x):=(World.cell?_of_block (w:=w) h2).trans HC0.out;have hrw:rb<wc.heap.size:=aB h3;clear h1 h2 h3 h4 HQ hcut HP HG HBx;go_wp2_with fail;go_region_with (go_at_call 172;refine(HG2.out _ (by rfl)).mono ?_;rintro e w3 ⟨rfl,hc3⟩)
  all_goals
   go_wp2_with fail
   go_ret;exact HX2.out _ (hc3.after ((Below.refl _ _).drew))
end
end Go.Proofs.YtkgbdddkcjpgfaaGreatDoor
