import Derived.Test.YtkgbdddkcjpgfaaGreatDoorC33
import Derived.Test.YtkgbdddkcjpgfaaGreatDoorC36
namespace Go.Proofs.YtkgbdddkcjpgfaaGreatDoor
set_option maxHeartbeats 4000000
set_option maxRecDepth 100000
open Go.Proofs.Tryz
open Pl (PV PW PS PF SR Byt Env applyB callccW)
section
open Go.RowKit Go.Lib Go.Maps
theorem o7(M:Nat->Prop)(w0 w:World)(s:Sg)(tb mb sb gb rb:Nat)(W:PW)(S:PS)(fv ev gv kv ov av:Value)(us:List Value)(args:List PV)(h:Ap M w0 w s tb mb sb gb rb W S fv ev gv kv ov av us args)(b:Nat)(q:PF×Env)(hq:ProcAt M w0 s b q) :Calls prog 394 #[.pointer (some ⟨rb,0,none⟩),.pointer (some ⟨b,0,none⟩),av] w fun e w'=>Went M w0 s tb mb sb gb rb (jC W S q args) e w':=by
 have hrb:=h.rb_blk;have hrl:=aB hrb;obtain⟨hmb,nv,body,eq,x,hbl,hks,hnm,hbody,henv⟩:=hq;have hb2:=(h.below.block b (aB hbl)).trans hbl;have hbw:=aB hb2;have c0:w.cell? ⟨b,0,none⟩=some nv:=aA hb2 0;have c1:w.cell? ⟨b,1,none⟩=some body:=aA hb2 1;have c2:w.cell? ⟨b,2,none⟩=some eq:=aA hb2 2;obtain⟨ao,cap,rfl,hcap,hargs⟩:=h.args;have hnl:=hnm.len;obtain⟨an,cn,rfl⟩:∃an cn,nv=.slice an q.1.ns.length cn:=by obtain⟨⟨ks,_,_,an,cn,rfl,_⟩,_,_⟩:=hnm;exact⟨an,cn,rfl⟩
 have hck:=fun w'=>gR ⟨#[97,32,112,114,111,99,101,100,117,114,101]⟩ q.1.ns.length ao us.length cap w' (by omega) (by decide);have hul:=h.vals.1;by_cases hne:us.length=q.1.ns.length
 ·have HC:Hid (∀w' cp,cp=cap->Calls prog 298 #[.string ⟨#[97,32,112,114,111,99,101,100,117,114,101]⟩,.int .i64 (q.1.ns.length:Int),.slice ao us.length cp] w' fun e w2=>w'=w2/\e=.returned .nilIface):=fun w' cp hcp=>by
   subst hcp;refine(hck w').mono (fun e w2 ⟨h1,h2⟩=>⟨h1,?_⟩);rcases h2 with⟨_,h2⟩ | ⟨h2,_⟩
   ·exact h2
   ·exact absurd hne h2
  have HX:Hid (∀sk w1 w2,Below w.heap.size w w1->w.heap.size<=sk->w1.heap[sk]?=some (.cells #[.slice an q.1.ns.length cn,.slice ao us.length cap,eq] TSur (0,0))->RunCh w1 rb #[.pointer (some ⟨sb,0,none⟩),body,.pointer (some ⟨sk,0,none⟩),.nilIface,kv,ov] w2->Went M w0 s tb mb sb gb rb (jC W S q args) (.returned .nilIface) w2):=fun sk w1 w2 hB1 hsk hskc hc=>by
   have hB01:Below w0.heap.size w0 w1:=h.below.trans (hB1.mono h.below.size)
   obtain⟨g,off,cur,hg,hgo⟩:∃(g off:Nat)(cur:Array Value),(us.length≠0->w0.heap.size<=g/\w1.heap[g]?=some (Obj.cells cur TVal (0,0))/\∀(i:Nat)(u:Value),us[i]?=some u->cur[off+i]?=some u)/\(us.length≠0->ao=some ⟨g,off,none⟩/\g<w.heap.size):=by
    by_cases h0:us.length=0
    ·exact⟨0,0,#[],fun hh=>absurd h0 hh,fun hh=>absurd h0 hh⟩
    ·obtain⟨g,off,cur,k1,k2,k3,k4⟩:=hargs h0;exact⟨g,off,cur,fun _=>⟨k2,(hB1.block g (aB k3)).trans k3,k4⟩,fun _=>⟨k1,aB k3⟩⟩
   obtain⟨hW1,hm1⟩:=h.wd.addPl hB01 h.vals g off cur hg;have l:=s.addPl_le g off us.length
   have hms:¬Mg M g us.length sk:=fun hx=>by
    rcases hx with hx | ⟨hx,rfl⟩
    ·have:=h.wd.rdr.mlt sk hx;have:=h.below.size;omega
    ·have:=(hgo hx).2;omega
   have hE:EnvR (Mg M g us.length) w1 (s.addPl g off us.length) (.pointer (some ⟨sk,0,none⟩)) (q.2++Pl.numb q.1.ns W.places.length):=by refine .cons sk _ eq ao cap W.places.length q.1.ns q.2 (by rw [hskc,hne]) hms (hnm.go hm1.stp l) (by omega) (fun i hi=>?_) (henv.go hm1.stp l);refine⟨g,off,(hgo (by omega)).1,?_⟩;show(s.lp++kJ g off us.length)[W.places.length+i]?=_;rw [<- h.wd.places.len,List.getElem?_append_right (by omega),Nat.add_sub_cancel_left];exact jL g off us.length i (by omega)
   have hp:jC W S q args=⟨0,{W with places:=W.places++args},S.work q.1.ks[0]? (q.2++Pl.numb q.1.ns W.places.length)⟩:=by unfold jC;rw [if_neg (fun hh=>hh (by rw [<- hul];exact hne))]
   rw [hp];have hr1:RunAt (Mg M g us.length) w1 sb rb fv ev gv kv ov:=⟨(hB1.block rb hrl).trans hrb,.inl h.run.mrb⟩
   refine(iP (f:=x) hW1 hr1 (h.fr.go hm1.stp l) ?_ (hbody.go hm1.stp l) hE hc (by rw [hks];rfl)).after2 hm1.stp l (NsPb.same rfl rfl);exact h.out.keep (fun g' cur' fz hm' hg'=>⟨hB01.block g' (aB hg'),.inl hm'⟩)
  have HG:Hid (∀(w1:World) ep,w1.heap[rb]?=w.heap[rb]? -> (∃o,ep=.pointer o)->Calls prog 172 #[.pointer (some ⟨rb,1,none⟩),body,ep] w1 fun e w'=>e=.returned (.tuple #[])/\RunCh w1 rb #[.pointer (some ⟨sb,0,none⟩),body,ep,.nilIface,kv,ov] w'):=fun w1 ep h1 he=>cU w1 rb _ _ _ _ _ _ body ep (h1.trans hrb) hbody.iface he;have HB:Hid (∀ob,Below w.heap.size w (w.alloc ob).drew):=fun ob=>((Below.refl _ _).alloc (Nat.le_refl _) _).drew;have HK:Hid (∀ob,(w.alloc ob).drew.heap[rb]?=w.heap[rb]?):=fun ob=>(HB.out ob).block rb hrl;have HN:Hid (∀cs T,(w.alloc (.cells cs T)).drew.heap[w.heap.size]?=some (.cells cs T (0,0))):=fun cs T=>heap_alloc_new w _;obtain⟨oe,rfl⟩:=henv.ptr;obtain⟨T,y,rfl⟩:=hbody.iface;clear h hrb hbl hb2 hnm hbody henv hargs hck hks hul hne;go_enter func394,ntmps394
  go_upto_region 4 with(go_at_call 298;refine(HC.out _ _ rfl).mono ?_;rintro e w' ⟨rfl,rfl⟩)
  go_cut [] (fun wx=>Hid (Went M w0 s tb mb sb gb rb (jC W S q args) (.returned .nilIface) wx))
  case first =>
   have HY:Hid (∀w2,RunCh (w.alloc (.cells #[.slice an q.1.ns.length cn,.slice ao us.length cap,.pointer oe] TSur)).drew rb #[.pointer (some ⟨sb,0,none⟩),.iface T y,.pointer (some ⟨w.heap.size,0,none⟩),.nilIface,kv,ov] w2->Went M w0 s tb mb sb gb rb (jC W S q args) (.returned .nilIface) w2):=fun w2 hc=>HX.out w.heap.size _ w2 (HB.out _) (Nat.le_refl _) (HN.out _ _) hc;have HZ:Hid (Calls prog 172 #[.pointer (some ⟨rb,1,none⟩),.iface T y,.pointer (some ⟨w.heap.size,0,none⟩)] (w.alloc (.cells #[.slice an q.1.ns.length cn,.slice ao us.length cap,.pointer oe] TSur)).drew fun e w'=>e=.returned (.tuple #[])/\Hid (Went M w0 s tb mb sb gb rb (jC W S q args) (.returned .nilIface) w')):=show Calls _ _ _ _ _ from(HG.out _ _ (HK.out _) ⟨_,rfl⟩).mono (fun e w' h=>⟨h.1,HY.out w' h.2⟩);clear HX HG HB HK HN HY HC;go_region_with (go_at_call 172;refine Calls.mono HZ.out ?_;rintro e w3 ⟨rfl,HQ⟩)
   all_goals
    go_wp2_with fail
    go_meet
    exact HQ
  case rest =>have HQ:=hcut;go_wp2_with fail;go_ret;exact HQ.out
 ·have HC:Hid (∀w' cp,cp=cap->Calls prog 298 #[.string ⟨#[97,32,112,114,111,99,101,100,117,114,101]⟩,.int .i64 (q.1.ns.length:Int),.slice ao us.length cp] w' fun e w2=>w'=w2/\∃es,e=.returned (aY es 10)):=fun w' cp hcp=>by
   subst hcp;refine(hck w').mono (fun e w2 ⟨h1,h2⟩=>⟨h1,?_⟩);rcases h2 with⟨h2,_⟩ | ⟨_,h2⟩
   ·exact absurd h2 hne
   ·exact h2
  have HX:Hid (∀es,Went M w0 s tb mb sb gb rb (jC W S q args) (.returned (aY es 10)) w):=fun es=>by unfold jC;rw [if_pos (fun hh=>hne (by rw [hul];exact hh))];exact h.no (Below.refl _ _) (by decide)
  clear h hrb hbl hb2 hnm hbody henv hargs hck hks hul hne;go_enter func394,ntmps394;go_wp2_with (go_at_call 298;refine(HC.out _ _ rfl).mono ?_;rintro e w' ⟨rfl,es,rfl⟩;unfold aY);go_ret;exact HX.out es
theorem zF(w w0:World)(M:Nat->Prop)(s:Sg)(tb mb sb gb rb b:Nat)(ao:Option Addr)(n cap:Nat)(r:SR)(hA:Calls prog 394 #[.pointer (some ⟨rb,0,none⟩),.pointer (some ⟨b,0,none⟩),.slice ao n cap] w fun e w'=>Went M w0 s tb mb sb gb rb r e w') :Calls prog 392 #[.pointer (some ⟨rb,0,none⟩),.iface 330 (.pointer (some ⟨b,0,none⟩)),.slice ao n cap] w fun e w'=>Went M w0 s tb mb sb gb rb r e w':=by have HA:Hid (Calls prog 394 #[.pointer (some ⟨rb,0,none⟩),.pointer (some ⟨b,0,none⟩),.slice ao n cap] w fun e w'=>∃x,e=.returned x/\Went M w0 s tb mb sb gb rb r (.returned x) w'):=show Calls _ _ _ _ _ from hA.mono (fun e w' h=>by obtain⟨x,rfl⟩:=h.one;exact⟨x,rfl,h⟩);have a1:=Tryz.vq_q;clear hA;go_enter func392,ntmps392;go_wp2_with (go_at_call 394;refine Calls.mono HA.out ?_;rintro e w2 ⟨x,rfl,HQ⟩);go_ret;exact HQ
theorem zI(w w0:World)(M:Nat->Prop)(s:Sg)(tb mb sb gb rb b:Nat)(ao:Option Addr)(n cap:Nat)(r:SR)(hA:Calls prog 395 #[.pointer (some ⟨rb,0,none⟩),.pointer (some ⟨b,0,none⟩),.slice ao n cap] w fun e w'=>Went M w0 s tb mb sb gb rb r e w') :Calls prog 392 #[.pointer (some ⟨rb,0,none⟩),.iface 522 (.pointer (some ⟨b,0,none⟩)),.slice ao n cap] w fun e w'=>Went M w0 s tb mb sb gb rb r e w':=by have HA:Hid (Calls prog 395 #[.pointer (some ⟨rb,0,none⟩),.pointer (some ⟨b,0,none⟩),.slice ao n cap] w fun e w'=>∃x,e=.returned x/\Went M w0 s tb mb sb gb rb r (.returned x) w'):=show Calls _ _ _ _ _ from hA.mono (fun e w' h=>by obtain⟨x,rfl⟩:=h.one;exact⟨x,rfl,h⟩);have a1:=Tryz.vq_c;have a2:=Tryz.vc_c;clear hA;go_enter func392,ntmps392;go_wp2_with (go_at_call 395;refine Calls.mono HA.out ?_;rintro e w2 ⟨x,rfl,HQ⟩);go_ret;exact HQ
theorem vH(w w0:World)(M:Nat->Prop)(s:Sg)(tb mb sb gb rb:Nat)(ao:Option Addr)(n cap:Nat)(r:SR)(hA:Calls prog 396 #[.pointer (some ⟨rb,0,none⟩),.slice ao n cap] (w.alloc (.cells #[] 243)) fun e w'=>Went M w0 s tb mb sb gb rb r e w') :Calls prog 392 #[.pointer (some ⟨rb,0,none⟩),.iface 243 (.agg #[]),.slice ao n cap] w fun e w'=>Went M w0 s tb mb sb gb rb r e w':=by have HA:Hid (Calls prog 396 #[.pointer (some ⟨rb,0,none⟩),.slice ao n cap] (w.alloc (.cells #[] 243)) fun e w'=>∃x,e=.returned x/\Went M w0 s tb mb sb gb rb r (.returned x) w'):=show Calls _ _ _ _ _ from hA.mono (fun e w' h=>by obtain⟨x,rfl⟩:=h.one;exact⟨x,rfl,h⟩);have a1:=Tryz.vq_callcc;have a2:=Tryz.vc_callcc;have a3:=Tryz.vk_k;clear hA;go_enter func392,ntmps392;go_wp2_with (go_at_call 396;refine Calls.mono HA.out ?_;rintro e w2 ⟨x,rfl,HQ⟩);go_ret;exact HQ
theorem zH(w:World)(rb:Nat)(x:Value)(ao:Option Addr)(n cap:Nat)(t:Byt)(ht:t.length<=202)(hA:Calls prog 126 #[.iface 294 x] w fun e w'=>e=.returned (.string ⟨t.toArray⟩)/\Below w.heap.size w w') :Calls prog 392 #[.pointer (some ⟨rb,0,none⟩),.iface 294 x,.slice ao n cap] w fun e w'=>Below w.heap.size w w'/\∃es,e=.returned (aY es 9):=by
 have HA:Hid (Calls prog 126 #[.iface 294 x] w fun e w'=>e=.returned (.string ⟨t.toArray⟩)/\Below w.heap.size w w'):=hA;have a1:=Tryz.vq_num;have a2:=Tryz.vc_num;have a3:=Tryz.vk_num;have a4:=Tryz.vp_num;clear hA;go_enter func392,ntmps392
 go_wp2_with (first
  | (go_at_call 126;refine Calls.mono HA.out ?_;rintro e w2 ⟨rfl,hB⟩)
  | (go_at_call 78;refine(bJ _ _ _).mono ?_;rintro e w3 ⟨rfl,rfl⟩))
 go_ret;exact⟨hB,_,rfl⟩
theorem sN(w:World)(rb:Nat)(x:Value)(ao:Option Addr)(n cap:Nat)(t:Byt)(ht:t.length<=202)(hA:Calls prog 126 #[.iface 296 x] w fun e w'=>e=.returned (.string ⟨t.toArray⟩)/\Below w.heap.size w w') :Calls prog 392 #[.pointer (some ⟨rb,0,none⟩),.iface 296 x,.slice ao n cap] w fun e w'=>Below w.heap.size w w'/\∃es,e=.returned (aY es 9):=by
 have HA:Hid (Calls prog 126 #[.iface 296 x] w fun e w'=>e=.returned (.string ⟨t.toArray⟩)/\Below w.heap.size w w'):=hA;have a1:=Tryz.vq_truth;have a2:=Tryz.vc_truth;have a3:=Tryz.vk_truth;have a4:=Tryz.vp_truth;clear hA;go_enter func392,ntmps392
 go_wp2_with (first
  | (go_at_call 126;refine Calls.mono HA.out ?_;rintro e w2 ⟨rfl,hB⟩)
  | (go_at_call 78;refine(bJ _ _ _).mono ?_;rintro e w3 ⟨rfl,rfl⟩))
 go_ret;exact⟨hB,_,rfl⟩
theorem vG(w:World)(rb:Nat)(x:Value)(ao:Option Addr)(n cap:Nat)(t:Byt)(ht:t.length<=202)(hA:Calls prog 126 #[.iface 297 x] w fun e w'=>e=.returned (.string ⟨t.toArray⟩)/\Below w.heap.size w w') :Calls prog 392 #[.pointer (some ⟨rb,0,none⟩),.iface 297 x,.slice ao n cap] w fun e w'=>Below w.heap.size w w'/\∃es,e=.returned (aY es 9):=by
 have HA:Hid (Calls prog 126 #[.iface 297 x] w fun e w'=>e=.returned (.string ⟨t.toArray⟩)/\Below w.heap.size w w'):=hA;have a1:=Tryz.vq_name;have a2:=Tryz.vc_name;have a3:=Tryz.vk_name;have a4:=Tryz.vp_name;clear hA;go_enter func392,ntmps392
 go_wp2_with (first
  | (go_at_call 126;refine Calls.mono HA.out ?_;rintro e w2 ⟨rfl,hB⟩)
  | (go_at_call 78;refine(bJ _ _ _).mono ?_;rintro e w3 ⟨rfl,rfl⟩))
 go_ret;exact⟨hB,_,rfl⟩
theorem sO(w:World)(rb:Nat)(x:Value)(ao:Option Addr)(n cap:Nat)(t:Byt)(ht:t.length<=202)(hA:Calls prog 126 #[.iface 366 x] w fun e w'=>e=.returned (.string ⟨t.toArray⟩)/\Below w.heap.size w w') :Calls prog 392 #[.pointer (some ⟨rb,0,none⟩),.iface 366 x,.slice ao n cap] w fun e w'=>Below w.heap.size w w'/\∃es,e=.returned (aY es 9):=by
 have HA:Hid (Calls prog 126 #[.iface 366 x] w fun e w'=>e=.returned (.string ⟨t.toArray⟩)/\Below w.heap.size w w'):=hA;have a1:=Tryz.vq_empty;have a2:=Tryz.vc_empty;have a3:=Tryz.vk_empty;have a4:=Tryz.vp_empty;clear hA;go_enter func392,ntmps392
 go_wp2_with (first
  | (go_at_call 126;refine Calls.mono HA.out ?_;rintro e w2 ⟨rfl,hB⟩)
  | (go_at_call 78;refine(bJ _ _ _).mono ?_;rintro e w3 ⟨rfl,rfl⟩))
 go_ret;exact⟨hB,_,rfl⟩
theorem nN(w:World)(rb:Nat)(x:Value)(ao:Option Addr)(n cap:Nat)(t:Byt)(ht:t.length<=202)(hA:Calls prog 126 #[.iface 299 x] w fun e w'=>e=.returned (.string ⟨t.toArray⟩)/\Below w.heap.size w w') :Calls prog 392 #[.pointer (some ⟨rb,0,none⟩),.iface 299 x,.slice ao n cap] w fun e w'=>Below w.heap.size w w'/\∃es,e=.returned (aY es 9):=by
 have HA:Hid (Calls prog 126 #[.iface 299 x] w fun e w'=>e=.returned (.string ⟨t.toArray⟩)/\Below w.heap.size w w'):=hA;have a1:=Tryz.vq_nothing;have a2:=Tryz.vc_nothing;have a3:=Tryz.vk_nothing;have a4:=Tryz.vp_nothing;clear hA;go_enter func392,ntmps392
 go_wp2_with (first
  | (go_at_call 126;refine Calls.mono HA.out ?_;rintro e w2 ⟨rfl,hB⟩)
  | (go_at_call 78;refine(bJ _ _ _).mono ?_;rintro e w3 ⟨rfl,rfl⟩))
 go_ret;exact⟨hB,_,rfl⟩
theorem vF(w:World)(rb:Nat)(x:Value)(ao:Option Addr)(n cap:Nat)(t:Byt)(ht:t.length<=202)(hA:Calls prog 126 #[.iface 367 x] w fun e w'=>e=.returned (.string ⟨t.toArray⟩)/\Below w.heap.size w w') :Calls prog 392 #[.pointer (some ⟨rb,0,none⟩),.iface 367 x,.slice ao n cap] w fun e w'=>Below w.heap.size w w'/\∃es,e=.returned (aY es 9):=by
 have HA:Hid (Calls prog 126 #[.iface 367 x] w fun e w'=>e=.returned (.string ⟨t.toArray⟩)/\Below w.heap.size w w'):=hA;have a1:=Tryz.vq_pair;have a2:=Tryz.vc_pair;have a3:=Tryz.vk_pair;have a4:=Tryz.vp_pair;clear hA;go_enter func392,ntmps392
 go_wp2_with (first
  | (go_at_call 126;refine Calls.mono HA.out ?_;rintro e w2 ⟨rfl,hB⟩)
  | (go_at_call 78;refine(bJ _ _ _).mono ?_;rintro e w3 ⟨rfl,rfl⟩))
 go_ret;exact⟨hB,_,rfl⟩
structure Wf(W:PW):Prop where
 wp:WfQ W
 out:W.out.length<=1000
theorem qS(M:Nat->Prop)(w0 w:World)(s:Sg)(tb mb sb gb rb:Nat)(W:PW)(hW:Wf W)(S:PS)(fv ev gv kv ov av:Value)(us:List Value)(args:List PV)(h:Ap M w0 w s tb mb sb gb rb W S fv ev gv kv ov av us args)(hw:∀v∈args,WfV W v)(fx:Value)(f:PV)(hf:RV s fx f)(hwf:WfV W f)(hne:f≠.prim callccW) :Calls prog 392 #[.pointer (some ⟨rb,0,none⟩),fx,av] w fun e w'=>Went M w0 s tb mb sb gb rb (applyB W S f args) e w':=by
 have hf0:=hf
 cases hf with
 | num n =>obtain⟨ao,cap,rfl,_,_⟩:=h.args;exact(zH w rb _ ao us.length cap _ (Pl.cut_len _) (hH W hW.wp s w _ _ (h.wd.lie h.below) hf0 hwf)).mono (fun e w' ⟨h1,es,h2⟩=>by subst h2;exact h.no h1 (by decide))
 | truth b =>obtain⟨ao,cap,rfl,_,_⟩:=h.args;exact(sN w rb _ ao us.length cap _ (Pl.cut_len _) (hH W hW.wp s w _ _ (h.wd.lie h.below) hf0 hwf)).mono (fun e w' ⟨h1,es,h2⟩=>by subst h2;exact h.no h1 (by decide))
 | name t =>obtain⟨ao,cap,rfl,_,_⟩:=h.args;exact(vG w rb _ ao us.length cap _ (Pl.cut_len _) (hH W hW.wp s w _ _ (h.wd.lie h.below) hf0 hwf)).mono (fun e w' ⟨h1,es,h2⟩=>by subst h2;exact h.no h1 (by decide))
 | empty =>obtain⟨ao,cap,rfl,_,_⟩:=h.args;exact(sO w rb _ ao us.length cap _ (Pl.cut_len _) (hH W hW.wp s w _ _ (h.wd.lie h.below) hf0 hwf)).mono (fun e w' ⟨h1,es,h2⟩=>by subst h2;exact h.no h1 (by decide))
 | nothing =>obtain⟨ao,cap,rfl,_,_⟩:=h.args;exact(nN w rb _ ao us.length cap _ (Pl.cut_len _) (hH W hW.wp s w _ _ (h.wd.lie h.below) hf0 hwf)).mono (fun e w' ⟨h1,es,h2⟩=>by subst h2;exact h.no h1 (by decide))
 | pair i b hb =>obtain⟨ao,cap,rfl,_,_⟩:=h.args;exact(vF w rb _ ao us.length cap _ (Pl.cut_len _) (hH W hW.wp s w _ _ (h.wd.lie h.below) hf0 hwf)).mono (fun e w' ⟨h1,es,h2⟩=>by subst h2;exact h.no h1 (by decide))
 | callcc=>exact absurd rfl hne
 | prim k t hk h12=>exact zG M w0 w s tb mb sb gb rb W hW.wp S fv ev gv kv ov av us args h hw hW.out k t hk h12
 | proc i b hb =>
  obtain⟨q,hq,hqa⟩:=h.wd.procs.get hb;obtain⟨ao,cap,rfl,_,_⟩:=h.args;rw [h.wd.tq];refine zF w w0 M s tb mb sb gb rb b ao us.length cap _ ?_;have:applyB W S (.proc i) args=jC W S q args:=by unfold applyB jC;dsimp only;rw [hq]
  rw [this];exact o7 M w0 w s tb mb sb gb rb W S fv ev gv kv ov _ us args h b q hqa
 | cont i b hb =>
  obtain⟨q,hq,hqa⟩:=h.wd.conts.get hb;obtain⟨ao,cap,rfl,_,_⟩:=h.args;rw [h.wd.tc];refine zI w w0 M s tb mb sb gb rb b ao us.length cap _ ?_;have:applyB W S (.cont i) args=tF W S q args:=by unfold applyB tF;dsimp only;rw [hq];rfl
  rw [this];exact o8 M w0 w s tb mb sb gb rb W S fv ev gv kv ov _ us args h b q hqa
end
end Go.Proofs.YtkgbdddkcjpgfaaGreatDoor
