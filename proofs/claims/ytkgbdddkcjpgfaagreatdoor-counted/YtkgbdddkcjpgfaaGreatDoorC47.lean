import Derived.Test.YtkgbdddkcjpgfaaGreatDoorC46
import Derived.Test.YtkgbdddkcjpgfaaGreatDoorC15
namespace Go.Proofs.YtkgbdddkcjpgfaaGreatDoor
set_option maxHeartbeats 2000000
set_option maxRecDepth 100000
open Go.Proofs.Tryz
open Pl (PV PW Byt)
section
open Go.RowKit Go.Lib
variable {w:World} {b:Nat}
theorem Tryz.sp_row(ao:Option Addr)(n cap:Nat)(w:World):(Go.method 638 515 (.slice ao n cap) "Spell").run prog w=.ok (406,.slice ao n cap) w:=by kernel_rfl
theorem Tryz.ent_row:Enters 406:=enters_of func406 (by kernel_rfl) rfl
theorem spl_row{sl:Value}{ns:List Byt}{ks:List Nat}(hr:RowSp b w sl 2 ns.length (d7 ns ks))(hlen:ns.length=ks.length)(hx:∀x∈ns,x.length<=300):Spl b w (.iface 515 sl) (Pl.listT ns) (2+n3 (fun _=>300) ns.length):=fun w1 l h1 h2 h3=>by obtain⟨ao,cap,rfl,_⟩:=hr.slice;exact⟨_,_,_,_,rfl,Tryz.sp_row _ _ _ w1,Tryz.ent_row,p_spRow w1 b l _ ns ks h2 (hr.later h1) hlen hx (by omega)⟩
theorem spl_val{W:PW}(hP:WfQ W){s:Sg}(hL:Lie w s W.pairs b){v:Value}{p:PV}(hv:RV s v p)(hw:WfV W p):Spl b w v (Pl.text W.pairs p) 711:=fun w1 l h1 h2 h3=>by obtain⟨T,x,f,xr,e,hm,he,hc⟩:=uP W hP s b (Pl.rank p) w1 l v p h2 (hL.below h1.below) hv hw (Nat.le_refl _) (by omega);exact⟨T,x,f,xr,e,hm,he,hc.mono (fun e w' ⟨k1,k2,l',k3,k4,k5⟩=>⟨k1,k2,l',k3,k4,by omega⟩)⟩
theorem aCH(w:World)(b:Nat)(l:Byt)(sl:Value)(ns:List Byt)(ks:List Nat)(x:Value)(tx:Byt)(mx:Nat)(ht:TxtAt w b l)(hr:RowSp b w sl 2 ns.length (d7 ns ks))(hlen:ns.length=ks.length)(hns:∀x∈ns,x.length<=300)(hx:Spl b w x tx mx)(hi:∃T v,x=.iface T v)(hb:l.length+(mx+n3 (fun _=>300) ns.length+400)<=1000000000) :Calls prog 375 #[.agg #[sl,x],.pointer (some ⟨b,0,none⟩)] w fun e w'=>FlPost w b l (Pl.listT [Pl.lambdaB,Pl.listT ns,tx]) (mx+n3 (fun _=>300) ns.length+400) e w':=by
 have hrow:=spl_row hr hlen hns;have HK:Hid (∀(w1:World)(s:ByteArray),Below w.heap.size w w1->Calls prog 339 #[.string s] w1 fun e w'=>e=.returned (.agg #[.string s,.int .i64 0])/\Hid (Below w.heap.size w w')/\Hid (Below w1.heap.size w1 w')):=fun w1 s hB=>(aA3 w1 s).mono (fun e w' ⟨k1,k2⟩=>⟨k1,hB.trans (k2.mono hB.size),k2⟩)
 have HL:Hid (∀w2,Below w.heap.size w w2->Calls prog 342 #[.pointer (some ⟨b,0,none⟩),.slice (some ⟨w2.heap.size,0,none⟩) 3 3] (w2.alloc (.cells #[.iface 214 (.agg #[.string ⟨#[108,97,109,98,100,97]⟩,.int .i64 0]),.iface 515 sl,x] 319)) fun e w'=>FlPost w b l (Pl.listT [Pl.lambdaB,Pl.listT ns,tx]) (mx+n3 (fun _=>300) ns.length+400) e w'):=fun w2 hB=>(aBU (T:=319) [kwV Pl.lambdaB,.iface 515 sl,x] [Pl.lambdaB,Pl.listT ns,tx] (m4 300 (2+n3 (fun _=>300) ns.length) mx 0) ht (by decide) hB rfl (fun i u t h1 h2=>by
   rcases i with _ | _ | _ | i
   ·obtain rfl:=Option.some.inj h1;obtain rfl:=Option.some.inj h2;exact aA0 b w Pl.lambdaB 0 (by decide)
   ·obtain rfl:=Option.some.inj h1;obtain rfl:=Option.some.inj h2;exact hrow
   ·obtain rfl:=Option.some.inj h1;obtain rfl:=Option.some.inj h2;exact hx
   ·simp at h1) (by simp only [List.length_cons,List.length_nil,n3,m4];omega)).mono (fun e w' h=>⟨h.1,h.2.1,by obtain⟨l',q1,q2,q3⟩:=h.2.2;exact⟨l',q1,q2,by simp only [List.length_cons,List.length_nil,n3,m4] at q3;omega⟩⟩)
 obtain⟨Tx,vx,rfl⟩:=hi;obtain⟨ao,cap,rfl,hcap⟩:=hr.slice;have hB0:∀o:Obj,Below w.heap.size w (w.alloc o):=fun o=>(Below.refl _ _).alloc (Nat.le_refl _) o;clear ht hx hb hr hlen hns hrow;go_enter func375,ntmps375;go_wp2_with fail
 go_region_with (first
  | (go_at_call 339;refine(HK.out _ _ (by first | exact(hB0 _).drew | exact hB0 _)).mono ?_;rintro e w1 ⟨rfl,HB1,HBk⟩;have hbox:=(HBk.out.block w.heap.size (by simp)).trans (by first | exact heap_alloc_new w _ | rfl);have d0:=aA hbox 0;have d1:=aA hbox 1)
  | (go_at_call 342;refine(HL.out _ HB1.out).mono ?_;rintro e w2 ⟨rfl,h1,h2⟩))
 all_goals
  go_wp2_with fail
  go_end0
  exact⟨rfl,h1,h2⟩
theorem aCG(w:World)(b:Nat)(l:Byt)(x:Value)(tx:Byt)(ht:TxtAt w b l)(hx:Spl b w x tx 711)(hi:∃T v,x=.iface T v)(hb:l.length+1500<=1000000000) :Calls prog 340 #[.agg #[x,.bool true],.pointer (some ⟨b,0,none⟩)] w fun e w'=>FlPost w b l (Pl.listT [Pl.quoteB,tx]) 1500 e w':=by
 have HK:Hid (∀(w1:World)(s:ByteArray),Below w.heap.size w w1->Calls prog 339 #[.string s] w1 fun e w'=>e=.returned (.agg #[.string s,.int .i64 0])/\Hid (Below w.heap.size w w')/\Hid (Below w1.heap.size w1 w')):=fun w1 s hB=>(aA3 w1 s).mono (fun e w' ⟨k1,k2⟩=>⟨k1,hB.trans (k2.mono hB.size),k2⟩)
 have HL:Hid (∀w2,Below w.heap.size w w2->Calls prog 342 #[.pointer (some ⟨b,0,none⟩),.slice (some ⟨w2.heap.size,0,none⟩) 2 2] (w2.alloc (.cells #[.iface 214 (.agg #[.string ⟨#[113,117,111,116,101]⟩,.int .i64 0]),x] 319)) fun e w'=>FlPost w b l (Pl.listT [Pl.quoteB,tx]) 1500 e w'):=fun w2 hB=>(aBU (T:=319) [kwV Pl.quoteB,x] [Pl.quoteB,tx] (m4 300 711 0 0) ht (by decide) hB rfl (fun i u t h1 h2=>by
   rcases i with _ | _ | i
   ·obtain rfl:=Option.some.inj h1;obtain rfl:=Option.some.inj h2;exact aA0 b w Pl.quoteB 0 (by decide)
   ·obtain rfl:=Option.some.inj h1;obtain rfl:=Option.some.inj h2;exact hx
   ·simp at h1) (by simp only [List.length_cons,List.length_nil,n3,m4];omega)).mono (fun e w' h=>⟨h.1,h.2.1,by obtain⟨l',q1,q2,q3⟩:=h.2.2;exact⟨l',q1,q2,by simp only [List.length_cons,List.length_nil,n3,m4] at q3;omega⟩⟩)
 obtain⟨Tx,vx,rfl⟩:=hi;have hB0:∀o:Obj,Below w.heap.size w (w.alloc o):=fun o=>(Below.refl _ _).alloc (Nat.le_refl _) o;clear ht hx hb;go_enter func340,ntmps340;go_wp2_with fail
 go_region_with (first
  | (go_at_call 339;refine(HK.out _ _ (by first | exact(hB0 _).drew | exact hB0 _)).mono ?_;rintro e w1 ⟨rfl,HB1,HBk⟩;have hbox:=(HBk.out.block w.heap.size (by simp)).trans (by first | exact heap_alloc_new w _ | rfl);have d0:=aA hbox 0;have d1:=aA hbox 1)
  | (go_at_call 342;refine(HL.out _ HB1.out).mono ?_;rintro e w2 ⟨rfl,h1,h2⟩))
 all_goals
  go_wp2_with fail
  go_end0
  exact⟨rfl,h1,h2⟩
theorem aDD(w:World)(b:Nat)(l:Byt)(x:Value)(tx:Byt)(ht:TxtAt w b l)(hx:Spl b w x tx 711)(hb:l.length+1500<=1000000000) :Calls prog 340 #[.agg #[x,.bool false],.pointer (some ⟨b,0,none⟩)] w fun e w'=>FlPost w b l tx 1500 e w':=by
 have k1:=f6 w b (.cells #[x,.bool false] 223) (Nat.le_of_lt ht.lt);obtain⟨T,v,f,xr,rfl,hmet,hent,hcall⟩:=hx _ l k1 (ht.alloc _) (by omega);unfold Enters at hent;have HC:Hid (Calls prog f #[xr,.pointer (some ⟨b,0,none⟩)] (w.alloc (.cells #[.iface T v,.bool false] 223)) fun e w'=>FlPost w b l tx 1500 e w'):=hcall.mono (fun e w' h=>by obtain⟨q1,q2,l',q3,q4,q5⟩:=h;exact⟨q1,k1.trans q2,l',q3,q4,by omega⟩);clear ht hx hb hcall k1;go_enter func340,ntmps340;go_wp2_with (refine Calls.mono HC.out ?_;rintro e w2 ⟨rfl,h1,h2⟩)
 go_end0
 exact⟨rfl,h1,h2⟩
theorem aA2{P:Program}{ops:Array Oper}{o:Oper}{a:Act}{K:Act->World->Prop}{Q:Exit->Act->World->Prop}{E:Prop}(hgd:o.guard=none)(f:FuncId)(x1:Operand)(ts:Array TypeId)
  (ho:o.op=.call {callee:=.value (.func f),args:=#[x1],argTypes:=ts}) {fn:Func} {c:Code} (hf:P.funcs[f]?=some fn) (hname:(fn.name == "runtime.NumGoroutine")=false) (hb:fn.body=some c)
  (v1:Value) (h1:a.eval x1=v1) {R:Ending->World->Prop} (hC:Calls P f #[v1] w R) (h:∀e w',R e w'->∃v,e=.returned v/\K (a.put o.dst v) w'):if Region.wanted o (yielded ops a.tmps)=true then Oper.wp P o a w K Q else E :=
 tP hgd f #[x1] ts ho hf hname hb #[v1] (by simp [h1]) hC h
def mC(m:Nat)(ms:Nat->Nat):Nat->Nat
 | 0=>m
 | i+1=>ms i
theorem aBA(m:Nat)(ms:Nat->Nat)(n:Nat):n3 (mC m ms) (1+n)=m+1+n3 ms n:=by
 induction n with
 | zero=>simp [n3,mC]
 | succ n ih =>rw [show 1+(n+1)=(1+n)+1 by omega];simp only [n3];rw [ih,show 1+n=n+1 by omega];simp only [mC];omega
theorem row_own{base:Nat}{sl:Value}{xs:List Value}(hb:b<base)(h:w.ownsRow base 61 1 sl xs.length xs):RowSp b w sl 1 xs.length xs:=by
 refine⟨by simp,?_⟩;rcases h.2 with⟨hv,h0⟩ | ⟨g,cap,cur,hv,hg,hc,hcap,_,_,hx⟩
 ·exact⟨none,0,by rw [hv,h0],by omega,.inl h0⟩
 ·refine⟨some ⟨g,0,none⟩,cap,hv,hcap,.inr ⟨g,0,cur,_,rfl,by omega,by decide,hc,fun i u hu=>?_⟩⟩;have:=h.cells (g:=g) (by rw [hv];rfl) i u hu;rw [Addr.add_lit,Nat.zero_add] at this;rw [aA hc i] at this;rw [Nat.zero_add];exact this
theorem aDE(w:World)(b:Nat)(l:Byt)(sl:Value)(us:List Value)(ts:List Byt)(ms:Nat->Nat)(ht:TxtAt w b l)(hr:RowSp b w sl 1 us.length us)(hn:0<us.length)(hone:∀u∈us,u.oneCell'=true)(hlen:ts.length=us.length)(hsp:∀(i:Nat)(u:Value)(t:Byt),us[i]?=some u->ts[i]?=some t->Spl b w u t (ms i))(hb:l.length+(303+n3 ms us.length)<=1000000000) :Calls prog 386 #[.agg #[sl],.pointer (some ⟨b,0,none⟩)] w fun e w'=>FlPost w b l (Pl.listT (Pl.beginB::ts)) (303+n3 ms us.length) e w':=by
 obtain⟨i0,hi0,hz0,hz1,hz2⟩:=info_parts Tryz.infoFm;have hn9:us.length<=1000000000:=Nat.le_trans (aBN ms _) (by omega);have hbw:=ht.lt;have HK:Hid (∀(w1:World)(s:ByteArray),Below w.heap.size w w1->Calls prog 339 #[.string s] w1 fun e w'=>e=.returned (.agg #[.string s,.int .i64 0])/\Hid (Below w.heap.size w w')/\Hid (Below w1.heap.size w1 w')):=fun w1 s hB=>(aA3 w1 s).mono (fun e w' ⟨k1,k2⟩=>⟨k1,hB.trans (k2.mono hB.size),k2⟩)
 have HF:=(show Hid (∀(w1 w3:World)(o:Obj)(g3 cap3:Nat),Below w.heap.size w w1->w3.ownsRow w1.heap.size 61 1 (.slice (some ⟨g3,0,none⟩) (1+us.length) cap3) (1+us.length) ([kwV Pl.beginB]++us)->(w1.alloc o).grownBy w3 (some w1.heap.size)->Calls prog 338 #[.pointer (some ⟨b,0,none⟩),.slice (some ⟨g3,0,none⟩) (1+us.length) cap3] w3 fun e w'=>FlPost w b l (Pl.listT (Pl.beginB::ts)) (303+n3 ms us.length) e w') from fun w1 w3 o g3 cap3 hB hown hg=>by
  have hs1:=hB.size;have hB3:Below w.heap.size w w3:=(hB.alloc hs1 o).grown hg (by simp;omega) (fun j hj=>by obtain rfl:=Option.some.inj hj;exact hs1);obtain⟨k1,k2⟩:=ht.txs_below hB3;have e1:([kwV Pl.beginB]++us).length=1+us.length:=by simp;omega
  rw [<- e1] at hown ⊢
  have hp:=aB1 w3 b l _ _ (Pl.beginB::ts) (mC 300 ms) k2 (row_own (by omega) hown) (by rw [e1];simp;omega) (fun i u t h1 h2=>by
   rcases i with _ | i
   ·obtain rfl:=Option.some.inj h1;obtain rfl:=Option.some.inj h2;exact(aA0 b w Pl.beginB 0 (by decide)).later k1
   ·exact(hsp i u t (by simpa using h1) (by simpa using h2)).later k1) (by rw [e1,aBA];omega)
  refine hp.mono (fun e w' h=>(FlPost.pre k1 ⟨h.1,h.2.1,?_⟩));obtain⟨l',q1,q2,q3⟩:=h.2.2
  exact⟨l',q1,q2,by rw [e1,aBA] at q3;omega⟩)
 have hc:=(show Hid (∀w1,Below w.heap.size w w1->∀i u,us[i]?=some u->∃g off cap,sl=.slice (some ⟨g,off,none⟩) us.length cap/\w1.cell? ⟨g,off+i,none⟩=some u) from fun w1 hB i u hu=>by
  obtain⟨g,off,cap,e,_,_,hcc⟩:=hr.cell (ht.txs_below hB).1 hu
  exact⟨g,off,cap,e,hcc⟩)
 obtain⟨g,off,cap,rfl,_⟩:=hc.out w (Below.refl _ _) 0 (us[0]'hn) (List.getElem?_eq_getElem hn)
 have HC:=(show Hid (∀w1,Below w.heap.size w w1->∀j u,us[j]?=some u->w1.cell? (Addr.add ⟨g,off,none⟩ j)=some u) from fun w1 hB j u hu=>by
  obtain⟨g',off',cap',e,hcc⟩:=hc.out w1 hB j u hu;simp only [Value.slice.injEq,Option.some.injEq,Addr.mk.injEq,true_and,and_true] at e;obtain⟨⟨rfl,rfl⟩,_⟩:=e;rw [Addr.add_mid]
  exact hcc)
 have HO1:Hid (∀w1:World,(w1.alloc (.cells #[kwV Pl.beginB] 61)).ownsRow w1.heap.size 61 1 (.slice (some ⟨w1.heap.size,0,none⟩) 1 1) 1 [kwV Pl.beginB]):=fun w1=>qU w1 _ (Nat.le_refl _) _;have hB0:∀o:Obj,Below w.heap.size w (w.alloc o):=fun o=>(Below.refl _ _).alloc (Nat.le_refl _) o;clear ht hr hsp hb hc hlen;unfold kwV Pl.beginB at *;go_enter func386,ntmps386;go_wp2_with fail
 go_region_law (first
  | (refine aA2 (by rfl) 339 _ _ (by rfl) func339 (by kernel_rfl) rfl (.string ⟨#[98,101,103,105,110]⟩) (by rfl) (HK.out _ _ (by first | exact(hB0 _).drew | exact hB0 _)) ?_;rintro e w1 ⟨rfl,HB1,HBk⟩;refine⟨_,rfl,?_⟩;have hbox:=(HBk.out.block w.heap.size (by simp)).trans (by first | exact heap_alloc_new w _ | rfl);have d0:=aA hbox 0;have hlt1:=aB hbox;have hne1:w.heap.size≠w1.heap.size:=Nat.ne_of_lt hlt1)
  | (refine step_append_lies _ (by rfl) _ _ 345 (by rfl) w1.heap.size 61 i0 .nilIface 1 16 underlying345 hi0 hz0 hz1 hz2 rfl (by decide) (.slice (some ⟨w1.heap.size,0,none⟩) 1 1) 1 _ (by rfl) (HO1.out w1) ⟨g,off,none⟩ us.length cap us (by rfl) (by omega) (HC.out _ (HB1.out.alloc HB1.out.size _)) hone hn (by unfold maxLen;omega) (by omega) (by simp) (w1.heap.size+1) (by simp) ?_;intro g3 cap3 w3 hown3 hgrow3 _ _;have HP3:=(show Hid _ from HF.out w1 w3 _ g3 cap3 HB1.out hown3 hgrow3);clear hown3 hgrow3)
  | (refine kO (by rfl) 338 _ _ _ (by rfl) func338 (by kernel_rfl) rfl _ _ (by rfl) (by rfl) HP3.out ?_;rintro e w4 ⟨rfl,h1,h2⟩;refine⟨_,rfl,?_⟩))
 all_goals
  go_wp2_with fail
  go_end0
  exact⟨rfl,h1,h2⟩
end
end Go.Proofs.YtkgbdddkcjpgfaaGreatDoor
