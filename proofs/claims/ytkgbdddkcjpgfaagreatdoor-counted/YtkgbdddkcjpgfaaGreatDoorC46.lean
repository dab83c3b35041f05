import Derived.Test.YtkgbdddkcjpgfaaGreatDoorC45
namespace Go.Proofs.YtkgbdddkcjpgfaaGreatDoor
set_option maxHeartbeats 2000000
set_option maxRecDepth 100000
open Go.Proofs.Tryz
open Pl (Byt)
section
open Go.RowKit Go.Lib
theorem RowSp.later{b:Nat}{w w':World}{sl:Value}{sz n:Nat}{xs:List Value}(h:RowSp b w sl sz n xs)(k:Txs b w w'):RowSp b w' sl sz n xs:=by obtain⟨h0,ao,cap,e,hc,h1⟩:=h;refine⟨h0,ao,cap,e,hc,h1.imp id ?_⟩;rintro⟨g,off,cur,T,e1,hg,hT,hb,hx⟩;exact⟨g,off,cur,T,e1,hg,hT,k.kept g _ hb hg (fun c fz e=>hT (by cases e;rfl)),hx⟩
theorem p_spSet(w:World)(b:Nat)(l:Byt)(s:Byt)(k:Int)(x:Value)(tx:Byt)(mx:Nat)(ht:TxtAt w b l)(hs:s.length<=300)(hx:Spl b w x tx mx)(hi:∃T v,x=.iface T v)(hb:l.length+(mx+700)<=1000000000) :Calls prog 381 #[.agg #[.string ⟨s.toArray⟩,.int .i64 k,x],.pointer (some ⟨b,0,none⟩)] w fun e w'=>FlPost w b l (Pl.listT [Pl.setB,s,tx]) (mx+700) e w':=by
 have HK:Hid (∀(w1:World)(s:ByteArray),Below w.heap.size w w1->Calls prog 339 #[.string s] w1 fun e w'=>e=.returned (.agg #[.string s,.int .i64 0])/\Hid (Below w.heap.size w w')/\Hid (Below w1.heap.size w1 w')):=fun w1 s hB=>(aA3 w1 s).mono (fun e w' ⟨k1,k2⟩=>⟨k1,hB.trans (k2.mono hB.size),k2⟩)
 have HL:Hid (∀w2,Below w.heap.size w w2->Calls prog 338 #[.pointer (some ⟨b,0,none⟩),.slice (some ⟨w2.heap.size,0,none⟩) 3 3] (w2.alloc (.cells #[.iface 214 (.agg #[.string ⟨#[115,101,116,33]⟩,.int .i64 0]),.iface 214 (.agg #[.string ⟨s.toArray⟩,.int .i64 k]),x] 61)) fun e w'=>FlPost w b l (Pl.listT [Pl.setB,s,tx]) (mx+700) e w'):=fun w2 hB=>(aBC (T:=61) [kwV Pl.setB,.iface 214 (.agg #[.string ⟨s.toArray⟩,.int .i64 k]),x] [Pl.setB,s,tx] (m4 300 300 mx 0) ht (by decide) hB rfl (fun i u t h1 h2=>by
   rcases i with _ | _ | _ | i
   ·obtain rfl:=Option.some.inj h1;obtain rfl:=Option.some.inj h2;exact aA0 b w Pl.setB 0 (by decide)
   ·obtain rfl:=Option.some.inj h1;obtain rfl:=Option.some.inj h2;exact aA0 b w _ k hs
   ·obtain rfl:=Option.some.inj h1;obtain rfl:=Option.some.inj h2;exact hx
   ·simp at h1) (by simp only [List.length_cons,List.length_nil,n3,m4];omega)).mono (fun e w' h=>⟨h.1,h.2.1,by obtain⟨l',q1,q2,q3⟩:=h.2.2;exact⟨l',q1,q2,by simp only [List.length_cons,List.length_nil,n3,m4] at q3;omega⟩⟩)
 obtain⟨Tx,vx,rfl⟩:=hi;have hB0:∀o:Obj,Below w.heap.size w (w.alloc o):=fun o=>(Below.refl _ _).alloc (Nat.le_refl _) o;clear ht hx hb hs;go_enter func381,ntmps381;go_wp2_with fail
 go_region_with (first
  | (go_at_call 339;refine(HK.out _ _ (by first | exact(hB0 _).drew | exact hB0 _)).mono ?_;rintro e w1 ⟨rfl,HB1,HBk⟩;have hbox:=(HBk.out.block w.heap.size (by simp)).trans (by first | exact heap_alloc_new w _ | rfl);have d0:=aA hbox 0;have d1:=aA hbox 1;have d2:=aA hbox 2)
  | (go_at_call 338;refine(HL.out _ HB1.out).mono ?_;rintro e w2 ⟨rfl,h1,h2⟩))
 all_goals
  go_wp2_with fail
  go_end0
  exact⟨rfl,h1,h2⟩
theorem aCI(w:World)(b:Nat)(l:Byt)(s:Byt)(k:Int)(x:Value)(tx:Byt)(mx:Nat)(ht:TxtAt w b l)(hs:s.length<=300)(hx:Spl b w x tx mx)(hi:∃T v,x=.iface T v)(hb:l.length+(mx+700)<=1000000000) :Calls prog 336 #[.agg #[.string ⟨s.toArray⟩,.int .i64 k,x],.pointer (some ⟨b,0,none⟩)] w fun e w'=>FlPost w b l (Pl.listT [Pl.defineB,s,tx]) (mx+700) e w':=by
 have HK:Hid (∀(w1:World)(s:ByteArray),Below w.heap.size w w1->Calls prog 339 #[.string s] w1 fun e w'=>e=.returned (.agg #[.string s,.int .i64 0])/\Hid (Below w.heap.size w w')/\Hid (Below w1.heap.size w1 w')):=fun w1 s hB=>(aA3 w1 s).mono (fun e w' ⟨k1,k2⟩=>⟨k1,hB.trans (k2.mono hB.size),k2⟩)
 have HL:Hid (∀w2,Below w.heap.size w w2->Calls prog 338 #[.pointer (some ⟨b,0,none⟩),.slice (some ⟨w2.heap.size,0,none⟩) 3 3] (w2.alloc (.cells #[.iface 214 (.agg #[.string ⟨#[100,101,102,105,110,101]⟩,.int .i64 0]),.iface 214 (.agg #[.string ⟨s.toArray⟩,.int .i64 k]),x] 61)) fun e w'=>FlPost w b l (Pl.listT [Pl.defineB,s,tx]) (mx+700) e w'):=fun w2 hB=>(aBC (T:=61) [kwV Pl.defineB,.iface 214 (.agg #[.string ⟨s.toArray⟩,.int .i64 k]),x] [Pl.defineB,s,tx] (m4 300 300 mx 0) ht (by decide) hB rfl (fun i u t h1 h2=>by
   rcases i with _ | _ | _ | i
   ·obtain rfl:=Option.some.inj h1;obtain rfl:=Option.some.inj h2;exact aA0 b w Pl.defineB 0 (by decide)
   ·obtain rfl:=Option.some.inj h1;obtain rfl:=Option.some.inj h2;exact aA0 b w _ k hs
   ·obtain rfl:=Option.some.inj h1;obtain rfl:=Option.some.inj h2;exact hx
   ·simp at h1) (by simp only [List.length_cons,List.length_nil,n3,m4];omega)).mono (fun e w' h=>⟨h.1,h.2.1,by obtain⟨l',q1,q2,q3⟩:=h.2.2;exact⟨l',q1,q2,by simp only [List.length_cons,List.length_nil,n3,m4] at q3;omega⟩⟩)
 obtain⟨Tx,vx,rfl⟩:=hi;have hB0:∀o:Obj,Below w.heap.size w (w.alloc o):=fun o=>(Below.refl _ _).alloc (Nat.le_refl _) o;clear ht hx hb hs;go_enter func336,ntmps336;go_wp2_with fail
 go_region_with (first
  | (go_at_call 339;refine(HK.out _ _ (by first | exact(hB0 _).drew | exact hB0 _)).mono ?_;rintro e w1 ⟨rfl,HB1,HBk⟩;have hbox:=(HBk.out.block w.heap.size (by simp)).trans (by first | exact heap_alloc_new w _ | rfl);have d0:=aA hbox 0;have d1:=aA hbox 1;have d2:=aA hbox 2)
  | (go_at_call 338;refine(HL.out _ HB1.out).mono ?_;rintro e w2 ⟨rfl,h1,h2⟩))
 all_goals
  go_wp2_with fail
  go_end0
  exact⟨rfl,h1,h2⟩
theorem aDZ(w:World)(b:Nat)(l:Byt)(sl:Value)(us:List Value)(ts:List Byt)(ms:Nat->Nat)(ht:TxtAt w b l)(hr:RowSp b w sl 1 us.length us)(hlen:ts.length=us.length)(hsp:∀(i:Nat)(u:Value)(t:Byt),us[i]?=some u->ts[i]?=some t->Spl b w u t (ms i))(hb:l.length+2+n3 ms us.length<=1000000000) :Calls prog 388 #[.agg #[sl],.pointer (some ⟨b,0,none⟩)] w fun e w'=>FlPost w b l (Pl.listT ts) (2+n3 ms us.length) e w':=by
 have HC:Hid (∀o:Obj,Calls prog 338 #[.pointer (some ⟨b,0,none⟩),sl] (w.alloc o) fun e w'=>FlPost w b l (Pl.listT ts) (2+n3 ms us.length) e w'):=fun o=>by have k1:=f6 w b o (Nat.le_of_lt ht.lt);exact(aB1 _ b l sl us ts ms (ht.alloc o) (hr.later k1) hlen (fun i u t h1 h2=>(hsp i u t h1 h2).later k1) hb).mono (fun e w' h=>h.pre k1)
 obtain⟨ao,cap,rfl,hcap⟩:=hr.slice;clear ht hr hlen hsp hb;go_enter func388,ntmps388;go_wp2_with (go_at_call 338;refine(HC.out _).mono ?_;rintro e w1 ⟨rfl,h1,h2⟩)
 go_end0
 exact⟨rfl,h1,h2⟩
end
end Go.Proofs.YtkgbdddkcjpgfaaGreatDoor
