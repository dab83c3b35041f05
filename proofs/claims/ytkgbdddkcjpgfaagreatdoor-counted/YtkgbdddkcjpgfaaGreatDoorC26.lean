import Derived.Test.YtkgbdddkcjpgfaaGreatDoorC21
import Derived.Test.YtkgbdddkcjpgfaaGreatDoorC23
import Derived.Test.YtkgbdddkcjpgfaaGreatDoorC25
namespace Go.Proofs.YtkgbdddkcjpgfaaGreatDoor
set_option maxHeartbeats 4000000
set_option maxRecDepth 100000
open Go.Proofs.Tryz
open Pl (Byt Env)
section
open Go.RowKit Go.Lib
variable {w:World}
theorem cV{l:List Byt}(hn:l.Nodup){i:Nat}{t:Byt}(h:l[i]?=some t):l.idxOf t=i:=by obtain⟨hi,rfl⟩:=List.getElem?_eq_some_iff.1 h;exact hn.idxOf_getElem i hi
theorem eN:∀(ns:List Byt)(base:Nat)(nm:Byt),nm∉ns->Pl.find (Pl.numb ns base) nm=none
 | [],_,_,_=>rfl
 | x::r,base,nm,h=>by simp only [List.mem_cons,not_or] at h;simp only [Pl.numb,Pl.find,eN r (base+1) nm h.2];rw [if_neg (fun e=>h.1 e.symm)]
theorem n9:∀(ns:List Byt)(base i:Nat)(nm:Byt),ns.Nodup->ns[i]?=some nm->Pl.find (Pl.numb ns base) nm=some (base+i)
 | [],_,_,_,_,h=>by simp at h
 | x::r,base,0,nm,hn,h=>by simp only [List.getElem?_cons_zero,Option.some.injEq] at h;subst h;simp only [List.nodup_cons] at hn;simp only [Pl.numb,Pl.find,eN r (base+1) x hn.1];simp
 | x::r,base,i+1,nm,hn,h=>by
  simp only [List.getElem?_cons_succ] at h;simp only [List.nodup_cons] at hn;simp only [Pl.numb,Pl.find,n9 r (base+1) i nm hn.2 h]
  congr 1
  omega
def EnvD(w:World):Nat->Value->Prop
 | 0,v=>v=.pointer none
 | n+1,v=>∃b nv sv up,v=.pointer (some ⟨b,0,none⟩)/\w.heap[b]?=some (.cells #[nv,sv,up] TSur (0,0))/\EnvD w n up
theorem EnvD.uniq:∀{n m:Nat} {v:Value},EnvD w n v->EnvD w m v->n=m
 | 0,0,_,_,_=>rfl
 | 0,m+1,v,h,k=>by
  obtain⟨b,_,_,_,e,_⟩:=k;rw [show v=.pointer none from h] at e
  cases e
 | n+1,0,v,h,k=>by
  obtain⟨b,_,_,_,e,_⟩:=h;rw [show v=.pointer none from k] at e
  cases e
 | n+1,m+1,v,h,k=>by obtain⟨b,nv,sv,up,rfl,h1,h2⟩:=h;obtain⟨b',nv',sv',up',e,k1,k2⟩:=k;simp only [Value.pointer.injEq,Option.some.injEq,Addr.mk.injEq,and_true] at e;subst e;rw [h1] at k1;simp only [Option.some.injEq,Obj.cells.injEq,Array.mk.injEq,List.cons.injEq,and_true] at k1;rw [k1.2.2] at h2;rw [EnvD.uniq h2 k2]
theorem EnvR.dep{M:Nat->Prop}{s:Sg}{v:Value}{env:Env}(h:EnvR M w s v env):∃n,EnvD w n v:=by
 induction h with
 | nil=>exact⟨0,rfl⟩
 | cons b nv up ao cap base ns env hb _ _ _ _ _ ih =>obtain⟨n,hn⟩:=ih;exact⟨n+1,b,nv,_,up,rfl,hb,hn⟩
theorem dep_fun(w:World):∃dep:Value->Nat,∀v n,EnvD w n v->dep v=n :=⟨fun v=>Classical.epsilon (fun n=>EnvD w n v),fun _ _ h=>EnvD.uniq (Classical.epsilon_spec (p:=fun n=>EnvD w n _) ⟨_,h⟩) h⟩
def PlcQ(s:Sg)(env:Env)(nm:Byt)(e:Ending):Prop :=(Pl.find env nm=none/\e=.returned (.pointer none))\/(∃i g o,Pl.find env nm=some i/\s.lp[i]?=some (some (g,o))/\e=.returned (.pointer (some ⟨g,o,none⟩)))
theorem nm_cell{M:Nat->Prop}{ao:Option Addr}{n cap:Nat}{ns:List Byt}{ks:List Nat}(h:Sl M w TNam 2 (.slice ao n cap) ns.length (d7 ns ks)){i k:Nat}{t:Byt}(ht:ns[i]?=some t)(hk:ks[i]?=some k) :∃g off,ao=some ⟨g,off,none⟩/\g<w.heap.size/\n=ns.length/\ns.length<=cap/\w.cell? ⟨g,off+i*2,none⟩=some (.string ⟨t.toArray⟩)/\w.cell? ⟨g,off+i*2+1,none⟩=some (.int .i64 (k:Int)):=by
 obtain⟨_,ao',cap',e,hc,h3⟩:=h;simp only [Value.slice.injEq] at e;obtain⟨rfl,rfl,rfl⟩:=e;have hi:=(List.getElem?_eq_some_iff.1 ht).1;rcases h3 with h0 | ⟨g,off,cur,rfl,_,hg,hcur⟩
 ·omega
 ·have hz:(List.zip ns ks)[i]?=some (t,k):=by rw [List.getElem?_zip_eq_some];exact⟨ht,hk⟩
  have key:∀j,j<2->(d7 ns ks)[i*2+j]?=(gU t k)[j]? := fun j hj=>by unfold d7;exact aX (fun p=>gU p.1 p.2) 2 (fun _=>rfl) _ i j (t,k) hz hj
  refine⟨g,off,rfl,aB hg,rfl,hc,?_,?_⟩
  ·rw [aA hg];exact hcur (i*2) _ (key 0 (by decide))
  ·rw [Nat.add_assoc,aA hg];exact hcur (i*2+1) _ (key 1 (by decide))
theorem uW(M:Nat->Prop)(w:World)(s:Sg)(ev:Value)(env:Env)(nm:Byt)(k:Nat)(hn:s.ns.Nodup)(he:EnvR M w s ev env)(hk:s.ns[k]?=some nm) :Calls prog 194 #[ev,.agg #[.string ⟨nm.toArray⟩,.int .i64 (k:Int)]] w fun e w'=>Below w.heap.size w w'/\PlcQ s env nm e:=by
 have HN:Hid (s.ns.Nodup):=hn;have HE:Hid (EnvR M w s ev env):=he;have HK:Hid (s.ns[k]?=some nm):=hk;obtain⟨dep,hdep⟩:=dep_fun w;have HD:Hid (∀v n,EnvD w n v->dep v=n):=hdep;have hB1:Below w.heap.size w (w.alloc (.cells #[.string ⟨nm.toArray⟩,.int .i64 (k:Int)] TNam)):=(Below.refl _ _).alloc (Nat.le_refl _) _;have HB1:Hid (Below w.heap.size w (w.alloc (.cells #[.string ⟨nm.toArray⟩,.int .i64 (k:Int)] TNam))):=hB1;clear hn he hk hdep hB1;go_enter func194,ntmps194;go_wp2_with fail
 go_loopw [0] (fun v wr=>∃env',Hid (EnvR M w s v env'/\Pl.find env nm=Pl.find env' nm/\Below w.heap.size w wr/\wr.heap[w.heap.size]?=some (.cells #[.string ⟨nm.toArray⟩,.int .i64 (k:Int)] TNam (0,0)))) (fun v _=>dep v)
 case atStart=>exact⟨env,HE.out,rfl,HB1.out,heap_alloc_new w _⟩
 case round =>
  obtain⟨env',HI⟩:=hrel;obtain⟨he',hf',hB',hbox⟩:=HI.out
  cases he' with
  | nil =>have HF:Hid (Pl.find env nm=none):=hf';have HB:Hid (Below w.heap.size w wr):=hB';clear hf' hB' hbox HI;go_wp2_with fail;go_ret;exact⟨HB.out,.inl ⟨HF.out,rfl⟩⟩
  | cons b nv up ao cap base ns env2 hb hm hnm hcap hp hup =>
   obtain⟨⟨ks,hks,hsl⟩,hnd,hlen⟩:=hnm;have hsl0:=hsl;obtain⟨_,ao2,cap2,rfl,hcap2,_⟩:=hsl0;have HX:Hid (EnvR M w s up env2/\Pl.find env nm=Pl.find (env2++Pl.numb ns base) nm/\w.heap[b]?=some (.cells #[.slice ao2 ns.length cap2,.slice ao ns.length cap,up] TSur (0,0))/\All2 (fun k t=>s.ns[k]?=some t) ks ns/\Sl M w TNam 2 (.slice ao2 ns.length cap2) ns.length (d7 ns ks)/\ns.Nodup/\ns.length<=1000):=⟨hup,hf',hb,hks,hsl,hnd,hlen⟩
   have HP:Hid (∀i,i<ns.length->∃g off,ao=some ⟨g,off,none⟩/\s.lp[base+i]?=some (some (g,off+i))):=hp;have HB:Hid (Below w.heap.size w wr):=hB';have hbl:=aB hb;have hbr:=(hB'.block b hbl).trans hb;have c0:wr.cell? ⟨b,0,none⟩=some (.slice ao2 ns.length cap2):=aA hbr 0;have HBx:Hid (wr.heap[w.heap.size]?=some (.cells #[.string ⟨nm.toArray⟩,.int .i64 (k:Int)] TNam (0,0))):=hbox;clear hb hm hks hsl hnd hlen hp hup hf' hB' hbr hbox HI;go_wp2_with fail
   go_loopw [18] (fun iv wq=>∃i:Nat,iv=.int .i64 (i:Int)/\i<=ns.length/\Hid (Below w.heap.size w wq/\wq.heap[w.heap.size]?=some (.cells #[.string ⟨nm.toArray⟩,.int .i64 (k:Int)] TNam (0,0))/\∀j,j<i->ns[j]? ≠ some nm)) (fun iv _=>ns.length-(RowKit.intOf iv).toNat)
   case atStart=>exact⟨0,rfl,Nat.zero_le _,HB.out,HBx.out,fun j hj=>absurd hj (Nat.not_lt_zero _)⟩
   case round =>
    obtain⟨i,rfl,hi,HQ⟩:=hrel;have hln:=HX.out.2.2.2.2.2.2;obtain⟨hBq,hboxq,hnoq⟩:=HQ.out;by_cases hil:i<ns.length
    ·obtain⟨t,ht⟩:∃t,ns[i]?=some t:=⟨_,List.getElem?_eq_getElem hil⟩
     obtain⟨k2,hk2,hsk⟩:=HX.out.2.2.2.1.at_ ht;obtain⟨g2,off2,rfl,hg2,_,_,d0,d1⟩:=nm_cell HX.out.2.2.2.2.1 ht hk2;have d0':=(hBq.cell (p:=⟨g2,off2+i*2,none⟩) hg2).trans d0;have d1':=(hBq.cell (p:=⟨g2,off2+i*2+1,none⟩) hg2).trans d1;have b0:wr.cell? ⟨w.heap.size,1,none⟩=some (.int .i64 (k:Int)):=aA hboxq 1;have hbx:w.heap.size<wr.heap.size:=aB hboxq;have hil2:(i:Int)<(ns.length:Int):=by omega
     have h0:(0:Int)<=(i:Int):=by omega
     have hbq:=(hBq.block b hbl).trans HX.out.2.2.1;have c1:wr.cell? ⟨b,1,none⟩=some (.slice ao ns.length cap):=aA hbq 1;have hblq:b<wr.heap.size:=aB hbq;have HBq:Hid (Below w.heap.size w wr):=hBq;have HBoxq:Hid (wr.heap[w.heap.size]?=some (.cells #[.string ⟨nm.toArray⟩,.int .i64 (k:Int)] TNam (0,0))):=hboxq;have HNo:Hid (∀j,j<i->ns[j]? ≠ some nm):=hnoq;by_cases hkk:k2=k
     ·subst hkk;have htn:t=nm:=by have:=hsk.symm.trans HK.out;exact Option.some.inj this
      subst htn;obtain⟨g,off,rfl,hlp⟩:=HP.out i hil;have HF:Hid (PlcQ s env t (.returned (.pointer (some ⟨g,off+i,none⟩)))):=.inr ⟨base+i,g,off+i,by rw [HX.out.2.1,Pl.find_append,n9 ns base i t HX.out.2.2.2.2.2.1 ht],hlp,rfl⟩;clear hBq hboxq hnoq d0 d1 hbq hlp ht hk2 hsk HQ;go_wp2_with fail;go_ret;exact⟨(HBq.out.alloc HBq.out.size _),HF.out⟩
     ·have hne:((k2:Int)==(k:Int))=false:=beq_eq_false_iff_ne.2 (by omega);have htn:t≠nm:=fun e=>by subst e;refine hkk ?_;have h1:=cV HN.out hsk;have h2:=cV HN.out HK.out;omega
      have HT:Hid (t≠nm/\ns[i]?=some t):=⟨htn,ht⟩
      clear hBq hboxq hnoq d0 d1 hbq ht hk2 hsk HQ htn hkk;go_wp2_with fail
      go_roundw
      case rel =>
       refine⟨i+1,by go_num,hil,HBq.out.alloc HBq.out.size _,(Below.heap_alloc _ _ _ hbx).trans HBoxq.out,fun j hj e=>?_⟩;rcases Nat.lt_or_ge j i with hj2 | hj2
       ·exact HNo.out j hj2 e
       ·obtain rfl:j=i:=by omega
        rw [HT.out.2] at e;exact HT.out.1 (Option.some.inj e)
      case measure=>simp only [RowKit.intOf];omega
    ·have hil2:i=ns.length:=by omega
     subst hil2;have HNn:Hid (nm∉ns):=fun hmem=>by obtain⟨j,hj⟩:=List.getElem?_of_mem hmem;exact hnoq j (List.getElem?_eq_some_iff.1 hj).1 hj
     have hbq:=(hBq.block b hbl).trans HX.out.2.2.1;obtain⟨ou,rfl⟩:=HX.out.1.ptr;have c2:wr.cell? ⟨b,2,none⟩=some (.pointer ou):=aA hbq 2;have HBq:Hid (Below w.heap.size w wr):=hBq;have HBoxq:Hid (wr.heap[w.heap.size]?=some (.cells #[.string ⟨nm.toArray⟩,.int .i64 (k:Int)] TNam (0,0))):=hboxq;clear hBq hboxq hnoq hbq HQ;go_wp2_with fail
     go_roundw
     case rel =>refine⟨env2,HX.out.1,?_,HBq.out,HBoxq.out⟩;rw [HX.out.2.1,Pl.find_append,eN ns base nm HNn.out]
     case measure =>obtain⟨n,hn⟩:=HX.out.1.dep;rw [HD.out _ n hn,HD.out _ (n+1) ⟨b,_,_,_,rfl,HX.out.2.2.1,hn⟩];omega
end
open Pl (PV PW PS SR)
section
open Go.RowKit Go.Lib Go.Maps
variable {w w' w1:World} {M:Nat->Prop} {k gb rb tb mb sb i:Nat} {v:Value} {e:Ending}
def OutB(M:Nat->Prop)(w:World)(sb rb:Nat)(out:Byt):Prop:=∃fv ev gv kv ov,RunAt M w sb rb fv ev gv kv ov/\OutR M w ov out
def PbN(w:World)(s t:Sg):Prop:=∀b∈t.pb,b∈s.pb\/w.heap.size<=b
theorem PbN.refl(w:World)(s:Sg):PbN w s s:=fun _ h=>.inl h
theorem PbN.trans{s t u:Sg}(h:PbN w s t)(k:PbN w1 t u)(hs:w.heap.size<=w1.heap.size):PbN w s u:=fun b hb=>(k b hb).elim (h b) (fun x=>.inr (Nat.le_trans hs x))
def NsPb(w:World)(s t:Sg):Prop:=t.ns=s.ns/\PbN w s t
theorem NsPb.refl(w:World)(s:Sg):NsPb w s s:=⟨rfl,PbN.refl w s⟩
theorem NsPb.same{s t:Sg}(h1:t.ns=s.ns)(h2:t.pb=s.pb):NsPb w s t:=⟨h1,fun _ h=>.inl (h2▸h)⟩
theorem NsPb.trans{s t u:Sg}(h:NsPb w s t)(k:NsPb w1 t u)(hs:w.heap.size<=w1.heap.size):NsPb w s u:=⟨k.1.trans h.1,h.2.trans k.2 hs⟩
theorem NsPb.back{s t:Sg}(k:NsPb w1 s t)(hs:w.heap.size<=w1.heap.size):NsPb w s t:=(NsPb.refl w s).trans k hs
def Went(M:Nat->Prop)(w:World)(s:Sg)(tb mb sb gb rb:Nat)(r:SR)(e:Ending)(w':World):Prop :=
 ∃M' s',Stp M w M' w'/\(Sg.Le s s'/\NsPb w s s')/\Wd M' w' s' tb mb sb gb r.W /\
  ((r.e=0/\e=.returned .nilIface/\Sta M' w' s' sb rb r.S r.W.out)\/(∃es,r.e≠0/\e=.returned (aY es (r.e:Nat))/\OutB M' w' sb rb r.W.out))
theorem Went.one{s:Sg}{r:SR}(h:Went M w s tb mb sb gb rb r e w'):∃v,e=.returned v:=by
 obtain⟨_,_,_,_,_,⟨_,h,_⟩ | ⟨es,_,h,_⟩⟩:=h
 ·exact⟨_,h⟩
 ·exact⟨_,h⟩
theorem Went.after{s:Sg}{r:SR}(h:Went M w1 s tb mb sb gb rb r e w')(hs:Stp M w M w1):Went M w s tb mb sb gb rb r e w':=by obtain⟨M',s',h1,h2,h3⟩:=h;exact⟨M',s',hs.trans h1,⟨h2.1,h2.2.back hs.size⟩,h3⟩
theorem Went.after2{M1:Nat->Prop}{s s1:Sg}{r:SR}(h:Went M1 w1 s1 tb mb sb gb rb r e w')(hs:Stp M w M1 w1)(l:Sg.Le s s1)(ln:NsPb w s s1):Went M w s tb mb sb gb rb r e w':=by obtain⟨M',s',h1,h2,h3⟩:=h;exact⟨M',s',hs.trans h1,⟨l.trans h2.1,ln.trans h2.2 hs.size⟩,h3⟩
theorem OutR.keep{M':Nat->Prop}{l:Byt}(h:OutR M w v l)(hk:∀g cur fz,M g->w.heap[g]?=some (.cells cur TBy fz)->w'.heap[g]?=w.heap[g]? /\ M' g):OutR M' w' v l:=by
 have key:∀g,v.ownBlock=some g->w'.heap[g]?=w.heap[g]? /\ M' g:=fun g hg=>by
  rcases h.1.2 with⟨rfl,_⟩ | ⟨g',cap,cur,rfl,_,hb,_⟩
  ·cases hg
  ·obtain rfl:g'=g:=by simpa [Value.ownBlock] using hg
   exact hk g' cur _ (h.2 g' rfl) hb
 exact⟨gA h.1 (fun g hg=>(key g hg).1),fun g hg=>(key g hg).2⟩
theorem OutR.ch{cs cs0:Array Value}{l:Byt}(h:OutR M w v l)(hc:RunCh w rb cs w')(hb:w.heap[rb]?=some (.cells cs0 TRun (0,0))):OutR M w' v l :=
 h.keep (fun g cur fz hm hg=>⟨hc.other g (aB hg) (fun e=>by
  subst e;rw [hb] at hg;simp only [Option.some.injEq,Obj.cells.injEq] at hg
  exact absurd hg.2.1 (by decide)),hm⟩)
theorem OutR.below{l:Byt}(h:OutR M w v l)(hb:Below w.heap.size w w'):OutR M w' v l:=h.keep (fun g _ _ hm hg=>⟨hb.block g (aB hg),hm⟩)
theorem Sta.below{s:Sg}{S:PS}{out:Byt}(h:Sta M w s sb rb S out)(hb:Below w.heap.size w w'):Sta M w' s sb rb S out:=by
 obtain⟨fv,ev,gv,kv,ov,h1,h2,h3,h4⟩:=h.ex;refine⟨fv,ev,gv,kv,ov,⟨(hb.block rb (aB h1.blk)).trans h1.blk,h1.mrb⟩,?_,h3.go (Stp.of_below hb) (Sg.Le.refl _),h4.below hb⟩;unfold FormO at h2 ⊢;split
 ·rename_i hf;rw [hf] at h2;exact h2
 ·rename_i f hf;rw [hf] at h2;exact⟨h2.1.go (Stp.of_below hb) (Sg.Le.refl _),h2.2.go (Stp.of_below hb) (Sg.Le.refl _)⟩
theorem eH{w2:World}{s:Sg}{W:PW}{S':PS}{c0 c1 c2 c3 c4 c5 fv ev gv kv ov:Value}(hW:Wd M w s tb mb sb gb W)(hb:w.heap[rb]?=some (.cells #[c0,c1,c2,c3,c4,c5] TRun (0,0)))(hM:M rb)(hc:RunCh w rb #[.pointer (some ⟨sb,0,none⟩),fv,ev,gv,kv,ov] w2)
  (hf:Stp M w M w2->FormO M w2 s fv ev gv S') (hk:Stp M w M w2->FrR M w2 s kv S'.frames) (ho:OutR M w ov W.out):Went M w s tb mb sb gb rb ⟨0,W,S'⟩ (.returned .nilIface) w2:=by
 have hm:=hc.mv hb hM;exact⟨M,s,hm.stp,⟨Sg.Le.refl _,NsPb.refl _ _⟩,hW.mv hm,.inl ⟨rfl,rfl,⟨fv,ev,gv,kv,ov,⟨hc.blk,hM⟩,hf hm.stp,hk hm.stp,ho.ch hc hb⟩⟩⟩
theorem tK(w:World):(zeroValue 161).run prog w=.ok .nilIface w:=by kernel_rfl
def NsTop:Nat:=9223372036854775807
def NsOk(s:Sg):Prop:=s.ns.length<=NsTop
theorem keyK(h:k<=NsTop):keyOf prog 3 (.int .i64 (k:Int))=some (.int .i64 (k:Int)):=keyOf_int_mk underlying3 (WalkArith.wf_i64 (by unfold NsTop at h;omega))
theorem Tab.nsok{s:Sg}(h:Tab w tb mb s.ns):NsOk s:=by
 obtain⟨D,⟨es,c,_,F,_,rfl⟩,hD⟩:=h.map;have h1:=hD.size;have h2:Maps.size (DataW.map ((es.toList.map (WideElems.rg prog 9 (plainElem prog 3))).foldr DataW.insert []):DataW Unit)=es.size:=length_read (P:=prog) (k:=9) (R0:=plainElem prog 3) es;have h3:=F.size;have h4:s.ns.length<=maxLen:=by rw [<- h1,h2];exact h3
 exact h4
theorem rE{s:Sg}{W:PW}(h:GlobAt w gb s W){nm:Byt}(hN:NsOk s)(hk:s.ns[k]?=some nm)(hf:Pl.find W.globals nm=some i):∃v p,W.places[i]?=some p/\RV s v p/\∀w',w'.heap[gb]?=w.heap[gb]? -> (Instr.lookup 145 (.map (some gb)) (.int .i64 (k:Int)) true).run prog w'=.ok (.tuple #[v,.bool true]) w':=by
 obtain⟨D,⟨es,c,hb,hr⟩,hD⟩:=h;obtain⟨hh,v,p,hv,hp,hrv⟩:=hD.yes k nm i hk hf;refine⟨v,p,hp,hrv,fun w' he=>?_⟩;have hown:w'.ownsMap prog 3 s9 gb W.globals.length D:=⟨es,c,he.trans hb,hr⟩
 obtain⟨v',ps,hrun,hR⟩:=hown.look_ok lawI underlying145 (tK w') (zd:=.held .nilIface) (zp:=[]) rfl (keyK (k:=k) (by have:=(List.getElem?_eq_some_iff.1 hk).1;unfold NsOk at hN;omega));rw [hv] at hR;simp only [s9,Option.some.injEq,Prod.mk.injEq,DataW.held.injEq] at hR;rw [hrun,hh,hR.1]
theorem pS{s:Sg}{W:PW}(h:GlobAt w gb s W){nm:Byt}(hN:NsOk s)(hk:s.ns[k]?=some nm)(hf:Pl.find W.globals nm=none):∀w',w'.heap[gb]?=w.heap[gb]? -> (Instr.lookup 145 (.map (some gb)) (.int .i64 (k:Int)) true).run prog w'=.ok (.tuple #[.nilIface,.bool false]) w':=by
 obtain⟨D,⟨es,c,hb,hr⟩,hD⟩:=h;have hh:=hD.no k nm hk hf;intro w' he;have hown:w'.ownsMap prog 3 s9 gb W.globals.length D:=⟨es,c,he.trans hb,hr⟩
 obtain⟨v',ps,hrun,hR⟩:=hown.look_ok lawI underlying145 (tK w') (zd:=.held .nilIface) (zp:=[]) rfl (keyK (k:=k) (by have:=(List.getElem?_eq_some_iff.1 hk).1;unfold NsOk at hN;omega));rw [atKey_of_not_has hh] at hR;simp only [s9,Option.some.injEq,Prod.mk.injEq,DataW.held.injEq] at hR;rw [hrun,hh,hR.1]
theorem eM(g:Env)(nm x:Byt)(n:Nat):Pl.find (g++[(nm,n)]) x=if nm=x then some n else Pl.find g x:=by
 rw [Pl.find_append];simp only [Pl.find];split
 ·rename_i k hk;by_cases e:nm=x
  ·rw [if_pos e] at hk ⊢;exact hk.symm
  ·rw [if_neg e] at hk;cases hk
 ·rename_i hk;by_cases e:nm=x
  ·rw [if_pos e] at hk;cases hk
  ·rw [if_neg e]
def Sg.addGlob(s:Sg):Sg:={s with lp:=s.lp++[none]}
theorem Sg.addGlob_le(s:Sg):Sg.Le s s.addGlob:=⟨rfl,rfl,List.prefix_refl _,List.prefix_refl _,List.prefix_refl _,List.prefix_append _ _,List.prefix_refl _⟩
theorem ns_inj{s:Sg}(hn:s.ns.Nodup){j:Nat}{a:Byt}(hk:s.ns[k]?=some a)(hj:s.ns[j]?=some a):k=j:=by have h1:=cV hn hk;have h2:=cV hn hj;omega
theorem eK{j:Nat}(h:k≠j):(Lit.int .i64 (k:Int))≠.int .i64 (j:Int):=fun e=>by simp only [Lit.int.injEq,true_and] at e;omega
theorem GlobD.setG{D:DataW Value}{s:Sg}{W:PW}(h:GlobD D s W)(hn:s.ns.Nodup){nm:Byt}{q:PV}(hk:s.ns[k]?=some nm)(hf:Pl.find W.globals nm=some i)(hv:RV s v q)(hl:i<W.places.length):GlobD (D.put (.int .i64 (k:Int)) (.held v)) s {W with places:=W.places.set i q}:=by
 have hkl:WideAt.IsKeyLit (.int .i64 (k:Int)):=trivial;refine⟨h.tidy.put hkl _,?_,?_,?_,h.names,h.inj⟩
 ·intro j a m hj hm;by_cases e:j=k
  ·subst e;obtain rfl:a=nm:=Option.some.inj (hj.symm.trans hk);obtain rfl:m=i:=Option.some.inj (hm.symm.trans hf);exact⟨has_put_same h.tidy.isMap hkl _,v,q,fun z=>atKey_put_same h.tidy.isMap hkl _ z,by simp [hl],hv⟩
  ·obtain⟨h1,u,p,h2,h3,h4⟩:=h.yes j a m hj hm;refine⟨by rw [has_put_other (eK e)];exact h1,u,p,fun z=>by rw [atKey_put_other (eK e)];exact h2 z,?_,h4⟩;show(W.places.set i q)[m]?=some p;rw [List.getElem?_set_ne (fun e2=>e (by subst e2;exact ns_inj hn hj (by rw [h.inj a nm i hm hf];exact hk)))];exact h3
 ·intro j a hj hm
  have e:j≠k:=fun e=>by
   subst e;obtain rfl:a=nm:=Option.some.inj (hj.symm.trans hk);rw [show Pl.find W.globals a=none from hm] at hf
   cases hf
  rw [has_put_other (eK e)];exact h.no j a hj hm
 ·intro j hj;by_cases e:j=k
  ·subst e;exact(List.getElem?_eq_some_iff.1 hk).1
  ·rw [has_put_other (eK e)] at hj;exact h.keys j hj
theorem GlobD.newG{D:DataW Value}{s:Sg}{W:PW}(h:GlobD D s W)(hn:s.ns.Nodup){nm:Byt}{q:PV}(hk:s.ns[k]?=some nm)(hf:Pl.find W.globals nm=none)(hv:RV s v q)(hl:s.lp.length=W.places.length)(hg:WfE W W.globals) :GlobD (D.put (.int .i64 (k:Int)) (.held v)) s.addGlob {W with places:=W.places++[q],globals:=W.globals++[(nm,W.places.length)]}:=by
 have hkl:WideAt.IsKeyLit (.int .i64 (k:Int)):=trivial;have hlt:∀a m,Pl.find W.globals a=some m->m<W.places.length:=fun a m hm=>by have:=(List.getElem?_eq_some_iff.1 (h.names a m hm).2).1;omega
 have _:=hg;refine⟨h.tidy.put hkl _,?_,?_,?_,?_,?_⟩
 ·intro j a m hj hm;have hm':(if nm=a then some W.places.length else Pl.find W.globals a)=some m:=by rw [<- eM];exact hm
  by_cases e:j=k
  ·subst e;obtain rfl:a=nm:=Option.some.inj (hj.symm.trans hk);rw [if_pos rfl] at hm';obtain rfl:=Option.some.inj hm';exact⟨has_put_same h.tidy.isMap hkl _,v,q,fun z=>atKey_put_same h.tidy.isMap hkl _ z,by simp,hv.le s.addGlob_le⟩
  ·have ena:nm≠a:=fun ea=>e (ns_inj hn hj (by rw [<- ea];exact hk));rw [if_neg ena] at hm';obtain⟨h1,u,p,h2,h3,h4⟩:=h.yes j a m hj hm';refine⟨by rw [has_put_other (eK e)];exact h1,u,p,fun z=>by rw [atKey_put_other (eK e)];exact h2 z,?_,h4.le s.addGlob_le⟩;show(W.places++[q])[m]?=some p;rw [List.getElem?_append_left (hlt a m hm')];exact h3
 ·intro j a hj hm;have hm':(if nm=a then some W.places.length else Pl.find W.globals a)=none:=by rw [<- eM];exact hm
  by_cases ea:nm=a
  ·rw [if_pos ea] at hm';cases hm'
  ·rw [if_neg ea] at hm';have e:j≠k:=fun e=>by subst e;exact ea (Option.some.inj (hk.symm.trans hj))
   rw [has_put_other (eK e)];exact h.no j a hj hm'
 ·intro j hj;by_cases e:j=k
  ·subst e;exact(List.getElem?_eq_some_iff.1 hk).1
  ·rw [has_put_other (eK e)] at hj;exact h.keys j hj
 ·intro a m hm;have hm':(if nm=a then some W.places.length else Pl.find W.globals a)=some m:=by rw [<- eM];exact hm
  by_cases ea:nm=a
  ·rw [if_pos ea] at hm';obtain rfl:=Option.some.inj hm';subst ea;refine⟨List.mem_of_getElem? hk,?_⟩;show(s.lp++[none])[W.places.length]?=some none;rw [<- hl];simp
  ·rw [if_neg ea] at hm';obtain⟨h1,h2⟩:=h.names a m hm';exact⟨h1,bS (List.prefix_append _ _) h2⟩
 ·intro a b m ha hb;have ha':(if nm=a then some W.places.length else Pl.find W.globals a)=some m:=by rw [<- eM];exact ha
  have hb':(if nm=b then some W.places.length else Pl.find W.globals b)=some m:=by rw [<- eM];exact hb
  by_cases ea:nm=a
  ·by_cases eb:nm=b
   ·exact ea.symm.trans eb
   ·rw [if_pos ea] at ha';rw [if_neg eb] at hb';obtain rfl:=Option.some.inj ha';exact absurd (hlt b _ hb') (Nat.lt_irrefl _)
  ·by_cases eb:nm=b
   ·rw [if_pos eb] at hb';rw [if_neg ea] at ha';obtain rfl:=Option.some.inj hb';exact absurd (hlt a _ ha') (Nat.lt_irrefl _)
   ·rw [if_neg ea] at ha';rw [if_neg eb] at hb';exact h.inj a b m ha' hb'
theorem PlacesAt.setO{s:Sg}{pl:List PV}(h:PlacesAt M w s pl)(hi:s.lp[i]?=some none)(q:PV):PlacesAt M w s (pl.set i q) :=
 ⟨by rw [List.length_set];exact h.len,h.inj,fun j g o p hj hp=>by
  rw [List.getElem?_set_ne (fun e=>by subst e;rw [hi] at hj;simp at hj)] at hp
  exact h.at_ j g o p hj hp⟩
theorem PlacesAt.newO{s:Sg}{pl:List PV}(h:PlacesAt M w s pl)(q:PV):PlacesAt M w s.addGlob (pl++[q]):=by
 have hold:∀i (c:Nat×Nat),s.addGlob.lp[i]?=some (some c)->s.lp[i]?=some (some c):=fun i c hi=>by
  rcases p5 hi with h1 | ⟨_,h2⟩
  ·exact h1
  ·cases h2
 refine⟨by simp [Sg.addGlob,h.len],fun i j c hi hj=>h.inj i j c (hold i c hi) (hold j c hj),fun i g o p hi hp=>?_⟩;have hi':=hold i _ hi;have hl:=(List.getElem?_eq_some_iff.1 hi').1;rw [List.getElem?_append_left (by rw [<- h.len];exact hl)] at hp;obtain⟨h1,cur,v,h2,h3,h4⟩:=h.at_ i g o p hi' hp;exact⟨h1,cur,v,h2,h3,h4.le s.addGlob_le⟩
end
end Go.Proofs.YtkgbdddkcjpgfaaGreatDoor
