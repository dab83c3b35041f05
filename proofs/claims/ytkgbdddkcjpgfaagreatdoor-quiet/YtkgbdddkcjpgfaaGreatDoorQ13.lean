import Derived.Test.YtkgbdddkcjpgfaaGreatDoorQ12
namespace Go.Proofs.YtkgbdddkcjpgfaaGreatDoor
set_option maxHeartbeats 4000000
set_option maxRecDepth 100000
open Go.Proofs.Tryz
open Pl (CW AE Env)
section
open Go.RowKit Go.Lib
variable {w w':World} {rb:Nat} {cs:Array Value} {M:Nat->Prop}
structure AI(w:World)(rb:Nat)(cs:Array Value)(w':World):Prop where
 os:w'.os=w.os
 tape:w'.tape=w.tape
 output:w'.output=w.output
 size:w.heap.size<=w'.heap.size
 blk:w'.heap[rb]?=some (.cells cs BT (0,0))
 other:∀k,k<w.heap.size->k≠rb->w'.heap[k]?=w.heap[k]?
theorem AI.mv{cs0:Array Value}(h:AI w rb cs w')(c:w.heap[rb]?=some (.cells cs0 BT (0,0)))(d:M rb):Mv M w M w' :=
 ⟨⟨h.os,h.tape,h.output,h.size,fun k a b=>⟨h.other k a (fun e=>b (by rw [e];exact d)),b⟩⟩,fun k a f=>⟨f,by
  by_cases e:k=rb
  ·subst e;exact .inr ⟨cs0,BT,(0,0),c,by decide⟩
  ·exact .inl (h.other k a e)⟩,fun g k a=>l_ (g k a) h.size⟩
theorem AI.after{w1:World}(h:AI w1 rb cs w')(a:Below w.heap.size w w1):AI w rb cs w' :=⟨h.os.trans a.os,h.tape.trans a.tape,h.output.trans a.output,t_ a.size h.size,h.blk,fun k b e=>(h.other k (l_ b a.size) e).trans (a.block k b)⟩
theorem AI.trans{w1:World}{cs':Array Value}(h:AI w rb cs w1)(k:AI w1 rb cs' w'):AI w rb cs' w' :=⟨k.os.trans h.os,k.tape.trans h.tape,k.output.trans h.output,t_ h.size k.size,k.blk,fun i a e=>(k.other i (l_ a h.size) e).trans (h.other i a e)⟩
theorem AI.set{cs0:Array Value}(a:w.heap[rb]?=some (.cells cs0 BT (0,0)))(o:Nat)(v:Value)(b:cs0.setIfInBounds o v=cs):AI w rb cs (w.setCell ⟨rb,o,none⟩ v) :=⟨rfl,rfl,rfl,by simp [World.setCell],by subst b;exact aD a o v,fun k _ e=>Below.heap_setCell _ _ _ _ (fun x=>e (by simpa using x))⟩
theorem AI.alloc(h:AI w rb cs w')(o:Obj):AI w rb cs (w'.alloc o) :=⟨h.os,h.tape,h.output,by simp;have:=h.size;omega,(k_ (aB h.blk)).trans h.blk,fun k a e=>(k_ (l_ a h.size)).trans (h.other k a e)⟩
theorem AI.drew(h:AI w rb cs w'):AI w rb cs w'.drew:=⟨h.os,h.tape,h.output,h.size,h.blk,h.other⟩
theorem jF(w:World)(a:Nat)(c g h i d f v:Value)(b:w.heap[a]?=some (.cells #[c,g,h,i,d,f] BT (0,0)))(l:∃T x,v=.iface T x) :Calls prog 169 #[.pointer (some ⟨a,1,none⟩),v] w fun e m=>e=.returned (.tuple #[])/\AI w a #[c,.nilIface,.pointer none,v,d,f] m:=by
 obtain⟨T,x,rfl⟩:=l;have p:w.cell? ⟨a,1,none⟩=some g:=aA b 1;have q:w.cell? ⟨a,2,none⟩=some h:=aA b 2;have r:w.cell? ⟨a,3,none⟩=some i:=aA b 3;have s:w.frozen? ⟨a,1,none⟩=false:=aF b 1;have t:w.frozen? ⟨a,2,none⟩=false:=aF b 2;have u:w.frozen? ⟨a,3,none⟩=false:=aF b 3;have n:Hid (AI w a #[c,.nilIface,.pointer none,.iface T x,d,f] (((w.setCell ⟨a,1,none⟩ .nilIface).setCell ⟨a,2,none⟩ (.pointer none)).setCell ⟨a,3,none⟩ (.iface T x))):=by have j:=AI.set b 1 .nilIface rfl;have k:=AI.set j.blk 2 (.pointer none) rfl;have o:=AI.set k.blk 3 (.iface T x) rfl;exact(j.trans k).trans o
 clear b;go_enter func169,ntmps169;go_wp2_with fail
 go_end0
 exact⟨rfl,n⟩
theorem cU(w:World)(a:Nat)(c h i j d f g ev:Value)(b:w.heap[a]?=some (.cells #[c,h,i,j,d,f] BT (0,0)))(m:∃T x,g=.iface T x)(n:∃o,ev=.pointer o) :Calls prog 172 #[.pointer (some ⟨a,1,none⟩),g,ev] w fun e p=>e=.returned (.tuple #[])/\AI w a #[c,g,ev,.nilIface,d,f] p:=by
 obtain⟨T,x,rfl⟩:=m;obtain⟨o,rfl⟩:=n;have s:w.cell? ⟨a,1,none⟩=some h:=aA b 1;have t:w.cell? ⟨a,2,none⟩=some i:=aA b 2;have u:w.cell? ⟨a,3,none⟩=some j:=aA b 3;have v:w.frozen? ⟨a,1,none⟩=false:=aF b 1;have y:w.frozen? ⟨a,2,none⟩=false:=aF b 2;have z:w.frozen? ⟨a,3,none⟩=false:=aF b 3;have q:Hid (AI w a #[c,.iface T x,.pointer o,.nilIface,d,f] (((w.setCell ⟨a,1,none⟩ (.iface T x)).setCell ⟨a,2,none⟩ (.pointer o)).setCell ⟨a,3,none⟩ .nilIface)):=by have k:=AI.set b 1 (.iface T x) rfl;have l:=AI.set k.blk 2 (.pointer o) rfl;have r:=AI.set l.blk 3 .nilIface rfl;exact(k.trans l).trans r
 clear b;go_enter func172,ntmps172;go_wp2_with fail
 go_end0
 exact⟨rfl,q⟩
def LI(w:World)(kv:Value)(n:Nat):Prop:=(kv=.pointer none/\n=0)\/∃b top up,kv=.pointer (some ⟨b,0,none⟩)/\w.heap[b]?=some (.cells #[top,up,.int .i64 (n:Int)] DQ (0,0))
theorem GW.J7{s:Sg}{kv:Value}{fs:List CW}(h:GW M w s kv fs):LI w kv fs.length:=by
 cases fs with
 | nil=>exact .inl ⟨h,rfl⟩
 | cons f r =>obtain⟨b,a,c,d,_,e,_⟩:=h;exact .inr ⟨b,a,c,d,e⟩
theorem LI.below{kv:Value}{n:Nat}(h:LI w kv n)(d:Below w.heap.size w w'):LI w' kv n:=by
 rcases h with h | ⟨b,a,e,f,c⟩
 ·exact .inl h
 ·exact .inr ⟨b,a,e,f,(d.block b (aB c)).trans c⟩
theorem yK(w:World)(a:Value)(n:Nat)(h:LI w a n):Calls prog 127 #[a] w fun e d=>e=.returned (.int .i64 (n:Int))/\w=d:=by
 rcases h with⟨rfl,rfl⟩ | ⟨b,f,g,rfl,c⟩
 ·go_enter func127,ntmps127
  go_wp2_with fail
  go_ret;exact⟨rfl,rfl⟩
 ·have i:w.cell? ⟨b,2,none⟩=some (.int .i64 (n:Int)):=aA c 2;clear c;go_enter func127,ntmps127;go_wp2_with fail;go_ret;exact⟨rfl,rfl⟩
theorem kS(w:World)(b:Nat)(h i j k d l f:Value)(n:Nat)(c:w.heap[b]?=some (.cells #[h,i,j,k,d,l] BT (0,0)))(q:∃T x,f=.iface T x)(r:∃o,d=.pointer o)(hp:LI w d n)(z:n<=6500000000000000000) :Calls prog 171 #[.pointer (some ⟨b,1,none⟩),f] w fun e a=>e=.returned (.tuple #[])/\∃p,w.heap.size<=p/\a.heap[p]?=some (.cells #[f,d,.int .i64 ((n+1:Nat):Int)] DQ (0,0))/\AI w b #[h,i,j,k,.pointer (some ⟨p,0,none⟩),l] a:=by
 obtain⟨T,x,rfl⟩:=q;obtain⟨o,rfl⟩:=r;have s:Hid (∀a,Below w.heap.size w a->Calls prog 127 #[.pointer o] a fun e t=>e=.returned (.int .i64 (n:Int))/\a=t):=fun a u=>yK a _ n (hp.below u);have A:w.cell? ⟨b,4,none⟩=some (.pointer o):=aA c 4;have B:w.frozen? ⟨b,4,none⟩=false:=aF c 4;have v:IntKind.i64.wrap ((n:Int)+1)=((n+1:Nat):Int):=by rw [IntKind.wrap_i64];omega
 have y:=aB c;have m:=h_ c;clear c hp;go_enter func171,ntmps171;go_wp2_with fail;go_region_with (go_at_call 127;refine(s _ (r_.drew)).mono ?_;rintro e a ⟨rfl,rfl⟩)
 all_goals
  go_wp2_with fail
  go_end0
  refine⟨rfl,w.heap.size,n_,?_,?_⟩
  ·have g:=heap_alloc_new (w.setCell ⟨b,4,none⟩ (.pointer (some ⟨w.heap.size,0,none⟩))) (.cells #[.iface T x,.pointer o,.int .i64 ((n+1:Nat):Int)] DQ);rw [show(w.setCell ⟨b,4,none⟩ (.pointer (some ⟨w.heap.size,0,none⟩))).heap.size=w.heap.size from by simp [World.setCell]] at g;first | exact g | (rw [v];exact g)
  ·first | exact((AI.set m 4 _ rfl).alloc _).drew | exact((AI.set m 4 _ rfl).drew.alloc _)
theorem cV{l:List AE}(a:l.Nodup){i:Nat}{t:AE}(h:l[i]?=some t):l.idxOf t=i:=by obtain⟨b,rfl⟩:=s_ h;exact a.idxOf_getElem i b
theorem eN:∀(c:List AE)(a:Nat)(b:AE),b∉c->Pl.find (Pl.C1 c a) b=none
 | [],_,_,_=>rfl
 | x::r,a,b,h=>by simp only [List.mem_cons,not_or] at h;simp only [Pl.C1,Pl.find,eN r (a+1) b h.2];rw [if_neg (fun e=>h.1 e.symm)]
theorem n9:∀(d:List AE)(a i:Nat)(b:AE),d.Nodup->d[i]?=some b->Pl.find (Pl.C1 d a) b=some (a+i)
 | [],_,_,_,_,h=>by simp at h
 | x::r,a,0,b,c,h=>by simp only [List.getElem?_cons_zero,o_] at h;subst h;simp only [List.nodup_cons] at c;simp only [Pl.C1,Pl.find,eN r (a+1) x c.1];simp
 | x::r,a,i+1,b,c,h=>by
  simp only [List.getElem?_cons_succ] at h;simp only [List.nodup_cons] at c;simp only [Pl.C1,Pl.find,n9 r (a+1) i b c.2 h]
  congr 1
  omega
def L7(w:World):Nat->Value->Prop
 | 0,v=>v=.pointer none
 | n+1,v=>∃b nv sv up,v=.pointer (some ⟨b,0,none⟩)/\w.heap[b]?=some (.cells #[nv,sv,up] M8 (0,0))/\L7 w n up
theorem L7.uniq:∀{n m:Nat} {v:Value},L7 w n v->L7 w m v->n=m
 | 0,0,_,_,_=>rfl
 | 0,m+1,v,h,k=>by
  obtain⟨b,_,_,_,e,_⟩:=k;rw [show v=.pointer none from h] at e
  cases e
 | n+1,0,v,h,k=>by
  obtain⟨b,_,_,_,e,_⟩:=h;rw [show v=.pointer none from k] at e
  cases e
 | n+1,m+1,v,h,k=>by obtain⟨b,l,o,p,rfl,d,c⟩:=h;obtain⟨q,f,g,i,e,a,j⟩:=k;simp only [Value.pointer.injEq,o_,Addr.mk.injEq,and_true] at e;subst e;rw [d] at a;simp only [o_,Obj.cells.injEq,Array.mk.injEq,List.cons.injEq,and_true] at a;rw [a.2.2] at c;rw [L7.uniq c j]
theorem CX.dep{s:Sg}{v:Value}{env:Env}(h:CX M w s v env):∃n,L7 w n v:=by
 induction h with
 | nil=>exact⟨0,rfl⟩
 | cons b c d j e a k env f _ _ _ _ _ g =>obtain⟨n,i⟩:=g;exact⟨n+1,b,c,_,d,rfl,f,i⟩
theorem Y9(w:World):∃a:Value->Nat,∀v n,L7 w n v->a v=n :=⟨fun v=>Classical.epsilon (fun n=>L7 w n v),fun _ _ h=>L7.uniq (Classical.epsilon_spec (p:=fun n=>L7 w n _) ⟨_,h⟩) h⟩
def VG(s:Sg)(env:Env)(nm:AE)(e:Ending):Prop :=(Pl.find env nm=none/\e=.returned (.pointer none))\/(∃i g o,Pl.find env nm=some i/\s.lp[i]?=some (some (g,o))/\e=.returned (.pointer (some ⟨g,o,none⟩)))
theorem aLK{f:Option Addr}{n cap:Nat}{ns:List AE}{ks:List Nat}(h:Sl M w B6 2 (.slice f n cap) ns.length (nmRow ns ks)){i k:Nat}{t:AE}(l:ns[i]?=some t)(o:ks[i]?=some k) :∃g a,f=some ⟨g,a,none⟩/\g<w.heap.size/\n=ns.length/\ns.length<=cap/\w.cell? ⟨g,a+i*2,none⟩=some (.string ⟨t.toArray⟩)/\w.cell? ⟨g,a+i*2+1,none⟩=some (.int .i64 (k:Int)):=by
 obtain⟨_,q,m,e,r,s⟩:=h;simp only [Value.slice.injEq] at e;obtain⟨rfl,rfl,rfl⟩:=e;have y:=(s_ l).1;rcases s with z | ⟨g,a,u,rfl,_,d,b⟩
 ·omega
 ·have v:(List.zip ns ks)[i]?=some (t,k):=by rw [List.getElem?_zip_eq_some];exact⟨l,o⟩
  have c:∀j,j<2->(nmRow ns ks)[i*2+j]?=(gU t k)[j]? := fun j x=>by unfold nmRow;exact aX (fun p=>gU p.1 p.2) 2 (fun _=>rfl) _ i j (t,k) v x
  refine⟨g,a,rfl,aB d,rfl,r,?_,?_⟩
  ·rw [aA d];exact b (i*2) _ (c 0 (by decide))
  ·rw [Nat.add_assoc,aA d];exact b (i*2+1) _ (c 1 (by decide))
theorem uW(M:Nat->Prop)(w:World)(s:Sg)(ev:Value)(env:Env)(nm:AE)(k:Nat)(P:s.ns.Nodup)(he:CX M w s ev env)(hk:s.ns[k]?=some nm) :Calls prog 194 #[ev,.agg #[.string ⟨nm.toArray⟩,.int .i64 (k:Int)]] w fun e w'=>Below w.heap.size w w'/\VG s env nm e:=by
 have HN:=h_ P;have HE:=h_ he;have HK:=h_ hk;obtain⟨ad,D⟩:=Y9 w;have HD:=h_ D;have Q:Below w.heap.size w (w.alloc (.cells #[.string ⟨nm.toArray⟩,.int .i64 (k:Int)] B6)):=b_;have ae:=h_ Q;clear P he hk D Q;go_enter func194,ntmps194;go_wp2_with fail
 go_loopw [0] (fun v wr=>∃r,Hid (CX M w s v r/\Pl.find env nm=Pl.find r nm/\Below w.heap.size w wr/\wr.heap[w.heap.size]?=some (.cells #[.string ⟨nm.toArray⟩,.int .i64 (k:Int)] B6 (0,0)))) (fun v _=>ad v)
 case atStart=>exact⟨env,HE,rfl,ae,heap_alloc_new w _⟩
 case round =>
  obtain⟨r,HI⟩:=hrel;obtain⟨af,A,u,x⟩:=HI.out
  cases af with
  | nil =>have HF:=h_ A;have HB:=h_ u;clear A u x HI;go_wp2_with fail;go_ret;exact⟨HB,.inl ⟨HF,rfl⟩⟩
  | cons b nv up ao R m c y hb hm ag am hp S =>
   obtain⟨⟨ks,T,H⟩,U,E⟩:=ag;have V:=H;obtain⟨_,I,z,rfl,ah,_⟩:=V;have q:Hid (CX M w s up y/\Pl.find env nm=Pl.find (y++Pl.C1 c m) nm/\w.heap[b]?=some (.cells #[.slice I c.length z,.slice ao c.length R,up] M8 (0,0))/\BY (fun k t=>s.ns[k]?=some t) ks c/\Sl M w B6 2 (.slice I c.length z) c.length (nmRow c ks)/\c.Nodup/\c.length<=1000):=⟨S,A,hb,T,H,U,E⟩
   have HP:=h_ hp;have HB:=h_ u;have J:=aB hb;have W:=(u.block b J).trans hb;have c0:wr.cell? ⟨b,0,none⟩=some (.slice I c.length z):=aA W 0;have ai:=h_ x;clear hb hm T H U E hp S A u W x HI;go_wp2_with fail
   go_loopw [18] (fun iv wq=>∃i:Nat,iv=.int .i64 (i:Int)/\i<=c.length/\Hid (Below w.heap.size w wq/\wq.heap[w.heap.size]?=some (.cells #[.string ⟨nm.toArray⟩,.int .i64 (k:Int)] B6 (0,0))/\∀j,j<i->c[j]? ≠ some nm)) (fun iv _=>c.length-(RowKit.intOf iv).toNat)
   case atStart=>exact⟨0,rfl,Nat.zero_le _,HB,ai,fun j X=>absurd X (Nat.not_lt_zero _)⟩
   case round =>
    obtain⟨i,rfl,hi,HQ⟩:=hrel;have ap:=q.2.2.2.2.2.2;obtain⟨d,a,f⟩:=HQ.out;by_cases K:i<c.length
    ·obtain⟨t,O⟩:∃t,c[i]?=some t:=⟨_,g_ K⟩
     obtain⟨k2,L,B⟩:=q.2.2.2.1.at_ O;obtain⟨g2,F,rfl,Y,_,_,d0,d1⟩:=aLK q.2.2.2.2.1 O L;have aq:=(d.cell (p:=⟨g2,F+i*2,none⟩) Y).trans d0;have ar:=(d.cell (p:=⟨g2,F+i*2+1,none⟩) Y).trans d1;have b0:wr.cell? ⟨w.heap.size,1,none⟩=some (.int .i64 (k:Int)):=aA a 1;have aj:w.heap.size<wr.heap.size:=aB a;have G:(i:Int)<(c.length:Int):=by omega
     have h0:(0:Int)<=(i:Int):=by omega
     have h:=(d.block b J).trans q.2.2.1;have c1:wr.cell? ⟨b,1,none⟩=some (.slice ao c.length R):=aA h 1;have an:b<wr.heap.size:=aB h;have o:=h_ d;have l:=h_ a;have ak:=h_ f;by_cases N:k2=k
     ·subst N;have C:t=nm:=by have:=B.symm.trans HK;exact i_ this
      subst C;obtain⟨g,Z,rfl,aa⟩:=HP.out i K;have HF:Hid (VG s env t (.returned (.pointer (some ⟨g,Z+i,none⟩)))):=.inr ⟨m+i,g,Z+i,by rw [q.2.1,Pl.FJ,n9 c m i t q.2.2.2.2.2.1 O],aa,rfl⟩;clear d a f d0 d1 h aa O L B HQ;go_wp2_with fail;go_ret;exact⟨(o.alloc o.size _),HF⟩
     ·have au:((k2:Int)==(k:Int))=false:=beq_eq_false_iff_ne.2 (by omega);have C:t≠nm:=fun e=>by subst e;refine N ?_;have h1:=cV HN B;have h2:=cV HN HK;omega
      have HT:Hid (t≠nm/\c[i]?=some t):=⟨C,O⟩
      clear d a f d0 d1 h O L B HQ C N;go_wp2_with fail
      go_roundw
      case rel =>
       refine⟨i+1,by go_num,K,o.alloc o.size _,(k_ aj).trans l,fun j X e=>?_⟩;rcases Nat.lt_or_ge j i with ab | ab
       ·exact ak.out j ab e
       ·obtain rfl:j=i:=by omega
        rw [HT.2] at e;exact HT.1 (i_ e)
      case measure=>simp only [RowKit.intOf];omega
    ·have G:i=c.length:=by omega
     subst G;have al:Hid (nm∉c):=fun ac=>by obtain⟨j,X⟩:=List.getElem?_of_mem ac;exact f j (s_ X).1 X
     have h:=(d.block b J).trans q.2.2.1;obtain⟨ou,rfl⟩:=q.1.ptr;have c2:wr.cell? ⟨b,2,none⟩=some (.pointer ou):=aA h 2;have o:=h_ d;have l:=h_ a;clear d a f h HQ;go_wp2_with fail
     go_roundw
     case rel =>refine⟨y,q.1,?_,o,l⟩;rw [q.2.1,Pl.FJ,eN c m nm al.out]
     case measure =>obtain⟨n,P⟩:=q.1.dep;rw [HD.out _ n P,HD.out _ (n+1) ⟨b,_,_,_,rfl,q.2.2.1,P⟩];omega
end
open Pl (PV PW PS SR)
section
open Go.RowKit Go.Lib Go.Maps
variable {w w' w1:World} {M:Nat->Prop} {sb gb tb mb k rb i:Nat} {v:Value} {e:Ending}
def OutB(M:Nat->Prop)(w:World)(sb rb:Nat)(out:AE):Prop:=∃fv ev gv kv ov,C0 M w sb rb fv ev gv kv ov/\DS M w ov out
def LP(w:World)(s t:Sg):Prop:=∀b∈t.pb,b∈s.pb\/w.heap.size<=b
theorem LP.refl(w:World)(s:Sg):LP w s s:=fun _ h=>.inl h
theorem LP.trans{s t u:Sg}(h:LP w s t)(k:LP w1 t u)(a:w.heap.size<=w1.heap.size):LP w s u:=fun b c=>(k b c).elim (h b) (fun x=>.inr (t_ a x))
def EG(w:World)(s t:Sg):Prop:=t.ns=s.ns/\LP w s t
theorem EG.refl(w:World)(s:Sg):EG w s s:=⟨rfl,LP.refl w s⟩
theorem EG.same{s t:Sg}(a:t.ns=s.ns)(b:t.pb=s.pb):EG w s t:=⟨a,fun _ h=>.inl (b▸h)⟩
theorem EG.trans{s t u:Sg}(h:EG w s t)(k:EG w1 t u)(a:w.heap.size<=w1.heap.size):EG w s u:=⟨k.1.trans h.1,h.2.trans k.2 a⟩
theorem EG.back{s t:Sg}(k:EG w1 s t)(a:w.heap.size<=w1.heap.size):EG w s t:=(EG.refl w s).trans k a
def AS(M:Nat->Prop)(w:World)(s:Sg)(tb mb sb gb rb:Nat)(r:SR)(e:Ending)(w':World):Prop :=
 ∃M' s',Stp M w M' w'/\(Sg.Le s s'/\EG w s s')/\Wd M' w' s' tb mb sb gb r.W /\
  ((r.e=0/\e=.returned .nilIface/\LO M' w' s' sb rb r.S r.W.out)\/(∃es,r.e≠0/\e=.returned (aY es (r.e:Nat))/\OutB M' w' sb rb r.W.out))
theorem AS.one{s:Sg}{r:SR}(h:AS M w s tb mb sb gb rb r e w'):∃v,e=.returned v:=by
 obtain⟨_,_,_,_,_,⟨_,h,_⟩ | ⟨a,_,h,_⟩⟩:=h
 ·exact⟨_,h⟩
 ·exact⟨_,h⟩
theorem AS.after{s:Sg}{r:SR}(h:AS M w1 s tb mb sb gb rb r e w')(a:Stp M w M w1):AS M w s tb mb sb gb rb r e w':=by obtain⟨c,d,f,b,g⟩:=h;exact⟨c,d,a.trans f,⟨b.1,b.2.back a.size⟩,g⟩
theorem AS.M7{M1:Nat->Prop}{s a:Sg}{r:SR}(h:AS M1 w1 a tb mb sb gb rb r e w')(b:Stp M w M1 w1)(l:Sg.Le s a)(d:EG w s a):AS M w s tb mb sb gb rb r e w':=by obtain⟨f,g,i,c,j⟩:=h;exact⟨f,g,b.trans i,⟨l.trans c.1,d.trans c.2 b.size⟩,j⟩
theorem DS.keep{M':Nat->Prop}{l:AE}(h:DS M w v l)(e:∀g a f,M g->w.heap[g]?=some (.cells a JM f)->w'.heap[g]?=w.heap[g]? /\ M' g):DS M' w' v l:=by
 have c:∀g,v.ownBlock=some g->w'.heap[g]?=w.heap[g]? /\ M' g:=fun g b=>by
  rcases h.1.2 with⟨rfl,_⟩ | ⟨d,i,a,rfl,_,j,_⟩
  ·cases b
  ·obtain rfl:d=g:=by simpa [Value.ownBlock] using b
   exact e d a _ (h.2 d rfl) j
 exact⟨gA h.1 (fun g b=>(c g b).1),fun g b=>(c g b).2⟩
theorem DS.ch{cs cs0:Array Value}{l:AE}(h:DS M w v l)(b:AI w rb cs w')(c:w.heap[rb]?=some (.cells cs0 BT (0,0))):DS M w' v l :=
 h.keep (fun g d i f a=>⟨b.other g (aB a) (fun e=>by
  subst e;rw [c] at a;simp only [o_,Obj.cells.injEq] at a
  exact absurd a.2.1 (by decide)),f⟩)
theorem DS.below{l:AE}(h:DS M w v l)(a:Below w.heap.size w w'):DS M w' v l:=h.keep (fun g _ _ b c=>⟨a.block g (aB c),b⟩)
theorem LO.below{s:Sg}{S:PS}{b:AE}(h:LO M w s sb rb S b)(c:Below w.heap.size w w'):LO M w' s sb rb S b:=by
 obtain⟨g,i,j,k,l,d,a,m,n⟩:=h.ex;refine⟨g,i,j,k,l,⟨(c.block rb (aB d.blk)).trans d.blk,d.JK⟩,?_,m.go (Stp.AA c) (Sg.Le.refl _),n.below c⟩;unfold FE at a ⊢;split
 ·rename_i e;rw [e] at a;exact a
 ·rename_i f e;rw [e] at a;exact⟨a.1.go (Stp.AA c) (Sg.Le.refl _),a.2.go (Stp.AA c) (Sg.Le.refl _)⟩
theorem eH{w2:World}{s:Sg}{W:PW}{S':PS}{c0 c1 c2 c3 c4 c5 fv ev gv kv ov:Value}(e:Wd M w s tb mb sb gb W)(c:w.heap[rb]?=some (.cells #[c0,c1,c2,c3,c4,c5] BT (0,0)))(d:M rb)(b:AI w rb #[.pointer (some ⟨sb,0,none⟩),fv,ev,gv,kv,ov] w2)
  (f:Stp M w M w2->FE M w2 s fv ev gv S') (g:Stp M w M w2->GW M w2 s kv S'.AB) (h:DS M w ov W.out):AS M w s tb mb sb gb rb ⟨0,W,S'⟩ (.returned .nilIface) w2:=by
 have a:=b.mv c d;exact⟨M,s,a.AQ,⟨Sg.Le.refl _,EG.refl _ _⟩,e.mv a,.inl ⟨rfl,rfl,⟨fv,ev,gv,kv,ov,⟨b.blk,d⟩,f a.AQ,g a.AQ,h.ch b c⟩⟩⟩
theorem tK(w:World):(zeroValue 161).run prog w=.ok .nilIface w:=by kernel_rfl
def MH:Nat:=9223372036854775807
def CT(s:Sg):Prop:=s.ns.length<=MH
theorem TQ(h:k<=MH):keyOf prog 3 (.int .i64 (k:Int))=some (.int .i64 (k:Int)):=keyOf_int_mk underlying3 (WalkArith.wf_i64 (by unfold MH at h;omega))
theorem IW.nsok{s:Sg}(h:IW w tb mb s.ns):CT s:=by
 obtain⟨D,⟨a,c,_,F,_,rfl⟩,b⟩:=h.map;have d:=b.size;have e:Maps.size (DataW.map ((a.toList.map (WideElems.rg prog 9 (plainElem prog 3))).foldr DataW.insert []):DataW Unit)=a.size:=length_read (P:=prog) (k:=9) (R0:=plainElem prog 3) a;have f:=F.size;have g:s.ns.length<=maxLen:=by rw [<- d,e];exact f
 exact g
theorem rE{s:Sg}{W:PW}(h:GV w gb s W){nm:AE}(j:CT s)(g:s.ns[k]?=some nm)(l:Pl.find W.globals nm=some i):∃v p,W.places[i]?=some p/\RV s v p/\∀a,a.heap[gb]?=w.heap[gb]? -> (Instr.lookup 145 (.map (some gb)) (.int .i64 (k:Int)) true).run prog a=.ok (.tuple #[v,.bool true]) a:=by
 obtain⟨D,⟨m,c,n,o⟩,q⟩:=h;obtain⟨r,v,p,t,u,e⟩:=q.yes k nm i g l;refine⟨v,p,u,e,fun a x=>?_⟩;have b:a.ownsMap prog 3 heldE gb W.globals.length D:=⟨m,c,x.trans n,o⟩
 obtain⟨y,z,d,f⟩:=b.look_ok aKS underlying145 (tK a) (zd:=.held .nilIface) (zp:=[]) rfl (TQ (k:=k) (by have:=(s_ g).1;unfold CT at j;omega));rw [t] at f;simp only [heldE,o_,Prod.mk.injEq,DataW.held.injEq] at f;rw [d,r,f.1]
theorem pS{s:Sg}{W:PW}(h:GV w gb s W){nm:AE}(i:CT s)(f:s.ns[k]?=some nm)(j:Pl.find W.globals nm=none):∀a,a.heap[gb]?=w.heap[gb]? -> (Instr.lookup 145 (.map (some gb)) (.int .i64 (k:Int)) true).run prog a=.ok (.tuple #[.nilIface,.bool false]) a:=by
 obtain⟨D,⟨l,c,m,n⟩,o⟩:=h;have g:=o.no k nm f j;intro a p;have b:a.ownsMap prog 3 heldE gb W.globals.length D:=⟨l,c,p.trans m,n⟩
 obtain⟨q,r,d,e⟩:=b.look_ok aKS underlying145 (tK a) (zd:=.held .nilIface) (zp:=[]) rfl (TQ (k:=k) (by have:=(s_ f).1;unfold CT at i;omega));rw [atKey_of_not_has g] at e;simp only [heldE,o_,Prod.mk.injEq,DataW.held.injEq] at e;rw [d,g,e.1]
theorem eM(g:Env)(nm x:AE)(n:Nat):Pl.find (g++[(nm,n)]) x=if nm=x then some n else Pl.find g x:=by
 rw [Pl.FJ];simp only [Pl.find];split
 ·rename_i k a;by_cases e:nm=x
  ·rw [if_pos e] at a ⊢;exact a.symm
  ·rw [if_neg e] at a;cases a
 ·rename_i a;by_cases e:nm=x
  ·rw [if_pos e] at a;cases a
  ·rw [if_neg e]
def Sg.FO(s:Sg):Sg:={s with lp:=s.lp++[none]}
theorem Sg.FC(s:Sg):Sg.Le s s.FO:=⟨rfl,rfl,List.prefix_refl _,List.prefix_refl _,List.prefix_refl _,List.prefix_append _ _,List.prefix_refl _⟩
theorem aLI{s:Sg}(b:s.ns.Nodup){j:Nat}{a:AE}(c:s.ns[k]?=some a)(d:s.ns[j]?=some a):k=j:=by have e:=cV b c;have f:=cV b d;omega
theorem eK{j:Nat}(h:k≠j):(Lit.int .i64 (k:Int))≠.int .i64 (j:Int):=fun e=>by simp only [Lit.int.injEq,true_and] at e;omega
theorem AC.setG{D:DataW Value}{s:Sg}{W:PW}(h:AC D s W)(l:s.ns.Nodup){nm:AE}{q:PV}(f:s.ns[k]?=some nm)(g:Pl.find W.globals nm=some i)(n:RV s v q)(o:i<W.places.length):AC (D.put (.int .i64 (k:Int)) (.held v)) s {W with places:=W.places.set i q}:=by
 have c:WideAt.IsKeyLit (.int .i64 (k:Int)):=trivial;refine⟨h.tidy.put c _,?_,?_,?_,h.names,h.inj⟩
 ·intro j a m b d;by_cases e:j=k
  ·subst e;obtain rfl:a=nm:=i_ (b.symm.trans f);obtain rfl:m=i:=i_ (d.symm.trans g);exact⟨has_put_same h.tidy.isMap c _,v,q,fun z=>atKey_put_same h.tidy.isMap c _ z,by simp [o],n⟩
  ·obtain⟨r,u,p,t,w,x⟩:=h.yes j a m b d;refine⟨by rw [has_put_other (eK e)];exact r,u,p,fun z=>by rw [atKey_put_other (eK e)];exact t z,?_,x⟩;show(W.places.set i q)[m]?=some p;rw [List.getElem?_set_ne (fun y=>e (by subst y;exact aLI l b (by rw [h.inj a nm i d g];exact f)))];exact w
 ·intro j a b d
  have e:j≠k:=fun e=>by
   subst e;obtain rfl:a=nm:=i_ (b.symm.trans f);rw [show Pl.find W.globals a=none from d] at g
   cases g
  rw [has_put_other (eK e)];exact h.no j a b d
 ·intro j b;by_cases e:j=k
  ·subst e;exact(s_ f).1
  ·rw [has_put_other (eK e)] at b;exact h.keys j b
theorem AC.newG{D:DataW Value}{s:Sg}{W:PW}(h:AC D s W)(A:s.ns.Nodup){nm:AE}{q:PV}(r:s.ns[k]?=some nm)(J:Pl.find W.globals nm=none)(B:RV s v q)(C:s.lp.length=W.places.length)(E:LG W W.globals) :AC (D.put (.int .i64 (k:Int)) (.held v)) s.FO {W with places:=W.places++[q],globals:=W.globals++[(nm,W.places.length)]}:=by
 have l:WideAt.IsKeyLit (.int .i64 (k:Int)):=trivial;have n:∀a m,Pl.find W.globals a=some m->m<W.places.length:=fun a m o=>by have:=(s_ (h.names a m o).2).1;omega
 have _:=E;refine⟨h.tidy.put l _,?_,?_,?_,?_,?_⟩
 ·intro j a m i o;have c:(if nm=a then some W.places.length else Pl.find W.globals a)=some m:=by rw [<- eM];exact o
  by_cases e:j=k
  ·subst e;obtain rfl:a=nm:=i_ (i.symm.trans r);rw [if_pos rfl] at c;obtain rfl:=i_ c;exact⟨has_put_same h.tidy.isMap l _,v,q,fun z=>atKey_put_same h.tidy.isMap l _ z,by simp,B.le s.FC⟩
  ·have w:nm≠a:=fun d=>e (aLI A i (by rw [<- d];exact r));rw [if_neg w] at c;obtain⟨x,u,p,y,F,G⟩:=h.yes j a m i c;refine⟨by rw [has_put_other (eK e)];exact x,u,p,fun z=>by rw [atKey_put_other (eK e)];exact y z,?_,G.le s.FC⟩;show(W.places++[q])[m]?=some p;rw [List.getElem?_append_left (n a m c)];exact F
 ·intro j a i o;have c:(if nm=a then some W.places.length else Pl.find W.globals a)=none:=by rw [<- eM];exact o
  by_cases d:nm=a
  ·rw [if_pos d] at c;cases c
  ·rw [if_neg d] at c;have e:j≠k:=fun e=>by subst e;exact d (i_ (r.symm.trans i))
   rw [has_put_other (eK e)];exact h.no j a i c
 ·intro j i;by_cases e:j=k
  ·subst e;exact(s_ r).1
  ·rw [has_put_other (eK e)] at i;exact h.keys j i
 ·intro a m o;have c:(if nm=a then some W.places.length else Pl.find W.globals a)=some m:=by rw [<- eM];exact o
  by_cases d:nm=a
  ·rw [if_pos d] at c;obtain rfl:=i_ c;subst d;refine⟨q_ r,?_⟩;show(s.lp++[none])[W.places.length]?=some none;rw [<- C];simp
  ·rw [if_neg d] at c;obtain⟨x,y⟩:=h.names a m c;exact⟨x,bS (List.prefix_append _ _) y⟩
 ·intro a b m H I;have f:(if nm=a then some W.places.length else Pl.find W.globals a)=some m:=by rw [<- eM];exact H
  have g:(if nm=b then some W.places.length else Pl.find W.globals b)=some m:=by rw [<- eM];exact I
  by_cases d:nm=a
  ·by_cases t:nm=b
   ·exact d.symm.trans t
   ·rw [if_pos d] at f;rw [if_neg t] at g;obtain rfl:=i_ f;exact absurd (n b _ g) (Nat.lt_irrefl _)
  ·by_cases t:nm=b
   ·rw [if_pos t] at g;rw [if_neg d] at f;obtain rfl:=i_ g;exact absurd (n a _ f) (Nat.lt_irrefl _)
   ·rw [if_neg d] at f;rw [if_neg t] at g;exact h.inj a b m f g
theorem CM.setO{s:Sg}{b:List PV}(h:CM M w s b)(hi:s.lp[i]?=some none)(q:PV):CM M w s (b.set i q) :=
 ⟨by rw [List.length_set];exact h.len,h.inj,fun j g o p a c=>by
  rw [List.getElem?_set_ne (fun e=>by subst e;rw [hi] at a;simp at a)] at c
  exact h.at_ j g o p a c⟩
theorem CM.newO{s:Sg}{l:List PV}(h:CM M w s l)(q:PV):CM M w s.FO (l++[q]):=by
 have a:∀i (c:Nat×Nat),s.FO.lp[i]?=some (some c)->s.lp[i]?=some (some c):=fun i c b=>by
  rcases p5 b with e | ⟨_,f⟩
  ·exact e
  ·cases f
 refine⟨by simp [Sg.FO,h.len],fun i j c b n=>h.inj i j c (a i c b) (a j c n),fun i g o p b m=>?_⟩;have d:=a i _ b;have r:=(s_ d).1;rw [List.getElem?_append_left (by rw [<- h.len];exact r)] at m;obtain⟨e,k,v,f,t,u⟩:=h.at_ i g o p d m;exact⟨e,k,v,f,t,u.le s.FC⟩
structure Kept(M:Nat->Prop)(w:World)(rb:Nat)(w':World):Prop where
 AQ:Stp M w M w'
 run:w'.heap[rb]?=w.heap[rb]?
 outs:∀(g:Nat)(cur:Array Value)(fz:Nat×Nat),w.heap[g]?=some (Obj.cells cur JM fz)->w'.heap[g]?=w.heap[g]?
theorem FE.go{M':Nat->Prop}{s t:Sg}(b:Stp M w M' w')(l:Sg.Le s t){ev gv:Value}{S:PS}(h:FE M w s v ev gv S):FE M' w' t v ev gv S:=by
 unfold FE at h ⊢;split
 ·rename_i a;rw [a] at h;exact⟨h.1,h.2.le l⟩
 ·rename_i f a;rw [a] at h;exact⟨h.1.go b l,h.2.go b l⟩
theorem LO.kept{s t:Sg}{S:PS}{a:AE}(h:LO M w s sb rb S a)(b:Kept M w rb w')(l:Sg.Le s t):LO M w' t sb rb S a:=by obtain⟨e,f,i,j,k,d,m,n,o⟩:=h.ex;exact⟨e,f,i,j,k,⟨b.run.trans d.blk,d.JK⟩,m.go b.AQ l,n.go b.AQ l,o.keep (fun g c p q r=>⟨b.outs g c p r,q⟩)⟩
theorem AC.setL{D:DataW Value}{s:Sg}{W:PW}(h:AC D s W){c:Nat×Nat}(b:s.lp[i]?=some (some c))(q:PV):AC D s {W with places:=W.places.set i q}:=by refine⟨h.tidy,?_,h.no,h.keys,h.names,h.inj⟩;intro j a m f d;obtain⟨g,u,p,k,l,n⟩:=h.yes j a m f d;refine⟨g,u,p,k,?_,n⟩;show(W.places.set i q)[m]?=some p;rw [List.getElem?_set_ne (fun e=>by subst e;rw [(h.names a _ d).2] at b;simp at b)];exact l
theorem Wd.nodup{s:Sg}{W:PW}(h:Wd M w s tb mb sb gb W):s.ns.Nodup:=by obtain⟨D,_,a⟩:=h.CY.B3.map;exact a.nodup
theorem Wd.NH{s:Sg}{W:PW}(h:Wd M w s tb mb sb gb W):IS s:=.inl ⟨h.tq,h.tc⟩
theorem Wd.SU{s:Sg}{W:PW}(h:Wd M w s tb mb sb gb W){g o:Nat}{q:PV}(n:s.lp[i]?=some (some (g,o)))(V:RV s v q)(F:Nat)(cs:Array Value)(l:w.heap[F]?=some (.cells cs BT (0,0))) :Wd M (w.setCell ⟨g,o,none⟩ v) s tb mb sb gb {W with places:=W.places.set i q}/\Kept M w F (w.setCell ⟨g,o,none⟩ v)/\w.frozen? ⟨g,o,none⟩=false/\∃u,w.cell? ⟨g,o,none⟩=some u:=by
 have O:=(s_ n).1;obtain⟨P,G,X,d,Q,_⟩:=h.places.at_ i g o _ n (g_ (by rw [<- h.places.len];exact O));have c:Stp M w M (w.setCell ⟨g,o,none⟩ v):=Stp.set P o v;have a:∀k,k≠g->(w.setCell ⟨g,o,none⟩ v).heap[k]?=w.heap[k]? := fun k e=>Below.heap_setCell _ _ _ _ (fun x=>e (by simpa using x));obtain⟨e1,c1,r⟩:=h.CY.B3.F6;obtain⟨e2,c2,t⟩:=h.DI.F6;have H:mb≠g:=fun e=>by subst e;rw [d] at r;simp at r
 have I:gb≠g:=fun e=>by subst e;rw [d] at t;simp at t
 obtain⟨Y,Z⟩:=c.block tb h.CY.B3.lt.1 h.CY.JJ;obtain⟨s1,s2⟩:=c.block sb (aB h.NN) h.msb;have J:o<G.size:=(Array.getElem?_eq_some_iff.1 Q).1;refine⟨⟨⟨h.CY.B3.keep Y (a mb H),h.CY.pairs.AQ c,h.CY.FV,Z,fun k y=>by simpa [World.setCell] using h.CY.mlt k y⟩,s1.trans h.NN,s2,?_,h.TH,h.UE,h.procs.mono (fun b x K=>K.go c (Sg.Le.refl _)),h.AG.mono (fun b x K=>K.go c (Sg.Le.refl _)),?_,h.gs.AQ c,h.JQ.AQ h.gs c,(bY h.gs c kT).trans h.gt,?_,h.tq,h.tc⟩,⟨c,?_,?_⟩,aF d o,X,(aA d o).trans Q⟩
 ·obtain⟨D,z,hD⟩:=h.DI.keep (a gb I);exact⟨D,z,hD.setL n q⟩
 ·refine⟨by rw [List.length_set];exact h.places.len,h.places.inj,fun j B L p A C=>?_⟩;by_cases e:j=i
  ·subst e;rw [n] at A;simp only [o_,Prod.mk.injEq] at A;obtain⟨rfl,rfl⟩:=A;rw [List.getElem?_set_self (by rw [<- h.places.len];exact O)] at C;obtain rfl:=i_ C;exact⟨P,_,v,aD d o v,by simp [J],V⟩
  ·rw [List.getElem?_set_ne (fun x=>e x.symm)] at C;obtain⟨E,f,R,m,S,T⟩:=h.places.at_ j B L p A C;by_cases U:B=g
   ·subst U;rw [d] at m;simp only [o_,Obj.cells.injEq,and_true] at m;subst m;have N:L≠o:=fun N=>e (h.places.inj j i (B,L) A (by rw [N];exact n));refine⟨E,_,R,aD d o v,?_,T⟩;rw [Array.getElem?_setIfInBounds,if_neg (fun x=>N x.symm)];exact S
   ·exact⟨E,f,R,(a B U).trans m,S,T⟩
 ·obtain⟨u,E,m⟩:=h.ge;exact⟨u,(bY h.gs c kU).trans E,m⟩
 ·exact a F (fun e=>by
   subst e;rw [d] at l;simp only [o_,Obj.cells.injEq] at l
   exact absurd l.2.1 (by decide))
 ·intro k f fz y
  exact a k (fun e=>by
   subst e;rw [d] at y;simp only [o_,Obj.cells.injEq] at y
   exact absurd y.2.1 (by decide))
theorem Wd.turn{s t:Sg}{W W':PW}(h:Wd M w s tb mb sb gb W)(r:w.grownBy w' (some gb))(l:Sg.Le s t)(F:t.pb=s.pb)(G:t.qb=s.qb)(H:t.cb=s.cb)(I:t.ns=s.ns)(J:GV w' gb t W')(y:CM M w t W'.places)(K:W'.pairs=W.pairs)(L:W'.procs=W.procs)(N:W'.AG=W.AG)(z:Nat)(cs:Array Value)(A:w.heap[z]?=some (.cells cs BT (0,0))) :Wd M w' t tb mb sb gb W'/\Kept M w z w':=by
 have m:Stp M w M w':=Stp.DX r (fun k f=>by obtain rfl:=i_ f;exact h.TH);have j:∀k,k<w.heap.size->k≠gb->w'.heap[k]?=w.heap[k]? := fun k f e=>r.block k f (fun x=>e (i_ x));obtain⟨X,c,B⟩:=h.DI.F6;have a:∀(k:Nat)(d:Array Value)(T:TypeId)(C:Nat×Nat),w.heap[k]?=some (Obj.cells d T C)->w'.heap[k]?=w.heap[k]? := fun k d T C f=>j k (aB f) (fun e=>by subst e;rw [B] at f;simp at f);obtain⟨O,P⟩:=m.block tb h.CY.B3.lt.1 h.CY.JJ;obtain⟨Q,R⟩:=m.block sb (aB h.NN) h.msb;have n:IW w' tb mb t.ns:=by rw [I];exact h.CY.B3.keep O (j mb h.CY.B3.lt.2 (fun e=>h.UE e.symm))
 refine⟨⟨⟨n,by rw [K];exact(h.CY.pairs.AQ m).le l F,h.CY.FV,P,fun k f=>l_ (h.CY.mlt k f) r.size⟩,Q.trans h.NN,R,J,h.TH,h.UE,by rw [L,G];exact h.procs.mono (fun b x D=>D.go m l),by rw [N,H];exact h.AG.mono (fun b x D=>D.go m l),?_,h.gs.AQ m,h.JQ.AQ h.gs m,(bY h.gs m kT).trans h.gt,?_,by rw [l.tq];exact h.tq,by rw [l.tc];exact h.tc⟩,⟨m,(a z cs _ _ A),fun k d C f=>a k d _ _ f⟩⟩
 ·exact⟨y.len,y.inj,fun i g o p S U=>by
   obtain⟨E,d,v,q,V⟩:=y.at_ i g o p S U
   exact⟨E,d,v,(a g d _ _ q).trans q,V⟩⟩
 ·obtain⟨u,E,q⟩:=h.ge;exact⟨u,(bY h.gs m kU).trans E,q⟩
theorem Wd.putG{s:Sg}{W:PW}(h:Wd M w s tb mb sb gb W)(y:CT s){nm:AE}{q:PV}(l:s.ns[k]?=some nm)(m:Pl.find W.globals nm=some i)(z:RV s v q)(A:W.globals.length<=6500000000000000000)(n:Nat)(cs:Array Value)(o:w.heap[n]?=some (.cells cs BT (0,0))) :∃e,(Instr.mapUpdate 145 (.map (some gb)) (.int .i64 (k:Int)) v).run prog w=.ok () e/\Wd M e s tb mb sb gb {W with places:=W.places.set i q}/\Kept M w n e:=by
 obtain⟨D,a,j⟩:=h.DI;have p:k<=MH:=by have:=(s_ l).1;unfold CT at y;omega
 obtain⟨e,f,b,c⟩:=a.store aKS underlying145 (by unfold maxLen;omega) (TQ p) (d:=.held v) (ps:=[]) (val:=v) rfl;have g:=(j.names nm i m).2;have r:i<W.places.length:=by rw [<- h.places.len];exact(s_ g).1
 have u:=j.setG h.nodup l m z r;have x:Maps.size (D.put (.int .i64 (k:Int)) (.held v))<=W.globals.length:=by rw [size_put j.tidy,(j.yes k nm i l m).1];exact a.size_le
 obtain⟨B,C⟩:=h.turn (t:=s) (W':={W with places:=W.places.set i q}) c.grown (Sg.Le.refl _) rfl rfl rfl rfl ⟨_,(XS b).mono x,u⟩ (h.places.setO g q) rfl rfl rfl n cs o;exact⟨e,f,B,C⟩
theorem Wd.newG{s:Sg}{W:PW}(h:Wd M w s tb mb sb gb W)(n:CT s){nm:AE}{q:PV}(m:s.ns[k]?=some nm)(o:Pl.find W.globals nm=none)(p:RV s v q)(r:LG W W.globals)(u:W.globals.length<=6500000000000000000)(g:Nat)(cs:Array Value)(i:w.heap[g]?=some (.cells cs BT (0,0))) :∃c,(Instr.mapUpdate 145 (.map (some gb)) (.int .i64 (k:Int)) v).run prog w=.ok () c/\Wd M c s.FO tb mb sb gb {W with places:=W.places++[q],globals:=W.globals++[(nm,W.places.length)]}/\Kept M w g c:=by
 obtain⟨D,e,x⟩:=h.DI;have j:k<=MH:=by have:=(s_ m).1;unfold CT at n;omega
 obtain⟨c,f,a,b⟩:=e.store aKS underlying145 (by unfold maxLen;omega) (TQ j) (d:=.held v) (ps:=[]) (val:=v) rfl;have l:=x.newG h.nodup m o p h.places.len r;obtain⟨y,z⟩:=h.turn (t:=s.FO) (W':={W with places:=W.places++[q],globals:=W.globals++[(nm,W.places.length)]}) b.grown s.FC rfl rfl rfl rfl ⟨_,by simpa using a,l⟩ (h.places.newO q) rfl rfl rfl g cs i;exact⟨c,f,y,z⟩
end
end Go.Proofs.YtkgbdddkcjpgfaaGreatDoor
