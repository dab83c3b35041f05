import Derived.Test.YtkgbdddkcjpgfaaGreatDoorC04
import Derived.Test.YtkgbdddkcjpgfaaGreatDoorC02
import Derived.Test.YtkgbdddkcjpgfaaGreatDoorC03
import Derived.Test.YtkgbdddkcjpgfaaGreatDoorC01
import Derived.BigRegion
import Derived.Deep.RegionHeld3
import Derived.Deep.RegionLaw
import Derived.Laws.AppendOwnNone
namespace Go.Proofs.YtkgbdddkcjpgfaaGreatDoor
set_option maxHeartbeats 2000000
set_option maxRecDepth 100000
open Go.Proofs.Tryz
open Pl (inW isName)
section
open Go.RowKit
variable {w w' wr:World} {ok:Nat->Prop} {b k n G a m base:Nat} {v L u kn vv:Value} {at_ dp:Int} {g:Bool} {bs t:List UInt8} {vs nvs vvs:List Value} {l pre nm:List (List UInt8)}
def bF(bs:List UInt8):Option (List (List UInt8)) :=
 match Pl.toks bs with
 | none=>none
 | some l=>if l.all Pl.goodTok=true then some l else none
theorem eI(h:Pl.toks bs=none):bF bs=none:=by unfold bF;rw [h]
theorem pA{x:Option (List (List UInt8))}(h:Pl.From bs pre k)(hx:Pl.toks (bs.drop k)=x.map (t::·))(hb:Pl.goodTok t=false):bF bs=none:=by
 unfold bF;unfold Pl.From at h;rw [hx] at h
 cases x with
 | none=>simp at h;rw [h]
 | some y =>simp at h;rw [h];dsimp only;rw [if_neg (by simp [hb])]
theorem nP(h:Pl.From bs pre k)(hk:bs.length<=k)(hg:pre.all Pl.goodTok=true):bF bs=some pre:=by unfold bF;rw [h.end_ hk];dsimp only;rw [if_pos hg]
theorem jZ(p:UInt8->Bool)(l:List UInt8):l.dropWhile p=l.drop (l.takeWhile p).length:=by
 induction l with
 | nil=>rfl
 | cons c r ih =>
  by_cases h:p c=true
  ·simp [h,ih]
  ·simp [h]
theorem wY{c:UInt8}{r:List UInt8}(h:Pl.From bs pre k)(hd:bs.drop k=c::r)(hb:Pl.blank c=false) :(∀t,pY (c::r)=some t->Pl.From bs (pre++[t]) (k+t.length)/\Pl.goodTok t=true/\0<t.length/\k+t.length<=bs.length)/\(pY (c::r)=none->bF bs=none):=by
 have hdl:∀m,bs.drop (k+m)=(c::r).drop m:=fun m=>by rw [<- hd,List.drop_drop]
 have hlen:bs.length=k+(r.length+1):=by have:=congrArg List.length hd;simp at this;omega
 have hp:∀x:UInt8,(x=40\/x=41\/x=39)->c=x->pY (c::r)=some [x]->(∀t,pY (c::r)=some t->Pl.From bs (pre++[t]) (k+t.length)/\Pl.goodTok t=true/\0<t.length/\k+t.length<=bs.length)/\(pY (c::r)=none->bF bs=none):=by
  intro x hx hc ht;subst hc;refine⟨fun t ht2=>?_,fun hn=>by rw [ht] at hn;cases hn⟩;rw [ht] at ht2;obtain rfl:=Option.some.inj ht2;have hi:inW c=false:=by rcases hx with rfl | rfl | rfl<;>decide
  have hpu:Pl.punct c=true:=by rcases hx with rfl | rfl | rfl<;>decide
  refine⟨h.more ?_,by simp [Pl.goodTok,hi],by simp,by simp;omega⟩;rw [hd,Pl.toks_punct c r hi hpu];have:=hdl 1;simp only [List.length_singleton,this];rfl
 by_cases h40:c=40
 ·exact hp 40 (.inl rfl) h40 (by subst h40;rfl)
 by_cases h41:c=41
 ·exact hp 41 (.inr (.inl rfl)) h41 (by subst h41;rfl)
 by_cases h39:c=39
 ·exact hp 39 (.inr (.inr rfl)) h39 (by subst h39;rfl)
 by_cases h35:c=35
 ·subst h35;have e:pY (35::r)=cF r:=rfl;rw [e]
  cases r with
  | nil=>exact⟨fun t ht=>by simp [cF] at ht,fun _=>eI (h.none_ (by rw [hd];exact Pl.toks_hash0))⟩
  | cons d q =>
   by_cases hdd:(d==116||d==102)=true
   ·have e2:cF (d::q)=some [35,d]:=by unfold cF;simp only;rw [if_pos hdd]
    rw [e2];refine⟨fun t ht=>?_,fun hn=>by cases hn⟩;obtain rfl:=Option.some.inj ht;refine⟨h.more ?_,by simp [Pl.goodTok,show inW 35=false from by decide],by simp,by simp at hlen ⊢;omega⟩;rw [hd,Pl.toks_hash d q hdd];have:=hdl 2;simp only [List.length_cons,List.length_nil,Nat.zero_add,Nat.reduceAdd,this];rfl
   ·have hdd0:(d==116||d==102)=false:=by simpa only [Bool.not_eq_true] using hdd
    have e2:cF (d::q)=none:=by unfold cF;simp only;rw [if_neg hdd]
    rw [e2];exact⟨fun t ht=>by(cases ht),fun _=>eI (h.none_ (by rw [hd];exact Pl.toks_hashno d q hdd0))⟩
 ·have e:pY (c::r)=bZ ((c::r).takeWhile inW):=by unfold pY;dsimp only;rw [if_neg h40,if_neg h41,if_neg h39,if_neg h35]
  rw [e];by_cases hw:inW c=true
  ·have ht:(c::r).takeWhile inW=c::r.takeWhile inW:=by rw [List.takeWhile_cons,if_pos hw]
   rw [ht];have htk:=Pl.toks_word c r hw;have hgt:Pl.goodTok (c::r.takeWhile inW)=gX (c::r.takeWhile inW):=by simp [Pl.goodTok,gX,hw]
   by_cases hg:gX (c::r.takeWhile inW)=true
   ·have e2:bZ (c::r.takeWhile inW)=some (c::r.takeWhile inW):=by unfold bZ;rw [if_pos hg]
    rw [e2];refine⟨fun t ht=>?_,fun hn=>by cases hn⟩;obtain rfl:=Option.some.inj ht;have hta:(r.takeWhile inW).length<=r.length:=(List.takeWhile_sublist inW).length_le;refine⟨h.more ?_,by rw [hgt];exact hg,by simp,by simp;omega⟩;rw [hd,htk,hdl];simp only [List.length_cons,List.drop_succ_cons];rw [jZ]
   ·have e2:bZ (c::r.takeWhile inW)=none:=by unfold bZ;rw [if_neg hg]
    rw [e2];exact⟨fun t ht=>by(cases ht),fun _=>pA h (by rw [hd];exact htk) (by rw [hgt];simpa only [Bool.not_eq_true] using hg)⟩
  ·have hw0:inW c=false:=by simpa only [Bool.not_eq_true] using hw
   have ht:(c::r).takeWhile inW=[]:=by rw [List.takeWhile_cons,if_neg hw]
   rw [ht];refine⟨fun t ht=>by simp [bZ,gX] at ht,fun _=>eI (h.none_ ?_)⟩;rw [hd];exact Pl.toks_bad c r hb (by simpa using h35) hw0 (by simp [Pl.punct,h40,h41,h39])
theorem Tryz.infoTok:(prog.info? 288).map (fun i=>(i.zero,i.size,i.bytes))=some (some (.agg #[.int .i64 0,.string ByteArray.empty]),2,24):=by kernel_rfl
def gO(l:List (List UInt8)):List Value:=l.flatMap fun t=>[.int .i64 (cE t),strV t]
theorem rO(l:List (List UInt8))(t:List UInt8):gO (l++[t])=gO l++[.int .i64 (cE t),strV t]:=by simp [gO]
def SplitPost(w:World)(bs:List UInt8)(e:Ending)(w':World):Prop :=Below w.heap.size w w'/\((bF bs=none/\∃v s,e=.returned (.tuple #[v,aY s 2]))\/∃l v,bF bs=some l/\e=.returned (.tuple #[v,.nilIface])/\w'.ownsRow w.heap.size 288 2 v l.length (gO l))
theorem oK(w:World)(a b:Obj):((w.alloc a).alloc b).heap.size=w.heap.size+1+1:=by simp
theorem rH(w:World)(x y:Value)(t:TypeId):∀j u,[x,y][j]?=some u->(w.alloc (.cells #[x,y] t)).cell? ((⟨w.heap.size,0,none⟩:Addr).add j)=some u :=World.news_of_block (cs:=#[x,y]) (t:=t) (fr:=(0,0)) (heap_alloc_new w _)
theorem strV_of{t:ByteArray}{l:List UInt8}(h:t.data.toList=l):Value.string t=strV l:=by subst h;unfold strV;simp
theorem p_split(s:ByteArray)(w:World)(hs:s.size<=1000):Calls prog 108 #[.string s] w fun e w'=>SplitPost w s.data.toList e w':=by
 obtain⟨i0,hi0,hz0,hz1,hz2⟩:=info_parts Tryz.infoTok;go_enter func108,ntmps108;go_wp2_with fail
 go_loopw [4,5] (fun v i wr=>∃(k:Nat) (pre:List (List UInt8)),k<=s.size/\pre.length<=k/\i=.int .i64 k/\Hid (Pl.From s.data.toList pre k)/\Hid (pre.all Pl.goodTok=true)/\Hid (wr.ownsRow w.heap.size 288 2 v pre.length (gO pre))/\Hid (Below w.heap.size w wr))
  (fun _ i _=>s.size-(intOf i).toNat)
 case atStart=>exact⟨0,[],Nat.zero_le _,Nat.zero_le _,rfl,Pl.From.start _,by simp [Hid],World.ownsRow_nil _ _ _ _,Below.refl _ _⟩
 case round =>
  obtain⟨k,pre,hk,hpk,rfl,HF,HG,HO,HB⟩:=hrel;by_cases hlt:k<s.size
  ·have hkl:k<s.data.toList.length:=by simpa using hlt
   have hd:=bE s k hlt;have hlt2:(k:Int)<(s.size:Int):=by omega
   by_cases hb:Pl.blank (s[k]'hlt)=true
   ·have HF2:Hid (Pl.From s.data.toList pre (k+1)):=HF.out.blank hkl (by rw [hd];exact hb);clear HF hkl hd;go_wp2_with (go_at_call 146;refine(nG (s[k]'hlt) _).mono ?_;rintro e w' ⟨rfl,rfl⟩);exact⟨⟨k+1,pre,by omega,by omega,by go_num,HF2,HG,HO,HB⟩,by simp [intOf];omega⟩
   ·have hb0:Pl.blank (s[k]'hlt)=false:=by simpa using hb
    have hdr:s.data.toList.drop k=(s[k]'hlt)::s.data.toList.drop (k+1):=by rw [Pl.drop_at _ _ hkl,hd]
    have hst:=wY HF.out hdr hb0;have HY:Hid (∀t,pY ((s[k]'hlt)::s.data.toList.drop (k+1))=some t->_):=hst.1;have HZ:Hid (pY ((s[k]'hlt)::s.data.toList.drop (k+1))=none->_):=hst.2;have HX:Hid ((s.extract k s.size).data.toList=(s[k]'hlt)::s.data.toList.drop (k+1)):=show _=_ from by rw [Lib.extract_to_end];exact hdr
    have hxz:(s.extract k s.size).size<=1000:=by simp;omega
    have hwr:=HB.out.size;clear HF hkl hd hdr hst hb;go_wp2_with (go_at_call 146;refine(nG (s[k]'hlt) _).mono ?_;rintro e w' ⟨rfl,rfl⟩);refine(nI _ _ hxz _ _ HX.out).mono ?_;rintro e w1 ⟨hB1,k1,t1,b1,rfl,hc⟩;have HB1:Hid (Below w.heap.size w w1):=HB.out.trans (hB1.mono hwr);have hw1:=HB1.out.size;have HO1:Hid (w1.ownsRow w.heap.size 288 2 u4 pre.length (gO pre)):=HO.out.kept (aQ none hB1) (by cases hv:Value.ownBlock u4<;>simp);clear hB1 HO;rcases hc with⟨hn,rfl⟩ | ⟨rfl,l,hl,htl,rfl⟩
    ·have HE:Hid (bF s.data.toList=none):=HZ.out hn;clear hn;go_wp2_with (go_at_call 78;refine(bJ _ _ _).mono ?_;rintro e w' ⟨rfl,rfl⟩);go_ret2;exact⟨HB1.out.alloc hw1 _,.inl ⟨HE.out,_,_,rfl⟩⟩
    ·obtain⟨hF2,hgt,hpos,hle⟩:=HY.out l hl;have HF2:Hid (Pl.From s.data.toList (pre++[l]) (k+l.length)):=hF2;have HG2:Hid ((pre++[l]).all Pl.goodTok=true):=show _=true from by rw [List.all_append,HG.out];simp [hgt]
     have htz:t1.size=l.length:=by rw [<- htl];simp
     have hle2:k+l.length<=s.size:=by simpa using hle
     have HTV:Hid (_=_):=strV_of htl;clear hF2 hgt hle hl htl HG HY HZ;have hct:∀(o:Obj)(x:Value),((w1.alloc (.cells #[x,.string t1] 288)).alloc o).cell? ⟨w1.heap.size,1,none⟩=some (.string t1):=fun o x=>aA ((Below.heap_alloc _ _ _ (by simp)).trans (heap_alloc_new w1 _)) 1;go_wp2_with (first | (at_builtin;refine wpList_append_lies _ rfl _ _ 205 rfl w.heap.size 288 i0 (.agg #[.int .i64 0,.string ByteArray.empty]) 2 24 underlying205 hi0 hz0 hz1 hz2 rfl (by decide) u4 pre.length (gO pre) rfl ((HO1.out.alloc _).alloc _) ⟨w1.heap.size+1,0,none⟩ 1 1 [.int .i64 (cE l),.string t1] rfl rfl (by have:=rH (w1.alloc (.cells #[.int .i64 (cE l),.string t1] 288)) (.int .i64 (cE l)) (.string t1) 288;simpa using this) (fun x hx=>by simp at hx;rcases hx with rfl | rfl<;>rfl) (by decide) (by unfold maxLen;omega) (by omega) (by simp;omega) (w1.heap.size+1+1) (by simp) ?_;intro g3 cap3 w3 hown3 hgrow3 hat3 _;have ct:=(hgrow3.cell_far ⟨w1.heap.size,1,none⟩ (by simp only [oK];omega) (fun e=>Nat.lt_irrefl _ (HO1.out.lt w1.heap.size e.symm).2)).trans (hct _ _)))
     go_roundw
     case rel =>
      refine⟨k+l.length,pre++[l],by omega,by simp;omega,by go_num,HF2,HG2,?_,?_⟩
      ·have h3:=hown3;rw [HTV.out] at h3;show w3.ownsRow _ _ _ _ _ _;rw [rO];simpa using h3
      ·exact((HB1.out.alloc hw1 _).alloc (by simp;omega) _).grown hgrow3 (by simp;omega) (fun j hj=>(HO1.out.lt j hj).1)
     case measure=>simp [intOf];omega
  ·have HE:Hid (bF s.data.toList=some pre):=nP HF.out (by simp;omega) HG.out;go_wp2_with fail;go_ret2;exact⟨HB.out,.inr ⟨pre,_,HE.out,rfl,HO.out⟩⟩
def TF:TypeId:=69
def FormPost(w:World)(r:Bool)(e:Ending)(w':World):Prop :=Below w.heap.size w w'/\((r=true/\∃b,e=.returned (.pointer (some ⟨b,0,none⟩)))\/(r=false/\e=.returned (.pointer none)))
def SlOf(w:World)(v:Value)(vs:List Value):Prop :=∃ao cap,v=.slice ao vs.length cap/\vs.length<=cap/\∀(i:Nat)(u:Value),vs[i]?=some u->∃g off,ao=some ⟨g,off,none⟩/\g<w.heap.size/\w.cell? ⟨g,off+i,none⟩=some u
theorem bC{e:TypeId}(h:w.ownsRow base e 1 v n vs):SlOf w v vs:=by
 have hl:=h.1;rcases h.2 with⟨hv,h0⟩ | ⟨g,cap,cur,hv,_,hg,hc,_,_,ht⟩
 ·subst h0;have:vs=[]:=List.eq_nil_of_length_eq_zero (by omega);subst this;exact⟨none,0,hv,Nat.le_refl _,fun i u hu=>by simp at hu⟩
 ·have e:vs.length=n:=by omega
  refine⟨some ⟨g,0,none⟩,cap,by rw [e];exact hv,by omega,fun i u hu=>⟨g,0,rfl,aB hg,?_⟩⟩;have:=h.cells (g:=g) (by rw [hv];rfl) i u hu
  rwa [Addr.add_lit] at this
def AllR(n:Nat)(w:World)(vs:List Value)(ts:List Tr):Prop:=vs.length=ts.length/\∃ok,∀(i:Nat)(u:Value)(x:Tr),vs[i]?=some u->ts[i]?=some x->RepR ok n w u x
theorem eA{f:Tr->Bool}{ts:List Tr}{x:Tr}(h:(ts.take k).all f=true)(hx:ts[k]?=some x)(hf:f x=true):(ts.take (k+1)).all f=true:=by rw [List.take_add_one,hx,List.all_append,h];simp [hf]
theorem gJ{f:Tr->Bool}{ts:List Tr}{x:Tr}(hx:ts[k]?=some x)(hf:f x=false):ts.all f=false:=by rw [List.all_eq_false];exact⟨x,List.mem_of_getElem? hx,by simp [hf]⟩
def PT:TypeId:=109
def PR:TypeId:=209
def PK:TypeId:=288
def RepP(ok:Nat->Prop):Nat->World->Value->Tr->Prop
 | 0,_,_,_=>False
 | n+1,w,v,t =>
  match t with
  | .lit (.int _ m)=>∃k:Int,v=.iface 293 (.int .i64 k)/\(gW m->k=m)
  | .lit (.bool x)=>v=.iface 295 (.bool x)
  | .lit (.string s)=>v=.iface 117 (.string ⟨s.toArray⟩)
  | .agg ts=>∃sl vs,v=.iface 115 sl/\(∀r,sl.ownBlock=some r->ok r)/\w.ownsRow 0 PT 1 sl ts.length vs /\
    (∀(i:Nat)(u:Value)(x:Tr),vs[i]?=some u->ts[i]?=some x->RepP ok n w u x)/\ts.length<=1000
  | _=>False
def KeepP(ok:Nat->Prop)(w w':World):Prop:=∀(k:Nat)(cur:Array Value),ok k->w.heap[k]?=some (.cells cur PT (0,0))->w'.heap[k]?=some (.cells cur PT (0,0))
theorem KeepP.of_below(h:Below w.heap.size w w'):KeepP ok w w':=fun k _ _ hk=>(h.block k (aB hk)).trans hk
theorem KeepP.of_grown{c:Array Value}{T:TypeId}{f:Nat×Nat}(hg:w.grownBy w' (some b))(hb:w.heap[b]?=some (.cells c T f))(h1:T≠PT):KeepP ok w w':=by
 intro k cur _ hk;have hne:some k≠some b:=by intro e1;obtain rfl:=Option.some.inj e1;rw [hb] at hk;simp only [Option.some.injEq,Obj.cells.injEq] at hk;exact h1 hk.2.1
 exact(hg.block k (aB hk) hne).trans hk
theorem sQ{xs:List Value}(hk:KeepP ok w w')(ho:∀r,v.ownBlock=some r->ok r)(h:w.ownsRow base PT 1 v n xs):w'.ownsRow base PT 1 v n xs:=by
 refine⟨h.1,?_⟩;rcases h.2 with hn | ⟨g,cap,cur,rfl,hb,hg,rest⟩
 ·exact .inl hn
 ·exact .inr ⟨g,cap,cur,rfl,hb,hk g cur (ho g rfl) hg,rest⟩
theorem RepP.keep(hk:KeepP ok w w'):∀(n:Nat)(v:Value)(t:Tr),RepP ok n w v t->RepP ok n w' v t
 | 0,_,_,h=>h
 | n+1,v,t,h=>by
  match t,h with
  | .lit (.int _ m),h=>exact h
  | .lit (.bool x),h=>exact h
  | .lit (.string s),h=>exact h
  | .agg ts,⟨sl,vs,h1,h2,h3,h4,h5⟩=>exact⟨sl,vs,h1,h2,sQ hk h2 h3,fun i u x hu hx=>RepP.keep hk n u x (h4 i u x hu hx),h5⟩
theorem RepP.mono{ok':Nat->Prop}(hi:∀k,k<w.heap.size->ok k->ok' k):∀(n:Nat)(v:Value)(t:Tr),RepP ok n w v t->RepP ok' n w v t
 | 0,_,_,h=>h
 | n+1,v,t,h=>by
  match t,h with
  | .lit (.int _ m),h=>exact h
  | .lit (.bool x),h=>exact h
  | .lit (.string s),h=>exact h
  | .agg ts,⟨sl,vs,h1,h2,h3,h4,h5⟩=>exact⟨sl,vs,h1,fun r hr=>hi r (h3.lt r hr).2 (h2 r hr),h3,fun i u x hu hx=>RepP.mono hi n u x (h4 i u x hu hx),h5⟩
theorem RepP.up:∀(n m:Nat)(v:Value)(t:Tr),n<=m->RepP ok n w v t->RepP ok m w v t
 | 0,_,_,_,_,h=>h.elim
 | n+1,0,_,_,hm,_=>by omega
 | n+1,m+1,v,t,hm,h=>by
  match t,h with
  | .lit (.int _ m),h=>exact h
  | .lit (.bool x),h=>exact h
  | .lit (.string s),h=>exact h
  | .agg ts,⟨sl,vs,h1,h2,h3,h4,h5⟩=>exact⟨sl,vs,h1,h2,h3,fun i u x hu hx=>RepP.up n m u x (by omega) (h4 i u x hu hx),h5⟩
theorem RepP.later{t:Tr}(h:RepP ok n w v t)(hb:Below w.heap.size w w'):RepP ok n w' v t:=RepP.keep (KeepP.of_below hb) _ _ _ h
theorem RepP.iface{t:Tr}(h:RepP ok n w v t):∃T x,v=.iface T x/\v.oneCell'=true:=by
 cases n with
 | zero=>exact h.elim
 | succ n =>
  match t,h with
  | .lit (.int _ m),⟨k,h,_⟩=>subst h;exact⟨_,_,rfl,rfl⟩
  | .lit (.bool x),h=>have h:v=_:=h;subst h;exact⟨_,_,rfl,rfl⟩
  | .lit (.string s),h=>have h:v=_:=h;subst h;exact⟨_,_,rfl,rfl⟩
  | .agg ts,⟨sl,vs,h,_⟩=>subst h;exact⟨_,_,rfl,rfl⟩
def PRd(w:World)(b:Nat)(rest:Value)(dep dpst:Int)(g:Bool):Prop:=w.heap[b]?=some (.cells #[rest,.int .i64 dep,.int .i64 dpst,.bool g] PR (0,0))
theorem PRd.cells(h:PRd w b L at_ dp g) :w.cell? ⟨b,0,none⟩=some L/\w.cell? ⟨b,1,none⟩=some (.int .i64 at_)/\w.cell? ⟨b,2,none⟩=some (.int .i64 dp)/\w.cell? ⟨b,3,none⟩=some (.bool g) :=⟨aA h 0,aA h 1,aA h 2,aA h 3⟩
theorem PRd.set0(h:PRd w b L at_ dp g)(x:Value):PRd (w.setCell ⟨b,0,none⟩ x) b x at_ dp g:=aD h 0 _
theorem PRd.set1(h:PRd w b L at_ dp g)(x:Int):PRd (w.setCell ⟨b,1,none⟩ (.int .i64 x)) b L x dp g:=aD h 1 _
theorem PRd.set2(h:PRd w b L at_ dp g)(x:Int):PRd (w.setCell ⟨b,2,none⟩ (.int .i64 x)) b L at_ x g:=aD h 2 _
theorem PRd.set3(h:PRd w b L at_ dp g)(x:Bool):PRd (w.setCell ⟨b,3,none⟩ (.bool x)) b L at_ dp x:=aD h 3 _
theorem PRd.alloc(h:PRd w b L at_ dp g)(o:Obj):PRd (w.alloc o) b L at_ dp g:=(Below.heap_alloc w o b (aB h)).trans h
theorem PRd.below(h:PRd w b L at_ dp g)(hb:Below w.heap.size w w'):PRd w' b L at_ dp g:=(hb.block b (aB h)).trans h
theorem PRd.cast{at2 dp2:Int}{g2:Bool}(h:PRd w b L at_ dp g)(h1:at_=at2)(h2:dp=dp2)(h3:g=g2):PRd w b L at2 dp2 g2:=by subst h1 h2 h3;exact h
def TkSl(w:World)(v:Value)(l:List (List UInt8)):Prop :=∃ao cap,v=.slice ao l.length cap/\l.length<=cap/\∀(i:Nat)(t:List UInt8),l[i]?=some t->∃g off cur,ao=some ⟨g,off,none⟩/\w.heap[g]?=some (.cells cur PK (0,0))/\cur[off+2*i]?=some (.int .i64 (cE t))/\cur[off+2*i+1]?=some (.string ⟨t.toArray⟩)
theorem TkSl.keep(h:TkSl w v l)(hk:∀(k:Nat)(cur:Array Value),w.heap[k]?=some (.cells cur PK (0,0))->w'.heap[k]?=some (.cells cur PK (0,0))):TkSl w' v l:=by obtain⟨ao,cap,e,hc,hx⟩:=h;refine⟨ao,cap,e,hc,fun i t ht=>?_⟩;obtain⟨g,off,cur,ea,hg,r⟩:=hx i t ht;exact⟨g,off,cur,ea,hk g cur hg,r⟩
theorem TkSl.grown{c:Array Value}{f:Nat×Nat}(h:TkSl w v l)(hg:w.grownBy w' (some b))(hb:w.heap[b]?=some (.cells c PR f)):TkSl w' v l:=by
 refine h.keep fun k cur hk=>?_;have hne:some k≠some b:=by intro e1;obtain rfl:=Option.some.inj e1;rw [hb] at hk;simp only [Option.some.injEq,Obj.cells.injEq] at hk;have:=hk.2.1;simp [PR,PK] at this
 exact(hg.block k (aB hk) hne).trans hk
theorem TkSl.below(h:TkSl w v l)(hb:Below w.heap.size w w'):TkSl w' v l:=h.keep fun k _ hk=>(hb.block k (aB hk)).trans hk
theorem TkSl.cons{q:List (List UInt8)}(h:TkSl w v (t::q)):∃g off cap,v=.slice (some ⟨g,off,none⟩) (q.length+1) cap/\q.length+1<=cap/\g<w.heap.size/\w.cell? ⟨g,off,none⟩=some (.int .i64 (cE t))/\w.cell? ⟨g,off+1,none⟩=some (.string ⟨t.toArray⟩) /\
  ∀(ao:Option Addr)(c:Nat),q.length<=c->(q.length≠0->ao=some ⟨g,off+2,none⟩)->TkSl w (.slice ao q.length c) q:=by
 obtain⟨ao,cap,e,hc,hx⟩:=h;obtain⟨g,off,cur,ea,hg,h1,h2⟩:=hx 0 t rfl;subst ea;refine⟨g,off,cap,e,hc,aB hg,(aA hg _).trans (by simpa using h1),(aA hg _).trans (by simpa using h2),fun ao2 c2 hc2 ha=>⟨ao2,c2,rfl,hc2,fun i x hi=>?_⟩⟩;obtain⟨g3,off3,cur3,e3,hg3,h31,h32⟩:=hx (i+1) x (by simpa using hi);simp only [Option.some.injEq,Addr.mk.injEq,and_true] at e3;obtain⟨rfl,rfl⟩:=e3;refine⟨g,off+2,cur3,ha (by rintro h0;have:=List.eq_nil_of_length_eq_zero h0;subst this;simp at hi),hg3,?_,?_⟩
 ·rw [show off+2+2*i=off+2*(i+1) from by omega];exact h31
 ·rw [show off+2+2*i+1=off+2*(i+1)+1 from by omega];exact h32
theorem tY(l:List (List UInt8)):∀(i:Nat)(t:List UInt8),l[i]?=some t->(gO l)[2*i]?=some (.int .i64 (cE t))/\(gO l)[2*i+1]?=some (strV t):=by
 induction l with
 | nil=>intro i t h;simp at h
 | cons x r ih =>
  intro i t h;have e:gO (x::r)=.int .i64 (cE x)::strV x::gO r:=rfl
  cases i with
  | zero=>simp at h;subst h;rw [e];simp
  | succ i =>simp at h;have:=ih i t h;rw [e,show 2*(i+1)=2*i+1+1 from by omega];simpa using this
theorem TkSl.of_own(h:w.ownsRow base PK 2 v l.length (gO l)):TkSl w v l:=by
 rcases h.2 with⟨hv,h0⟩ | ⟨g,cap,cur,hv,_,hg,hc,_,_,ht⟩
 ·have:l=[]:=List.eq_nil_of_length_eq_zero h0;subst this;exact⟨none,0,hv,Nat.le_refl _,fun i t hi=>by simp at hi⟩
 ·refine⟨some ⟨g,0,none⟩,cap,hv,hc,fun i t hi=>⟨g,0,cur,rfl,hg,?_⟩⟩;have hr:=tY l i t hi
  have key:∀(j:Nat)(u:Value),(gO l)[j]?=some u->cur[j]?=some u:=by
   intro j u hu;rw [<- ht,List.getElem?_take] at hu;split at hu
   ·simpa using hu
   ·cases hu
  rw [Nat.zero_add];exact⟨key _ _ hr.1,key _ _ hr.2⟩
theorem pP{a b:World}{row:Option Nat}(h:a.grownBy b row):a.grownBy b.drew row:=⟨h.os,h.tape,h.output,h.size,h.block⟩
theorem u7(w:World)(b:Nat)(rest:Value)(dep dpst:Nat)(g:Bool)(h:PRd w b rest dep dpst g)(hd:dep<=2000) :Calls prog 203 #[.pointer (some ⟨b,0,none⟩)] w fun e w'=>e=.returned (.tuple #[])/\w.grownBy w' (some b)/\PRd w' b rest ((dep+1:Nat):Int) ((max dpst (dep+1):Nat):Int) g:=by
 obtain⟨c0,c1,c2,c3⟩:=h.cells;have f1:=aF h 1;have f2:=aF h 2;have HH:Hid (PRd w b rest dep dpst g):=h;clear h;go_enter func203,ntmps203;go_wp2_with fail
 go_region
 go_end0
 refine⟨rfl,pP (aC (aE _ _ _ _) (aE _ _ _ _)),?_⟩;exact PRd.cast (((HH.out.set1 _).set2 _)) (by omega) (by split<;>omega) rfl
theorem oW(w:World)(b:Nat)(rest:Value)(dep dpst:Int)(g:Bool)(h:PRd w b rest dep dpst g)(hd:0<=dep/\dep<=3000) :Calls prog 205 #[.pointer (some ⟨b,0,none⟩)] w fun e w'=>e=.returned (.tuple #[])/\w.grownBy w' (some b)/\PRd w' b rest (dep-1) dpst g:=by
 obtain⟨c0,c1,c2,c3⟩:=h.cells;obtain⟨hd0,hd1⟩:=hd;have f1:=aF h 1;have HH:Hid (PRd w b rest dep dpst g):=h;clear h;go_enter func205,ntmps205;go_wp2_with fail
 go_end0
 exact⟨rfl,aE _ _ _ _,HH.out.set1 _⟩
theorem yY(w:World)(b:Nat)(rest:Value)(dep dpst:Int)(g:Bool)(l:List (List UInt8))(h:PRd w b rest dep dpst g)(ht:TkSl w rest l) :Calls prog 204 #[.pointer (some ⟨b,0,none⟩)] w fun e w'=>e=.returned (.bool (l.head?.any fun t=>cE t==1))/\w=w':=by
 obtain⟨c0,c1,c2,c3⟩:=h.cells;clear h
 cases l with
 | nil =>obtain⟨ao,cap,rfl,_⟩:=ht;simp only [List.length_nil] at c0;go_enter func204,ntmps204;go_wp2_with fail;go_ret;exact⟨rfl,rfl⟩
 | cons t q =>
  obtain⟨g0,off,cap,rfl,hcap,hg,k0,k1,_⟩:=ht.cons;have hp:(0:Int)<(q.length:Int)+1:=by omega
  go_enter func204,ntmps204
  go_wp2_with fail
  go_ret;exact⟨rfl,rfl⟩
theorem RepR.list{ts:List Tr}(h:RepR ok (n+1) w v (.agg ts)) :∃b kids vs,v=.pointer (some ⟨b,0,none⟩)/\b<w.heap.size/\w.cell? ⟨b,0,none⟩=some s6/\w.cell? ⟨b,3,none⟩=some kids/\SlOf w kids vs/\vs.length=ts.length/\∀(i:Nat)(u:Value)(x:Tr),vs[i]?=some u->ts[i]?=some x->RepR ok n w u x:=by obtain⟨b,hv,_,kids,vs,h1,_,h3,h4,_⟩:=h;refine⟨b,kids,vs,hv,aB h1,aA h1 0,aA h1 3,bC h3,by have:=h3.1;omega,h4⟩
theorem RepR.short{ts:List Tr}(h:RepR ok n w v (.agg ts)):ts.length<=1000:=by
 cases n with
 | zero=>exact h.elim
 | succ n=>obtain⟨_,_,_,_,_,_,_,_,_,h5⟩:=h;exact h5
theorem SlOf.cell0{us:List Value}(h:SlOf w v (u::us)):∃g off cap,v=.slice (some ⟨g,off,none⟩) (us.length+1) cap/\us.length+1<=cap/\g<w.heap.size/\w.cell? ⟨g,off,none⟩=some u/\∀(i:Nat)(x:Value),us[i]?=some x->w.cell? ⟨g,off+(i+1),none⟩=some x:=by obtain⟨ao,cap,rfl,hcap,hc⟩:=h;obtain⟨g,off,rfl,hg,h0⟩:=hc 0 u rfl;refine⟨g,off,cap,rfl,by simpa using hcap,hg,by simpa using h0,fun i x hx=>?_⟩;obtain⟨g2,off2,e,_,h1⟩:=hc (i+1) x (by simpa using hx);simp only [Option.some.injEq,Addr.mk.injEq,and_true] at e;obtain⟨rfl,rfl⟩:=e;exact h1
theorem RepR.later{t:Tr}(h:RepR ok n w v t)(hb:Below w.heap.size w w'):RepR ok n w' v t:=RepR.keep (KeepD.of_below hb) _ _ _ h
def Seen(ts:List Tr)(k:Nat)(nm:List (List UInt8)):Prop:=nm=(ts.take k).map Pl.strOf/\(ts.take k).all isName=true/\nm.Nodup
theorem Seen.start(ts:List Tr):Seen ts 0 []:=⟨by simp,by simp,List.nodup_nil⟩
theorem Seen.more{ts:List Tr}{x:Tr}(h:Seen ts k nm)(hx:ts[k]?=some x)(hn:isName x=true)(hm:Pl.strOf x∉nm):Seen ts (k+1) (nm++[Pl.strOf x]):=by
 refine⟨?_,eA h.2.1 hx hn,?_⟩
 ·rw [List.take_add_one,hx,h.1];simp
 ·rw [List.nodup_append];refine⟨h.2.2,by simp,?_⟩;intro a ha b hb e;simp only [List.mem_singleton] at hb;subst hb e;exact hm ha
theorem Seen.done{ts:List Tr}(h:Seen ts k nm)(hk:ts.length<=k):Pl.namesOk ts=true:=by obtain⟨h1,h2,h3⟩:=h;rw [List.take_of_length_le hk] at h1 h2;unfold Pl.namesOk;rw [h2,<-h1];simpa using h3
theorem Seen.bad{ts:List Tr}{x:Tr}(hx:ts[k]?=some x)(hn:isName x=false):Pl.namesOk ts=false:=by unfold Pl.namesOk;rw [gJ hx hn];rfl
theorem Seen.twice{ts:List Tr}{x:Tr}(h:Seen ts k nm)(hx:ts[k]?=some x){j:Nat}(hj:nm[j]?=some t)(he:t=Pl.strOf x):Pl.namesOk ts=false:=by
 have hjk:j<k:=by have:=(List.getElem?_eq_some_iff.1 hj).1;rw [h.1,List.length_map,List.length_take] at this;omega
 have hd:¬(ts.map Pl.strOf).Nodup:=by
  intro hd;have e1:(ts.map Pl.strOf)[j]?=some t:=by rw [h.1,List.getElem?_map,List.getElem?_take] at hj;rw [List.getElem?_map];simpa [hjk] using hj
  have e2:(ts.map Pl.strOf)[k]?=some t:=by rw [List.getElem?_map,hx,he];rfl
  have hjl:=(List.getElem?_eq_some_iff.1 e1).1;have:=(List.getElem?_inj hjl hd).1 (e1.trans e2.symm);omega
 unfold Pl.namesOk;rw [Bool.and_eq_false_iff];right;simpa using hd
structure LetInv(w wr:World)(G a b:Nat)(kn vv:Value)(nvs vvs:List Value):Prop where
 below:Below w.heap.size w wr
 out:wr.heap[G]?=some (.cells #[s6,.int .i64 0,tI,kn] TD (0,0))
 nrow:wr.ownsRow (G+1) TP 1 kn a nvs
 vrow:wr.ownsRow (G+1) TP 1 vv b vvs
 apart:∀r,kn.ownBlock=some r->vv.ownBlock≠some r
 sizeG:w.heap.size<=G
theorem LetInv.start(o:Obj)(ho:o=.cells #[s6,.int .i64 0,tI,.slice none 0 0] TD (0,0)):LetInv w (w.alloc o) w.heap.size 0 0 (.slice none 0 0) (.slice none 0 0) [] [] where
 below:=(Below.refl _ _).alloc (Nat.le_refl _) o
 out:=by rw [cB rfl,ho]
 nrow:=World.ownsRow_nil _ _ _ _
 vrow:=World.ownsRow_nil _ _ _ _
 apart:=fun r h=>by simp [Value.ownBlock] at h
 sizeG:=Nat.le_refl _
theorem LetInv.pushN{w3:World}(h:LetInv w wr G a b kn vv nvs vvs){o:Obj}{g' cap':Nat}
  (hown:w3.ownsRow (G+1) TP 1 (.slice (some ⟨g',0,none⟩) (a+1) cap') (a+1) (nvs++[u])) (hg:(wr.alloc o).grownBy w3 kn.ownBlock) (hat:kn.ownBlock=some g'\/g'=wr.heap.size+1) :
  LetInv w (w3.setCell ⟨G,3,none⟩ (.slice (some ⟨g',0,none⟩) (a+1) cap')) G (a+1) b (.slice (some ⟨g',0,none⟩) (a+1) cap') vv (nvs++[u]) vvs:=by
 have hltG:G<wr.heap.size:=aB h.out;have hsG:=h.sizeG;have hrl:=h.nrow.lt;have hneG:some G≠kn.ownBlock:=fun e=>by have:=(hrl G e.symm).1;omega
 have hob:∀k,k<wr.heap.size->some k≠kn.ownBlock->w3.heap[k]?=wr.heap[k]? := fun k hk hne=>(hg.block k (by simp;omega) hne).trans (Below.heap_alloc _ _ _ hk);have hout3:w3.heap[G]?=some (.cells #[s6,.int .i64 0,tI,kn] TD (0,0)):=(hob G hltG hneG).trans h.out;have hblk:∀(v:Value) k,k≠G->(w3.setCell ⟨G,3,none⟩ v).heap[k]?=w3.heap[k]? := fun v k hk=>Below.heap_setCell _ _ _ _ hk;refine⟨?_,?_,ownsRow_setCell_below hown (by show G<G+1;omega) _,?_,?_,hsG⟩
 ·refine(((h.below.alloc h.below.size o).grown hg ?_ ?_).setCell ?_ _)
  ·have:=h.below.size;simp;omega
  ·intro k hk;have:=(hrl k hk).1;omega
  ·exact hsG
 ·rw [aD hout3 3 _];rfl
 ·refine ownsRow_setCell_below ?_ (by show G<G+1;omega) _;refine⟨h.vrow.1,?_⟩;rcases h.vrow.2 with hn | ⟨x,cap,cur,hv,h0,hx,rest⟩
  ·exact .inl hn
  ·refine .inr ⟨x,cap,cur,hv,h0,?_,rest⟩;rw [hob x (aB hx) (fun e=>h.apart x e.symm (by rw [hv];rfl))];exact hx
 ·intro r hr;simp only [Value.ownBlock,Option.some.injEq] at hr;subst hr;rcases hat with h1 | h1
  ·exact h.apart _ h1
  ·intro e;have:=(h.vrow.lt _ e).2;omega
theorem LetInv.pushV{w3:World}(h:LetInv w wr G a b kn vv nvs vvs){o:Obj}{g' cap':Nat}
  (hown:w3.ownsRow (G+1) TP 1 (.slice (some ⟨g',0,none⟩) (b+1) cap') (b+1) (vvs++[u])) (hg:(wr.alloc o).grownBy w3 vv.ownBlock) (hat:vv.ownBlock=some g'\/g'=wr.heap.size+1) :
  LetInv w w3 G a (b+1) kn (.slice (some ⟨g',0,none⟩) (b+1) cap') nvs (vvs++[u]):=by
 have hltG:G<wr.heap.size:=aB h.out;have hsG:=h.sizeG;have hrl:=h.vrow.lt;have hob:∀k,k<wr.heap.size->some k≠vv.ownBlock->w3.heap[k]?=wr.heap[k]? := fun k hk hne=>(hg.block k (by simp;omega) hne).trans (Below.heap_alloc _ _ _ hk);refine⟨?_,?_,?_,hown,?_,hsG⟩
 ·refine(h.below.alloc h.below.size o).grown hg ?_ ?_
  ·have:=h.below.size;simp;omega
  ·intro k hk;have:=(hrl k hk).1;omega
 ·exact(hob G hltG (fun e=>by have:=(hrl G e.symm).1;omega)).trans h.out
 ·refine⟨h.nrow.1,?_⟩;rcases h.nrow.2 with hn | ⟨x,cap,cur,hv,h0,hx,rest⟩
  ·exact .inl hn
  ·refine .inr ⟨x,cap,cur,hv,h0,?_,rest⟩;rw [hob x (aB hx) (fun e=>h.apart x (by rw [hv];rfl) e.symm)];exact hx
 ·intro r hr e;simp only [Value.ownBlock,Option.some.injEq] at e;subst e;rcases hat with h1 | h1
  ·exact h.apart _ hr h1
  ·have:=(h.nrow.lt _ hr).2;omega
theorem LetInv.drew(h:LetInv w wr G a b kn vv nvs vvs):LetInv w wr.drew G a b kn vv nvs vvs :=⟨h.below.drew,h.out,h.nrow,h.vrow,h.apart,h.sizeG⟩
def ChR(ok:Nat->Prop)(m:Nat)(w:World)(vs:List Value)(xs:List Tr):Prop:=vs.length=xs.length/\∀(i:Nat)(u:Value)(x:Tr),vs[i]?=some u->xs[i]?=some x->RepR ok m w u x
theorem ChR.nil(ok:Nat->Prop)(m:Nat)(w:World):ChR ok m w [] []:=⟨rfl,fun i u x hu=>by simp at hu⟩
theorem ChR.snoc{xs:List Tr}{x:Tr}(h:ChR ok m w vs xs)(hr:RepR ok m w u x):ChR ok m w (vs++[u]) (xs++[x]):=by
 refine⟨by simp [h.1],fun i u' x' hu hx=>?_⟩;have hl:=h.1;by_cases hi:i<vs.length
 ·rw [List.getElem?_append_left hi] at hu;rw [List.getElem?_append_left (by omega)] at hx;exact h.2 i u' x' hu hx
 ·have e:i=vs.length:=by
   have:=(List.getElem?_eq_some_iff.1 hu).1;simp at this;omega
  subst e;rw [List.getElem?_append_right (Nat.le_refl _)] at hu;rw [List.getElem?_append_right (by omega)] at hx;have e2:vs.length-xs.length=0:=by omega
  rw [e2] at hx;simp at hu hx;subst hu hx;exact hr
theorem ChR.later{xs:List Tr}(h:ChR ok m w vs xs)(hb:Below w.heap.size w w'):ChR ok m w' vs xs:=⟨h.1,fun i u x hu hx=>(h.2 i u x hu hx).later hb⟩
theorem ChR.all{xs:List Tr}(h:ChR ok m w vs xs)(hn:m<=n):AllR n w vs xs:=⟨h.1,ok,fun i u x hu hx=>RepR.up m n u x hn (h.2 i u x hu hx)⟩
theorem LetInv.names(h:LetInv w wr G a b kn vv nvs vvs){xs:List Tr}(hc:ChR ok m w nvs xs)(ha:xs.length=a)(hl:xs.length<=1000):RepR (fun _=>True) (m+1) wr (.pointer (some ⟨G,0,none⟩)) (.agg xs):=by
 refine⟨G,rfl,trivial,kn,nvs,h.out,fun _ _=>trivial,?_,?_,hl⟩
 ·rw [ha];exact⟨h.nrow.1,h.nrow.2.imp id (fun⟨g,cap,cur,a,b,c⟩=>⟨g,cap,cur,a,Nat.zero_le _,c⟩)⟩
 ·intro i u x hu hx;exact RepR.mono (fun _ _ _=>trivial) _ _ _ ((hc.2 i u x hu hx).later h.below)
theorem c8{α:Type}(f:Tr->α){ts:List Tr}{x:Tr}(hx:ts[k]?=some x):(ts.take (k+1)).map f=(ts.take k).map f++[f x]:=by rw [List.take_add_one,hx];simp
end
end Go.Proofs.YtkgbdddkcjpgfaaGreatDoor
