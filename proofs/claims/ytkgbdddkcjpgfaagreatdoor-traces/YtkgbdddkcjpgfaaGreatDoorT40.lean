import Derived.Test.YtkgbdddkcjpgfaaGreatDoorT37
import Derived.Stop.Asserts
import Derived.RowKitTokens
import Derived.Test.YtkgbdddkcjpgfaaGreatDoorT10
namespace Go.Proofs.YtkgbdddkcjpgfaaGreatDoor
set_option maxHeartbeats 4000000
set_option maxRecDepth 100000
open Go.Proofs.Tryz
open Pl (PV FR AE AD BB C4 EF)
section
open Go.RowKit
theorem iQ(n:Nat)(t:Tr):(Pl.BZ n t).isSome=Pl.GY n t:=by
 have b:(fun x=>(AD n x).isSome)=C4 n:=funext (Pl.DJ n);unfold Pl.BZ;split
 ·rename_i h r;show _=if h=Pl.CK then Pl.OI (C4 n) r else C4 (n+1) _;split
  ·rw [Pl.JZ,b]
  ·exact Pl.DJ _ _
 ·rename_i a;rw [Pl.DJ];unfold Pl.GY;split
  ·rename_i h r;exact absurd rfl (a h r)
  ·rfl
theorem mK(n:Nat)(r:List Tr):Pl.BZ n (.agg (.lit (.string Pl.CK)::r))=Pl.E6 .define (AD n) r:=by simp [Pl.BZ]
theorem pG(r:List Tr):eG (.lit (.string Pl.CK)::r)=[100,101,102,105,110,101]:=rfl
theorem rL{n:Nat}{b:List Tr}(h:¬eG b=[100,101,102,105,110,101]):Pl.BZ n (.agg b)=AD (n+1) (.agg b):=by
 unfold Pl.BZ;split
 ·rename_i c r a;rw [DataW.agg.injEq] at a;subst a;rw [if_neg];rintro rfl;exact h (pG r)
 ·rfl
theorem rM{n:Nat}{t:Tr}(h:¬∃a,t=.agg a):Pl.BZ n t=AD (n+1) t:=by
 unfold Pl.BZ;split
 ·exact absurd ⟨_,rfl⟩ h
 ·rfl
theorem YC{b:List Tr}(h:eG b=[100,101,102,105,110,101]):∃r,b=.lit (.string Pl.CK)::r:=by
 unfold eG at h
 cases a:Pl.BJ b with
 | none=>rw [a] at h;simp at h
 | some k =>
  rw [a] at h;dsimp only at h;subst h;unfold Pl.BJ at a;split at a
  ·split at a
   ·obtain rfl:=i_ a;exact⟨_,rfl⟩
   ·simp at a
  ·simp at a
def R3(M:Nat->Prop)(w:World)(s:Sg)(tb mb:Nat)(ps:List (PV×PV))(bs:AE)(v ev:Value)(w':World):Prop :=
 w.grownBy w' (some mb)/\∃t,DK s t/\t.ns.length<=s.ns.length+300 /\
  ((∃c es,Pl.check bs=c/\0<c/\c<=5/\ev=aY es c/\t.pb=s.pb/\BM M w' t tb mb ps) \/
   (∃f,Pl.check bs=0/\Pl.BQ bs=some f/\ev=.nilIface/\BM M w' t tb mb (ps++(Pl.settle f ps.length).2)/\CP M w' t v (Pl.settle f ps.length).1))
theorem R3.Z8{M:Nat->Prop}{w:World}{s:Sg}{tb mb:Nat}{ps:List (PV×PV)}{c:AE}{m z:Nat}{t:Tr}{o:FR}{v ev:Value}{w':World}(h:LM M w s tb mb ps o z v ev w')(i:o=EF (Pl.BZ m t) ps.length)(p:z<=300)(b:Pl.check c=if Pl.GY m t=true then 0 else 5)(d:Pl.BQ c=Pl.BZ m t):R3 M w s tb mb ps c v ev w':=by
 obtain⟨j,u,k,q,⟨r,a,rfl,e,g⟩ | ⟨a,e,g,n,rfl⟩⟩:=h
 ·refine⟨j,u,k,by omega,.inr ?_⟩;rw [i] at a;unfold EF at a;obtain⟨f,l,rfl⟩:=m_ a;refine⟨f,?_,d.trans l,rfl,e,g⟩;rw [b,<-iQ,l];rfl
 ·refine⟨j,u,k,by omega,.inl ⟨5,n,?_,by omega,by omega,rfl,e,g⟩⟩;rw [i] at a;unfold EF at a;rw [b,<-iQ,Option.map_eq_none_iff.1 a];rfl
theorem xY{a:AE}{l:List (List UInt8)}{p:Pl.PR}(h:bF a=some l)(hp:Pl.pd l.length l=some p):Pl.BQ a=Pl.BZ (l.length-1) p.t:=by unfold Pl.BQ;rw [(dR h).1];dsimp only;rw [hp]
theorem pU{bs:List UInt8}(h:Pl.check bs≠1):bs.length<=300:=by
 by_cases a:300<bs.length
 ·exact absurd (kX a) h
 ·omega
theorem XC(b:ByteArray)(M:Nat->Prop)(w:World)(s:Sg)(tb mb:Nat)(ps:List (PV×PV))(hR:BM M w s tb mb ps)(X:GE w)(hz:s.ns.length+300<=BS) :Calls prog 40 #[.string b,.pointer (some ⟨tb,0,none⟩)] w fun e o=>∃v j,e=.returned (.tuple #[v,j])/\R3 M w s tb mb ps b.data.toList v j o:=by
 have ae:=Tryz.EO;have af:=Tryz.E7;have ag:=Tryz.FN;have am:=Tryz.ET;have HR:=h_ hR;have HZ:=h_ hz;clear hR hz;go_enter func40,ntmps40;go_wp2_with fail;refine(XO b w X).mono ?_;rintro e i ⟨Y,N⟩;have q:=h_ Y;clear Y X;rcases N with⟨c,es,hc,ah,ai,rfl⟩ | ⟨l,p,v,hs,hl,hp,Z,E,rfl,z⟩
 ·have HC:=h_ hc;clear hc;unfold aY;go_wp2_with fail;go_ret2;exact⟨_,_,rfl,aI q,s,DK.refl _,Nat.le_add_right _ _,.inl ⟨c,_,HC,ah,ai,rfl,rfl,HR.below q⟩⟩
 ·have O:=xY hs hp;have P:=Pl.NP _ _ _ hp
  have aa:∀t∈l,t.length<=300:=fun t ht=>by
   have Q:Pl.check b.data.toList≠1:=by rw [E];split<;>simp
   have V:=pU Q;have h3:=(Pl.F2 (dR hs).1).2 t ht;omega
  have f:=P.CG Z aa;have J:=P.words;obtain⟨n,hn⟩:=uJ hp;rw [hn] at z f J;rw [hn,Nat.add_sub_cancel] at E O;have aj:n+1<=300:=by omega
  have a:AN (fun k=>¬M k) (n+1) i v p.t:=AN.mono (fun k _ R hm=>by have:=HR.mlt k hm;omega) _ _ _ z;have A:Hid (Pl.check b.data.toList=(if Pl.GY n p.t=true then 0 else 5)/\Pl.BQ b.data.toList=Pl.BZ n p.t):=⟨E,O⟩
  have F:Hid (Below w.heap.size w (i.alloc (A0 tb))):=q.alloc q.size _;have m:Below i.heap.size i (i.alloc (A0 tb)):=bB _ _;have B:BM M (i.alloc (A0 tb)) s tb mb ps:=HR.below F;have ab:s.ns.length+BB (n+1) p.t<=BS:=by have:=HZ.out;omega
  have S:BB (n+1) p.t<=300:=by omega
  have d:(Pl.BZ n p.t=AD (n+1) p.t)->Hid (Calls prog 67 #[.agg #[.pointer (some ⟨tb,0,none⟩)],v] (i.alloc (A0 tb)) fun e o=>∃v j,e=.returned (.tuple #[v,j])/\Hid (R3 M w s tb mb ps b.data.toList v j o)):=fun ht=>show Calls _ _ _ _ _ from
   (wP (n+1) (by omega) M i v p.t a f M (i.alloc (A0 tb)) s tb mb ps (Stp.AA m) B ab).mono (fun e o h=>by
    obtain⟨v,j,Q,V⟩:=h.one
    exact⟨v,j,Q,R3.Z8 (V.from_ F) (by rw [ht]) S A.1 A.2⟩)
  have cw:(i.alloc (A0 tb)).cell? ⟨i.heap.size,0,none⟩=some (.pointer (some ⟨tb,0,none⟩)):=aA (heap_alloc_new i (A0 tb)) 0;clear E O hp hs hn hl P aa z J Z;by_cases G:∃ts,p.t=.agg ts
  ·obtain⟨ts,H⟩:=G;rw [H] at a d f ab S;obtain⟨sl,vs,rfl,W,hA,ak⟩:=a.RQ;have C:=pF (tb:=tb) W hA;by_cases R:eG ts=[100,101,102,105,110,101]
   ·obtain⟨r,rfl⟩:=YC R
    match vs,hA.1 with
    | u::K,_ =>
     rw [R] at C;obtain⟨g,T,D,rfl,al,hg,c0,_⟩:=(Sl.C7 W).cell0;have HK:=(show Hid (∀L c,L=K.length+1->c=D->Calls prog 65 #[.slice (some ⟨g,T,none⟩) L c] (i.alloc (A0 tb)) fun e o=>e=.returned (.string ⟨([100,101,102,105,110,101]:List UInt8).toArray⟩)/\i.alloc (A0 tb)=o) from by rintro _ _ rfl rfl;exact C)
     have ac:CD M (i.alloc (A0 tb)).drew (.slice (some ⟨g,T,none⟩) (K.length+1) D) (u::K):=Sl.AQ (Stp.AA (m.drew)) W;have ad:(r.map (BB n)).sum<=BB (n+1) (.agg (.lit (.string Pl.CK)::r)):=by show _<=((.lit (.string Pl.CK)::r).map (BB n)).sum;simp
     have HD:Hid (∀(ao:Option Addr)(L c:Nat),L=K.length->K.length<=c->(K.length≠0->ao=some ⟨g,T+1,none⟩)->Calls prog 66 #[.agg #[.pointer (some ⟨tb,0,none⟩)],.slice ao L c] (i.alloc (A0 tb)).drew fun e o=>∃v j,e=.returned (.tuple #[v,j])/\Hid (R3 M w s tb mb ps b.data.toList v j o)):=fun ao L c h0 Q V=>by
      subst h0
      exact(yW n (wP n (by omega)) M _ s tb mb ps _ K r (B.below r_.drew) (Sl.J4 ac K.length rfl ao c Q V) (C9.below (C9.tail hA) m.drew) (fun x hx=>f x (List.mem_cons_of_mem _ hx)) (by omega) _ rfl).mono (fun e o h=>by
       obtain⟨v,j,Q,V⟩:=h.one;refine⟨v,j,Q,R3.Z8 (V.from_ F.drew) ?_ (t_ ad S) A.1 A.2⟩
       rw [H,mK])
     clear C R hA W a d H ac B m f;obtain⟨c,rfl⟩:∃c,D=c+1:=⟨D-1,by omega⟩
     rcases c with _ | c
     all_goals clear A ae af ag HR HZ q F
     all_goals
     go_wp2_with (go_at_call 65;refine(HK _ _ (by omega) (by omega)).mono ?_;rintro e o ⟨rfl,rfl⟩)
     go_region_with (go_at_call 66;refine(HD _ _ _ (by omega) (by omega) (by intro hh;first | rfl | (exfalso;omega))).mono ?_;rintro e w2 ⟨v,j,rfl,I⟩)
     all_goals
      go_wp2_with fail
      go_ret2;exact⟨_,_,rfl,I⟩
   ·have HF:=d (rL R);have an:(eG ts==[100,101,102,105,110,101])=false:=by simpa using R
    obtain⟨ao,D,rfl,_⟩:=Sl.C7 W;have HK:=h_ C;generalize eG ts=kk at *;clear C R hA W a d H B m f;go_wp2_with (go_at_call 65;refine(Calls.mono HK) ?_;rintro e o ⟨rfl,rfl⟩);refine Calls.mono HF ?_;rintro e w3 ⟨v9,U,rfl,I⟩;go_wp2_with fail;go_ret2;exact⟨_,_,rfl,I⟩
  ·have HF:=d (rM G);obtain⟨y,hy⟩:=AN.KR a G;clear a G d B m f;rcases hy with rfl | rfl | rfl
   ·go_wp2_with fail
    refine Calls.mono HF ?_;rintro e w3 ⟨v9,U,rfl,I⟩;go_wp2_with fail;go_ret2;exact⟨_,_,rfl,I⟩
   ·go_wp2_with fail
    refine Calls.mono HF ?_;rintro e w3 ⟨v9,U,rfl,I⟩;go_wp2_with fail;go_ret2;exact⟨_,_,rfl,I⟩
   ·go_wp2_with fail
    refine Calls.mono HF ?_;rintro e w3 ⟨v9,U,rfl,I⟩;go_wp2_with fail;go_ret2;exact⟨_,_,rfl,I⟩
end
section
open Go.RowKit Go.Extern.Stop Go.Stop Go.Extern
theorem Tryz.SE(t:Addr)(w:World):(ReflectliteValue.unpack (.iface 130 (.pointer (some t)))).run prog w
  = .ok (.agg #[.pointer (some ⟨8,130,none⟩),.pointer (some ⟨w.heap.size,0,none⟩),.int .u64 150]) (w.alloc (.cells #[.pointer (some t)] 130)):=by kernel_rfl
theorem Tryz.typeP(a:Addr)(w:World):(ReflectliteValue.methodAny (ReflectliteValue.valueError "reflectlite.Value.Type" 0) (fun t _ _ _=>ReflectliteType.toType t) #[.agg #[.pointer (some ⟨8,130,none⟩),.pointer (some a),.int .u64 150]]).run prog w
  = .ok (.iface 301 (.agg #[.pointer (some ⟨8,130,none⟩)])) w:=by kernel_rfl
theorem Tryz.PH(h:Value)(w:World):(Go.method 638 301 (.agg #[h]) "Kind").run prog w=.ok (253,h) w:=by kernel_rfl
theorem Tryz.kindP(w:World):((ReflectliteType.abiMethod fun t=>(fun a:Nat=>Value.int IntKind.u8 (a:Int)) <$> Rtype.kind t) #[.pointer (some ⟨8,130,none⟩)]).run prog w=.ok (.int .u8 22) w:=by kernel_rfl
theorem Tryz.kindF(w:World):((ReflectliteType.abiMethod fun t=>(fun a:Nat=>Value.int IntKind.u8 (a:Int)) <$> Rtype.kind t) #[.pointer (some ⟨8,128,none⟩)]).run prog w=.ok (.int .u8 2) w:=by kernel_rfl
theorem Tryz.YI(a:Addr)(W:World) :(ReflectliteValue.method (ReflectliteValue.valueError "reflectlite.Value.IsNil" 0) ReflectliteValue.isNil #[.agg #[.pointer (some ⟨8,130,none⟩),.pointer (some a),.int .u64 150]]).run prog W=(ReflectliteValue.isNil 130 a 150 22).run prog W:=by kernel_rfl
theorem Tryz.isNilP(a p:Addr)(W:World)(b:W.cell? a=some (.pointer (some p))) :(ReflectliteValue.method (ReflectliteValue.valueError "reflectlite.Value.IsNil" 0) ReflectliteValue.isNil #[.agg #[.pointer (some ⟨8,130,none⟩),.pointer (some a),.int .u64 150]]).run prog W=.ok (.bool false) W:=by rw [Tryz.YI];simp [ReflectliteValue.isNil,loadVar,isAgg,underlying,underlying130,b,Result.andThen]
theorem Tryz.PI(h:Value)(w:World):(Go.method 638 301 (.agg #[h]) "Elem").run prog w=.ok (367,.agg #[h]) w:=by kernel_rfl
theorem Tryz.JS(h:Value)(w:World):(Go.method 638 301 (.agg #[h]) "Implements").run prog w=.ok (368,.agg #[h]) w:=by kernel_rfl
theorem Tryz.IZ(h:Value)(w:World):(Go.method 638 301 (.agg #[h]) "AssignableTo").run prog w=.ok (365,.agg #[h]) w:=by kernel_rfl
theorem Tryz.MQ(a b:Value)(w:World):(Go.method 638 251 (.agg #[a,b]) "Unwrap").run prog w=.ok (352,.agg #[a,b]) w:=by kernel_rfl
theorem Tryz.elemP(w:World):(ReflectliteType.method ReflectliteType.elem #[.agg #[.pointer (some ⟨8,130,none⟩)]]).run prog w=.ok (.iface 301 (.agg #[.pointer (some ⟨8,128,none⟩)])) w:=by kernel_rfl
theorem Tryz.N6(w:World):(ReflectliteType.relation "Implements" ReflectliteType.implements_ #[.agg #[.pointer (some ⟨8,128,none⟩)],.iface 301 (.agg #[.pointer (some ⟨8,63,none⟩)])]).run prog w=.ok (.bool true) w:=by kernel_rfl
theorem Tryz.V3(v:Value)(w:World):(ReflectliteType.typeOf #[.iface 128 v]).run prog w=.ok (.iface 301 (.agg #[.pointer (some ⟨8,128,none⟩)])) w:=by kernel_rfl
theorem Tryz.V4(v:Value)(w:World):(ReflectliteType.typeOf #[.iface 251 v]).run prog w=.ok (.iface 301 (.agg #[.pointer (some ⟨8,251,none⟩)])) w:=by kernel_rfl
theorem Tryz.OG(w:World):(ReflectliteType.relation "AssignableTo" ReflectliteType.assignableTo #[.agg #[.pointer (some ⟨8,128,none⟩)],.iface 301 (.agg #[.pointer (some ⟨8,128,none⟩)])]).run prog w=.ok (.bool true) w:=by kernel_rfl
theorem Tryz.OH(w:World):(ReflectliteType.relation "AssignableTo" ReflectliteType.assignableTo #[.agg #[.pointer (some ⟨8,251,none⟩)],.iface 301 (.agg #[.pointer (some ⟨8,128,none⟩)])]).run prog w=.ok (.bool false) w:=by kernel_rfl
theorem Tryz.SF(n:Int)(w:World):(ReflectliteValue.unpack (.iface 128 (.int .i64 n))).run prog w
  = .ok (.agg #[.pointer (some ⟨8,128,none⟩),.pointer (some ⟨w.heap.size,0,none⟩),.int .u64 130]) (w.alloc (.cells #[.int .i64 n] 128)):=by kernel_rfl
theorem Tryz.Y4(w:World):(Rtype.elem? 130).run prog w=.ok (some 128) w:=by kernel_rfl
theorem Tryz.BN(p:Addr)(w:World):(ReflectliteValue.mk 128 p ReflectliteValue.flagAddr).run prog w=.ok (.agg #[.pointer (some ⟨8,128,none⟩),.pointer (some p),.int .u64 386]) w:=by kernel_rfl
theorem Tryz.Y3(a:Addr)(W:World) :(ReflectliteValue.method (ReflectliteValue.valueError "reflectlite.Value.Elem" 0) ReflectliteValue.elem #[.agg #[.pointer (some ⟨8,130,none⟩),.pointer (some a),.int .u64 150]]).run prog W=(ReflectliteValue.elem 130 a 150 22).run prog W:=by kernel_rfl
theorem Tryz.elemVP(a p:Addr)(W:World)(b:W.cell? a=some (.pointer (some p))) :(ReflectliteValue.method (ReflectliteValue.valueError "reflectlite.Value.Elem" 0) ReflectliteValue.elem #[.agg #[.pointer (some ⟨8,130,none⟩),.pointer (some a),.int .u64 150]]).run prog W
   = .ok (.agg #[.pointer (some ⟨8,128,none⟩),.pointer (some p),.int .u64 386]) W:=by
 rw [Tryz.Y3];simp [ReflectliteValue.elem,loadVar,isAgg,underlying,underlying130,b,Result.andThen,Tryz.Y4,Tryz.BN]
theorem Tryz.setF0(c b:Addr)(W:World) :(ReflectliteValue.set #[.agg #[.pointer (some ⟨8,128,none⟩),.pointer (some c),.int .u64 386],.agg #[.pointer (some ⟨8,128,none⟩),.pointer (some b),.int .u64 130]]).run prog W
   = (loadVar 128 b >>= fun a=>storeVar 128 c a >>= fun _=>pure (.tuple #[])).run prog W:=by kernel_rfl
theorem Tryz.setF(a b:Addr)(n:Int)(c:Value)(W:World)(d:W.cell? b=some (.int .i64 n))(e:W.cell? a=some c)(f:W.frozen? a=false) :(ReflectliteValue.set #[.agg #[.pointer (some ⟨8,128,none⟩),.pointer (some a),.int .u64 386],.agg #[.pointer (some ⟨8,128,none⟩),.pointer (some b),.int .u64 130]]).run prog W
   = .ok (.tuple #[]) (W.setCell a (.int .i64 n)):=by
 rw [Tryz.setF0];simp [loadVar,isAgg,underlying,underlying128,d,Result.andThen,storeVar,Value.cells,storeCells,Addr.add];rw [run_store prog W a _ _ (by rfl)];simp [e,f]
theorem Tryz.asD_As(v:Value)(w:World):(Instr.typeAssert (.iface 251 v) 63 306 true).run prog w=.ok (.tuple #[.nilIface,.bool false]) w:=run_typeAssert_lacksB underlying306 (by kernel_rfl) (by kernel_rfl) v _ w
theorem Tryz.P3(v:Value)(w:World):(Instr.typeAssert (.iface 251 v) 63 309 true).run prog w=.ok (.tuple #[.iface 251 v,.bool true]) w:=run_typeAssert_hasB underlying309 (by kernel_rfl) v _ w
theorem yE(s:ByteArray)(a:Int)(w:World):Calls prog 352 #[.agg #[.string s,.iface 128 (.int .i64 a)]] w fun e b=>e=.returned (.iface 128 (.int .i64 a))/\w.alloc (.cells #[.string s,.iface 128 (.int .i64 a)] 251)=b:=by
 go_enter func352,ntmps352
 go_wp2_with fail
 go_ret;exact⟨rfl,rfl⟩
theorem as_hit(s:ByteArray)(a:Int)(t:Addr)(b:Value)(w:World)(j:w.cell? ⟨0,0,none⟩=some (.iface 301 (.agg #[.pointer (some ⟨8,63,none⟩)])))(c:w.cell? t=some b)(g:w.frozen? t=false) :Calls prog 68 #[.iface 251 (.agg #[.string s,.iface 128 (.int .i64 a)]),.iface 130 (.pointer (some t))] w fun p k=>p=.returned (.bool true)/\k=(((((w.alloc (.cells #[.pointer (some t)] 130)).alloc (.cells #[.pointer (some ⟨8,130,none⟩),.pointer (some ⟨w.heap.size,0,none⟩),.int .u64 150] 226)).alloc (.cells #[.pointer (some ⟨8,130,none⟩),.pointer (some ⟨w.heap.size,0,none⟩),.int .u64 150] 226)).alloc (.cells #[.string s,.iface 128 (.int .i64 a)] 251)).alloc (.cells #[.int .i64 a] 128)).setCell t (.int .i64 a):=by
 have q:=@run_callFunc_extern prog 115 _ (fun d=>ReflectliteValue.unpack (d.getD 0 (.tuple #[]))) func115 (by kernel_rfl) (by kernel_rfl) (by kernel_rfl) (by kernel_rfl);have r:=@run_callFunc_extern prog 116 _ (ReflectliteValue.methodAny (ReflectliteValue.valueError "reflectlite.Value.Type" 0) (fun t _ _ _=>ReflectliteType.toType t)) func116 (by kernel_rfl) (by kernel_rfl) (by kernel_rfl) (by kernel_rfl);have u:=@run_callFunc_extern prog 117 _ (ReflectliteValue.method (ReflectliteValue.valueError "reflectlite.Value.IsNil" 0) ReflectliteValue.isNil) func117 (by kernel_rfl) (by kernel_rfl) (by kernel_rfl) (by kernel_rfl);have l:=@run_callFunc_extern prog 253 _ (ReflectliteType.abiMethod fun t=>do pure (.int .u8 (<- Rtype.kind t))) func253 (by kernel_rfl) (by kernel_rfl) (by kernel_rfl) (by kernel_rfl);have m:=@run_callFunc_extern prog 367 _ (ReflectliteType.method ReflectliteType.elem) func367 (by kernel_rfl) (by kernel_rfl) (by kernel_rfl) (by kernel_rfl);have n:=@run_callFunc_extern prog 368 _ (ReflectliteType.relation "Implements" ReflectliteType.implements_) func368 (by kernel_rfl) (by kernel_rfl) (by kernel_rfl) (by kernel_rfl);have v:=@run_callFunc_extern prog 158 _ ReflectliteType.typeOf func158 (by kernel_rfl) (by kernel_rfl) (by kernel_rfl) (by kernel_rfl);have o:=@run_callFunc_extern prog 365 _ (ReflectliteType.relation "AssignableTo" ReflectliteType.assignableTo) func365 (by kernel_rfl) (by kernel_rfl) (by kernel_rfl) (by kernel_rfl);have x:=@run_callFunc_extern prog 159 _ (ReflectliteValue.method (ReflectliteValue.valueError "reflectlite.Value.Elem" 0) ReflectliteValue.elem) func159 (by kernel_rfl) (by kernel_rfl) (by kernel_rfl) (by kernel_rfl);have y:=@run_callFunc_extern prog 160 _ ReflectliteValue.set func160 (by kernel_rfl) (by kernel_rfl) (by kernel_rfl) (by kernel_rfl);have K:=Tryz.V3;have L:=Tryz.V4;have M:=Tryz.IZ;have N:=Tryz.OG;have O:=Tryz.OH;have P:=Tryz.SF;have Q:=Tryz.SE;have R:=Tryz.typeP;have S:=Tryz.PH;have z:=Tryz.PI;have A:=Tryz.JS;have B:=Tryz.kindP;have C:=Tryz.kindF;have D:=Tryz.elemP;have E:=Tryz.N6;have F:=Tryz.asD_As;have G:=Tryz.P3;have H:=Tryz.MQ;have T:=Tryz.isNilP ⟨w.heap.size,0,none⟩ t ((w.alloc (.cells #[.pointer (some t)] 130)).alloc (.cells #[.pointer (some ⟨8,130,none⟩),.pointer (some ⟨w.heap.size,0,none⟩),.int .u64 150] 226)) (by simp)
 have i:0<w.heap.size:=by
  rcases Nat.eq_zero_or_pos w.heap.size with I | h
  ·simp [World.cell?,I] at j
  ·exact h
 have J:((w.alloc (.cells #[.pointer (some t)] 130)).alloc (.cells #[.pointer (some ⟨8,130,none⟩),.pointer (some ⟨w.heap.size,0,none⟩),.int .u64 150] 226)).cell? ⟨0,0,none⟩=some (.iface 301 (.agg #[.pointer (some ⟨8,63,none⟩)])):=by rw [World.cell?_alloc_lt _ _ ⟨0,0,none⟩ (by simp),World.cell?_alloc_lt _ _ ⟨0,0,none⟩ i];exact j
 have f:t.block<w.heap.size:=by
  rcases Nat.lt_or_ge t.block w.heap.size with h | h
  ·exact h
  ·simp [World.cell?,Array.getElem?_eq_none h] at c
 have U:=Tryz.elemVP ⟨w.heap.size,0,none⟩ t ((((w.alloc (.cells #[.pointer (some t)] 130)).alloc (.cells #[.pointer (some ⟨8,130,none⟩),.pointer (some ⟨w.heap.size,0,none⟩),.int .u64 150] 226)).alloc (.cells #[.pointer (some ⟨8,130,none⟩),.pointer (some ⟨w.heap.size,0,none⟩),.int .u64 150] 226)).alloc (.cells #[.string s,.iface 128 (.int .i64 a)] 251)) (by rw [World.cell?_alloc_lt _ _ ⟨w.heap.size,0,none⟩ (by simp;omega),World.cell?_alloc_lt _ _ ⟨w.heap.size,0,none⟩ (by simp;omega)];simp)
 have V:=Tryz.setF t ⟨w.heap.size+1+1+1+1,0,none⟩ a b (((((w.alloc (.cells #[.pointer (some t)] 130)).alloc (.cells #[.pointer (some ⟨8,130,none⟩),.pointer (some ⟨w.heap.size,0,none⟩),.int .u64 150] 226)).alloc (.cells #[.pointer (some ⟨8,130,none⟩),.pointer (some ⟨w.heap.size,0,none⟩),.int .u64 150] 226)).alloc (.cells #[.string s,.iface 128 (.int .i64 a)] 251)).alloc (.cells #[.int .i64 a] 128))
  (by rw [World.cell?_alloc_at _ _ _ _ (by simp)];rfl)
  (by rw [World.cell?_alloc_lt _ _ t (by simp;omega),World.cell?_alloc_lt _ _ t (by simp;omega),World.cell?_alloc_lt _ _ t (by simp;omega),World.cell?_alloc_lt _ _ t (by simp;omega),World.cell?_alloc_lt _ _ t f];exact c)
  (by rw [World.frozen?_alloc_old _ _ t (by simp;omega),World.frozen?_alloc_old _ _ t (by simp;omega),World.frozen?_alloc_old _ _ t (by simp;omega),World.frozen?_alloc_old _ _ t (by simp;omega),World.frozen?_alloc_old _ _ t (Nat.ne_of_lt f)];exact g)
 go_enter func68,ntmps68
 go_wp2
 refine wp_loop_rounds 2 ?_;rw [rounds_succ];go_wp2_with (go_at_call 352;refine(yE _ _ _).mono ?_;rintro e k ⟨rfl,rfl⟩);rw [rounds_succ];go_wp2;go_ret;exact⟨rfl,rfl⟩
def GT(w:World):Prop:=w.cell? ⟨0,0,none⟩=some (.iface 301 (.agg #[.pointer (some ⟨8,63,none⟩)]))
theorem GT.below{w w':World}(h:GT w)(a:Below w.heap.size w w'):GT w':=(a.cell (p:=⟨0,0,none⟩) (World.block_lt_of_cell? w _ h)).trans h
theorem aCA(s:ByteArray)(a:Int)(w:World)(k:GT w):Calls prog 42 #[aY s a] w fun e h=>e=.returned (.int .i64 a)/\Below w.heap.size w h:=by
 unfold aY;have o:=h_ k;clear k;go_enter func42,ntmps42;go_wp2_with fail;have l:Hid (∀b c d f g:Obj,Below w.heap.size w ((((((w.alloc (.cells #[.int .i64 0] 128)).alloc b).alloc c).alloc d).alloc f).alloc g)):=fun b c d f g=>by have p:Below w.heap.size w (w.alloc (.cells #[.int .i64 0] 128)):=b_;exact((((p.alloc (by simp) b).alloc (by simp;omega) c).alloc (by simp;omega) d).alloc (by simp;omega) f).alloc (by simp;omega) g
 have m:Hid (∀b c d f g:Obj,((((((w.alloc (.cells #[.int .i64 0] 128)).alloc b).alloc c).alloc d).alloc f).alloc g).heap[w.heap.size]?=some (.cells #[.int .i64 0] 128 (0,0))):=fun b c d f g=>by rw [k_ (by simp;omega),k_ (by simp;omega),k_ (by simp;omega),k_ (by simp;omega),k_ (by simp)];exact heap_alloc_new _ _
 refine(as_hit s a ⟨w.heap.size,0,none⟩ (.int .i64 0) _ (o.below b_) (aA (heap_alloc_new _ _) 0) (aF (heap_alloc_new _ _) 0)).mono ?_;rintro e h ⟨rfl,i⟩;have n:Below w.heap.size w h:=by rw [i];exact(l _ _ _ _ _).setCell n_ _
 have q:h.cell? ⟨w.heap.size,0,none⟩=some (.int .i64 a):=by rw [i];exact aA (aD (m _ _ _ _ _) 0 _) 0
 have j:=h_ n;clear n i l m;go_wp2_with fail;go_ret;exact⟨rfl,j⟩
theorem as_nil(t:Value)(w:World) :Calls prog 68 #[.nilIface,t] w fun e a=>e=.returned (.bool false)/\w=a:=by
 go_enter func68,ntmps68
 go_wp2
 go_ret;exact⟨rfl,rfl⟩
theorem sL(w:World):Calls prog 42 #[.nilIface] w fun e a=>e=.returned (.int .i64 0)/\Below w.heap.size w a:=by
 go_enter func42,ntmps42
 go_wp2_with (go_at_call 68;refine(as_nil _ _).mono ?_;rintro e a ⟨rfl,rfl⟩)
 go_ret;exact⟨rfl,b_⟩
end
section
open Go.RowKit
theorem p_num(k:Int)(w:World):Calls prog 17 #[.int .i64 k] w fun e a=>e=.returned (.int .i64 k)/\w=a:=by
 go_enter func17,ntmps17
 go_wp2_with fail
 go_ret;exact⟨rfl,rfl⟩
end
end Go.Proofs.YtkgbdddkcjpgfaaGreatDoor
