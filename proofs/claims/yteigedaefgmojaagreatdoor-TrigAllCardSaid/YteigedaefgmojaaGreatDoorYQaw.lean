/-
 Contracts that the proof rests on.
-/
import Derived.Test.YteigedaefgmojaaGreatDoorYQav
namespace Go.Proofs.YteigedaefgmojaaGreatDoor
open Go.Proofs.Tryz
set_option maxHeartbeats 8000000
open Go.RowKit
set_option linter.unusedVariables false
set_option linter.unusedSimpArgs false
set_option maxRecDepth 100000
def mA (cos:Bool)(g:Int):Int:=if cos then g+aH/2 else g
def Be (cos:Bool)(g:Int):Int:=if cos then g+1+(bW+1) /2 else g+1
def Fb (cos:Bool)(g:Int):Int:=dD (wu (mA cos g) (Be cos g)) (-SC) SC
def GS (cos:Bool)(g:Int):Int:=dD (wt (mA cos g) (Be cos g)) (-SC) SC
def Sv (cos:Bool)(x:Int)(z:Sp):Prop:=(aD x=false/\dY=z)\/(aD x=true/\∃r u,Rq false (Fb cos (ak x)) SC r/\Rq true (GS cos (ak x)) SC u/\du r u=z)
theorem EH{w:World}{D M E:Int}{s:Bool}{x:Int}{cos:Bool}(hM:LQ M)(hx:rk D s M E=x)(hf:aD x=false):Calls prog 69 #[VQ D s M E,.bool cos] w (PV w dY):=by
 delta VQ
 have n:=ie hx;have m:=ie hf;clear hx hf
 go_enter func69,ntmps69
 go_upto_region 1 with fail
 generalize d:(w.alloc _).alloc _=w1 at *;obtain⟨o,a,c⟩:=Bo.en2 d;clear d;have i:=o.cell
 go_wp2_with fail
 refine(kC hM n.out rfl m.out).mono ?_;rintro p t ⟨s5,A5,n5,c5,rfl,q,v,B⟩;clear i;replace a:=a.b B;replace c:=aj c B;clear B;have l:=c.out.size
 go_upto_region 2 with fail
 have h:=a.lt;generalize e:t.alloc _=y at *;obtain⟨u,g⟩:=Bo.nw e;clear e;replace a:=a.b g;replace c:=aj c g;clear g;clear q
 go_upto_region 3 with fail
 go_wp2_with fail
 refine(mX).mono ?_;rintro p z ⟨e9,K9,s9,M9,E9,K9b,s9b,M9b,E9b,rfl,r,B⟩;replace a:=a.b B;replace c:=aj c B;clear B;have j:=a.cell;have f:=a.frozen;go_wp2;clear j f;have k:=ae.t9 a e9 K9 s9 M9 E9 K9b s9b M9b E9b
 exact bq (by simp[results,results69,go_sem,k.box.cell]) rfl ⟨_,_,_,_,_,_,_,_,_,rfl,r,(k.below c.out (by omega))⟩
theorem Cj{w:World}{D M E:Int}{s:Bool}{x:Int}{g l h r u:Int}{z:Sp}(hM:LQ M)(hx:rk D s M E=x)(hf:aD x=true)(hg:ak x=g)(fits:g.natAbs < 4294967296^10)(hl:Fb false g=l)(hh:GS false g=h)(hr:Rq false l SC r)(hu:Rq true h SC u)(hz:du r u=z):Calls prog 69 #[VQ D s M E,.bool false] w (PV w z):=by
 delta VQ
 have HX:=ie hx;have HF:=ie hf;have HG:=ie hg;have H:=ie fits
 have HL:Hid (dD (wu (g) (g+1)) (-SC) SC=l):=ie hl
 have HH:Hid (dD (wt (g) (g+1)) (-SC) SC=h):=ie hh
 have HR:=ie hr;have HU:=ie hu;have HZ:=ie hz;clear hx hf hg fits hl hh hr hu hz
 go_enter func69,ntmps69
 go_upto_region 1 with fail
 generalize L:(w.alloc _).alloc _=w1 at *;obtain⟨X2,a,c⟩:=Bo.en2 L;clear L;have bH:=X2.cell
 go_wp2_with fail
 refine(kC hM HX.out HG.out HF.out).mono ?_;rintro ee w2 ⟨s5,A5,n5,c5,rfl,m,k5,B⟩;clear bH;replace a:=a.b B;replace c:=aj c B;clear B;have gB:=c.out.size
 go_upto_region 2 with fail
 have bC:=a.lt;generalize d:w2.alloc _=w3 at *;obtain⟨A,G⟩:=Bo.nw d;clear d;refine aE ?_ a m c G;clear a m c G;intro a m c;have hD:=m.fits H.out;clear H HX HF HG
 go_upto_region 4 with fail
 have gP:=a.lt;have gO:=A.lt;have hF:=c.out.size;refine aV [0,1,2,3] [22,23,24,8,0] [[],[],[0,1],[],[]] 5 1 [Jo.Fact.eq (.agg #[.bool s5,.slice A5 n5 c5]),Jo.Fact.wn (1) (2),Jo.Fact.wn (g+1) (20),Jo.Fact.bo w3.heap.size #[.bool false,.slice none 0 0] 43,Jo.Fact.any] ?_ ?_
 ·refine jm ?_ ?_
  ·rintro wj k K o;have R:=(A.b k).cell;go_simp;exact o.out _ _ rfl (br _ _)
  refine jm ?_ ?_
  ·rintro wj k K o;go_simp;exact Jo.w1 (fk 1 _ (by decide) (by decide)) o.out
  refine jm ?_ ?_
  ·rintro wj k _ rfl _ ⟨bD,X,bB,Y,rfl,C,bA⟩ K o;go_simp;exact Jo.w1 (fS (m.b k).wr C.wr (by omega) (by omega) rfl) o.out
  refine jm ?_ ?_
  ·rintro wj k K o;go_simp;exact o.out _ _ ⟨_,rfl,k.size,Bo.new _ _ _⟩ (ab _ _)
  exact jo
 rintro w4 k _ rfl _ ⟨bD,X,bB,Y,rfl,C,bA⟩ _ ⟨hQ,hA,hN,hC,rfl,v,hI⟩ _ ⟨g7,rfl,hE,J⟩ -;simp only[Jo.z];replace a:=a.b k;replace A:=A.b k;replace m:=m.b k;replace c:=aj c k;clear C;have F:=J.cell;have S:=J.frozen
 refine jn 4 fun K o=>?_
 go_simp;refine o.out _ _ ?_;clear o K F S;generalize hS:(w4.setCell _ _).setCell _ _=w5 at *;have n:=ae.of2 J hS;replace a:=a.s n;replace A:=A.s n;replace m:=m.s n;replace v:=v.s n;replace c:=aP c n (by omega);replace J:=n.box;clear n hS;refine jd ?_
 go_upto_region 10 with fail
 have R:=A.cell;have F:=J.cell
 go_wp2_with fail
 refine(oz m.wr v.wr (by omega) (by omega) HL.out HH.out).mono ?_;rintro ee O ⟨y,p,t,q,hP,gS,hL,hB,rfl,e,f,hG,hH,B⟩;clear R F;replace a:=a.b B;replace c:=aj c B;clear B;have Z:=c.out.size
 go_upto_region 11 with fail
 have j:(World.alloc O (.cells #[.bool y,.slice p t q] 43)).heap.size=O.heap.size+1:=by simp
 have V:=a.lt;have U:=ab O (.cells #[.bool y,.slice p t q] 43);replace a:=a.b U;replace e:=e.b U;replace f:=f.b U;replace c:=ie (bt c.out U);have i:=Bo.new O #[.bool y,.slice p t q] 43
 generalize d:World.alloc O (.cells #[.bool y,.slice p t q] 43)=wG at *;clear d;have W:=a.lt;have N:=i.lt;generalize d:wG.alloc _=wH at *;obtain⟨I,G⟩:=Bo.nw d;clear d;refine dG ?_ a i e f c G;clear a i e f c G;intro a i e f c;rw[j]at I
 clear j;clear m v;have P:=i.cell;have Q:=I.cell
 go_wp2_with fail
 refine(DH e.wr f.wr (by omega) (by omega) HR.out HU.out HZ.out).mono ?_;rintro ee wI ⟨e9,K9,s9,M9,E9,K9b,s9b,M9b,E9b,rfl,v9,B⟩;clear P Q;replace a:=a.b B;replace c:=aj c B;clear B;clear e f;have bN:=a.cell;have T:=a.frozen;go_wp2;clear bN T
 have n:=ae.t9 a e9 K9 s9 M9 E9 K9b s9b M9b E9b;exact bq (by simp[results,results69,go_sem,n.box.cell]) rfl ⟨_,_,_,_,_,_,_,_,_,rfl,v9,(n.below c.out (by omega))⟩
theorem Ch{w:World}{D M E:Int}{s:Bool}{x:Int}{g l h r u:Int}{z:Sp}(hM:LQ M)(hx:rk D s M E=x)(hf:aD x=true)(hg:ak x=g)(fits:g.natAbs < 4294967296^10)(hl:Fb true g=l)(hh:GS true g=h)(hr:Rq false l SC r)(hu:Rq true h SC u)(hz:du r u=z):Calls prog 69 #[VQ D s M E,.bool true] w (PV w z):=by
 delta VQ
 have HX:=ie hx;have HF:=ie hf;have HG:=ie hg;have bN:=ie fits
 have HL:Hid (dD (wu (g+aH.fdiv 2) (g+1+(bW+1).fdiv 2)) (-SC) SC=l):=ie hl
 have HH:Hid (dD (wt (g+aH.fdiv 2) (g+1+(bW+1).fdiv 2)) (-SC) SC=h):=ie hh
 have HR:=ie hr;have HU:=ie hu;have HZ:=ie hz;clear hx hf hg fits hl hh hr hu hz
 go_enter func69,ntmps69
 go_upto_region 1 with fail
 generalize gO:(w.alloc _).alloc _=w1 at *;obtain⟨X2,a,c⟩:=Bo.en2 gO;clear gO;have JH:=X2.cell
 go_wp2_with fail
 refine(kC hM HX.out HG.out HF.out).mono ?_;rintro ee w2 ⟨s5,A5,n5,c5,rfl,n,k5,B⟩;clear JH;replace a:=a.b B;replace c:=aj c B;clear B;have JK:=c.out.size
 go_upto_region 2 with fail
 have HP:=a.lt;generalize k:w2.alloc _=w3 at *;obtain⟨f,I⟩:=Bo.nw k;clear k;refine aE ?_ a n c I;clear a n c I;intro a n c;have JT:=n.fits bN.out;clear bN HX HF HG
 go_upto_region 4 with fail
 have Y:=a.lt;have X:=f.lt;have JV:=c.out.size;refine aV [0,1,2,3] [22,23,24,8,0] [[],[],[0,1],[],[]] 5 1 [Jo.Fact.eq (.agg #[.bool s5,.slice A5 n5 c5]),Jo.Fact.wn (1) (2),Jo.Fact.wn (g+1) (20),Jo.Fact.bo w3.heap.size #[.bool false,.slice none 0 0] 43,Jo.Fact.any] ?_ ?_
 ·refine jm ?_ ?_
  ·rintro N d K j;have O:=(f.b d).cell;go_simp;exact j.out _ _ rfl (br _ _)
  refine jm ?_ ?_
  ·rintro N d K j;go_simp;exact Jo.w1 (fk 1 _ (by decide) (by decide)) j.out
  refine jm ?_ ?_
  ·rintro N d _ rfl _ ⟨JB,hR,HI,hY,rfl,bA,ET⟩ K j;go_simp;exact Jo.w1 (fS (n.b d).wr bA.wr (by omega) (by omega) rfl) j.out
  refine jm ?_ ?_
  ·rintro N d K j;go_simp;exact j.out _ _ ⟨_,rfl,d.size,Bo.new _ _ _⟩ (ab _ _)
  exact jo
 rintro w4 d _ rfl _ ⟨JB,hR,HI,hY,rfl,bA,ET⟩ _ ⟨JC,hT,HJ,hZ,rfl,e,JY⟩ _ ⟨g7,rfl,JU,i⟩ -;simp only[Jo.z];replace a:=a.b d;replace f:=f.b d;replace n:=n.b d;replace c:=aj c d;clear bA;have H:=i.cell;have P:=i.frozen
 refine jn 4 fun K j=>?_
 go_simp;refine j.out _ _ ?_;clear j K H P;generalize W:(w4.setCell _ _).setCell _ _=w5 at *;have m:=ae.of2 i W;replace a:=a.s m;replace f:=f.s m;replace n:=n.s m;replace e:=e.s m;replace c:=aP c m (by omega);replace i:=m.box;clear m W;refine jd ?_
 go_upto_region 6 with fail
 go_wp2_with fail
 refine(iO).mono ?_;rintro ee w6 ⟨s8,A8,n8,c8,s9,A9,n9,c9,rfl,G,t,k8,k9,B⟩;refine jD ?_ a f i n e c B;clear a f i n e c B;intro a f i n e c;have JL:=c.out.size
 go_upto_region 7 with fail
 have V:(World.alloc w6 (.cells #[.bool s8,.slice A8 n8 c8] 43)).heap.size=w6.heap.size+1:=by simp
 have HT:=a.lt;have HQ:=f.lt;have HS:=i.lt;have C:=ab w6 (.cells #[.bool s8,.slice A8 n8 c8] 43);replace a:=a.b C;replace f:=f.b C;replace i:=i.b C;replace n:=n.b C;replace e:=e.b C
 replace G:=G.b C;replace t:=t.b C;replace c:=ie (bt c.out C);have F:=Bo.new w6 #[.bool s8,.slice A8 n8 c8] 43;generalize k:World.alloc w6 (.cells #[.bool s8,.slice A8 n8 c8] 43)=w7 at *;clear k;have JA:=a.lt
 have HV:=f.lt;have HW:=i.lt;have HY:=F.lt;generalize k:w7.alloc _=w8 at *;obtain⟨v,I⟩:=Bo.nw k;clear k;refine yI ?_ a f i F n e G t c I;clear a f i F n e G t c I;intro a f i F n e G t c
 rw[V]at v;clear V
 go_wp2_with fail
 refine(fk 2 _ (by decide) (by decide)).mono ?_;rintro ee w9 ⟨s30,A30,n30,c30,rfl,o,LB,B⟩;refine jW ?_ a f i F v n e G t c B;clear a f i F v n e G t c B;intro a f i F v n e G t c;have DS:=c.out.size
 go_upto_region 8 with fail
 have hN:=a.lt;have hG:=f.lt;have hH:=i.lt;have hI:=F.lt;have hL:=v.lt;generalize k:w9.alloc _=wA at *;obtain⟨p,I⟩:=Bo.nw k;clear k;refine Iq ?_ a f i F v n e G t o c I;clear a f i F v n e G t o c I;intro a f i F v n e G t o c;have Y:=a.lt;have X:=f.lt;have gP:=i.lt;have JM:=F.lt;have gS:=v.lt;have Z:=p.lt;have JJ:=c.out.size;refine aV [0,1,2,3,4] [31,32,33,34,35,0] [[],[],[],[1,2],[0,3],[]] 6 1 [Jo.Fact.eq (.agg #[.bool s5,.slice A5 n5 c5]),Jo.Fact.eq (.agg #[.bool s8,.slice A8 n8 c8]),Jo.Fact.eq (.agg #[.bool s30,.slice A30 n30 c30]),Jo.Fact.wn (aH.fdiv 2) (13),Jo.Fact.wn (g+aH.fdiv 2) (30),Jo.Fact.any] ?_ ?_
 ·iterate 3 (refine jm ?_ ?_;rotate_left)
  refine jm ?_ ?_
  ·rintro N d _ rfl _ rfl K j;go_simp;exact Jo.w1 (kB (G.b d).wr (o.b d).wr (by omega) (by omega) (by decide) rfl) j.out
  refine jm ?_ ?_
  ·rintro N d _ rfl _ ⟨JD,hU,HK,lA,rfl,bB,HA⟩ K j;go_simp;exact Jo.w1 (fS (n.b d).wr bB.wr (by omega) (by omega) rfl) j.out
  exact jo
  all_goals (rintro N d;(repeat rintro _ rfl);intro K j;have O:=(f.b d).cell;have LI:=(F.b d).cell;have hB:=(p.b d).cell;go_simp;exact j.out _ _ rfl (br _ _))
 rintro wB d _ rfl _ rfl _ rfl _ ⟨JD,hU,HK,lA,rfl,bB,HA⟩ _ ⟨LG,JO,LD,JR,rfl,q,JZ⟩ -;simp only[Jo.z];replace a:=a.b d;replace f:=f.b d;replace i:=i.b d;replace v:=v.b d;replace p:=p.b d;replace e:=e.b d;replace t:=t.b d;replace o:=o.b d;replace c:=aj c d;clear bB n G
 have O:=f.cell;have hE:=f.frozen
 refine jn 5 fun K j=>?_
 go_simp;refine j.out _ _ ?_;clear j K O hE;generalize W:(wB.setCell _ _).setCell _ _=wC at *;have m:=ae.of2 f W;replace a:=a.s m;replace i:=i.s m;replace v:=v.s m;replace p:=p.s m;replace e:=e.s m;replace t:=t.s m;replace o:=o.s m
 replace q:=q.s m;replace c:=aP c m (by omega);replace f:=m.box;clear m W;refine jd ?_
 go_upto_region 9 with fail
 have Y:=a.lt;have X:=f.lt;have gP:=i.lt;have gS:=v.lt;have Z:=p.lt;refine aV [0,1,2,3,4,5,6] [36,37,38,39,40,41,42,0] [[],[],[],[1,2],[],[3,4],[0,5],[]] 8 1 [Jo.Fact.eq (.agg #[.bool JC,.slice hT HJ hZ]),Jo.Fact.eq (.agg #[.bool s9,.slice A9 n9 c9]),Jo.Fact.wn (1) (2),Jo.Fact.wn (bW+1) (10),Jo.Fact.eq (.agg #[.bool s30,.slice A30 n30 c30]),Jo.Fact.wn ((bW+1).fdiv 2) (16),Jo.Fact.wn (g+1+(bW+1).fdiv 2) (40),Jo.Fact.any] ?_ ?_
 ·iterate 2 (refine jm ?_ ?_;rotate_left)
  refine jm ?_ ?_
  ·rintro N d K j;go_simp;exact Jo.w1 (fk 1 _ (by decide) (by decide)) j.out
  refine jm ?_ ?_
  ·rintro N d _ rfl _ ⟨JE,hV,HM,lB,rfl,bC,HC⟩ K j;go_simp;exact Jo.w1 (fS (t.b d).wr bC.wr (by omega) (by omega) rfl) j.out
  refine jm ?_ ?_;rotate_left
  refine jm ?_ ?_
  ·rintro N d _ ⟨JF,hW,HN,qT,rfl,bD,HD⟩ _ rfl K j;go_simp;exact Jo.w1 (kB bD.wr (o.b d).wr (by omega) (by omega) (by decide) rfl) j.out
  refine jm ?_ ?_
  ·rintro N d _ rfl _ ⟨JG,hX,HO,xX,rfl,bH,HE⟩ K j;go_simp;exact Jo.w1 (fS (e.b d).wr bH.wr (by omega) (by omega) rfl) j.out
  exact jo
  all_goals (rintro N d;(repeat rintro _ rfl);intro K j;have H:=(i.b d).cell;have LJ:=(v.b d).cell;have hB:=(p.b d).cell;go_simp;exact j.out _ _ rfl (br _ _))
 rintro wD d _ rfl _ rfl _ ⟨JE,hV,HM,lB,rfl,bC,HC⟩ _ ⟨JF,hW,HN,qT,rfl,bD,HD⟩ _ rfl _ ⟨JG,hX,HO,xX,rfl,bH,HE⟩ _ ⟨LH,JP,LE,JS,rfl,T,LA⟩ -;simp only[Jo.z];replace a:=a.b d;replace f:=f.b d;replace i:=i.b d;replace q:=q.b d;replace c:=aj c d;clear bC bD bH e t o;have H:=i.cell
 have P:=i.frozen
 refine jn 7 fun K j=>?_
 go_simp;refine j.out _ _ ?_;clear j K H P;generalize W:(wD.setCell _ _).setCell _ _=wE at *;have m:=ae.of2 i W;replace a:=a.s m;replace f:=f.s m;replace q:=q.s m;replace T:=T.s m;replace c:=aP c m (by omega);replace i:=m.box;clear m W;refine jd ?_
 go_upto_region 10 with fail
 have O:=f.cell;have H:=i.cell
 go_wp2_with fail
 refine(oz q.wr T.wr (by omega) (by omega) HL.out HH.out).mono ?_;rintro ee wF ⟨U,Q,S,R,LF,JN,LC,JQ,rfl,y,A,JW,JX,B⟩;clear O H;replace a:=a.b B;replace c:=aj c B;clear B;have zX:=c.out.size
 go_upto_region 11 with fail
 have L:(World.alloc wF (.cells #[.bool U,.slice Q S R] 43)).heap.size=wF.heap.size+1:=by simp
 have hP:=a.lt;have C:=ab wF (.cells #[.bool U,.slice Q S R] 43);replace a:=a.b C;replace y:=y.b C;replace A:=A.b C;replace c:=ie (bt c.out C);have J:=Bo.new wF #[.bool U,.slice Q S R] 43
 generalize k:World.alloc wF (.cells #[.bool U,.slice Q S R] 43)=wG at *;clear k;have hQ:=a.lt;have hA:=J.lt;generalize k:wG.alloc _=wH at *;obtain⟨gB,I⟩:=Bo.nw k;clear k;refine dG ?_ a J y A c I;clear a J y A c I;intro a J y A c;rw[L]at gB
 clear L;clear q T;have hC:=J.cell;have hD:=gB.cell
 go_wp2_with fail
 refine(DH y.wr A.wr (by omega) (by omega) HR.out HU.out HZ.out).mono ?_;rintro ee wI ⟨e9,K9,s9,M9,E9,K9b,s9b,M9b,E9b,rfl,v9,B⟩;clear hC hD;replace a:=a.b B;replace c:=aj c B;clear B;clear y A;have JI:=a.cell;have hF:=a.frozen;go_wp2;clear JI hF
 have m:=ae.t9 a e9 K9 s9 M9 E9 K9b s9b M9b E9b;exact bq (by simp[results,results69,go_sem,m.box.cell]) rfl ⟨_,_,_,_,_,_,_,_,_,rfl,v9,(m.below c.out (by omega))⟩
theorem IR{w:World}{D M E:Int}{s:Bool}{x:Int}{cos:Bool}{z:Sp}(hM:LQ M)(hx:rk D s M E=x)(hz:Sv cos x z):Calls prog 69 #[VQ D s M E,.bool cos] w (PV w z):=by
 delta VQ
 rcases hz with⟨hf,hz⟩ | ⟨hf,r,u,a,b,hz⟩
 ·rw[<-hz];exact EH hM hx hf
 ·cases cos
  ·exact Cj hM hx hf rfl (eN hf) rfl rfl a b hz
  ·exact Ch hM hx hf rfl (eN hf) rfl rfl a b hz
theorem As (cos:Bool)(x:Int):∃z,Sv cos x z:=by
 cases hf:aD x
 ·exact⟨_,Or.inl ⟨hf,rfl⟩⟩
 ·obtain⟨r,a⟩:=zP false (Fb cos (ak x)) SC;obtain⟨u,b⟩:=zP true (GS cos (ak x)) SC;exact⟨_,Or.inr ⟨hf,r,u,a,b,rfl⟩⟩
end Go.Proofs.YteigedaefgmojaaGreatDoor
namespace Go.Proofs.YteigedaefgmojaaGreatDoor
open Go.Proofs.Tryz
open Go Go.RowKit
set_option linter.unusedVariables false
theorem gy{up:Bool}{l r:Int}(h:Rq up l SC r):eZ up (l*2^KK) SC r:=by
 rw[fm (by decide),show an (decide (SC < 0)) SC=SC from rfl,show an (decide (SC < 0)) l=l from rfl]at h
 exact h
theorem dR:(0:Int) < SC:=by decide
theorem kQ{up:Bool}{l r p:Int}(h:Rq up l SC r)(p1: -19342822337206103650074625 < p)(p2:p < 19342822337206103650074625)(e:vr p*SC<=l*2^KK):p<=r:=
 eZ.mono (up:=up) (B:=1) (by decide) dR (jE (by decide) p1 p2 (Int.mul_one _)) (gy h) (by rw[Int.mul_one];exact e)
theorem oC{up:Bool}{l r p:Int}(h:Rq up l SC r)(p1: -19342822337206103650074625 < p)(p2:p < 19342822337206103650074625)(e:l*2^KK<=vr p*SC):r<=p:=
 eZ.mono (up:=up) (D:=1) dR (by decide) (gy h) (jE (by decide) p1 p2 (Int.mul_one _)) (by rw[Int.mul_one];exact e)
theorem y9:vr (al 1)=2^KK:=by rw[dJ (by decide) (by decide),Int.one_mul]
theorem j9:al (-1)= -al 1:=rfl
theorem dz:0 < al 1/\al 1 < 19342822337206103650074625:=gU (by decide) (by decide)
theorem kh{up:Bool}{l r:Int}(h:Rq up l SC r)(h1: -SC<=l)(h2:l<=SC): -al 1<=r/\r<=al 1:=by
 obtain⟨o1,o2⟩:=dz;have a:=aN KK
 constructor
 ·refine kQ h (by omega) (by omega) ?_;rw[bF,y9,Int.neg_mul,Int.mul_comm,<-Int.neg_mul];exact Int.mul_le_mul_of_nonneg_right h1 (by omega)
 ·refine oC h (by omega) (by omega) ?_;rw[y9,Int.mul_comm (2^KK)];exact Int.mul_le_mul_of_nonneg_right h2 (by omega)
theorem rW{l h r u:Int}(hr:Rq false l SC r)(hu:Rq true h SC u)(le:l<=h):r<=u:=by
 obtain⟨t,ht⟩:=zP true l SC;have a:=eZ.mono dR dR (gy ht) (gy hu) (Int.mul_le_mul_of_nonneg_right (Int.mul_le_mul_of_nonneg_right le (by have:=aN KK;omega)) (Int.le_of_lt dR))
 rcases Db dR (gy hr) (gy ht)with ⟨b,_⟩ | ⟨b,_⟩ <;> omega
def SB (σ:Rat)(Z:Sp):Prop:=∃l h r u:Int,Z=some (r,u)/\Rq false l SC r/\Rq true h SC u/\ -SC<=l/\l<=h/\h<=SC/\(l= -SC\/((l+99:Int):Rat)<=σ)/\(h=SC\/σ<=((h-99:Int):Rat))/\σ<=((l+17592186044416:Int):Rat)/\((h-17592186044416:Int):Rat)<=σ
theorem SB.unit{σ:Rat}{Z:Sp}(h:SB σ Z):∃r u,Z=some (r,u)/\ -al 1<=r/\r<=u/\u<=al 1:=by
 obtain⟨l,h,r,u,rfl,a,b,h1,h2,c,_⟩:=h;exact⟨r,u,rfl,(kh a h1 (by omega)).1,rW a b h2,(kh b (by omega) c).2⟩
theorem SB.fin{σ:Rat}{Z:Sp}(h:SB σ Z):Bf Z:=by
 obtain⟨o1,o2⟩:=dz;obtain⟨r,u,rfl,a,b,c⟩:=h.unit;exact⟨b,by omega,by omega⟩
theorem Hd{l r:Int}{v:Rat}(h:Rq false l SC r)(e:(l:Rat)<=v*SR):r= -19342822337206103650074625\/((vr r:Int):Rat)<=v*BR:=by
 have s:=gy h;rw[gz]at s;obtain⟨_,_,d,_⟩:=s
 by_cases c:r= -19342822337206103650074625
 ·exact .inl c
 ·right
  have a:=Rat.intCast_le_intCast.2 (d (by rename_i h1 _;omega));rw[Rat.intCast_mul,Rat.intCast_mul]at a;refine Rat.le_of_mul_le_mul_right (c:=SR) ?_ dS;have b:=Rat.mul_le_mul_of_nonneg_right e (Rat.le_of_lt ij)
  unfold BR at *
  grind
theorem Hc{h u:Int}{v:Rat}(k:Rq true h SC u)(e:v*SR<=(h:Rat)):u=19342822337206103650074625\/v*BR<=((vr u:Int):Rat):=by
 have s:=(gy k);rw[gA]at s;obtain⟨_,_,d,_⟩:=s
 by_cases c:u=19342822337206103650074625
 ·exact .inl c
 ·right
  have a:=Rat.intCast_le_intCast.2 (d (by rename_i h1 _;omega));rw[bF,Rat.intCast_mul,Rat.intCast_neg,Rat.intCast_neg,Rat.intCast_mul]at a;refine Rat.le_of_mul_le_mul_right (c:=SR) ?_ dS;have b:=Rat.mul_le_mul_of_nonneg_right e (Rat.le_of_lt ij)
  unfold BR at *
  grind
theorem SB.lo{σ v:Rat}{Z:Sp}(h:SB σ Z)(v1: -1<=v)(v2:σ<=v*SR+99):F8 v Z:=by
 obtain⟨l,h,r,u,rfl,a,c,h1,h2,b,hl,hh,_⟩:=h;refine Hd a ?_
 rcases hl with rfl | hl
 ·have:=Rat.mul_le_mul_of_nonneg_right v1 (Rat.le_of_lt dS)
  rw[Rat.intCast_neg]
  grind
 ·rw[Rat.intCast_add]at hl
  have e:((99:Int):Rat)=99:=rfl
  rw[e]at hl
  grind
theorem SB.hi{σ v:Rat}{Z:Sp}(h:SB σ Z)(v1:v<=1)(v2:v*SR<=σ+99):F7 v Z:=by
 obtain⟨l,h,r,u,rfl,c,a,h1,h2,b,hl,hh,_⟩:=h;refine Hc a ?_
 rcases hh with rfl | hh
 ·have:=Rat.mul_le_mul_of_nonneg_right v1 (Rat.le_of_lt dS)
  grind
 ·rw[Rat.intCast_sub]at hh
  have e:((99:Int):Rat)=99:=rfl
  rw[e]at hh
  grind
theorem lD:dY=some (-al 1,al 1):=by
 obtain⟨o1,o2⟩:=dz;exact bj (by rw[j9];omega) (by rw[j9];omega) (by omega)
theorem Bs{x y:Int}(h1: -2147483648*SC<=x)(h2:x<=2147483648*SC):wu x y=(jI x y).1/\wt x y=(jI x y).2:=by
 have hs:ln (rI x)=si (rI x) 40:=by
  obtain⟨a,b⟩:=zC h1 h2;exact if_neg (by unfold SC at *;omega)
 unfold wu wt jI
 rw[hs]
 by_cases c:qI x%2=0
 ·rw[if_pos c,if_pos c,if_pos c];exact⟨rfl,rfl⟩
 ·rw[if_neg c,if_neg c,if_neg c];exact⟨rfl,rfl⟩
theorem AS{x y:Int}(h1: -2147483648*SC<=x)(h2:x<=2147483648*SC)(h3:x<=y)(h4:y-x<=2000000):(jI x y).2-(jI x y).1<=8796093022664/\(jI x y).1<=(jI x y).2:=by
 obtain⟨c,d⟩:=Au h1 h2 h3 h4
 unfold jI
 by_cases c:qI x%2=0
 ·rw[if_pos c];simp only[]
  omega
 ·rw[if_neg c];simp only[]
  omega
theorem Hg{x:Int}{z:Rat}(a: -(17/10)<=fz x z/\fz x z<=17/10): -(1+1/2^240)<=fJ x z/\fJ x z<=1+1/2^240:=by
 obtain⟨s1,s2⟩:=z8 (x:=fz x z) (by grind) (by grind);generalize (1/2^240:Rat)=t at *;rw[ja]
 by_cases c:qI x%2=0
 ·rw[if_pos c];exact⟨s1,s2⟩
 ·rw[if_neg c]
  constructor <;> grind
theorem FC:(1/2^240:Rat)*SR<=1:=by decide +kernel
theorem Ek{x y l h r u:Int}{Z:Sp}{z:Rat}(h1: -2147483648*SC<=x)(h2:x<=2147483648*SC)(h3:x<=y)(h4:y-x<=2000000)(z1:(x:Rat)<=z)(z2:z<=(y:Rat))
  (hl:dD (wu x y) (-SC) SC=l) (hh:dD (wt x y) (-SC) SC=h) (hr:Rq false l SC r) (hu:Rq true h SC u) (hz:du r u=Z):SB (fJ x z*SR) Z:=by
 obtain⟨w1,f⟩:=AU h1 h2 h3 h4 z1 z2;obtain⟨m,n⟩:=AS h1 h2 h3 h4;obtain⟨j,k⟩:=Hg (vX h1 h2 h3 h4 z1 z2);obtain⟨e1,e2⟩:=Bs (y:=y) h1 h2;rw[e1]at hl;rw[e2]at hh;generalize (jI x y).1=lo at *;generalize (jI x y).2=hi at *;have i:=dS;have ep:=FC;have g1:=Rat.mul_le_mul_of_nonneg_right j (Rat.le_of_lt i);have g2:=Rat.mul_le_mul_of_nonneg_right k (Rat.le_of_lt i)
 generalize (1/2^240:Rat)=t at *;generalize fJ x z=s at *
 have c1:((1:Int):Rat)=1:=rfl
 have o:lo<=SC-98:=by
  have a:((lo+99:Int):Rat)<=((SC+1:Int):Rat):=by
   refine Rat.le_trans w1 ?_;rw[Rat.intCast_add,c1]
   grind
  have:=Rat.intCast_le_intCast.1 a
  omega
 have p: -SC+98<=hi:=by
  have a:((-SC-1:Int):Rat)<=((hi-99:Int):Rat):=by
   refine Rat.le_trans ?_ f;rw[Rat.intCast_sub,Rat.intCast_neg,c1]
   grind
  have:=Rat.intCast_le_intCast.1 a
  omega
 have c:(l= -SC\/l=lo)/\lo<=l/\ -SC<=l:=by
  unfold dD at hl
  split at hl
  ·omega
  ·split at hl <;> omega
 have b:(h=SC\/h=hi)/\h<=hi/\h<=SC:=by
  unfold dD at hh
  split at hh
  ·omega
  ·split at hh <;> omega
 have q:=dR
 have g:l<=h:=by omega
 have d:l<=SC/\ -SC<=h:=by omega
 obtain⟨o1,o2⟩:=dz;have v:=kh hr c.2.2 d.1;have w:=kh hu d.2 b.2.2;refine⟨l,h,r,u,?_,hr,hu,c.2.2,g,b.2.2,?_,?_,?_,?_⟩
 ·rw[<-hz];exact bj (rW hr hu g) (by omega) (by omega)
 ·rcases c.1 with e | e
  ·exact .inl e
  ·exact .inr (by rw[e];exact w1)
 ·rcases b.1 with e | e
  ·exact .inl e
  ·exact .inr (by rw[e];exact f)
 ·exact Rat.le_trans f (Rat.intCast_le_intCast.2 (by omega))
 ·exact Rat.le_trans (Rat.intCast_le_intCast.2 (by omega)) w1
def zp (x:Int):Rat:=((vr x:Int):Rat)*SR/BR
theorem Bc (x:Int):zp x*BR=((vr x:Int):Rat)*SR:=Rat.div_mul_cancel (Rat.ne_of_gt ij)
theorem H4{x:Int}(h:aD x=true):((ak x:Int):Rat)<=zp x/\zp x<=((ak x+1:Int):Rat):=by
 obtain⟨a,b⟩:=fD h
 have a':=Rat.intCast_le_intCast.2 a
 have d:=Rat.intCast_lt_intCast.2 b
 rw[Rat.intCast_mul,Rat.intCast_mul]at a' d;have e:=Bc x;have f:=ij
 have e2:((2^KK:Int):Rat)=BR:=rfl
 rw[e2]at a' d
 constructor
 ·refine Rat.le_of_mul_le_mul_right (c:=BR) ?_ f;rw[e];exact a'
 ·refine Rat.le_of_mul_le_mul_right (c:=BR) ?_ f;rw[e];exact Rat.le_of_lt d
theorem F6 (x:Int):zp (-x)= -zp x:=by
 have e:=Bc x;have f:=Bc (-x);rw[bF,Rat.intCast_neg]at f;have a:=ij;refine Rat.le_antisymm (Rat.le_of_mul_le_mul_right (c:=BR) ?_ a) (Rat.le_of_mul_le_mul_right (c:=BR) ?_ a) <;> grind
def zq (cos:Bool)(x:Int):Rat:=if cos then zp x+qt*SR else zp x
def su (cos:Bool)(x:Int):Rat:=fJ (mA cos (ak x)) (zq cos x)
theorem kx{x:Int}(h:aD x=true): -1073741825*SC<=ak x/\ak x<=1073741824*SC:=by
 obtain⟨a,b⟩:=fD h;have hb:=of_decide_eq_true h;have d:=fL hb.2;have v2:=fL hb.1;rw[bF,dJ (by decide) (by decide)]at v2;rw[dJ (by decide) (by decide)]at d;have c:=aN KK;have f:=Int.mul_lt_mul_of_pos_right d dR;have g:=Int.mul_lt_mul_of_pos_right v2 dR
 constructor
 ·refine Int.le_of_lt_add_one (Int.lt_of_mul_lt_mul_right (a:=2^KK) ?_ (Int.le_of_lt c))
  have e: -1073741825*SC*2^KK<= -(1073741824*2^KK)*SC:=by
   have:=Int.mul_nonneg (Int.le_of_lt dR) (Int.le_of_lt c)
   have e1: -1073741825*SC*2^KK= -1073741825*(SC*2^KK):=Int.mul_assoc _ _ _
   have e2: -(1073741824*2^KK)*SC= -(1073741824*(SC*2^KK)):=by rw[Int.neg_mul,Int.mul_assoc,Int.mul_comm (2^KK) SC]
   rw[e1,e2];generalize SC*2^KK=P at *
   omega
  omega
 ·refine Int.le_of_mul_le_mul_right (a:=2^KK) ?_ c
  have e:1073741824*SC*2^KK=1073741824*2^KK*SC:=by rw[Int.mul_assoc,Int.mul_comm SC,<-Int.mul_assoc]
  omega
theorem GT{cos:Bool}{x:Int}(h:aD x=true): -2147483648*SC<=mA cos (ak x)/\mA cos (ak x)<=2147483648*SC/\mA cos (ak x)<=Be cos (ak x)/\Be cos (ak x)-mA cos (ak x)<=2000000:=by
 obtain⟨a,b⟩:=kx h;generalize ak x=g at *
 unfold mA Be
 cases cos
 ·simp only[Bool.false_eq_true,if_false]
  unfold SC at *
  omega
 ·simp only[if_true]
  unfold SC aH bW at *
  omega
theorem H6{cos:Bool}{x:Int}(h:aD x=true):((mA cos (ak x):Int):Rat)<=zq cos x/\zq cos x<=((Be cos (ak x):Int):Rat):=by
 obtain⟨a,b⟩:=H4 h
 unfold mA Be zq
 cases cos
 ·simp only[Bool.false_eq_true,if_false];exact⟨a,b⟩
 ·simp only[if_true];obtain⟨e,p2⟩:=mg
  have c2:((2:Int):Rat)=2:=rfl
  have c:((aH/2:Int):Rat)<=qt*SR:=by
   have f:=(xB aH 2 (by decide)).1;rw[c2]at f
   grind
  have d:qt*SR<=(((bW+1) /2:Int):Rat):=by
   have f:=Rat.intCast_le_intCast.2 (show bW<=(bW+1) /2*2 by decide)
   rw[Rat.intCast_mul,c2]at f
   grind
  constructor
  ·rw[Rat.intCast_add];exact Ha a c
  ·rw[Rat.intCast_add];exact Ha b d
theorem nM{cos:Bool}{x:Int}{Z:Sp}(hf:aD x=true)(h:Sv cos x Z):SB (su cos x*SR) Z/\ -(17/10)<=fz (mA cos (ak x)) (zq cos x)/\fz (mA cos (ak x)) (zq cos x)<=17/10:=by
 obtain⟨a,b,d,e⟩:=GT (cos:=cos) hf;obtain⟨f,g⟩:=H6 (cos:=cos) hf
 rcases h with⟨c,_⟩ | ⟨_,r,u,i,j,hz⟩
 ·rw[hf]at c
  cases c
 ·exact⟨Ek a b d e f g rfl rfl i j hz,vX a b d e f g⟩
theorem SB.has{s v:Rat}{Z:Sp}(h:SB (s*SR) Z)(v1: -1<=v)(v2:v<=1)(d1:(s-v)*SR<=99)(d2:(v-s)*SR<=99):F8 v Z/\F7 v Z:=
 ⟨h.lo v1 (by grind),h.hi v2 (by grind)⟩
theorem GA:(1/2^200:Rat)*SR<=1/\(1/2^190:Rat)*SR<=4/\(1/2^240:Rat)<=1/2^200/\(1/2^240:Rat)*2<=1/2^200/\(0:Rat) < 1/2^240/\(1/2^200:Rat)<=1/2^190/\(1/2^200:Rat)*16<=1/2^190/\(1/2^190:Rat)<=1/100:=by decide +kernel
theorem Gz{d e:Rat}(h:d<=e){n:Rat}(k:e*SR<=n):d*SR<=n:=Rat.le_trans (Rat.mul_le_mul_of_nonneg_right h (Rat.le_of_lt dS)) k
theorem jH{r:Int}(h:0 < r):∀k:Nat,vr (r+k*9223372036854775808)=vr r*2^k
 | 0=>by rw[show r+((0:Nat):Int)*9223372036854775808=r by omega,Int.pow_zero,Int.mul_one]
 | k+1=>by
  rw[show r+((k+1:Nat):Int)*9223372036854775808=(r+k*9223372036854775808)+9223372036854775808 by omega,AQ (by omega),jH h k,Int.pow_succ,Int.mul_assoc]
def iU:Int:=9670272082156500260225025
theorem zl:vr iU*2^60=2^KK:=by
 have h:=jH (r:=iU) (by decide) 60
 have e:iU+((60:Nat):Int)*9223372036854775808=al 1:=by decide
 rw[e,dJ (by decide) (by decide),Int.one_mul]at h;exact h.symm
theorem qk:al 1=1+(1048576-63)*9223372036854775808:=by decide
theorem ot{m:Int}(h:0 < m)(h2:m<=4611686018427387904):∃p,0 < p/\p < 19342822337206103650074625/\vr p*2^62=m*2^KK:=by
 obtain⟨a,b⟩:=gU h (by omega)
 have c:al 1<=al m:=zf (by decide) (by omega) (by omega)
 have e1:=qk;have s:=jH (r:=al m-62*9223372036854775808) (by omega) 62
 rw[show al m-62*9223372036854775808+((62:Nat):Int)*9223372036854775808=al m by omega,dJ (by omega) (by omega)]at s
 exact⟨_,by omega,by omega,s.symm⟩
theorem GC{m:Int}(h1: -4611686018427387904<=m)(h2:m<=4611686018427387904):∃p,-19342822337206103650074625 < p/\p < 19342822337206103650074625/\vr p*2^62=m*2^KK:=by
 rcases (by omega:m < 0\/m=0\/0 < m)with h | rfl | h
 ·obtain⟨p,a,b,c⟩:=ot (m:= -m) (by omega) (by omega);refine⟨-p,by omega,by omega,?_⟩
  rw[bF,Int.neg_mul,c,Int.neg_mul,Int.neg_neg]
 ·exact⟨0,by decide,by decide,by rw[show vr 0=0 from rfl,Int.zero_mul,Int.zero_mul]⟩
 ·obtain⟨p,a,b,c⟩:=ot h h2;exact⟨p,by omega,b,c⟩
theorem Fv{h u:Int}(hu:Rq true h SC u)(h1: -SC<=h)(h2:h<=SC):∃m,vr u*2^62<=m*2^KK/\m*SC < h*4611686018427387904+SC:=by
 obtain⟨m,hm⟩:∃m,-((-(h*4611686018427387904)) /SC)=m:=⟨_,rfl⟩;have d:=dR;have a:=Int.ediv_mul_le (-(h*4611686018427387904)) (Int.ne_of_gt d);have b:=Int.lt_ediv_add_one_mul_self (-(h*4611686018427387904)) d
 rw[show -(h*4611686018427387904) /SC= -m by omega]at a b
 rw[Int.neg_mul]at a;rw[Int.add_mul,Int.neg_mul,Int.one_mul]at b
 have i:m<=4611686018427387904:=by
  rcases Int.lt_or_le 4611686018427387904 m with c | c
  ·exfalso
   have:=Int.mul_le_mul_of_nonneg_right (show 4611686018427387905<=m by omega) (Int.le_of_lt d)
   unfold SC at *
   omega
  ·exact c
 have j: -4611686018427387904<=m:=by
  rcases Int.lt_or_le m (-4611686018427387904)with c | c
  ·exfalso
   have:=Int.mul_le_mul_of_nonneg_right (show m<= -4611686018427387905 by omega) (Int.le_of_lt d)
   unfold SC at *
   omega
  ·exact c
 obtain⟨p,k,p2,e⟩:=GC j i;refine⟨m,?_,by omega⟩
 have f:=aN KK
 have g:u<=p:=by
  refine oC hu k p2 ?_;refine Int.le_of_mul_le_mul_right (a:=2^62) ?_ (by decide)
  rw[show vr p*SC*2^62=vr p*2^62*SC by rw[Int.mul_assoc,Int.mul_comm SC,<-Int.mul_assoc],e,show h*2^KK*2^62=h*4611686018427387904*2^KK by rw[Int.mul_assoc,Int.mul_comm (2^KK),<-Int.mul_assoc];rfl,show m*2^KK*SC=m*SC*2^KK by rw[Int.mul_assoc,Int.mul_comm (2^KK),<-Int.mul_assoc]]
  exact Int.mul_le_mul_of_nonneg_right (by omega) (Int.le_of_lt f)
 rw[<-e];exact Int.mul_le_mul_of_nonneg_right (ib g) (by decide)
theorem Ft{l r:Int}(hr:Rq false l SC r)(h1: -SC<=l)(h2:l<=SC):∃m,m*2^KK<=vr r*2^62/\l*4611686018427387904 < m*SC+SC:=by
 obtain⟨m,hm⟩:∃m,(l*4611686018427387904) /SC=m:=⟨_,rfl⟩;have d:=dR;have a:=Int.ediv_mul_le (l*4611686018427387904) (Int.ne_of_gt d);have b:=Int.lt_ediv_add_one_mul_self (l*4611686018427387904) d;rw[hm]at a b;rw[Int.add_mul,Int.one_mul]at b
 have h:m<=4611686018427387904:=by
  rcases Int.lt_or_le 4611686018427387904 m with c | c
  ·exfalso
   have:=Int.mul_le_mul_of_nonneg_right (show 4611686018427387905<=m by omega) (Int.le_of_lt d)
   unfold SC at *
   omega
  ·exact c
 have i: -4611686018427387904<=m:=by
  rcases Int.lt_or_le m (-4611686018427387904)with c | c
  ·exfalso
   have:=Int.mul_le_mul_of_nonneg_right (show m<= -4611686018427387905 by omega) (Int.le_of_lt d)
   unfold SC at *
   omega
  ·exact c
 obtain⟨p,j,p2,e⟩:=GC i h;refine⟨m,?_,by omega⟩
 have f:=aN KK
 have g:p<=r:=by
  refine kQ hr j p2 ?_;refine Int.le_of_mul_le_mul_right (a:=2^62) ?_ (by decide)
  rw[show vr p*SC*2^62=vr p*2^62*SC by rw[Int.mul_assoc,Int.mul_comm SC,<-Int.mul_assoc],e,show l*2^KK*2^62=l*4611686018427387904*2^KK by rw[Int.mul_assoc,Int.mul_comm (2^KK),<-Int.mul_assoc];rfl,show m*2^KK*SC=m*SC*2^KK by rw[Int.mul_assoc,Int.mul_comm (2^KK),<-Int.mul_assoc]]
  exact Int.mul_le_mul_of_nonneg_right (by omega) (Int.le_of_lt f)
 rw[<-e];exact Int.mul_le_mul_of_nonneg_right (ib g) (by decide)
theorem SB.tight{σ:Rat}{Z:Sp}(h:SB σ Z):eY Z<=iU:=by
 obtain⟨o1,o2⟩:=dz;obtain⟨A,B,e',n,o,p⟩:=h.unit;obtain⟨l,h,r,u,rfl,i,j,h1,h2,d,_,_,s1,s2⟩:=h
 injection e' with e'
 injection e' with e1 e2
 subst e1;subst e2
 have far:h-l<=35184372088832:=by
  have:=Rat.intCast_le_intCast.1 (Rat.le_trans s2 s1)
  omega
 obtain⟨m,v,z⟩:=Fv j (by omega) d;obtain⟨k,q,t⟩:=Ft i h1 (by omega)
 have b:m-k<=2:=by
  rcases Int.lt_or_le 2 (m-k)with c | c
  ·exfalso
   have:=Int.mul_le_mul_of_nonneg_right (show 3<=m-k by omega) (Int.le_of_lt dR)
   rw[Int.sub_mul]at this
   unfold SC at *
   omega
  ·exact c
 have f:=aN KK
 have w:vr u-vr r<=vr iU:=by
  refine Int.le_of_mul_le_mul_right (a:=2^62) ?_ (by decide);rw[Int.sub_mul]
  have e:vr iU*2^62=4*2^KK:=by
   rw[show (2:Int)^62=2^60*4 by decide,<-Int.mul_assoc,zl,Int.mul_comm]
  have g:=Int.mul_le_mul_of_nonneg_right b (Int.le_of_lt f);rw[Int.sub_mul]at g;rw[e]
  omega
 have s:=(lY (x:=u) (y:= -r) true (by omega) (by omega) (by omega) (by omega)).2;rw[bF]at s;exact s.mono (jh (r:=iU) (by decide) (by decide)) (by omega)
end Go.Proofs.YteigedaefgmojaaGreatDoor
namespace Go.Proofs.YteigedaefgmojaaGreatDoor
open Go.Proofs.Tryz
set_option maxHeartbeats 8000000
open Go.RowKit
set_option linter.unusedVariables false
set_option linter.unusedSimpArgs false
set_option maxRecDepth 100000
def aW (z x y:Int):Bool:=if z < 0 then decide (bW*z<=y) && decide (x<=aH*z)else decide (aH*z<=y) && decide (x<=bW*z)
theorem fC{x y c:Int}(h:ah x y=c):decide (c<=0)=decide (x<=y):=by
 rw[<-h]
 rcases ap x y with⟨a,b⟩ | ⟨a,b⟩ | ⟨a,b⟩ <;> rw[b]
 ·rw[dt (show x<=y by omega)];rfl
 ·rw[dt (show x<=y by omega)];rfl
 ·rw[df (show ¬x<=y by omega)];rfl
theorem pU{w:World}{A:Option Addr}{n c:Nat}{s:Bool}{x:Int}{B:Option Addr}{m d:Nat}{t:Bool}{y:Int}{z:Int}{p q:Bool}(h:Wr w s A n c x)(k:Wr w t B m d y)(hn:n<=1000000)(hm:m<=1000000)(h1: -1152921504606846976<=z)(h2:z<=1152921504606846976)(hs:z < 0)(hp:decide (bW*z<=y)=p)(hq:decide (x<=aH*z)=q):Calls prog 76 #[.int .i64 z,.agg #[.bool s,.slice A n c],.agg #[.bool t,.slice B m d]] w (PB w (p && q)):=by
 obtain⟨σ,hσ⟩:∃σ,ah (bW*z) y=σ:=⟨_,rfl⟩;obtain⟨τ,hτ⟩:∃σ,ah x (aH*z)=σ:=⟨_,rfl⟩;have e1:=fC hσ;have e2:=fC hτ;rw[hp]at e1;rw[hq]at e2
 have ts:decide (z < 0)=true:=dt hs
 have H1:=ie hσ;have H2:=ie hτ;clear hp hq hσ hτ hs
 go_enter func76,ntmps76
 go_upto_region 1 with fail
 generalize N:(w.alloc _).alloc _=w1 at *;obtain⟨e,f,a⟩:=Bo.en2 N;replace h:=h.below a.out;replace k:=k.below a.out;clear N
 go_wp2_with fail
 refine(iO).mono ?_;rintro S P ⟨s7,A7,n7,c7,s8,A8,n8,c8,rfl,I,v,k7,k8,B⟩;refine dG ?_ e f h k a B;clear e f h k a B;intro e f h k a;have hC:=a.out.size
 go_upto_region 2 with fail
 have F:(World.alloc P (.cells #[.bool s7,.slice A7 n7 c7] 43)).heap.size=P.heap.size+1:=by simp
 have bA:=e.lt;have bB:=f.lt;have G:=ab P (.cells #[.bool s7,.slice A7 n7 c7] 43);replace e:=e.b G;replace f:=f.b G;replace h:=h.b G;replace k:=k.b G;replace I:=I.b G
 replace v:=v.b G;replace a:=ie (bt a.out G);have L:=Bo.new P #[.bool s7,.slice A7 n7 c7] 43;generalize i:World.alloc P (.cells #[.bool s7,.slice A7 n7 c7] 43)=w3 at *;clear i;have bC:=e.lt;have bD:=f.lt;have bH:=L.lt;generalize i:w3.alloc _=w4 at *
 obtain⟨E,C⟩:=Bo.nw i;clear i;refine lN ?_ e f L h k I v a C;clear e f L h k I v a C;intro e f L h k I v a;rw[F]at E;clear F;have hA:=L.cell
 go_wp2_with fail
 refine(dr I.wr (by omega) (by omega) (by omega) rfl).mono ?_;rintro S w5 ⟨s9,A9,n9,c9,rfl,o,k9,B⟩;clear hA;refine jP ?_ e f E h k v a B;clear e f E h k v a B;intro e f E h k v a;have hD:=a.out.size
 go_upto_region 3 with fail
 have bN:=e.lt;have gB:=f.lt;have gO:=E.lt;generalize i:w5.alloc _=w6 at *;obtain⟨r,C⟩:=Bo.nw i;clear i;refine lN ?_ e f E h k v o a C;clear e f E h k v o a C;intro e f E h k v o a;have hB:=E.cell
 go_wp2_with fail
 refine(dr v.wr (by omega) (by omega) (by omega) rfl).mono ?_;rintro S w7 ⟨hI,hE,hH,hF,rfl,j,hG,B⟩;clear hB;refine jP ?_ e f r h k o a B;clear e f r h k o a B;intro e f r h k o a;have Z:=a.out.size
 go_upto_region 4 with fail
 have T:=e.lt;have U:=f.lt;have V:=r.lt;generalize i:w7.alloc _=w8 at *;obtain⟨g,C⟩:=Bo.nw i;clear i;refine lN ?_ e f r h k o j a C;clear e f r h k o j a C;intro e f r h k o j a;clear I v
 go_upto_region 5 with fail
 have D:=r.cell
 go_upto_region 6 with fail
 clear D;have W:=e.lt;have X:=f.lt;have Y:=r.lt;have O:=g.lt;generalize i:w8.alloc _=w9 at *;obtain⟨H,C⟩:=Bo.nw i;clear i;refine yI ?_ e f r g h k o j a C;clear e f r g h k o j a C;intro e f r g h k o j a;have D:=r.cell;have R:=r.frozen;have u:=g.cell
 go_upto_region 7 with fail
 clear D R u;generalize M:(w9.setCell _ _).setCell _ _=wA at *;have l:=ae.of2 r M;replace e:=e.s l;replace f:=f.s l;replace g:=g.s l;replace H:=H.s l;replace h:=h.s l;replace k:=k.s l;replace o:=o.s l;replace j:=j.s l
 replace a:=aP a l (by omega);replace r:=l.box;clear l M;have u:=g.cell;have J:=g.frozen;have Q:=H.cell
 go_upto_region 8 with fail
 clear u J Q;generalize M:(wA.setCell _ _).setCell _ _=wB at *;have l:=ae.of2 g M;replace e:=e.s l;replace f:=f.s l;replace r:=r.s l;replace h:=h.s l;replace k:=k.s l;replace o:=o.s l;replace j:=j.s l;replace a:=aP a l (by omega)
 replace g:=l.box;clear l M;clear ts;have D:=r.cell;have gS:=f.cell
 go_wp2_with fail
 refine(oU j.wr k (by omega) (by omega) H1.out).mono ?_;rintro S wX ⟨rfl,B⟩;clear D gS;refine dG ?_ e g h o a B;clear e g h o a B;intro e g h o a
 cases p
 ·clear e2;go_wp2
  go_ret
  exact⟨rfl,a.out⟩
 ·have gP:=e.cell;have u:=g.cell
  go_wp2_with fail
  refine(oU h o.wr (by omega) (by omega) H2.out).mono ?_;rintro S wY ⟨rfl,B⟩;clear gP u;replace a:=aj a B;clear B;go_wp2
  go_ret
  exact⟨rfl,a.out⟩
theorem pV{w:World}{A:Option Addr}{n c:Nat}{s:Bool}{x:Int}{B:Option Addr}{m d:Nat}{t:Bool}{y:Int}{z:Int}{p q:Bool}(h:Wr w s A n c x)(k:Wr w t B m d y)(hn:n<=1000000)(hm:m<=1000000)(h1: -1152921504606846976<=z)(h2:z<=1152921504606846976)(hs:¬z < 0)(hp:decide (aH*z<=y)=p)(hq:decide (x<=bW*z)=q):Calls prog 76 #[.int .i64 z,.agg #[.bool s,.slice A n c],.agg #[.bool t,.slice B m d]] w (PB w (p && q)):=by
 obtain⟨σ,P⟩:∃σ,ah (aH*z) y=σ:=⟨_,rfl⟩;obtain⟨τ,Q⟩:∃σ,ah x (bW*z)=σ:=⟨_,rfl⟩;have e1:=fC P;have e2:=fC Q;rw[hp]at e1;rw[hq]at e2
 have ts:decide (z < 0)=false:=df hs
 have H1:=ie P;have H2:=ie Q;clear hp hq P Q hs
 go_enter func76,ntmps76
 go_upto_region 1 with fail
 generalize G:(w.alloc _).alloc _=w1 at *;obtain⟨e,f,a⟩:=Bo.en2 G;replace h:=h.below a.out;replace k:=k.below a.out;clear G
 go_wp2_with fail
 refine(iO).mono ?_;rintro J H ⟨s7,A7,n7,c7,s8,A8,n8,c8,rfl,E,j,k7,k8,B⟩;refine dG ?_ e f h k a B;clear e f h k a B;intro e f h k a;have bH:=a.out.size
 go_upto_region 2 with fail
 have C:(World.alloc H (.cells #[.bool s7,.slice A7 n7 c7] 43)).heap.size=H.heap.size+1:=by simp
 have R:=e.lt;have S:=f.lt;have D:=ab H (.cells #[.bool s7,.slice A7 n7 c7] 43);replace e:=e.b D;replace f:=f.b D;replace h:=h.b D;replace k:=k.b D;replace E:=E.b D
 replace j:=j.b D;replace a:=ie (bt a.out D);have F:=Bo.new H #[.bool s7,.slice A7 n7 c7] 43;generalize g:World.alloc H (.cells #[.bool s7,.slice A7 n7 c7] 43)=w3 at *;clear g;have T:=e.lt;have U:=f.lt;have V:=F.lt;generalize g:w3.alloc _=w4 at *
 obtain⟨r,u⟩:=Bo.nw g;clear g;refine lN ?_ e f F h k E j a u;clear e f F h k E j a u;intro e f F h k E j a;rw[C]at r;clear C;have bB:=F.cell
 go_wp2_with fail
 refine(dr E.wr (by omega) (by omega) (by omega) rfl).mono ?_;rintro J w5 ⟨s9,A9,n9,c9,rfl,l,k9,B⟩;clear bB;refine jP ?_ e f r h k j a B;clear e f r h k j a B;intro e f r h k j a;have bN:=a.out.size
 go_upto_region 3 with fail
 have W:=e.lt;have X:=f.lt;have Y:=r.lt;generalize g:w5.alloc _=w6 at *;obtain⟨v,u⟩:=Bo.nw g;clear g;refine lN ?_ e f r h k j l a u;clear e f r h k j l a u;intro e f r h k j l a;have bC:=r.cell
 go_wp2_with fail
 refine(dr j.wr (by omega) (by omega) (by omega) rfl).mono ?_;rintro J w7 ⟨hA,gB,gS,gO,rfl,i,gP,B⟩;clear bC;refine jP ?_ e f v h k l a B;clear e f v h k l a B;intro e f v h k l a;have O:=a.out.size
 go_upto_region 4 with fail
 have L:=e.lt;have M:=f.lt;have N:=v.lt;generalize g:w7.alloc _=w8 at *;obtain⟨o,u⟩:=Bo.nw g;clear g;refine lN ?_ e f v h k l i a u;clear e f v h k l i a u;intro e f v h k l i a;clear E j
 go_upto_region 8 with fail
 clear ts;have bD:=v.cell;have bA:=f.cell
 go_wp2_with fail
 refine(oU l.wr k (by omega) (by omega) H1.out).mono ?_;rintro J wX ⟨rfl,B⟩;clear bD bA;refine dG ?_ e o h i a B;clear e o h i a B;intro e o h i a
 cases p
 ·clear e2;go_wp2
  go_ret
  exact⟨rfl,a.out⟩
 ·have Z:=e.cell;have I:=o.cell
  go_wp2_with fail
  refine(oU h i.wr (by omega) (by omega) H2.out).mono ?_;rintro J wY ⟨rfl,B⟩;clear Z I;replace a:=aj a B;clear B;go_wp2
  go_ret
  exact⟨rfl,a.out⟩
theorem xR{w:World}{A:Option Addr}{n c:Nat}{s:Bool}{x:Int}{B:Option Addr}{m d:Nat}{t:Bool}{y:Int}{z:Int}{r:Bool}(h:Wr w s A n c x)(k:Wr w t B m d y)(hn:n<=1000000)(hm:m<=1000000)(h1: -1152921504606846976<=z)(h2:z<=1152921504606846976)(hr:aW z x y=r):Calls prog 76 #[.int .i64 z,.agg #[.bool s,.slice A n c],.agg #[.bool t,.slice B m d]] w (PB w r):=by
 unfold aW at hr
 by_cases hs:z < 0
 ·rw[if_pos hs]at hr;rw[<-hr];exact pU h k hn hm h1 h2 hs rfl rfl
 ·rw[if_neg hs]at hr;rw[<-hr];exact pV h k hn hm h1 h2 hs rfl rfl
theorem Eo{x y c:Int}(h:ah x y=c):decide (c<=0)=decide (x<=y):=by
 rw[<-h]
 by_cases e:x<=y
 ·rw[dt e]
  exact dt (by rcases ap x y with⟨a,b⟩ | ⟨a,b⟩ | ⟨a,b⟩ <;> rw[b] <;> omega)
 ·rw[df e]
  exact df (by rcases ap x y with⟨a,b⟩ | ⟨a,b⟩ | ⟨a,b⟩ <;> rw[b] <;> omega)
theorem yT{x y:Int}(hx: -19342822337206103650074625 < x/\x < 19342822337206103650074625)(hy: -19342822337206103650074625 < y/\y < 19342822337206103650074625):lT (ep x) (ep y):=by
 have h:=((wy hx.1 hx.2 hy.1 hy.2).1 1 (by simp)).2.1
 have e1:vy [ep x]=ep x:=by
  show pl (0,0) (mk (ep x).1 (ep x).2)=ep x
  rw[gg x]
  unfold pl
  rw[if_pos rfl]
 have b:mk (ep y).1 (ep y).2=ep y:=gg y
 have a:lT (vy [ep x]) (mk (ep y).1 (ep y).2):=h
 rw[e1,b]at a;exact a
theorem vf{w:World}{A B:Option Addr}{n c m d:Nat}{s t:Bool}{z e y f N1 E1 N2 E2 N E:Int}(h:Wr w s A n c z)(k:Wr w t B m d y)(hn:n<=10)(hm:m<=10)
  (HN1:Hid ((mk z e).1=N1)) (HE1:Hid ((mk z e).2=E1)) (HN2:Hid ((mk y f).1=N2)) (HE2:Hid ((mk y f).2=E2)) (h1:N1≠0) (h2:N2≠0) (hle:E1<=E2) (hfar:E2-E1<=2240000) (b1: -4194304<=E1) (b2:E2<=4194304)
  (HN:Hid ((mk (N1+N2*((2^(E2-E1).toNat:Nat):Int)) E1).1=N)) (HE:Hid ((mk (N1+N2*((2^(E2-E1).toNat:Nat):Int)) E1).2=E)):
  Calls prog 166 #[.agg #[.bool s,.slice A n c,.int .i64 e],.agg #[.bool t,.slice B m d,.int .i64 f]] w (D1 w (n+m+70010) N E):=by
 obtain⟨δ,Y⟩:∃x,E2-E1=x:=⟨_,rfl⟩
 have HW:Hid (IntKind.i64.wrap (E2-E1)=δ):=ie (by rw[Y];exact IntWalk.i64_in _ (by omega))
 have X:0<=δ:=by omega
 rw[Y]at hfar HN HE
 have hH:decide (E2 < E1)=false:=by simp;omega
 clear Y
 go_enter func166,ntmps166
 go_upto_region 1 with fail
 generalize J:((w.alloc _).alloc _).alloc _=w1 at *;obtain⟨X1,C,j,l⟩:=Bo.en3 J;replace h:=h.below l.out;replace k:=k.below l.out;clear J;have bH:=X1.cell
 go_wp2_with fail
 refine(bE h (by omega) HN1.out HE1.out).mono ?_;rintro U O ⟨s1,A1,n1,c1,rfl,p,k1,B⟩;clear bH;refine dG ?_ C j h k l B;clear C j h k l B;intro C j h k l;have D:=C.cell
 go_upto_region 2 with fail
 clear D;have hD:=Nat.le_refl (World.heap O).size;have bA:=C.lt;have bB:=j.lt;generalize u:O.alloc _=w3 at *;obtain⟨o,G⟩:=Bo.nw u;clear u;refine dG ?_ C j k p l G;clear C j k p l G;intro C j k p l;have D:=C.cell
 go_wp2_with fail
 refine(bE k (by omega) HN2.out HE2.out).mono ?_;rintro U F ⟨s2,A2,n2,c2,rfl,p2,k2,B⟩;clear D;refine dG ?_ j o k p l B;clear j o k p l B;intro j o k p l
 go_upto_region 3 with fail
 have bD:=j.lt;have bC:=o.lt;generalize u:F.alloc _=w5 at *;obtain⟨H,G⟩:=Bo.nw u;clear u;refine dG ?_ j o p p2 l G;clear j o p p2 l G;intro j o p p2 l
 have hB:0 < n1:=by have:=p.1.pos;omega
 have qa:((n1:Int)==0)=false:=by
  have:(n1:Int)≠0:=by omega
  simpa using this
 have la:=p.1.rd.big
 have hC:0 < n2:=by have:=p2.1.pos;omega
 have qb:((n2:Int)==0)=false:=by
  have:(n2:Int)≠0:=by omega
  simpa using this
 have lb:=p2.1.rd.big;clear h1 h2;have P:=o.cell;have bN:=H.cell
 go_upto_region 11 with fail
 clear P bN;have HC:=ie (lu s2 N2 (2^δ.toNat) p2.wr.eq);have hE:=o.lt;have hF:=H.lt;have hG:=j.lt;refine aV [0,1,2,3,4,5,6,7,8,9,10,11,12,13] [40,41,42,43,44,45,46,47,48,49,50,51,52,9,0] [[],[0],[1],[],[3],[4],[],[6],[],[8],[7,9],[5,10],[2,11],[],[]] 15 1 [Jo.qp F.heap.size 0,Jo.qp F.heap.size 0,Jo.qb s2,Jo.qp F.heap.size 0,Jo.qp F.heap.size 1,Jo.Fact.eq (.slice A2 n2 c2),Jo.qp F.heap.size 2,Jo.qi E2,Jo.qp O.heap.size 2,Jo.qi E1,Jo.qi δ,Jo.Fact.nm (N2.natAbs*2^δ.toNat) (n2+δ.toNat/32+1),Jo.Fact.wn (N2*((2^δ.toNat:Nat):Int)) (n2+δ.toNat/32+1),Jo.Fact.bo w5.heap.size #[.bool false,.slice none 0 0] 43,Jo.Fact.any] ?_ ?_
 ·iterate 2 (refine jm ?_ ?_;rotate_left)
  refine jm ?_ ?_
  ·rintro q g _ rfl K i;have gO:=(H.b g).a 0 (.bool s2) rfl;go_simp;exact i.out _ _ rfl (br _ _)
  iterate 2 (refine jm ?_ ?_;rotate_left)
  refine jm ?_ ?_
  ·rintro q g _ rfl K i;have gP:=(H.b g).a 1 (.slice A2 n2 c2) rfl;go_simp;exact i.out _ _ rfl (br _ _)
  refine jm ?_ ?_;rotate_left
  refine jm ?_ ?_
  ·rintro q g _ rfl K i;have gS:=(H.b g).a 2 (.int .i64 E2) rfl;go_simp;exact i.out _ _ rfl (br _ _)
  refine jm ?_ ?_;rotate_left
  refine jm ?_ ?_
  ·rintro q g _ rfl K i;have Q:=(o.b g).a 2 (.int .i64 E1) rfl;go_simp;exact i.out _ _ rfl (br _ _)
  refine jm ?_ ?_
  ·rintro q g _ rfl _ rfl K i;have hw:=HW.out;go_simp;exact i.out _ _ rfl (br _ _)
  refine jm ?_ ?_
  ·rintro q g _ rfl _ rfl K i;go_simp;refine(gZ (p2.b g).1.rd (by omega) X (by omega) rfl).mono ?_;rintro U wk ⟨A7,n7,c7,rfl,p7,k7,B⟩;exact i.out _ _ ⟨A7,n7,c7,rfl,p7,k7⟩ B
  refine jm ?_ ?_
  ·rintro q g _ rfl _ ⟨A7,n7,c7,rfl,p7,k7⟩ K i;go_simp;refine(bO s2 p7.rd).mono ?_;rintro U wk ⟨s8,V,n8,W,rfl,M,k8,B⟩;exact i.out _ _ ⟨s8,V,n8,W,rfl,HC.out▸M,Nat.le_trans k8 k7⟩ B
  refine jm ?_ ?_
  ·rintro q g K i;go_simp;exact i.out _ _ ⟨_,rfl,g.size,Bo.new _ _ _⟩ (ab _ _)
  exact jo
  all_goals (rintro q g;(repeat rintro _ rfl);intro K i;go_simp;exact i.out _ _ rfl (br _ _))
 rintro w9 g _ _ _ _ _ rfl _ _ _ _ _ rfl _ _ _ rfl _ _ _ rfl _ rfl _ ⟨A7,n7,c7,rfl,_,_⟩ _ ⟨s8,V,n8,W,rfl,M,k8⟩ _ ⟨g8,rfl,hA,I⟩ -;simp only[Jo.z];replace j:=j.b g;replace o:=o.b g;replace p:=p.b g;replace l:=aj l g;have R:=I.cell;have S:=I.frozen
 refine jn 14 fun K i=>?_
 go_simp;refine i.out _ _ ?_;clear i K R S;generalize hS:(w9.setCell _ _).setCell _ _=hI at *;have r:=ae.of2 I hS;replace j:=j.s r;replace o:=o.s r;replace p:=p.s r;replace M:=M.s r;replace l:=aP l r (by omega);replace I:=r.box;clear r hS;refine jd ?_
 go_upto_region 12 with fail
 refine aV [0,1,2,3,4,5,6] [53,54,55,56,57,58,59,0] [[],[0],[],[1,2],[],[4],[3,5],[]] 8 1 [Jo.qp O.heap.size 0,Jo.Fact.eq (.agg #[.bool s1,.slice A1 n1 c1]),Jo.Fact.eq (.agg #[.bool s8,.slice V n8 W]),Jo.Fact.wn (N1+N2*((2^δ.toNat:Nat):Int)) (n+m+70010),Jo.qp O.heap.size 2,Jo.qi E1,Jo.Fact.dy N E (n+m+70010),Jo.Fact.any] ?_ ?_
 ·iterate 3 (refine jm ?_ ?_;rotate_left)
  refine jm ?_ ?_
  ·rintro q g _ rfl _ rfl K i;go_simp;exact Jo.w1 (fS (p.b g).wr (M.b g).wr (by omega) (by omega) rfl) i.out
  refine jm ?_ ?_;rotate_left
  refine jm ?_ ?_
  ·rintro q g _ rfl K i;have Q:=(o.b g).a 2 (.int .i64 E1) rfl;go_simp;exact i.out _ _ rfl (br _ _)
  refine jm ?_ ?_
  ·rintro q g _ ⟨s3,A3,n3,c3,rfl,p3,k3⟩ _ rfl K i;go_simp;refine(bE p3.wr (by omega) HN.out HE.out).mono ?_;rintro U wk ⟨s4,A4,n4,c4,rfl,L,Z,B⟩;exact i.out _ _ ⟨s4,A4,n4,c4,rfl,L,Nat.le_trans Z k3⟩ B
  exact jo
  all_goals (rintro q g;(repeat rintro _ rfl);intro K i;have P:=(o.b g).cell;have R:=(I.b g).cell;go_simp;exact i.out _ _ rfl (br _ _))
 rintro hL g _ _ _ rfl _ rfl _ ⟨s3,A3,n3,c3,rfl,_,_⟩ _ _ _ rfl _ ⟨s4,A4,n4,c4,rfl,L,Z⟩ -;simp only[Jo.z];replace j:=j.b g;replace l:=aj l g;have gB:=j.cell;have T:=j.frozen
 refine jn 7 fun K i=>?_
 go_simp;refine i.out _ _ ?_;clear i K gB T;have r:=ae.mk3 j (.bool s4) (.slice A4 n4 c4) (.int .i64 E);replace L:=L.s r;refine jd ?_;go_wp2;exact bq (v:= .agg #[.bool s4,.slice A4 n4 c4,.int .i64 E]) (by simp[results,results166,go_sem,r.box.cell]) rfl ⟨s4,_,_,_,rfl,L,Z,(r.below l.out (by omega))⟩
theorem ve{w:World}{A B:Option Addr}{n c m d:Nat}{s t:Bool}{z e y f N1 E1 N2 E2 N E:Int}(h:Wr w s A n c z)(k:Wr w t B m d y)(hn:n<=10)(hm:m<=10)
  (HN1:Hid ((mk z e).1=N1)) (HE1:Hid ((mk z e).2=E1)) (HN2:Hid ((mk y f).1=N2)) (HE2:Hid ((mk y f).2=E2)) (h1:N1≠0) (h2:N2≠0) (hle:E2 < E1) (hfar:E1-E2<=2240000) (b1: -4194304<=E2) (b2:E1<=4194304)
  (HN:Hid ((mk (N2+N1*((2^(E1-E2).toNat:Nat):Int)) E2).1=N)) (HE:Hid ((mk (N2+N1*((2^(E1-E2).toNat:Nat):Int)) E2).2=E)):
  Calls prog 166 #[.agg #[.bool s,.slice A n c,.int .i64 e],.agg #[.bool t,.slice B m d,.int .i64 f]] w (D1 w (n+m+70010) N E):=by
 obtain⟨δ,hδ⟩:∃x,E1-E2=x:=⟨_,rfl⟩
 have HW:Hid (IntKind.i64.wrap (E1-E2)=δ):=ie (by rw[hδ];exact IntWalk.i64_in _ (by omega))
 have bA:0<=δ:=by omega
 rw[hδ]at hfar HN HE
 have hP:decide (E2 < E1)=true:=by simp;omega
 clear hδ
 go_enter func166,ntmps166
 go_upto_region 1 with fail
 generalize O:((w.alloc _).alloc _).alloc _=w1 at *;obtain⟨X1,F,g,l⟩:=Bo.en3 O;replace h:=h.below l.out;replace k:=k.below l.out;clear O;have gP:=X1.cell
 go_wp2_with fail
 refine(bE h (by omega) HN1.out HE1.out).mono ?_;rintro Y R ⟨s1,A1,n1,c1,rfl,q,k1,B⟩;clear gP;refine dG ?_ F g h k l B;clear F g h k l B;intro F g h k l;have J:=F.cell
 go_upto_region 2 with fail
 clear J;have hH:=Nat.le_refl (World.heap R).size;have bB:=F.lt;have bC:=g.lt;generalize r:R.alloc _=w3 at *;obtain⟨p,H⟩:=Bo.nw r;clear r;refine dG ?_ F g k q l H;clear F g k q l H;intro F g k q l;have J:=F.cell
 go_wp2_with fail
 refine(bE k (by omega) HN2.out HE2.out).mono ?_;rintro Y L ⟨s2,A2,n2,c2,rfl,p2,k2,B⟩;clear J;refine dG ?_ g p k q l B;clear g p k q l B;intro g p k q l
 go_upto_region 3 with fail
 have bH:=g.lt;have bD:=p.lt;generalize r:L.alloc _=w5 at *;obtain⟨u,H⟩:=Bo.nw r;clear r;refine dG ?_ g p q p2 l H;clear g p q p2 l H;intro g p q p2 l
 have hF:0 < n1:=by have:=q.1.pos;omega
 have qa:((n1:Int)==0)=false:=by
  have:(n1:Int)≠0:=by omega
  simpa using this
 have la:=q.1.rd.big
 have hG:0 < n2:=by have:=p2.1.pos;omega
 have qb:((n2:Int)==0)=false:=by
  have:(n2:Int)≠0:=by omega
  simpa using this
 have lb:=p2.1.rd.big;clear h1 h2;have G:=p.cell;have D:=u.cell
 go_upto_region 9 with fail
 clear G D;have hI:=Nat.le_refl (World.heap w5).size;have gO:=g.lt;have bN:=p.lt;have gB:=u.lt;generalize r:w5.alloc _=w6 at *;obtain⟨X7,H⟩:=Bo.nw r;clear r;refine jD ?_ g p u q p2 l H;clear g p u q p2 l H;intro g p u q p2 l
 have D:=u.cell;have G:=p.cell;have U:=p.frozen
 go_upto_region 10 with fail
 clear D G U;generalize I:((w6.setCell _ _).setCell _ _).setCell _ _=w7 at *;have o:=ae.of3 p I;replace g:=g.s o;replace u:=u.s o;replace X7:=X7.s o;replace q:=q.s o;replace p2:=p2.s o;replace l:=aP l o (by omega);replace p:=o.box
 clear o I;have gS:=X7.cell;have D:=u.cell;have V:=u.frozen
 go_upto_region 11 with fail
 clear gS D V;generalize I:((w7.setCell _ _).setCell _ _).setCell _ _=w8 at *;have o:=ae.of3 u I;replace g:=g.s o;replace p:=p.s o;replace q:=q.s o;replace p2:=p2.s o;replace l:=aP l o (by omega);replace u:=o.box;clear o I;have HC:=ie (lu s1 N1 (2^δ.toNat) q.wr.eq)
 have hL:=p.lt;have hM:=u.lt;have hN:=g.lt;refine aV [0,1,2,3,4,5,6,7,8,9,10,11,12,13] [40,41,42,43,44,45,46,47,48,49,50,51,52,9,0] [[],[0],[1],[],[3],[4],[],[6],[],[8],[7,9],[5,10],[2,11],[],[]] 15 1 [Jo.qp L.heap.size 0,Jo.qp L.heap.size 0,Jo.qb s1,Jo.qp L.heap.size 0,Jo.qp L.heap.size 1,Jo.Fact.eq (.slice A1 n1 c1),Jo.qp L.heap.size 2,Jo.qi E1,Jo.qp R.heap.size 2,Jo.qi E2,Jo.qi δ,Jo.Fact.nm (N1.natAbs*2^δ.toNat) (n1+δ.toNat/32+1),Jo.Fact.wn (N1*((2^δ.toNat:Nat):Int)) (n1+δ.toNat/32+1),Jo.Fact.bo w8.heap.size #[.bool false,.slice none 0 0] 43,Jo.Fact.any] ?_ ?_
 ·iterate 2 (refine jm ?_ ?_;rotate_left)
  refine jm ?_ ?_
  ·rintro C i _ rfl K j;have hB:=(u.b i).a 0 (.bool s1) rfl;go_simp;exact j.out _ _ rfl (br _ _)
  iterate 2 (refine jm ?_ ?_;rotate_left)
  refine jm ?_ ?_
  ·rintro C i _ rfl K j;have hC:=(u.b i).a 1 (.slice A1 n1 c1) rfl;go_simp;exact j.out _ _ rfl (br _ _)
  refine jm ?_ ?_;rotate_left
  refine jm ?_ ?_
  ·rintro C i _ rfl K j;have hD:=(u.b i).a 2 (.int .i64 E1) rfl;go_simp;exact j.out _ _ rfl (br _ _)
  refine jm ?_ ?_;rotate_left
  refine jm ?_ ?_
  ·rintro C i _ rfl K j;have S:=(p.b i).a 2 (.int .i64 E2) rfl;go_simp;exact j.out _ _ rfl (br _ _)
  refine jm ?_ ?_
  ·rintro C i _ rfl _ rfl K j;have hw:=HW.out;go_simp;exact j.out _ _ rfl (br _ _)
  refine jm ?_ ?_
  ·rintro C i _ rfl _ rfl K j;go_simp;refine(gZ (q.b i).1.rd (by omega) bA (by omega) rfl).mono ?_;rintro Y wk ⟨A7,n7,c7,rfl,p7,k7,B⟩;exact j.out _ _ ⟨A7,n7,c7,rfl,p7,k7⟩ B
  refine jm ?_ ?_
  ·rintro C i _ rfl _ ⟨A7,n7,c7,rfl,p7,k7⟩ K j;go_simp;refine(bO s1 p7.rd).mono ?_;rintro Y wk ⟨s8,Z,n8,c8,rfl,Q,k8,B⟩;exact j.out _ _ ⟨s8,Z,n8,c8,rfl,HC.out▸Q,Nat.le_trans k8 k7⟩ B
  refine jm ?_ ?_
  ·rintro C i K j;go_simp;exact j.out _ _ ⟨_,rfl,i.size,Bo.new _ _ _⟩ (ab _ _)
  exact jo
  all_goals (rintro C i;(repeat rintro _ rfl);intro K j;go_simp;exact j.out _ _ rfl (br _ _))
 rintro w9 i _ _ _ _ _ rfl _ _ _ _ _ rfl _ _ _ rfl _ _ _ rfl _ rfl _ ⟨A7,n7,c7,rfl,_,_⟩ _ ⟨s8,Z,n8,c8,rfl,Q,k8⟩ _ ⟨g8,rfl,hE,M⟩ -;simp only[Jo.z];replace g:=g.b i;replace p:=p.b i;replace p2:=p2.b i;replace l:=aj l i;have T:=M.cell;have W:=M.frozen
 refine jn 14 fun K j=>?_
 go_simp;refine j.out _ _ ?_;clear j K T W;generalize I:(w9.setCell _ _).setCell _ _=hQ at *;have o:=ae.of2 M I;replace g:=g.s o;replace p:=p.s o;replace p2:=p2.s o;replace Q:=Q.s o;replace l:=aP l o (by omega);replace M:=o.box;clear o I;refine jd ?_
 go_upto_region 12 with fail
 refine aV [0,1,2,3,4,5,6] [53,54,55,56,57,58,59,0] [[],[0],[],[1,2],[],[4],[3,5],[]] 8 1 [Jo.qp R.heap.size 0,Jo.Fact.eq (.agg #[.bool s2,.slice A2 n2 c2]),Jo.Fact.eq (.agg #[.bool s8,.slice Z n8 c8]),Jo.Fact.wn (N2+N1*((2^δ.toNat:Nat):Int)) (n+m+70010),Jo.qp R.heap.size 2,Jo.qi E2,Jo.Fact.dy N E (n+m+70010),Jo.Fact.any] ?_ ?_
 ·iterate 3 (refine jm ?_ ?_;rotate_left)
  refine jm ?_ ?_
  ·rintro C i _ rfl _ rfl K j;go_simp;exact Jo.w1 (fS (p2.b i).wr (Q.b i).wr (by omega) (by omega) rfl) j.out
  refine jm ?_ ?_;rotate_left
  refine jm ?_ ?_
  ·rintro C i _ rfl K j;have S:=(p.b i).a 2 (.int .i64 E2) rfl;go_simp;exact j.out _ _ rfl (br _ _)
  refine jm ?_ ?_
  ·rintro C i _ ⟨s3,A3,n3,c3,rfl,p3,k3⟩ _ rfl K j;go_simp;refine(bE p3.wr (by omega) HN.out HE.out).mono ?_;rintro Y wk ⟨s4,A4,n4,c4,rfl,P,k4,B⟩;exact j.out _ _ ⟨s4,A4,n4,c4,rfl,P,Nat.le_trans k4 k3⟩ B
  exact jo
  all_goals (rintro C i;(repeat rintro _ rfl);intro K j;have G:=(p.b i).cell;have T:=(M.b i).cell;go_simp;exact j.out _ _ rfl (br _ _))
 rintro hR i _ _ _ rfl _ rfl _ ⟨s3,A3,n3,c3,rfl,_,_⟩ _ _ _ rfl _ ⟨s4,A4,n4,c4,rfl,P,k4⟩ -;simp only[Jo.z];replace g:=g.b i;replace l:=aj l i;have hA:=g.cell;have X:=g.frozen
 refine jn 7 fun K j=>?_
 go_simp;refine j.out _ _ ?_;clear j K hA X;have o:=ae.mk3 g (.bool s4) (.slice A4 n4 c4) (.int .i64 E);replace P:=P.s o;refine jd ?_;go_wp2;exact bq (v:= .agg #[.bool s4,.slice A4 n4 c4,.int .i64 E]) (by simp[results,results166,go_sem,o.box.cell]) rfl ⟨s4,_,_,_,rfl,P,k4,(o.below l.out (by omega))⟩
theorem Fk{w:World}{A B:Option Addr}{n c m d:Nat}{s t:Bool}{z e y f N E:Int}(h:Wr w s A n c z)(k:Wr w t B m d y)(hn:n<=10)(hm:m<=10)(hf:lT (mk z e) (mk y f))
  (hN:(pl (mk z e) (mk y f)).1=N) (hE:(pl (mk z e) (mk y f)).2=E):
  Calls prog 166 #[.agg #[.bool s,.slice A n c,.int .i64 e],.agg #[.bool t,.slice B m d,.int .i64 f]] w (D1 w (n+m+70010) N E):=by
 have a:∀K,K<=n+m+70010->∀N E e w',D1 w K N E e w'->D1 w (n+m+70010) N E e w':=fun K hK N E e w' ⟨s,A,n,c,e1,p,q,b⟩=>⟨s,A,n,c,e1,p,Nat.le_trans q hK,b⟩
 obtain⟨i,j⟩:=eR z e;obtain⟨l,o⟩:=eR y f
 unfold pl at hN hE
 by_cases h1:(mk z e).1=0
 ·rw[if_pos h1]at hN hE;subst hN;subst hE;exact(CR h k (by omega) (by omega) (ie rfl) (ie rfl) (ie rfl) (ie rfl) h1).mono (a _ (by omega) _ _)
 ·rw[if_neg h1]at hN hE
  by_cases h2:(mk y f).1=0
  ·rw[if_pos h2]at hN hE;subst hN;subst hE;exact(CS h k (by omega) (by omega) (ie rfl) (ie rfl) (ie rfl) (ie rfl) h1 h2).mono (a _ (by omega) _ _)
  ·rw[if_neg h2]at hN hE;obtain⟨g1,g2⟩:=hf h1 h2
   by_cases g:(mk z e).2<=(mk y f).2
   ·rw[Int.min_eq_left g]at hN hE;exact vf h k hn hm (ie rfl) (ie rfl) (ie rfl) (ie rfl) h1 h2 g g2 i o (ie (by simpa using hN)) (ie (by simpa using hE))
   ·rw[Int.min_eq_right (by omega),Int.add_comm]at hN hE;exact ve h k hn hm (ie rfl) (ie rfl) (ie rfl) (ie rfl) h1 h2 (by omega) g1 l j (ie (by simpa using hN)) (ie (by simpa using hE))
theorem GD{w:World}{D D' M M' E E':Int}{s s':Bool}{up:Bool}{x y r:Int}(hM:LQ M)(hM':LQ M')(hx:rk D s M E=x)(hy:rk D' s' M' E'=y)(hr:dj up x y=r):Calls prog 109 #[VQ D s M E,VQ D' s' M' E',.bool up] w (PN w r):=by
 delta VQ
 have HX:=ie hx;have HY:=ie hy;clear hx hy
 go_enter func109,ntmps109
 go_upto_region 1 with fail
 generalize U:((w.alloc _).alloc _).alloc _=w1 at *;obtain⟨X1,t,a,c⟩:=Bo.en3 U;clear U;have hI:=X1.cell
 go_wp2_with fail
 refine(ou hM HX.out).mono ?_;rintro H w2 ⟨Y,s1,Z,X,rfl,o,B⟩;clear hI;refine aE ?_ t a c B;clear t a c B;intro t a c
 go_upto_region 2 with fail
 have hC:=t.lt;have hD:=a.lt;generalize f:w2.alloc _=w3 at *;obtain⟨k,m⟩:=Bo.nw f;clear f;refine aE ?_ t a c m;clear t a c m;intro t a c;have hJ:=t.cell
 go_wp2_with fail
 refine(ou hM' HY.out).mono ?_;rintro H w4 ⟨K2,s2,M2,E2,rfl,p,B⟩;clear hJ;refine aE ?_ a k c B;clear a k c B;intro a k c
 go_upto_region 3 with fail
 have hF:=a.lt;have hE:=k.lt;generalize f:w4.alloc _=w5 at *;obtain⟨j,m⟩:=Bo.nw f;clear f;refine aE ?_ a k c m;clear a k c m;intro a k c;have i1:=mV o;have i2:=mV p
 by_cases k1:Y=2
 ·subst k1
  have I:bg x=true:=i1
  by_cases G:K2=2
  ·subst G
   have J:bg y=true:=i2
   by_cases V:s1=s2
   ·rw[lX up I ((j5 o p).2 V)]at hr;subst hr;subst V;clear i1 i2 I J p;have i:=a.cell;have d:=a.frozen;have h:=k.cell;have g:=j.cell;go_wp2;clear i d h g;have l:=ae.t4 a 2 s1 Z X
    exact bq (by simp[results,results109,go_sem,l.box.cell]) rfl ⟨_,_,_,_,rfl,o,(l.below c.out (by omega))⟩
   ·rw[gI up I J (fun e=>V ((j5 o p).1 e))]at hr
    obtain rfl:(!s1)=s2:=by cases s1 <;> cases s2 <;> first | rfl | exact absurd rfl V
    have e2:(s1==!s1)=false:=by cases s1 <;> rfl
    have v:=ie hr;clear i1 i2 I J o p hr V;have h:=k.cell;have g:=j.cell
    go_wp2_with fail
    refine(vL (s:=!up) v.out).mono ?_;rintro H w6 ⟨K3,s3,M3,E3,rfl,q3,B⟩;clear h g;refine dk ?_ a k j c B;clear a k j c B;intro a k j c;have i:=a.cell;have d:=a.frozen;go_wp2;clear i d;have l:=ae.t4 a K3 s3 M3 E3
    exact bq (by simp[results,results109,go_sem,l.box.cell]) rfl ⟨_,_,_,_,rfl,q3,(l.below c.out (by omega))⟩
  ·have e2:(K2==2)=false:=by simpa using G
   rw[e2]at i2;rw[gJ up I i2]at hr;subst hr;clear i1 i2 I p G;have i:=a.cell;have d:=a.frozen;have h:=k.cell;have g:=j.cell;go_wp2;clear i d h g;have l:=ae.t4 a 2 s1 Z X;exact bq (by simp[results,results109,go_sem,l.box.cell]) rfl ⟨_,_,_,_,rfl,o,(l.below c.out (by omega))⟩
 ·have e1:(Y==2)=false:=by simpa using k1
  rw[e1]at i1
  by_cases G:K2=2
  ·subst G
   have J:bg y=true:=i2
   rw[iD up i1 J]at hr;subst hr;clear i1 i2 J o k1;have i:=a.cell;have d:=a.frozen;have h:=k.cell;have g:=j.cell;go_wp2;clear i d h g;have l:=ae.t4 a 2 s2 M2 E2;exact bq (by simp[results,results109,go_sem,l.box.cell]) rfl ⟨_,_,_,_,rfl,p,(l.below c.out (by omega))⟩
  ·have e2:(K2==2)=false:=by simpa using G
   rw[e2]at i2;rw[fe up i1 i2]at hr;have n:=yT (iu o.bd.1 o.bd.2 i1) (iu p.bd.1 p.bd.2 i2);clear i1 i2;obtain⟨m1,b1,x1⟩:=xD o k1;obtain⟨m2,b2,x2⟩:=xD p G;obtain⟨Q,C⟩:∃N,(ep x).1=N:=⟨_,rfl⟩;obtain⟨L,z⟩:∃N,(ep x).2=N:=⟨_,rfl⟩;obtain⟨R,F⟩:∃N,(ep y).1=N:=⟨_,rfl⟩;obtain⟨O,A⟩:∃N,(ep y).2=N:=⟨_,rfl⟩
   have g1:mk Q L=ep x:=by rw[<-C,<-z];exact gg x
   have g2:mk R O=ep y:=by rw[<-F,<-A];exact gg y
   have bC:=ie b1;have bD:=ie b2
   have gB:=ie (show (iL Y s1 Z X).1=Q by rw[x1,C])
   have bH:=ie (show (iL Y s1 Z X).2=L by rw[x1,z])
   have gO:=ie (show (iL K2 s2 M2 E2).1=R by rw[x2,F])
   have bN:=ie (show (iL K2 s2 M2 E2).2=O by rw[x2,A])
   obtain⟨P,S⟩:∃P,pl (ep x) (ep y)=P:=⟨_,rfl⟩
   have T:mk P.1 P.2=P:=by rw[<-S];exact GX (gg x) (gg y)
   have gS:=ie (show (pl (mk Q L) (mk R O)).1=P.1 by rw[g1,g2,S])
   have hA:=ie (show (pl (mk Q L) (mk R O)).2=P.2 by rw[g1,g2,S])
   rw[S]at hr
   have v:=ie (show dM up (mk P.1 P.2).1 (mk P.1 P.2).2=r by rw[T];exact hr)
   have gP:=ie (show lT (mk Q L) (mk R O) by rw[g1,g2];exact n)
   clear n;clear b1 b2 x1 x2 C z F A S T hr g1 g2;have h:=k.cell;have g:=j.cell
   go_wp2_with fail
   refine(jq m1 o.top bC.out gB.out bH.out).mono ?_;rintro H w6 ⟨sa,Aa,na,ca,rfl,q,ka,B⟩;clear h g;refine aE ?_ a j c B;clear a j c B;intro a j c
   go_upto_region 10 with fail
   have hH:=a.lt;have hG:=j.lt;generalize f:w6.alloc _=w7 at *;obtain⟨u,m⟩:=Bo.nw f;clear f;refine dk ?_ a j q c m;clear a j q c m;intro a j q c;have g:=j.cell
   go_wp2_with fail
   refine(jq m2 p.top bD.out gO.out bN.out).mono ?_;rintro H w8 ⟨sb,Ab,nb,cb,rfl,pb,kb,B⟩;clear g;refine dk ?_ a u q c B;clear a u q c B;intro a u q c
   go_upto_region 11 with fail
   have bB:=a.lt;have bA:=u.lt;generalize f:w8.alloc _=w9 at *;obtain⟨hB,m⟩:=Bo.nw f;clear f;refine dG ?_ a u q pb c m;clear a u q pb c m;intro a u q pb c;have hK:=u.cell;have W:=hB.cell
   go_wp2_with fail
   refine(Fk q.wr pb.wr (by omega) (by omega) gP.out gS.out hA.out).mono ?_;rintro H hL ⟨sc,Ac,nc,cc,rfl,pc,kc,B⟩;clear hK W;replace a:=a.b B;replace c:=aj c B;clear B
   go_wp2_with fail
   refine(nS pc.wr (by omega) rfl rfl v.out).mono ?_;rintro H hN ⟨K3,s3,M3,E3,rfl,q3,B⟩;replace a:=a.b B;replace c:=aj c B;clear B;have i:=a.cell;have d:=a.frozen;go_wp2;clear i d;have l:=ae.t4 a K3 s3 M3 E3;exact bq (by simp[results,results109,go_sem,l.box.cell]) rfl ⟨_,_,_,_,rfl,q3,(l.below c.out (by omega))⟩
theorem GE{w:World}{D D' M M' E E':Int}{s s':Bool}{up:Bool}{x y r:Int}(hM:LQ M)(hM':LQ M')(hx:rk D s M E=x)(hy: -rk D' s' M' E'=y)(hr:dj up x y=r):Calls prog 130 #[VQ D s M E,VQ D' s' M' E',.bool up] w (PN w r):=by
 delta VQ
 have m:=ie hx;have n:=ie hy;have l:=ie hr;clear hx hy hr
 go_enter func130,ntmps130
 go_upto_region 1 with fail
 generalize e:((w.alloc _).alloc _).alloc _=w1 at *;obtain⟨u,v,d,g⟩:=Bo.en3 e;clear e;refine aV [0,1,2,3,4] [8,9,10,11,12,0] [[],[],[1],[],[0,2,3],[]] 6 1 [Jo.q4 D s M E,Jo.q4 D' s' M' E',Jo.Fact.num y,Jo.qb up,Jo.Fact.num r,Jo.Fact.any] ?_ ?_
 ·iterate 2 (refine jm ?_ ?_;rotate_left)
  refine jm ?_ ?_
  ·rintro k c _ rfl K a;go_simp;exact Jo.n1 (IJ hM' n.out) a.out
  refine jm ?_ ?_;rotate_left
  refine jm ?_ ?_
  ·rintro k c _ rfl _ ⟨o,s4,q,E4,rfl,h⟩ _ rfl K a;go_simp;exact Jo.n1 (GD hM h.top m.out h.rk l.out) a.out
  exact jo
  all_goals (rintro k c;(repeat rintro _ rfl);intro K a;have B:=(u.b c).cell;have C:=(v.b c).cell;go_simp;exact a.out _ _ rfl (br _ _))
 rintro F c _ rfl _ rfl _ ⟨o,s4,q,E4,rfl,h⟩ _ rfl _ ⟨p,s5,t,E5,rfl,A⟩ -;simp only[Jo.z];replace d:=d.b c;replace g:=aj g c;have i:=d.cell;have f:=d.frozen
 refine jn 5 fun K a=>?_
 go_simp;refine a.out _ _ ?_;clear a K i f;have j:=ae.t4 d p s5 t E5;refine jd ?_;go_wp2;exact bq (by simp[results,results130,go_sem,j.box.cell]) rfl ⟨_,_,_,_,rfl,A,(j.below g.out (by omega))⟩
theorem oA{w:World}{e:Bool}{D M E D' M' E':Int}{s s':Bool}{x:Sp}{r:Int}(hM:LQ M)(hM':LQ M')(hx:fG e D s M E D' s' M' E'=x)(hr:eY x=r):Calls prog 66 #[VI e D s M E D' s' M' E'] w (PN w r):=by
 delta VI
 have p:=ie hx;clear hx
 go_enter func66,ntmps66
 go_upto_region 1 with fail
 generalize i:(w.alloc _).alloc _=w1 at *;obtain⟨C,a,d⟩:=Bo.en2 i;clear i;have o:=C.cell
 go_wp2_with fail
 refine(fP hM hM' p.out).mono ?_;rintro F I ⟨e1,P,s1,Q,O,z,H,A,v,rfl,u,B⟩;clear o;replace a:=a.b B;replace d:=aj d B;clear B
 go_upto_region 2 with fail
 have l:=a.lt;generalize j:I.alloc _=R at *;obtain⟨q,k⟩:=Bo.nw j;clear j;replace a:=a.b k;replace d:=aj d k;clear k;clear p hM hM'
 rcases x with _ | ⟨J,L⟩
 ·obtain⟨rfl,T,N⟩:=u
  obtain rfl:0=r:=hr
  have g:=a.cell;have c:=a.frozen;have f:=q.cell;go_wp2;clear g c f;have h:=ae.t4 a 0 false 0 0;exact bq (by simp[results,results66,go_sem,h.box.cell]) rfl ⟨_,_,_,_,rfl,Fq.nought,(h.below d.out (by omega))⟩
 ·obtain⟨rfl,a1,t,o1,n,m⟩:=u
  have y:=ie (show dj true L (-J)=r from hr)
  clear hr o1 n m;have f:=q.cell
  go_wp2_with fail
  refine(GE t.top a1.top t.rk (by rw[a1.rk]) y.out).mono ?_;rintro F S ⟨K2,s2,M2,E2,rfl,G,B⟩;clear f;replace a:=a.b B;replace d:=aj d B;clear B;have g:=a.cell;have c:=a.frozen;go_wp2;clear g c;have h:=ae.t4 a K2 s2 M2 E2
  exact bq (by simp[results,results66,go_sem,h.box.cell]) rfl ⟨_,_,_,_,rfl,G,(h.below d.out (by omega))⟩
theorem nY{x y c:Int}(h:ah x y=c):decide (0<=c)=decide (y<=x):=by
 rw[<-h]
 rcases ap x y with⟨a,b⟩ | ⟨a,b⟩ | ⟨a,b⟩ <;> rw[b]
 ·rw[df (show ¬y<=x by omega)];rfl
 ·rw[dt (show y<=x by omega)];rfl
 ·rw[dt (show y<=x by omega)];rfl
def jr (i:Int):Sp:=if i%2=0 then du (al 1) (al 1)else du (al (-1)) (al (-1))
def lw (cos:Bool)(x y:Int)(z:Sp)(i:Int):Sp:=if aW (if cos then 2*i else 2*i+1) x y then bc z (jr i)else z
def bG (cos:Bool)(x y j:Int)(z:Sp):Nat->Sp
 | 0=>z
 | k+1=>lw cos x y (bG cos x y j z k) (j-4+k)
theorem Cd{w:World}{e:Bool}{D M E D' M' E':Int}{s s':Bool}{cos:Bool}(hM:LQ M)(hM':LQ M')(hx:fG e D s M E D' s' M' E'=none):Calls prog 23 #[VI e D s M E D' s' M' E',.bool cos] w (PV w none):=by
 delta VI
 have q:=ie hx;clear hx
 go_enter func23,ntmps23
 go_upto_region 1 with fail
 generalize h:(w.alloc _).alloc _=w1 at *;obtain⟨x,a,d⟩:=Bo.en2 h;clear h;have n:=x.cell
 go_wp2_with fail
 refine(fP hM hM' q.out).mono ?_;rintro H F ⟨G,r,s5,t,E5,f,j,g,c,rfl,C,B⟩;clear n;replace a:=a.b B;replace d:=aj d B;clear B
 go_upto_region 2 with fail
 have m:=a.lt;generalize i:F.alloc _=I at *;obtain⟨y,l⟩:=Bo.nw i;clear i;replace a:=a.b l;replace d:=aj d l;clear l;clear q;obtain⟨rfl,z,A⟩:=C;have p:=a.cell;have k:=a.frozen;have o:=y.cell;go_wp2;clear p k o
 have u:=ae.t9 a true r s5 t E5 f j g c;exact bq (v:= .agg #[.bool true,.int .i64 r,.bool s5,.int .u64 t,.int .i64 E5,.int .i64 f,.bool j,.int .u64 g,.int .i64 c]) (by simp[results,results23,go_sem,u.box.cell]) rfl ⟨_,_,_,_,_,_,_,_,_,rfl,⟨rfl,z,A⟩,(u.below d.out (by omega))⟩
theorem Cc{w:World}{e:Bool}{D M E D' M' E':Int}{s s':Bool}{cos:Bool}(hM:LQ M)(hM':LQ M'){a b:Int}{q:Bool}(hx:fG e D s M E D' s' M' E'=some (a,b))(hp:aD a=false)(hq:aD b=q):Calls prog 23 #[VI e D s M E D' s' M' E',.bool cos] w (PV w dY):=by
 delta VI
 obtain⟨ga,l⟩:∃g,ak a=g:=⟨_,rfl⟩;obtain⟨gb,m⟩:∃g,ak b=g:=⟨_,rfl⟩;have F:=ie hx;have r:=ie hp;have t:=ie hq;have o:=ie l;have p:=ie m;clear hx hp hq l m
 go_enter func23,ntmps23
 go_upto_region 1 with fail
 generalize k:(w.alloc _).alloc _=w1 at *;obtain⟨Q,c,d⟩:=Bo.en2 k;clear k;have A:=Q.cell
 go_wp2_with fail
 refine(fP hM hM' F.out).mono ?_;rintro u X ⟨e5,K5,s5,M5,E5,O,U,P,N,rfl,V,B⟩;clear A;replace c:=c.b B;replace d:=aj d B;clear B
 go_upto_region 2 with fail
 have v:=c.lt;generalize f:X.alloc _=w3 at *;obtain⟨i,h⟩:=Bo.nw f;clear f;replace c:=c.b h;replace d:=aj d h;clear h;clear F;obtain⟨rfl,J,L,R,oa,ob⟩:=V;have j:=i.cell
 go_wp2_with fail
 refine(kC J.top J.rk o.out r.out).mono ?_;rintro u Y ⟨s6,A6,n6,c6,rfl,S,k6,B⟩;clear j;refine aE ?_ c i d B;clear c i d B;intro c i d;have H:=d.out.size
 go_upto_region 5 with fail
 have y:=c.lt;have x:=i.lt;generalize f:Y.alloc _=w5 at *;obtain⟨X6,h⟩:=Bo.nw f;clear f;refine aE ?_ c i d h;clear c i d h;intro c i d;have j:=i.cell
 go_wp2_with fail
 refine(kC L.top L.rk p.out t.out).mono ?_;rintro u Z ⟨s8,A8,n8,c8,rfl,T,k8,B⟩;clear j;replace c:=c.b B;replace d:=aj d B;clear B;have I:=d.out.size
 go_upto_region 6 with fail
 have z:=c.lt;generalize f:Z.alloc _=w7 at *;obtain⟨X8,h⟩:=Bo.nw f;clear f;replace c:=c.b h;replace d:=aj d h;clear h;clear S T
 go_upto_region 7 with fail
 go_wp2_with fail
 refine(mX).mono ?_;rintro u wA ⟨e9,K9,s9,M9,E9,K9b,s9b,M9b,E9b,rfl,W,B⟩;replace c:=c.b B;replace d:=aj d B;clear B;have C:=c.cell;have n:=c.frozen;go_wp2;clear C n;have G:=ae.t9 c e9 K9 s9 M9 E9 K9b s9b M9b E9b
 exact bq (by simp[results,results23,go_sem,G.box.cell]) rfl ⟨_,_,_,_,_,_,_,_,_,rfl,W,(G.below d.out (by omega))⟩
theorem Ca{w:World}{e:Bool}{D M E D' M' E':Int}{s s':Bool}{cos:Bool}(hM:LQ M)(hM':LQ M'){a b:Int}{q:Bool}(hx:fG e D s M E D' s' M' E'=some (a,b))(hp:aD a=true)(hq:aD b=false):Calls prog 23 #[VI e D s M E D' s' M' E',.bool cos] w (PV w dY):=by
 delta VI
 obtain⟨ga,l⟩:∃g,ak a=g:=⟨_,rfl⟩;obtain⟨gb,m⟩:∃g,ak b=g:=⟨_,rfl⟩;have F:=ie hx;have r:=ie hp;have t:=ie hq;have o:=ie l;have p:=ie m;clear hx hp hq l m
 go_enter func23,ntmps23
 go_upto_region 1 with fail
 generalize k:(w.alloc _).alloc _=w1 at *;obtain⟨Q,c,d⟩:=Bo.en2 k;clear k;have A:=Q.cell
 go_wp2_with fail
 refine(fP hM hM' F.out).mono ?_;rintro u X ⟨e5,K5,s5,M5,E5,O,U,P,N,rfl,V,B⟩;clear A;replace c:=c.b B;replace d:=aj d B;clear B
 go_upto_region 2 with fail
 have v:=c.lt;generalize f:X.alloc _=w3 at *;obtain⟨i,h⟩:=Bo.nw f;clear f;replace c:=c.b h;replace d:=aj d h;clear h;clear F;obtain⟨rfl,J,L,R,oa,ob⟩:=V;have j:=i.cell
 go_wp2_with fail
 refine(kC J.top J.rk o.out r.out).mono ?_;rintro u Y ⟨s6,A6,n6,c6,rfl,S,k6,B⟩;clear j;refine aE ?_ c i d B;clear c i d B;intro c i d;have H:=d.out.size
 go_upto_region 5 with fail
 have y:=c.lt;have x:=i.lt;generalize f:Y.alloc _=w5 at *;obtain⟨X6,h⟩:=Bo.nw f;clear f;refine aE ?_ c i d h;clear c i d h;intro c i d;have j:=i.cell
 go_wp2_with fail
 refine(kC L.top L.rk p.out t.out).mono ?_;rintro u Z ⟨s8,A8,n8,c8,rfl,T,k8,B⟩;clear j;replace c:=c.b B;replace d:=aj d B;clear B;have I:=d.out.size
 go_upto_region 6 with fail
 have z:=c.lt;generalize f:Z.alloc _=w7 at *;obtain⟨X8,h⟩:=Bo.nw f;clear f;replace c:=c.b h;replace d:=aj d h;clear h;clear S T
 go_upto_region 7 with fail
 go_wp2_with fail
 refine(mX).mono ?_;rintro u wA ⟨e9,K9,s9,M9,E9,K9b,s9b,M9b,E9b,rfl,W,B⟩;replace c:=c.b B;replace d:=aj d B;clear B;have C:=c.cell;have n:=c.frozen;go_wp2;clear C n;have G:=ae.t9 c e9 K9 s9 M9 E9 K9b s9b M9b E9b
 exact bq (by simp[results,results23,go_sem,G.box.cell]) rfl ⟨_,_,_,_,_,_,_,_,_,rfl,W,(G.below d.out (by omega))⟩
theorem tj{w:World}{e:Bool}{D M E D' M' E':Int}{s s':Bool}{cos:Bool}(hM:LQ M)(hM':LQ M'){a b:Int}(hx:fG e D s M E D' s' M' E'=some (a,b))(hp:aD a=true)(hq:aD b=true)(hw:decide (al 7<=eY (some (a,b)))=true):Calls prog 23 #[VI e D s M E D' s' M' E',.bool cos] w (PV w dY):=by
 delta VI
 obtain⟨ga,m⟩:∃g,ak a=g:=⟨_,rfl⟩;obtain⟨gb,o⟩:∃g,ak b=g:=⟨_,rfl⟩;have V:=ie hx;have A:=ie hp;have C:=ie hq;have x:=ie m;have y:=ie o;clear hx hp hq m o;obtain⟨σ,H⟩:∃σ,ah (eY (some (a,b))) (al 7)=σ:=⟨_,rfl⟩;have e0:=nY H;rw[hw]at e0;have HS:=ie H;clear H hw
 go_enter func23,ntmps23
 go_upto_region 1 with fail
 generalize l:(w.alloc _).alloc _=w1 at *;obtain⟨X2,c,d⟩:=Bo.en2 l;clear l;have T:=X2.cell
 go_wp2_with fail
 refine(fP hM hM' V.out).mono ?_;rintro k w2 ⟨e5,K5,s5,M5,E5,F,S,G,v,rfl,t,B⟩;clear T;replace c:=c.b B;replace d:=aj d B;clear B
 go_upto_region 2 with fail
 have I:=c.lt;generalize h:w2.alloc _=w3 at *;obtain⟨f,j⟩:=Bo.nw h;clear h;replace c:=c.b j;replace d:=aj d j;clear j;clear V;obtain⟨rfl,Q,R,P,oa,ob⟩:=t;have i:=f.cell
 go_wp2_with fail
 refine(kC Q.top Q.rk x.out A.out).mono ?_;rintro k w4 ⟨s6,A6,n6,c6,rfl,p6,k6,B⟩;clear i;refine aE ?_ c f d B;clear c f d B;intro c f d;have X:=d.out.size
 go_upto_region 5 with fail
 have L:=c.lt;have J:=f.lt;generalize h:w4.alloc _=w5 at *;obtain⟨X6,j⟩:=Bo.nw h;clear h;refine aE ?_ c f d j;clear c f d j;intro c f d;have i:=f.cell
 go_wp2_with fail
 refine(kC R.top R.rk y.out C.out).mono ?_;rintro k w6 ⟨s8,A8,n8,c8,rfl,p8,k8,B⟩;clear i;refine aE ?_ c f d B;clear c f d B;intro c f d;have Y:=d.out.size
 go_upto_region 6 with fail
 have O:=c.lt;have N:=f.lt;generalize h:w6.alloc _=w7 at *;obtain⟨X8,j⟩:=Bo.nw h;clear h;refine aE ?_ c f d j;clear c f d j;intro c f d;clear p6 p8
 have t:Ci false K5 s5 M5 E5 F S G v (some (a,b)):=⟨rfl,Q,R,P,oa,ob⟩
 have i:=f.cell
 go_wp2_with fail
 refine(oA t.top.1 t.top.2 t.rk rfl).mono ?_;rintro k w8 ⟨bB,bN,bD,Z,rfl,p,B⟩;clear i;replace c:=c.b B;replace d:=aj d B;clear B
 go_wp2_with fail
 refine(AY (n:=7) (r:=al 7) _ (by decide) (by decide) rfl).mono ?_;rintro k w9 ⟨bC,gB,bH,bA,rfl,q,B⟩;replace c:=c.b B;replace d:=aj d B;clear B
 go_wp2_with fail
 refine(lF (z:=σ) p.top q.top (by rw[p.rk,q.rk];exact HS.out)).mono ?_;rintro k wZ ⟨rfl,B⟩;replace c:=c.b B;replace d:=aj d B;clear B
 go_upto_region 7 with fail
 go_wp2_with fail
 refine(mX).mono ?_;rintro k wA ⟨e9,K9,s9,M9,E9,K9b,s9b,M9b,E9b,rfl,v9,B⟩;replace c:=c.b B;replace d:=aj d B;clear B;have U:=c.cell;have u:=c.frozen;go_wp2;clear U u;have W:=ae.t9 c e9 K9 s9 M9 E9 K9b s9b M9b E9b
 exact bq (by simp[results,results23,go_sem,W.box.cell]) rfl ⟨_,_,_,_,_,_,_,_,_,rfl,v9,(W.below d.out (by omega))⟩
end Go.Proofs.YteigedaefgmojaaGreatDoor
namespace Go.Proofs.YteigedaefgmojaaGreatDoor
open Go.Proofs.Tryz
open Go Go.RowKit
set_option linter.unusedVariables false
def f6 (z:Sp):Prop:=∃r u,z=some (r,u)/\ -al 1<=r/\r<=u/\u<=al 1
theorem f6.fin{z:Sp}(h:f6 z):Bf z:=by
 obtain⟨o1,o2⟩:=dz;obtain⟨r,u,rfl,a,b,c⟩:=h;exact⟨b,by omega,by omega⟩
theorem vF:f6 dY:=by
 obtain⟨o1,o2⟩:=dz;exact⟨_,_,lD,Int.le_refl _,by omega,Int.le_refl _⟩
def MT (cos:Bool)(x y i:Int):Prop:=aW (if cos then 2*i else 2*i+1) x y=true
theorem nB{i:Int}(h:i%2=0):jr i=some (al 1,al 1):=by
 obtain⟨o1,o2⟩:=dz
 unfold jr
 rw[if_pos h];exact bj (Int.le_refl _) (by omega) (by omega)
theorem qr{i:Int}(h:¬i%2=0):jr i=some (-al 1,-al 1):=by
 obtain⟨o1,o2⟩:=dz
 unfold jr
 rw[if_neg h,j9];exact bj (Int.le_refl _) (by omega) (by omega)
theorem gT{r u p:Int}(h1: -al 1<=r)(h2:r<=u)(h3:u<=al 1)(p1: -al 1<=p)(p2:p<=al 1):bc (some (r,u)) (some (p,p))=some (min r p,max u p):=by
 obtain⟨o1,o2⟩:=dz;exact dI ⟨by omega,h2,by omega,by omega,by omega⟩ ⟨by omega,Int.le_refl _,by omega,by omega,by omega⟩
theorem nd{cos:Bool}{x y j r u:Int}(h1: -al 1<=r)(h2:r<=u)(h3:u<=al 1):∀k:Nat,∃e f,bG cos x y j (some (r,u)) k=some (e,f)/\
  ((e=r/\∀t:Nat,t < k->MT cos x y (j-4+t)->(j-4+(t:Int))%2=0)\/(e= -al 1/\∃t:Nat,t < k/\MT cos x y (j-4+t)/\¬(j-4+(t:Int))%2=0))/\
  ((f=u/\∀t:Nat,t < k->MT cos x y (j-4+t)->¬(j-4+(t:Int))%2=0)\/(f=al 1/\∃t:Nat,t < k/\MT cos x y (j-4+t)/\(j-4+(t:Int))%2=0))
 | 0=>⟨r,u,rfl,.inl ⟨rfl,fun t ht=>absurd ht (Nat.not_lt_zero _)⟩,.inl ⟨rfl,fun t ht=>absurd ht (Nat.not_lt_zero _)⟩⟩
 | k+1=>by
  obtain⟨o1,o2⟩:=dz;obtain⟨e,f,p,o,hf⟩:=nd (cos:=cos) (x:=x) (y:=y) (j:=j) h1 h2 h3 k
  have l: -al 1<=e/\e<=f/\f<=al 1:=by
   rcases o with⟨a,_⟩ | ⟨a,_⟩ <;> rcases hf with⟨b,_⟩ | ⟨b,_⟩ <;> omega
  show ∃e f,lw cos x y (bG cos x y j (some (r,u)) k) (j-4+k)=some (e,f)/\_
  rw[p]
  unfold lw
  have d:∀t:Nat,t < k+1->t < k\/t=k:=fun t ht=>by omega
  by_cases hm:MT cos x y (j-4+k)
  ·have i:aW (if cos=true then 2*(j-4+(k:Int))else 2*(j-4+(k:Int))+1) x y=true:=hm
   rw[if_pos i]
   by_cases m:(j-4+(k:Int))%2=0
   ·rw[nB m,gT l.1 l.2.1 l.2.2 (by omega) (by omega)];refine⟨e,al 1,by rw[Int.min_eq_left (by omega),Int.max_eq_right (by omega)],?_,.inr ⟨rfl,k,by omega,hm,m⟩⟩
    rcases o with⟨a,b⟩ | ⟨a,t,n,g,h⟩
    ·refine .inl ⟨a,fun t ht mt=>?_⟩
     rcases d t ht with c | rfl
     ·exact b t c mt
     ·exact m
    ·exact .inr ⟨a,t,by omega,g,h⟩
   ·rw[qr m,gT l.1 l.2.1 l.2.2 (by omega) (by omega)];refine⟨-al 1,f,by rw[Int.min_eq_right (by omega),Int.max_eq_left (by omega)],.inr ⟨rfl,k,by omega,hm,m⟩,?_⟩
    rcases hf with⟨a,b⟩ | ⟨a,t,n,g,h⟩
    ·refine .inl ⟨a,fun t ht mt=>?_⟩
     rcases d t ht with c | rfl
     ·exact b t c mt
     ·exact m
    ·exact .inr ⟨a,t,by omega,g,h⟩
  ·have i:¬aW (if cos=true then 2*(j-4+(k:Int))else 2*(j-4+(k:Int))+1) x y=true:=hm
   rw[if_neg i];refine⟨e,f,rfl,?_,?_⟩
   ·rcases o with⟨a,b⟩ | ⟨a,t,n,g,h⟩
    ·refine .inl ⟨a,fun t ht mt=>?_⟩
     rcases d t ht with c | rfl
     ·exact b t c mt
     ·exact absurd mt hm
    ·exact .inr ⟨a,t,by omega,g,h⟩
   ·rcases hf with⟨a,b⟩ | ⟨a,t,n,g,h⟩
    ·refine .inl ⟨a,fun t ht mt=>?_⟩
     rcases d t ht with c | rfl
     ·exact b t c mt
     ·exact absurd mt hm
    ·exact .inr ⟨a,t,by omega,g,h⟩
theorem sD{a b:Int}(fa:aD a=true)(fb:aD b=true)(hw:¬al 7<=eY (some (a,b))):ak b-ak a<=7*SC:=by
 obtain⟨a1,a2⟩:=ol fa;obtain⟨c,f⟩:=ol fb;have s:=(lY (x:=b) (y:= -a) true c f (by omega) (by omega)).2
 have l:dj true b (-a) < al 7:=Int.not_le.1 hw
 obtain⟨_,_,u,_⟩:=s;have m:=gU (n:=7) (by decide) (by decide)
 have j:=u (by omega)
 rw[bF,bF]at j;have k:=fL l;rw[dJ (by decide) (by decide)]at k;obtain⟨_,g⟩:=fD fa;obtain⟨h,_⟩:=fD fb;have i:=aN KK
 have d:(vr b-vr a)*SC < 7*2^KK*SC:=Int.mul_lt_mul_of_pos_right (by omega) dR
 rw[Int.sub_mul]at d
 have e:(ak b-(ak a+1))*2^KK < 7*SC*2^KK:=by
  rw[Int.sub_mul,show 7*SC*2^KK=7*2^KK*SC by rw[Int.mul_assoc,Int.mul_comm SC,<-Int.mul_assoc]]
  omega
 have:=Int.lt_of_mul_lt_mul_right e (Int.le_of_lt i)
 omega
theorem zT{cos:Bool}{a b i:Int}(fa:aD a=true)(fb:aD b=true)(hw:¬al 7<=eY (some (a,b)))(hm:MT cos (ak a*2) (ak b*2+2) i):∃t:Nat,t < 13/\i=(ak a*2).fdiv (aH*2)-4+t:=by
 have w:=sD fa fb hw;obtain⟨h,k⟩:=kx fa;obtain⟨j,d⟩:∃j,(ak a*2).fdiv (aH*2)=j:=⟨_,rfl⟩;rw[d];rw[Int.fdiv_eq_ediv_of_nonneg _ (by decide)]at d
 have e:=Int.ediv_mul_le (ak a*2) (show (aH*2:Int)≠0 by decide)
 have f:=Int.lt_ediv_add_one_mul_self (ak a*2) (show (0:Int) < aH*2 by decide)
 rw[d]at e f;generalize ak a=A at *;generalize ak b=B at *;clear d fa fb hw
 have g:j-4<=i/\i<=j+8:=by
  unfold MT aW at hm
  cases cos
  ·simp only[Bool.false_eq_true,if_false]at hm
   by_cases c:2*i+1 < 0
   ·rw[if_pos c]at hm;simp only[Bool.and_eq_true,decide_eq_true_eq]at hm
    unfold SC aH bW at *
    omega
   ·rw[if_neg c]at hm;simp only[Bool.and_eq_true,decide_eq_true_eq]at hm
    unfold SC aH bW at *
    omega
  ·simp only[if_true]at hm
   by_cases c:2*i < 0
   ·rw[if_pos c]at hm;simp only[Bool.and_eq_true,decide_eq_true_eq]at hm
    unfold SC aH bW at *
    omega
   ·rw[if_neg c]at hm;simp only[Bool.and_eq_true,decide_eq_true_eq]at hm
    unfold SC aH bW at *
    omega
 exact⟨(i-(j-4)).toNat,by omega,by omega⟩
theorem mG{a:Int}(fa:aD a=true): -1099511627776<=(ak a*2).fdiv (aH*2)/\(ak a*2).fdiv (aH*2)<=1099511627776:=by
 obtain⟨e,f⟩:=kx fa;obtain⟨j,b⟩:∃j,(ak a*2).fdiv (aH*2)=j:=⟨_,rfl⟩;rw[b];rw[Int.fdiv_eq_ediv_of_nonneg _ (by decide)]at b
 have c:=Int.ediv_mul_le (ak a*2) (show (aH*2:Int)≠0 by decide)
 have d:=Int.lt_ediv_add_one_mul_self (ak a*2) (show (0:Int) < aH*2 by decide)
 rw[b]at c d;generalize ak a=A at *;clear b fa
 unfold SC aH at *
 omega
def km (cos:Bool)(X Z:Sp):Prop:=match X with
 | none=>Z=none
 | some (a,b)=>((aD a=false\/aD b=false\/al 7<=eY (some (a,b)))/\Z=dY)\/
   (aD a=true/\aD b=true/\¬al 7<=eY (some (a,b))/\∃za zb,Sv cos a za/\Sv cos b zb/\Z=bG cos (ak a*2) (ak b*2+2) ((ak a*2).fdiv (aH*2)) (bc za zb) 13)
theorem pF (cos:Bool)(X:Sp):∃Z,km cos X Z:=by
 rcases X with _ | ⟨a,b⟩
 ·exact⟨none,rfl⟩
 ·by_cases h:aD a=true/\aD b=true/\¬al 7<=eY (some (a,b))
  ·obtain⟨za,d⟩:=As cos a;obtain⟨zb,hb⟩:=As cos b;exact⟨_,.inr ⟨h.1,h.2.1,h.2.2,za,zb,d,hb,rfl⟩⟩
  ·refine⟨dY,.inl ⟨?_,rfl⟩⟩
   cases e:aD a
   ·exact .inl rfl
   ·cases f:aD b
    ·exact .inr (.inl rfl)
    ·right;right
     rcases Int.lt_or_le (eY (some (a,b))) (al 7)with c | c
     ·exact absurd ⟨e,f,Int.not_le.2 c⟩ h
     ·exact c
theorem Ap{cos:Bool}{n:Int}{Z:Sp}(h:Sv cos n Z):(aD n=false/\Z=dY)\/(aD n=true/\SB (su cos n*SR) Z/\ -(17/10)<=fz (mA cos (ak n)) (zq cos n)/\fz (mA cos (ak n)) (zq cos n)<=17/10):=by
 cases e:aD n
 ·left
  rcases h with⟨_,h⟩ | ⟨c,_⟩
  ·exact⟨rfl,h.symm⟩
  ·rw[e]at c
   cases c
 ·exact .inr ⟨rfl,nM e h⟩
theorem SB.us{σ:Rat}{Z:Sp}(h:SB σ Z):f6 Z:=h.unit
theorem BS{x y:Sp}(hx:f6 x)(hy:f6 y):f6 (bc x y):=by
 obtain⟨o1,o2⟩:=dz;obtain⟨r,u,rfl,a1,a2,a3⟩:=hx;obtain⟨p,q,rfl,b,a,c⟩:=hy;refine⟨min r p,max u q,dI ⟨by omega,a2,by omega,by omega,by omega⟩ ⟨by omega,a,by omega,by omega,by omega⟩,by omega,by omega,by omega⟩
theorem zk:0 < iU/\iU < 19342822337206103650074625:=by decide
theorem DY{cos:Bool}{n:Int}{Z:Sp}(h:Sv cos n Z):f6 Z:=by
 rcases Ap h with⟨_,rfl⟩ | ⟨_,b,_⟩
 ·exact vF
 ·exact b.us
