/-
 Contracts that the proof rests on.
-/
import Derived.Deep.RegionWith
import Derived.Test.YteigedaefgmojaaGreatDoorYQae
namespace Go.Proofs.YteigedaefgmojaaGreatDoor
open Go.Proofs.Tryz
set_option maxHeartbeats 2000000
open Go.RowKit
set_option linter.unusedVariables false
def Bi (w:World)(n up:Nat)(xs:List Nat)(e:Ending)(w':World):Prop:=
 ∃g l,e= .returned (.slice (some ⟨g,0,none⟩) (n+1) (n+1))/\w.heap.size<=g/\bX w' g l/\l.length=n+1/\aR l/\af l=af xs*2^up/\Below w.heap.size w w'
theorem jR (w:World)(b n c:Nat)(A:Option Addr)(xs:List Nat)(up:Nat)(h:Sl w b A n c xs)(hlo:up < 32)(hbig:n+1<=1099511627776):
  Calls prog 236 #[.slice A n c,.int .i64 (up:Int)] w (Bi w n up xs):=by
 refine(kZ w b n c A xs (up:Int) 0 up h (by omega) (by omega) (by omega) hlo (by omega)).mono ?_;rintro e w' ⟨g,l,h1,h2,a,h4,d,f,i⟩;exact⟨g,l,h1,h2,a,h4,d,by rw[f];simp,i⟩
theorem pX (x:Nat)(hx:x < 4294967296)(w:World):
  Calls prog 256 #[.int .u32 (x:Int)] w fun e w'=>e= .returned (.int .i64 ((32-ac x:Nat):Int))/\w=w':=by
 have hb:=ai (n:=x) (k:=32) hx
 exact(pW x hx w).mono fun e w' h=>⟨h.1.trans (au (by omega)),h.2⟩
def jY (w:World)(g1 g2 g3 m n V R0:Nat)(l2:List Nat)(k:Nat)(wr:World):Prop:=
 ∃hs L:List Nat,hs.length=k/\aR hs/\L.length=m+n+1/\aR L/\bX wr g1 L/\bX wr g2 l2/\bX wr g3 (List.replicate (m+1-k) 0 ++hs)/\Below w.heap.size w wr/\
  af hs*4294967296^(m+1-k)*V+af L=R0/\af (L.drop (m+1-k)) < V
theorem oE{L:List Nat}{m n V k:Nat}(hL:L.length=m+n+1)(hl:aR L)(hk:k<=m)(hV:V < 4294967296^n)(h:af (L.drop (m+1-k)) < V):
  af ((L.drop (m-k)).take (n+1))=af (L.drop (m-k))/\af (L.drop (m-k)) < V*4294967296:=by
 have e1:af (L.drop (m-k))=L.getD (m-k) 0+4294967296*af (L.drop (m+1-k)):=by
  rw[aO (by omega),show m-k+1=m+1-k by omega]
 have a:=hl.getD (m-k)
 have h1:af (L.drop (m-k)) < V*4294967296:=by
  have:=Nat.mul_le_mul_left 4294967296 (show af (L.drop (m+1-k))+1<=V from h)
  omega
 refine⟨?_,h1⟩;have h2:=ao (L.drop (m-k)) (k:=n+1) (by simp;omega)
 have b:V*4294967296<=4294967296^(n+1):=by
  rw[Nat.pow_succ];exact Nat.mul_le_mul_right _ (by omega)
 rcases Nat.eq_zero_or_pos (af ((L.drop (m-k)).drop (n+1)))with e | e
 ·rw[e]at h2;omega
 ·have:=Nat.le_mul_of_pos_right (4294967296^(n+1)) e
  omega
theorem tK{w wr w':World}{g1 g2 g3 m n V R0 k:Nat}{l2 hs L zs:List Nat}(hhs:hs.length=k)(hsl:aR hs)(hL:L.length=m+n+1)(hl:aR L)(o2:bX wr g2 l2)(o3:bX wr g3 (List.replicate (m+1-k) 0 ++hs))(hb:Below w.heap.size w wr)
  (hv:af hs*4294967296^(m+1-k)*V+af L=R0) (hd:af (L.drop (m+1-k)) < V) (hk:k<=m) (hV:V < 4294967296^n) (n12:g1≠g2) (n13:g1≠g3) (n23:g2≠g3) (hg1:w.heap.size<=g1) (hg3:w.heap.size<=g3)
  (hz:zs.length=n+1) (ht:bI wr g1 (m-k) L zs w') (hzv:af zs=af ((L.drop (m-k)).take (n+1))%V):
  jY w g1 g2 g3 m n V R0 l2 (k+1) (w'.setCell ⟨g3,m-k,none⟩ (.int .u32 ((af ((L.drop (m-k)).take (n+1)) /V:Nat):Int))):=by
 obtain⟨s1,s2⟩:=oE hL hl hk hV hd
 have b:0 < V:=by omega
 have j:af ((L.drop (m-k)).take (n+1)) /V < 4294967296:=by
  rw[s1,Nat.div_lt_iff_lt_mul b,Nat.mul_comm];exact s2
 have a:=jA (af ((L.drop (m-k)).take (n+1))) V;have d:=Nat.mod_lt (af ((L.drop (m-k)).take (n+1))) b;rw[<-hzv]at a d
 have g:Below w.heap.size w w':=hb.trans (dL ht.2.1 hg1 hb.size)
 have e0:af (L.drop (m-k+(n+1)))=0:=by
  have h2:=ao (L.drop (m-k)) (k:=n+1) (by simp;omega);rw[s1,List.drop_drop]at h2
  rcases Nat.eq_zero_or_pos (af (L.drop (m-k+(n+1))))with e | e
  ·exact e
  ·have:=Nat.mul_pos (show 0 < 4294967296^(n+1)from Nat.pow_pos (by decide)) e
   omega
 have h:(fX L (m-k) zs).drop (m-k)=zs ++L.drop (m-k+(n+1)):=by
  have e:(L.take (m-k)).length=m-k:=by simp;omega
  unfold fX
  rw[List.append_assoc,List.drop_append,List.drop_eq_nil_of_le (by omega),e,Nat.sub_self,hz]
  simp
 have f:af ((fX L (m-k) zs).drop (m-k))=af zs:=by rw[h,dh,e0];simp
 have c:m+1-(k+1)=m-k:=by omega
 generalize l:af ((L.drop (m-k)).take (n+1)) /V=D at *;refine⟨D::hs,fX L (m-k) zs,by simp;omega,aR.cons j hsl,by rw[eO (by omega)];exact hL,rG hl ht.2.2,ht.1.far (by simpa using n13) _,(o2.grown ht.2.1 (by simpa using n12.symm)).far (by simpa using n23) _,?_,g.setCell (by simpa using hg3) _,?_,?_⟩
 ·have i:=(o3.grown ht.2.1 (by simpa using n13.symm)).set (m-k) D
  have e:(List.replicate (m+1-k) 0 ++hs).set (m-k) D=List.replicate (m+1-(k+1)) 0 ++(D::hs):=by
   rw[show m+1-k=m+1-(k+1)+1 by omega,<-List.replicate_append_replicate,List.append_assoc,List.set_append_right _ _ (by simp),List.length_replicate,show m-k-(m+1-(k+1))=0 by omega]
   simp
  rwa [e]at i
 ·have a1:=ao L (k:=m-k) (by omega);have a2:=ao (fX L (m-k) zs) (k:=m-k) (by rw[eO (by omega)];omega);rw[oI (by omega),f]at a2;rw[c,bZ]
  rw[show m+1-k=m-k+1 by omega,Nat.pow_succ]at hv
  rw[s1]at a;rw[a1,<-a]at hv;rw[a2,<-hv]
  grind
 ·rw[c,f];exact d
theorem FS{ys:List Nat}{n x up:Nat}(hl:ys.length=n)(hn:0 < n)(hlim:aR ys)(hx:ys.getD (n-1) 0=x)(hup:up=32-ac x):af ys*2^up < 4294967296^n:=by
 have h1:=aS (xs:=ys) (k:=n-1) (by omega)
 rw[show n-1+1=n by omega,aq (by omega),hx]at h1
 have h2:=bi (hlim.take (n-1));rw[List.length_take,Nat.min_eq_left (by omega)]at h2
 have a:x < 4294967296:=by rw[<-hx];exact hlim.getD _
 have hb:=dw x;have c:=ai (n:=x) (k:=32) a;obtain⟨k,rfl⟩:∃k,n=k+1:=⟨n-1,by omega⟩
 rw[Nat.add_sub_cancel]at *
 have b:af ys < 4294967296^k*2^ac x:=by
  have:=Nat.mul_le_mul_left (4294967296^k) (show x+1<=2^ac x from hb)
  rw[Nat.mul_add]at this
  omega
 have h4:=Nat.mul_lt_mul_of_pos_right b (Nat.two_pow_pos up)
 rw[Nat.mul_assoc,<-Nat.pow_add,show ac x+up=32 by omega]at h4
 rw[Nat.pow_succ];exact h4
theorem Hq{x:Nat}(h0:x≠0):32-ac x < 32:=by
 have h1:=dw x
 have a:ac x≠0:=fun e=>by rw[e]at h1;simp at h1;exact h0 h1
 omega
theorem pZ{xs ys L:List Nat}{m n up:Nat}(hxl:xs.length=m+n)(hxs:aR xs)(hyl:ys.length=n)(hn:0 < n)(hy:ys.getD (n-1) 0≠0)(hL:aR L)(hv:af L=af xs*2^up):af (L.drop (m+1)) < af ys*2^up:=by
 rw[dT hL,hv,Nat.div_lt_iff_lt_mul (Nat.pow_pos (by decide))];have h1:=bi hxs;rw[hxl]at h1;have h2:=aS (xs:=ys) (k:=n-1) (by omega)
 rw[show n-1+1=n by omega,aq (by omega)]at h2
 have a:4294967296^(n-1)<=af ys:=by
  have:=Nat.le_mul_of_pos_right (4294967296^(n-1)) (Nat.pos_of_ne_zero hy)
  omega
 have h4:4294967296^(m+n)<=af ys*4294967296^(m+1):=by
  have:=Nat.mul_le_mul_right (4294967296^(m+1)) a
  rwa [<-Nat.pow_add,show n-1+(m+1)=m+n by omega]at this
 have b:=Nat.mul_lt_mul_of_pos_right (Nat.lt_of_lt_of_le h1 h4) (Nat.two_pow_pos up);rw[Nat.mul_right_comm];exact b
theorem FQ{ds:List Nat}{n:Nat}(hl:ds.length=n)(hn:0 < n)(hlim:aR ds)(h:4294967296^(n-1)<=af ds):ds.getD (n-1) 0≠0:=by
 intro e
 have h1:=aS (xs:=ds) (k:=n-1) (by omega)
 rw[show n-1+1=n by omega,aq (by omega),e]at h1
 have h2:=bi (hlim.take (n-1));rw[List.length_take,Nat.min_eq_left (by omega)]at h2
 omega
theorem FP{ys:List Nat}{n:Nat}(hl:ys.length=n)(hn:0 < n)(hy:ys.getD (n-1) 0≠0):4294967296^(n-1)<=af ys:=by
 have h2:=aS (xs:=ys) (k:=n-1) (by omega)
 rw[show n-1+1=n by omega,aq (by omega)]at h2
 have:=Nat.le_mul_of_pos_right (4294967296^(n-1)) (Nat.pos_of_ne_zero hy)
 omega
theorem sU{l2 ys:List Nat}{n up:Nat}(hl2:l2.length=n+1)(hm2:aR l2)(hv2:af l2=af ys*2^up)(hV:af ys*2^up < 4294967296^n):af (l2.take n)=af ys*2^up:=by
 have h:=ao l2 (k:=n) (by omega);rw[hv2]at h
 rcases Nat.eq_zero_or_pos (af (l2.drop n))with e | e
 ·rw[e]at h;omega
 ·have:=Nat.le_mul_of_pos_right (4294967296^n) e
  omega
theorem tH{w w1 w2:World}{g1 g2 m n up:Nat}{l1 l2 xs ys:List Nat}(hb1:Below w.heap.size w w1)(hb2:Below w1.heap.size w1 w2)(o1:bX w1 g1 l1)(o2:bX w2 g2 l2)(hl1:l1.length=m+n+1)(hm1:aR l1)(hv1:af l1=af xs*2^up)
  (hs:af (l1.drop (m+1)) < af ys*2^up):
  jY w g1 g2 w2.heap.size m n (af ys*2^up) (af xs*2^up) l2 0 (w2.alloc (.cells (iC (List.replicate (m+1) 0)) 103)):=
 ⟨[],l1,rfl,aR.nil,hl1,hm1,(o1.below hb2 o1.lt).alloc _,o2.alloc _,by rw[List.append_nil];exact bX.new w2 _,(hb1.trans (hb2.mono hb1.size)).alloc (Nat.le_trans hb1.size hb2.size) _,by rw[hv1];simp[af],hs⟩
theorem tJ{w wr w':World}{g1 g2 g3 m n V R0 k:Nat}{l2 hs L:List Nat}{e:Ending}(hhs:hs.length=k)(hsl:aR hs)(hL:L.length=m+n+1)(hl:aR L)(o2:bX wr g2 l2)(o3:bX wr g3 (List.replicate (m+1-k) 0 ++hs))(hb:Below w.heap.size w wr)
  (hv:af hs*4294967296^(m+1-k)*V+af L=R0) (hd:af (L.drop (m+1-k)) < V) (hk:k<=m) (hV:V < 4294967296^n) (n12:g1≠g2) (n13:g1≠g3) (n23:g2≠g3) (hg1:w.heap.size<=g1) (hg3:w.heap.size<=g3)
  (h:js wr g1 (m-k) (n+1) L (af ((L.drop (m-k)).take (n+1))) V e w'):
  ∃D q:Nat,e= .returned (.int .u32 (D:Int))/\w'.cell? ⟨g3,m-k,none⟩=some (.int .u32 (q:Int))/\w'.frozen? ⟨g3,m-k,none⟩=false/\Hid (jY w g1 g2 g3 m n V R0 l2 (k+1) (w'.setCell ⟨g3,m-k,none⟩ (.int .u32 (D:Int)))):=by
 obtain⟨rfl,zs,hz,ht,b⟩:=h
 have a:=o3.grown ht.2.1 (by simpa using n13.symm)
 exact⟨_,_,rfl,a.cell (by simp;omega),a.frozen _,tK hhs hsl hL hl o2 o3 hb hv hd hk hV n12 n13 n23 hg1 hg3 hz ht b⟩
theorem tG{hs L xs ys:List Nat}{up:Nat}(hv:af hs*(af ys*2^up)+af L=af xs*2^up)(hd:af L < af ys*2^up):af hs=af xs/af ys/\af L/2^up=af xs%af ys:=by
 have a:=Nat.two_pow_pos up
 have b:0 < af ys*2^up:=by omega
 have h1:af xs*2^up/ (af ys*2^up)=af hs:=by
  rw[<-hv,Nat.mul_comm (af hs),Nat.mul_add_div b,Nat.div_eq_of_lt hd,Nat.add_zero]
 have h2:af xs*2^up%(af ys*2^up)=af L:=by
  rw[<-hv,Nat.mul_comm (af hs),Nat.mul_add_mod,Nat.mod_eq_of_lt hd]
 rw[Nat.mul_div_mul_right _ _ a]at h1;rw[Nat.mul_mod_mul_right]at h2;exact⟨h1.symm,by rw[<-h2,Nat.mul_div_cancel _ a]⟩
theorem qR{L:List Nat}{n m V:Nat}(hL:L.length=m+n+1)(h:af L < V)(hV:V < 4294967296^n):af (L.take n)=af L:=by
 have h1:=ao L (k:=n) (by omega)
 rcases Nat.eq_zero_or_pos (af (L.drop n))with e | e
 ·rw[e]at h1;omega
 ·have:=Nat.le_mul_of_pos_right (4294967296^n) e
  omega
theorem og (w:World)(b1 b2:Nat)(A1 A2:Option Addr)(m n c1 c2:Nat)(xs ys:List Nat)(h1:Sl w b1 A1 (m+n) c1 xs)(h2:Sl w b2 A2 n c2 ys)(hn:2<=n)(hy:ys.getD (n-1) 0≠0)(hs:m+n<=549755813888):
  Calls prog 248 #[.slice A1 (m+n) c1,.slice A2 n c2] w (Gh w (ag (af xs/af ys)) (ag (af xs%af ys))):=by
 have H1:=Lib.hid h1.len;have H2:=Lib.hid h2.len;have bx:=h2.lim.getD (n-1);obtain⟨x,hx⟩:∃x,ys.getD (n-1) 0=x:=⟨_,rfl⟩;obtain⟨o2,rfl,S⟩:=h2.at (by omega);have hcell:=S (n-1) (by omega);rw[hx]at hcell bx hy;have B:=Hq hy;have HL:=Lib.hid (pX x bx);obtain⟨up,j⟩:∃up,32-ac x=up:=⟨_,rfl⟩;have HV:=Lib.hid (FS H2.out (by omega) h2.lim hx j.symm)
 rw[j]at HL B
 have HS:=Lib.hid (fun L hL hv=>pZ (L:=L) (up:=up) H1.out h1.lim H2.out (by omega) (by rw[hx];exact hy) hL hv)
 have HX:=Lib.hid hx;clear S j hx
 have i1:((n:Int)-1).toNat=n-1:=by omega
 go_enter func248,ntmps248
 go_wp2_with (go_at_call 256;((with_reducible refine(HL.out _).mono ?_);rintro e w' ⟨rfl,rfl⟩))
 clear HL
 have gS:m+n+1<=1099511627776:=by omega
 have hA:n+1<=1099511627776:=by omega
 go_region_with (first
  | (go_at_call 236;((with_reducible refine(jR w.drew b1 (m+n) c1 A1 xs up h1.drew B gS).mono ?_);(rintro e w1 ⟨g1,l1,rfl,T,bC,V,Y,bH,P⟩);have l:Hid (Below w.heap.size w w1):=(Below.refl _ _).drew.trans P;have s2:=h2.below l.out;have v:=Lib.hid bC;have J:=Lib.hid V;have t:=Lib.hid Y;have z:=Lib.hid bH;clear bC V Y bH P))
  | (go_at_call 236;((with_reducible refine(jR w1 b2 n c2 _ ys up s2 B hA).mono ?_);(rintro e w2 ⟨g2,l2,rfl,hJ,bD,X,Z,bN,Q⟩);have r:=Lib.hid Q;have y:=Lib.hid bD;have p:=Lib.hid X;have u:=Lib.hid Z;have M:=Lib.hid bN;clear bD X Z bN Q s2)))
 have U:w.heap.size<=g1:=T
 have hD:=v.out.lt;have hE:=y.out.lt;have hF:=l.out.size;have hB:=r.out.size;have s:=Lib.hid (tH l.out r.out v.out y.out J.out t.out z.out (HS.out l1 t.out z.out));have HD:=Lib.hid (sU p.out u.out M.out HV.out)
 have HN:Hid ((l2.take n).getD (n-1) 0≠0):=FQ (by rw[List.length_take,p.out];omega) (by omega) (u.out.take n) (by
  rw[HD.out];have a:=FP H2.out (by omega) (by rw[HX.out];exact hy);have b:=Nat.le_mul_of_pos_right (af ys) (Nat.two_pow_pos up)
  omega)
 have gP:=fun W=>db (m+1) ((m:Int)+1) (by omega) (by omega) W
 clear T v y l r J t z M HS hcell;go_wp2;clear gP
 go_loopw [37] (fun i wr=>∃k:Nat,k<=m+1/\i= .int .i64 k/\jY w g1 g2 w2.heap.size m n (af ys*2^up) (af xs*2^up) l2 k wr) (fun i _=>m+1-(intOf i).toNat)
 case atStart=>exact ⟨0,Nat.zero_le _,rfl,s.out⟩
 case round=>
  clear s;obtain⟨k,hk,rfl,hI⟩:=hrel;have s:=Lib.hid hI;clear hI
  by_cases hlt:k < m+1
  ·obtain⟨hs,L,a1,a2,a3,a4,a5,N,C,O,E,d⟩:=s.out
   have i3:((m:Int)-k).toNat=m-k:=by omega
   have i4:((m:Int)-k+n+1).toNat=m-k+(n+1):=by omega
   have hC:¬(m+n+1=m-k):=by omega
   have g:=N.sl u.out (o:=0) (n:=n) (c:=n+1) (by rw[p.out];omega) (by omega) (by rw[p.out];omega);rw[List.drop_zero]at g;have f:=oE a3 a4 (by omega) HV.out d;have hk1:=lP wr g1 (m-k) n (m+n+1-(m-k)) g2 (n+1) (some ⟨g2,0,none⟩) L (l2.take n) a5 a4 (by omega) (by omega) (by omega) g (by omega) hn HN.out (by rw[HD.out,f.1];exact f.2)
   rw[HD.out]at hk1
   have HK:=Lib.hid (hk1.mono fun e w' h=>tJ (g3:=w2.heap.size) a1 a2 a3 a4 N C O E d (by omega) HV.out (by omega) (by omega) (by omega) U (by omega) h)
   clear a1 a2 a3 a4 a5 N C O E d hk1 f g s
   go_wp2_with (go_at_call 257;((with_reducible refine HK.out.mono ?_);(rintro e w3 ⟨D,q,rfl,hG,hH,H3⟩)))
   go_roundw
   case rel=>exact ⟨k+1,by omega,by go_num,H3.out⟩
   case measure=>simp [intOf];omega
  ·obtain rfl:k=m+1:=by omega
   obtain⟨hs,L,a1,a2,a3,a4,a5,N,C,O,E,d⟩:=s.out;rw[Nat.sub_self,List.replicate_zero,List.nil_append]at C;rw[Nat.sub_self,Nat.pow_zero,Nat.mul_one]at E;rw[Nat.sub_self,List.drop_zero]at d;obtain⟨f1,f2⟩:=tG E d;have s1:=C.all a2 (by omega) (c:=m+1) (by omega);rw[a1]at s1;have s2:=a5.sl a4 (o:=0) (n:=n) (c:=m+n+1) (by omega) (by omega) (by omega)
   rw[List.drop_zero]at s2;have f3:=qR a3 d HV.out;have H:=Lib.hid f1
   have I:Hid (af (L.take n) /2^up=af xs%af ys):=by show _=_;rw[f3,f2]
   have HB:=Lib.hid O;clear a1 a2 a3 a4 a5 N C O E d f1 f2 f3 s
   have HT:Hid (∀W,Sl W w2.heap.size (some ⟨w2.heap.size,0,none⟩) (m+1) (m+1) hs->Calls prog 181 #[.slice (some ⟨w2.heap.size,0,none⟩) (m+1) (m+1)] W (fr W (ag (af xs/af ys)))):=fun W h=>by
    rw[<-H.out];exact bP W _ _ _ _ hs h
   have HR:Hid (∀W,Sl W g1 (some ⟨g1,0,none⟩) n (m+n+1) (L.take n)->Calls prog 220 #[.slice (some ⟨g1,0,none⟩) n (m+n+1),.int .i64 (up:Int)] W (fr W (ag (af xs%af ys)))):=fun W h=>by
    have:=r9 W g1 _ n (m+n+1) (L.take n) (up:Int) h (by omega)
    rwa [Int.toNat_natCast,I.out]at this
   clear H I;go_wp2
   go_region_with (first
    | (go_at_call 181;((with_reducible refine(HT.out wr.drew s1.drew).mono ?_);(rintro e w4 ⟨g4,A4,c4,rfl,bA,A⟩);have F:Hid (Below w.heap.size w w4):=HB.out.drew.trans (A.mono HB.out.size);have s4:=s2.drew.below A;have gB:Hid (pC w4 (ag (af xs/af ys)) A4 c4):=bA.out;clear bA A))
    | (go_at_call 220;((with_reducible refine(HR.out w4 s4).mono ?_);(rintro e w5 ⟨g5,A5,c5,rfl,bB,R⟩);have G:=Lib.hid R;have gO:Hid (pC w5 (ag (af xs%af ys)) A5 c5):=bB.out;clear bB R)))
   all_goals
    go_wp2
    go_ret2
    exact⟨A4,c4,A5,c5,rfl,gB.out.below G.out,gO.out,F.out.trans (G.out.mono F.out.size)⟩
def Gi (w:World)(lq lr:List Nat)(e:Ending)(w':World):Prop:=
 ∃A1 c1 A2 c2,e= .returned (.tuple #[.slice A1 lq.length c1,.slice A2 lr.length c2,.bool true])/\pC w' lq A1 c1/\pC w' lr A2 c2/\Below w.heap.size w w'
theorem xn (w:World)(b1 b2:Nat)(A1 A2:Option Addr)(n m c1 c2 p q:Nat)(la lb:List Nat)(h1:Sl w b1 A1 p c1 la)(h2:Sl w b2 A2 q c2 lb)
  (HC1:Hid (Calls prog 223 #[.slice A1 n c1] w fun e w'=>e= .returned (.slice A1 p c1)/\w=w'))
  (HC2:Hid (Calls prog 223 #[.slice A2 m c2] w fun e w'=>e= .returned (.slice A2 q c2)/\w=w'))
  (hp:p<=549755813888) (hq:0 < q) (hy:lb.getD (q-1) 0≠0) (hpq:¬af la < af lb->q<=p):
  Calls prog 229 #[.slice A1 n c1,.slice A2 m c2] w (Gi w (ag (af la/af lb)) (ag (af la%af lb))):=by
 have H:=h2.big
 have G:((q:Int)==0)=false:=by simp;omega
 have h:=Lib.hid (jZ w b1 b2 A1 A2 p q c1 c2 la lb h1 h2)
 by_cases hlt:af la < af lb
 ·have D:Hid (af la/af lb=0):=Nat.div_eq_of_lt hlt
  have E:Hid (af la%af lb=af la):=Nat.mod_eq_of_lt hlt
  have hm:=h.out;rw[ax (by omega)]at hm;clear h;have h:=Lib.hid hm;clear hm hlt hpq hy
  go_enter func229,ntmps229
  go_wp2_with (first
   | (go_at_call 223;((with_reducible refine HC1.out.mono ?_);rintro e w' ⟨rfl,rfl⟩))
   | (go_at_call 223;((with_reducible refine HC2.out.mono ?_);rintro e w' ⟨rfl,rfl⟩))
   | (go_at_call 183;((with_reducible refine h.out.mono ?_);rintro e w' ⟨rfl,t,rfl⟩))
   | (go_at_call 181;((with_reducible refine(bP _ b1 A1 p c1 la (h1.drewN _)).mono ?_);rintro e C ⟨g,A,c,rfl,y,f⟩)))
  go_ret3
  rw[D.out,E.out,ay]
  exact⟨none,0,A,c,rfl,⟨0,Sl.nil,fun hn=>absurd hn (by simp)⟩,y.out,(aJ (Below.refl _ _) _).trans f⟩
 ·obtain⟨z,hz,I⟩:=mP (a:=af la) (b:=af lb) (by omega);have hm:=h.out;rw[hz]at hm;clear h hz;have h:=Lib.hid hm;have F:=hpq hlt;clear hm hpq hlt
  by_cases u:q=1
  ·subst u;obtain⟨o2,rfl,r⟩:=h2.at (by omega);have hcell:=r 0 (by omega);rw[Nat.add_zero]at hcell;have B:=h2.lim.getD 0
   have o:Hid (af lb=lb.getD 0 0):=by
    have:=aS (xs:=lb) (k:=0) (by rw[h2.len];omega)
    rw[aq (by rw[h2.len];omega)]at this
    show _=_
    rw[this];simp[af]
   have s:0 < lb.getD 0 0:=Nat.pos_of_ne_zero hy
   have x:=fun W hW=>oe W b1 p c1 A1 la (lb.getD 0 0) hW s B
   rw[<-o.out]at x;have l:=Lib.hid x;clear x r hy B s;rw[o.out]at l
   revert hcell l o
   generalize lb.getD 0 0=d
   intro hcell o l
   have v:(((1:Nat):Int)==1)=true:=rfl
   go_enter func229,ntmps229
   go_wp2_with (first
    | (go_at_call 223;((with_reducible refine HC1.out.mono ?_);rintro e w' ⟨rfl,rfl⟩))
    | (go_at_call 223;((with_reducible refine HC2.out.mono ?_);rintro e w' ⟨rfl,rfl⟩))
    | (go_at_call 183;((with_reducible refine h.out.mono ?_);rintro e w' ⟨rfl,t,rfl⟩))
    | (go_at_call 247;((with_reducible refine(l.out _ (h1.drewN _)).mono ?_);rintro e C ⟨A3,c3,A4,c4,rfl,i,j,f⟩)))
   go_ret3
   rw[o.out];exact⟨A3,c3,A4,c4,rfl,i,j,(aJ (Below.refl _ _) _).trans f⟩
  ·obtain⟨k,rfl⟩:∃k,p=k+q:=⟨p-q,by omega⟩
   have v:((q:Int)==1)=false:=by simp;omega
   have l:=Lib.hid (fun W hW1 hW2=>og W b1 b2 A1 A2 k q c1 c2 la lb hW1 hW2 (by omega) hy hp)
   clear hy u
   go_enter func229,ntmps229
   go_wp2_with (first
    | (go_at_call 223;((with_reducible refine HC1.out.mono ?_);rintro e w' ⟨rfl,rfl⟩))
    | (go_at_call 223;((with_reducible refine HC2.out.mono ?_);rintro e w' ⟨rfl,rfl⟩))
    | (go_at_call 183;((with_reducible refine h.out.mono ?_);rintro e w' ⟨rfl,t,rfl⟩))
    | (go_at_call 248;((with_reducible refine(l.out _ (h1.drewN _) (h2.drewN _)).mono ?_);rintro e C ⟨A3,c3,A4,c4,rfl,i,j,f⟩)))
   go_ret3
   exact⟨A3,c3,A4,c4,rfl,i,j,(aJ (Below.refl _ _) _).trans f⟩
theorem BG (w:World)(b1 b2:Nat)(A1 A2:Option Addr)(n m c1 c2:Nat)(xs ys:List Nat)(h1:Sl w b1 A1 n c1 xs)(h2:Sl w b2 A2 m c2 ys)(hn:n<=549755813888)(h0:af ys≠0):
  Calls prog 229 #[.slice A1 n c1,.slice A2 m c2] w (Gi w (ag (af xs/af ys)) (ag (af xs%af ys))):=by
 have a:0 < (ag (af ys)).length:=Nat.pos_of_ne_zero fun e=>h0 (bh.1 e)
 have:=xn w b1 b2 A1 A2 n m c1 c2 _ _ _ _ (im h1) (im h2) (dO w b1 A1 n c1 xs h1) (dO w b2 A2 m c2 ys h2)
  (by have:=aM h1.lim;have:=h1.len;omega) a (kH h0) (fun h=>by rw[av,av]at h;exact aB (by omega))
 rwa [av,av]at this
def rb (w:World)(g p q:Nat)(la lb:List Nat)(i:Nat)(wr:World):Prop:=
 ∃hs:List Nat,hs.length=i+q/\aR hs/\bX wr g (hs ++List.replicate (p-i) 0)/\w.grownBy wr (some g)/\af hs=af (la.take i)*af lb
theorem tR{w wr w3:World}{g p q k x:Nat}{la lb:List Nat}{hs:List Nat}{e:Ending}(hhs:hs.length=k+q)(hsl:aR hs)(hown:bX wr g (hs ++List.replicate (p-k) 0))(hgr:w.grownBy wr (some g))(hv:af hs=af (la.take k)*af lb)
  (hk:k < p) (hx:la.getD k 0=x) (hla:la.length=p) (hp:q8 wr.drew g k q (hs ++List.replicate (p-k) 0) lb x e w3):
  ∃cy:Nat,e= .returned (.int .u32 (cy:Int))/\w3.cell? ⟨g,k+q,none⟩=some (.int .u32 0)/\w3.frozen? ⟨g,k+q,none⟩=false/\
   Hid (rb w g p q la lb (k+1) (w3.setCell ⟨g,k+q,none⟩ (.int .u32 (cy:Int)))):=by
 obtain⟨cy,rfl,zs,hz,ht,b,a⟩:=hp
 have c:(hs ++List.replicate (p-k) 0).length=q+p:=by simp;omega
 have hcell:=ht.cell (by omega);rw[hz]at hcell
 have e0:(hs ++List.replicate (p-k) 0).getD (k+q) 0=0:=by
  rw[List.getD_eq_getElem?_getD,List.getElem?_append_right (by omega),hhs,Nat.sub_self,List.getElem?_replicate]
  split <;> rfl
 rw[e0]at hcell;refine⟨cy,rfl,hcell,ht.1.frozen _,hs.take k ++zs ++[cy],by simp;omega,((hsl.take k).append ht.2.2).append (aR.cons b aR.nil),?_,?_,?_⟩
 ·have h1:=ht.1.set (k+q) cy;rw[<-hz,rH (by omega)]at h1
  have e1:fX (hs ++List.replicate (p-k) 0) k (zs ++[cy])=hs.take k ++zs ++[cy]++List.replicate (p-(k+1)) 0:=by
   unfold fX
   rw[List.take_append_of_le_length (by omega),List.drop_append,List.drop_eq_nil_of_le (by simp;omega),List.drop_replicate,List.length_append,hz,hhs]
   simp
   omega
  rw[e1,hz]at h1;exact h1
 ·have:=gi hgr (gi (pP (de wr (some g))) ht.2.1)
  exact eH this _
 ·have e2:((hs ++List.replicate (p-k) 0).drop k).take q=hs.drop k:=by
   rw[List.drop_append_of_le_length (by omega),List.take_append_of_le_length (by simp;omega),List.take_of_length_le (by simp;omega)]
  rw[e2]at a;have e3:=ao hs (k:=k) (by omega)
  have d:(hs.take k ++zs).length=k+q:=by simp;omega
  have f:(hs.take k).length=k:=by simp;omega
  rw[da,dh,d,f,aS (by omega),hx,Nat.add_mul,<-hv,e3,Nat.pow_add]
  have h:4294967296^k*(af zs+cy*4294967296^q)=4294967296^k*(af (hs.drop k)+x*af lb):=by rw[a]
  grind
theorem yF (w:World)(b1 b2:Nat)(A1 A2:Option Addr)(n m c1 c2 p q:Nat)(la lb:List Nat)(h1:Sl w b1 A1 p c1 la)(h2:Sl w b2 A2 q c2 lb)
  (HC1:Hid (Calls prog 223 #[.slice A1 n c1] w fun e w'=>e= .returned (.slice A1 p c1)/\w=w'))
  (HC2:Hid (Calls prog 223 #[.slice A2 m c2] w fun e w'=>e= .returned (.slice A2 q c2)/\w=w'))
  (hp:p<=549755813888) (hq:q<=549755813888):
  Calls prog 178 #[.slice A1 n c1,.slice A2 m c2] w (fr w (ag (af la*af lb))):=by
 have G:=Lib.hid h1.len;have T:=Lib.hid h2.len
 have A:=fun W=>db (p+q) ((p:Int)+q) (by omega) (by omega) W
 have r:Below w.heap.size w (w.alloc (.cells (iC (List.replicate (p+q) 0)) 103)):=(Below.refl _ _).alloc (Nat.le_refl _) _
 go_enter func178,ntmps178
 go_wp2_with (first
  | (go_at_call 223;((with_reducible refine HC1.out.mono ?_);rintro e w' ⟨rfl,rfl⟩))
  | (go_at_call 223;((with_reducible refine HC2.out.mono ?_);rintro e w' ⟨rfl,rfl⟩)))
 clear HC1 HC2 A
 go_loopw [19] (fun i wr=>∃k:Nat,k<=p/\i= .int .i64 k/\rb (w.alloc (.cells (iC (List.replicate (p+q) 0)) 103)) w.heap.size p q la lb k wr) (fun i _=>p-(intOf i).toNat)
 case atStart=>exact ⟨0,Nat.zero_le _,rfl,List.replicate q 0,by simp,aR.replicate _,by have:=bX.new w (List.replicate (p+q) 0);rw[List.replicate_append_replicate,Nat.sub_zero,Nat.add_comm q p];exact this,de _ _,by rw[fK];simp[af]⟩
 case round=>
  obtain⟨k,V,rfl,J⟩:=hrel;have H:=Lib.hid J;clear J
  by_cases hlt:k < p
  ·obtain⟨hs,f,d,a,b,o⟩:=H.out;have l:=bm r b;have g:=h1.below l;have j:=h2.below l;obtain⟨o1,rfl,s⟩:=g.at (by omega);have hcell:=s k hlt;have P:=h1.lim.getD k
   have t:(hs ++List.replicate (p-k) 0).length=q+p:=by simp;omega
   have v:=Lib.hid ((mN wr.drew w.heap.size k q (p+q-k) b2 c2 (la.getD k 0) A2 (hs ++List.replicate (p-k) 0) lb a (d.append (aR.replicate _)) (by omega) (by omega) j (fun h=>by have:=h2.lt h;omega) P).mono
    fun e S h3=>tR f d a b o hlt rfl G.out h3)
   clear a d f b o s l t g j
   revert hcell v
   generalize la.getD k 0=x
   intro hcell v
   have M:¬(p+q=k):=by omega
   have D:(k:Int)+q<=(p:Int)+q:=by omega
   have E:(0:Int)<=(k:Int)+q:=by omega
   have F:(k:Int)<=(k:Int)+q:=by omega
   have C:((k:Int)+q).toNat=k+q:=by omega
   have B:IntKind.i64.wrap ((k:Int)+q)=(k:Int)+q:=IntWalk.i64_in _ (by omega)
   go_wp2
   go_region_with ((go_at_call 224;((with_reducible refine v.out.mono ?_);(rintro e S ⟨cy,rfl,Q,R,N⟩))))
   clear B C D E F;go_wp2
   go_roundw
   case rel=>exact ⟨k+1,by omega,by go_num,N.out⟩
   case measure=>simp [intOf];omega
  ·have z:k=p:=by omega
   subst z;obtain⟨hs,f,d,a,b,o⟩:=H.out;rw[Nat.sub_self,List.replicate_zero,List.append_nil]at a;rw[aq (xs:=la) (by rw[G.out];omega)]at o;have L:=a.all d (by omega) (c:=k+q) (by omega);rw[f]at L;have I:=Lib.hid o;have O:=Lib.hid (bm r b);clear a b o f d
   go_wp2_with (go_at_call 181;((with_reducible refine(bP wr w.heap.size _ (k+q) (k+q) hs L).mono ?_);rintro e X ⟨U,A4,c4,rfl,u,y⟩))
   go_ret
   rw[I.out]at u;rw[I.out];exact fr.of u y O.out
theorem CB (w:World)(b1 b2:Nat)(A1 A2:Option Addr)(n m c1 c2:Nat)(xs ys:List Nat)(h1:Sl w b1 A1 n c1 xs)(h2:Sl w b2 A2 m c2 ys)(hn:n<=549755813888)(hm:m<=549755813888):
  Calls prog 178 #[.slice A1 n c1,.slice A2 m c2] w (fr w (ag (af xs*af ys))):=by
 have:=yF w b1 b2 A1 A2 n m c1 c2 _ _ _ _ (im h1) (im h2) (dO w b1 A1 n c1 xs h1) (dO w b2 A2 m c2 ys h2)
  (by have:=aM h1.lim;have:=h1.len;omega) (by have:=aM h2.lim;have:=h2.len;omega)
 rwa [av,av]at this
def Rd (w:World)(A:Option Addr)(n c v:Nat):Prop:=∃b xs,Sl w b A n c xs/\af xs=v
def Nm (w:World)(A:Option Addr)(n c v:Nat):Prop:=∃b,Sl w b A n c (ag v)
theorem Nm.rd{w:World}{A:Option Addr}{n c v:Nat}(h:Nm w A n c v):Rd w A n c v:=by
 obtain⟨b,h⟩:=h;exact⟨b,_,h,av v⟩
theorem Rd.below{w w':World}{A:Option Addr}{n c v:Nat}(h:Rd w A n c v)(hb:Below w.heap.size w w'):Rd w' A n c v:=by
 obtain⟨b,xs,h,e⟩:=h;exact⟨b,xs,h.below hb,e⟩
abbrev Rd.b:= @Rd.below
instance {w w':World} {A:Option Addr} {n c v:Nat}:Mv (Rd w A n c v) w w' (Rd w' A n c v):=⟨fun h b=>h.below b⟩
theorem Nm.below{w w':World}{A:Option Addr}{n c v:Nat}(h:Nm w A n c v)(hb:Below w.heap.size w w'):Nm w' A n c v:=by
 obtain⟨b,h⟩:=h;exact⟨b,h.below hb⟩
abbrev Nm.b:= @Nm.below
instance {w w':World} {A:Option Addr} {n c v:Nat}:Mv (Nm w A n c v) w w' (Nm w' A n c v):=⟨fun h b=>h.below b⟩
theorem Nm.len{w:World}{A:Option Addr}{n c v:Nat}(h:Nm w A n c v):(ag v).length=n:=by
 obtain⟨b,h⟩:=h;exact h.len
theorem Nm.zero{w:World}:Nm w none 0 0 0:=⟨0,by rw[ay];exact Sl.nil⟩
theorem Rd.bound{w:World}{A:Option Addr}{n c v:Nat}(h:Rd w A n c v):v < 4294967296^n:=by
 obtain⟨b,xs,h,rfl⟩:=h
 have:=bi h.lim
 rwa [h.len]at this
theorem Rd.big{w:World}{A:Option Addr}{n c v:Nat}(h:Rd w A n c v):n<=1099511627776:=by
 obtain⟨b,xs,h,rfl⟩:=h;exact h.big
theorem Rd.limbs_le{w:World}{A:Option Addr}{n c v:Nat}(h:Rd w A n c v):(ag v).length<=n:=az h.bound
theorem Rd.blen_le{w:World}{A:Option Addr}{n c v:Nat}(h:Rd w A n c v):ac v<=n*32:=by
 apply ai
 rw[<-mD];exact h.bound
theorem lH.nm{w w':World}{v g c:Nat}{A:Option Addr}(h:lH w w' (ag v) g A c):Nm w' A (ag v).length c v:=⟨g,h.1⟩
theorem pC.nm{w':World}{v c:Nat}{A:Option Addr}(h:pC w' (ag v) A c):Nm w' A (ag v).length c v:=by
 obtain⟨b,h,_⟩:=h;exact⟨b,h⟩
def P1 (w:World)(K v:Nat)(e:Ending)(w':World):Prop:=∃A n c,e= .returned (.slice A n c)/\Nm w' A n c v/\n<=K/\Below w.heap.size w w'
def IK (w:World)(K v:Nat)(e:Ending)(w':World):Prop:=∃A n c,e= .returned (.tuple #[.slice A n c,.bool true])/\Nm w' A n c v/\n<=K/\Below w.heap.size w w'
def Ig (w:World)(K v:Nat)(t:Bool)(e:Ending)(w':World):Prop:=∃A n c,e= .returned (.tuple #[.slice A n c,.bool t])/\Nm w' A n c v/\n<=K/\Below w.heap.size w w'
def P3 (w:World)(K q r:Nat)(e:Ending)(w':World):Prop:=
 ∃A1 n1 c1 A2 n2 c2,e= .returned (.tuple #[.slice A1 n1 c1,.slice A2 n2 c2,.bool true])/\Nm w' A1 n1 c1 q/\Nm w' A2 n2 c2 r/\n1<=K/\n2<=K/\Below w.heap.size w w'
def PI (w:World)(z:Int)(e:Ending)(w':World):Prop:=e= .returned (.int .i64 z)/\Below w.heap.size w w'
theorem gX{a b n m:Nat}(ha:a < 4294967296^n)(hb:b < 4294967296^m):(ag (a+b)).length<=n+m+1:=by
 apply az
 have h1:=Nat.pow_le_pow_right (n:=4294967296) (by decide) (show n<=n+m by omega)
 have h2:=Nat.pow_le_pow_right (n:=4294967296) (by decide) (show m<=n+m by omega)
 rw[Nat.pow_succ]
 omega
theorem er{a b n m:Nat}(ha:a < 4294967296^n)(hb:b < 4294967296^m):(ag (a*b)).length<=n+m:=by
 apply az
 rw[Nat.pow_add];exact Nat.mul_lt_mul'' ha hb
section
variable {w:World} {A1 A2:Option Addr} {n m c1 c2 a b:Nat}
theorem pn (h1:Rd w A1 n c1 a):Calls prog 181 #[.slice A1 n c1] w (P1 w n a):=by
 have hl:=h1.limbs_le;obtain⟨b,xs,h1,rfl⟩:=h1;refine(bP w b A1 n c1 xs h1).mono ?_;rintro e w' ⟨g,A,c,rfl,hm,hb⟩;exact⟨A,_,c,rfl,hm.nm,hl,hb⟩
theorem Ds (h1:Rd w A1 n c1 a)(h2:Rd w A2 m c2 b)(hn:n<=1073741824)(hm:m<=1073741824):Calls prog 221 #[.slice A1 n c1,.slice A2 m c2] w (P1 w (n+m+1) (a+b)):=by
 have hl:=gX h1.bound h2.bound;obtain⟨d,xs,h1,rfl⟩:=h1;obtain⟨f,ys,h2,rfl⟩:=h2;refine(Bl w d f A1 A2 n m c1 c2 xs ys h1 h2 (by omega) (by omega)).mono ?_;rintro e w' ⟨g,A,c,rfl,hm,hb⟩;exact⟨A,_,c,rfl,hm.nm,hl,hb⟩
theorem IG (h1:Rd w A1 n c1 a)(h2:Rd w A2 m c2 b)(hn:n<=1073741824)(hm:m<=1073741824):Calls prog 178 #[.slice A1 n c1,.slice A2 m c2] w (P1 w (n+m) (a*b)):=by
 have hl:=er h1.bound h2.bound;obtain⟨d,xs,h1,rfl⟩:=h1;obtain⟨f,ys,h2,rfl⟩:=h2;refine(CB w d f A1 A2 n m c1 c2 xs ys h1 h2 (by omega) (by omega)).mono ?_;rintro e w' ⟨g,A,c,rfl,hm,hb⟩;exact⟨A,_,c,rfl,hm.nm,hl,hb⟩
theorem FV (h1:Rd w A1 n c1 a)(h2:Rd w A2 m c2 b)(h:b<=a):Calls prog 222 #[.slice A1 n c1,.slice A2 m c2] w (IK w n (a-b)):=by
 have hl:=Nat.le_trans (aB (Nat.sub_le a b)) h1.limbs_le;obtain⟨d,xs,h1,rfl⟩:=h1;obtain⟨f,ys,h2,rfl⟩:=h2;refine(FD w d f A1 A2 n m c1 c2 xs ys h1 h2 h).mono ?_;rintro e w' ⟨g,A,c,rfl,hm,hb⟩;exact⟨A,_,c,rfl,hm.nm,hl,hb⟩
theorem Dv (h1:Rd w A1 n c1 a)(h2:Rd w A2 m c2 b)(h:a < b):Calls prog 222 #[.slice A1 n c1,.slice A2 m c2] w fun e w'=>e= .returned (.tuple #[.slice none 0 0,.bool false])/\Below w.heap.size w w':=by
 obtain⟨c,xs,h1,rfl⟩:=h1;obtain⟨d,ys,h2,rfl⟩:=h2;refine(FE w c d A1 A2 n m c1 c2 xs ys h1 h2 h).mono ?_;rintro e w' ⟨rfl,q,rfl⟩;exact⟨rfl,aJ (Below.refl _ _) q⟩
theorem IF (h1:Rd w A1 n c1 a)(h2:Rd w A2 m c2 b):Calls prog 183 #[.slice A1 n c1,.slice A2 m c2] w (PI w (ah a b)):=by
 obtain⟨c,xs,h1,rfl⟩:=h1;obtain⟨d,ys,h2,rfl⟩:=h2;refine(jZ w c d A1 A2 n m c1 c2 xs ys h1 h2).mono ?_;rintro e w' ⟨rfl,q,rfl⟩;exact⟨rfl,aJ (Below.refl _ _) q⟩
theorem Dt (h1:Rd w A1 n c1 a)(h2:Rd w A2 m c2 b)(hn:n<=1073741824)(h0:b≠0):Calls prog 229 #[.slice A1 n c1,.slice A2 m c2] w (P3 w n (a/b) (a%b)):=by
 have c:=Nat.le_trans (aB (Nat.div_le_self a b)) h1.limbs_le;have d:=Nat.le_trans (aB (Nat.mod_le a b)) h1.limbs_le;obtain⟨f,xs,h1,rfl⟩:=h1;obtain⟨g,ys,h2,rfl⟩:=h2;refine(BG w f g A1 A2 n m c1 c2 xs ys h1 h2 (by omega) h0).mono ?_;rintro e w' ⟨A3,c3,A4,c4,rfl,h,i,hb⟩;exact⟨A3,_,c3,A4,_,c4,rfl,h.nm,i.nm,c,d,hb⟩
theorem IH (z:Int)(h1:Rd w A1 n c1 a)(hz:z<=9223372036854775807):Calls prog 220 #[.slice A1 n c1,.int .i64 z] w (P1 w n (a/2^z.toNat)):=by
 have hl:=Nat.le_trans (aB (Nat.div_le_self a (2^z.toNat))) h1.limbs_le;obtain⟨b,xs,h1,rfl⟩:=h1;refine(r9 w b A1 n c1 xs z h1 hz).mono ?_;rintro e w' ⟨g,A,c,rfl,hm,hb⟩;exact⟨A,_,c,rfl,hm.nm,hl,hb⟩
theorem Hr{r:Nat}(h1:Rd w A1 n c1 a)(h2:Rd w A2 m c2 b)(hn:n<=1073741824)(hm:m<=1073741824)(hr:a+b=r):Calls prog 221 #[.slice A1 n c1,.slice A2 m c2] w (P1 w (n+m+1) r):=hr▸Ds h1 h2 hn hm
theorem D6{z:Int}(h1:Rd w A1 n c1 a)(h2:Rd w A2 m c2 b)(hz:ah (a:Int) (b:Int)=z):Calls prog 183 #[.slice A1 n c1,.slice A2 m c2] w (PI w z):=hz▸IF h1 h2
theorem AJ{q r:Nat}(h1:Rd w A1 n c1 a)(h2:Rd w A2 m c2 b)(hn:n<=1073741824)(h0:b≠0)(hq:a/b=q)(hr:a%b=r):Calls prog 229 #[.slice A1 n c1,.slice A2 m c2] w (P3 w n q r):=by
 subst hq;subst hr;exact Dt h1 h2 hn h0
theorem pm{z:Int}{r:Nat}(h1:Rd w A1 n c1 a)(hz:z<=9223372036854775807)(hr:a/2^z.toNat=r):Calls prog 220 #[.slice A1 n c1,.int .i64 z] w (P1 w n r):=hr▸IH z h1 hz
theorem Hv{s r:Nat}(h1:Rd w A1 n c1 a)(hs:s<=9223372036854775807)(hr:a/2^s=r):Calls prog 220 #[.slice A1 n c1,.int .i64 (s:Int)] w (P1 w n r):=
 pm h1 (by omega) (by rw[Int.toNat_natCast];exact hr)
end
theorem iz (W:World):Rd (W.alloc (.cells #[.int .u32 1] 103)) (some ⟨W.heap.size,0,none⟩) 1 1 1:=⟨_,_,iT W,by simp[af]⟩
end Go.Proofs.YteigedaefgmojaaGreatDoor
namespace Go.Proofs.YteigedaefgmojaaGreatDoor
open Go.Proofs.Tryz
open Go.RowKit
set_option linter.unusedVariables false
def sg (s:Bool)(a:Nat):Int:=if s then -(a:Int)else a
theorem r3 (a:Nat):sg true a= -(a:Int):=rfl
theorem i8 (a:Nat):sg false a=a:=rfl
theorem bR (s:Bool)(a:Nat):(sg s a).natAbs=a:=by cases s <;> simp[sg]
theorem eF (s:Bool):sg s 0=0:=by cases s <;> rfl
theorem oZ (s:Bool)(a:Nat):decide (sg s a < 0)=(s && decide (0 < a)):=by cases s <;> simp[sg] <;> omega
def Wr (w:World)(s:Bool)(A:Option Addr)(n c:Nat)(z:Int):Prop:=∃a,Rd w A n c a/\sg s a=z
def Wn (w:World)(s:Bool)(A:Option Addr)(n c:Nat)(z:Int):Prop:=Nm w A n c z.natAbs/\s=decide (z < 0)
theorem Wn.wr{w:World}{s:Bool}{A:Option Addr}{n c:Nat}{z:Int}(h:Wn w s A n c z):Wr w s A n c z:=by
 obtain⟨h,rfl⟩:=h;refine⟨_,h.rd,?_⟩
 by_cases e:z < 0
 ·simp[sg,e];omega
 ·simp[sg,e];omega
theorem Wr.below{w w':World}{s:Bool}{A:Option Addr}{n c:Nat}{z:Int}(h:Wr w s A n c z)(hb:Below w.heap.size w w'):Wr w' s A n c z:=by
 obtain⟨a,h,e⟩:=h;exact⟨a,h.below hb,e⟩
abbrev Wr.b:= @Wr.below
instance {w w':World} {s:Bool} {A:Option Addr} {n c:Nat} {z:Int}:Mv (Wr w s A n c z) w w' (Wr w' s A n c z):=⟨fun h b=>h.below b⟩
theorem Wn.below{w w':World}{s:Bool}{A:Option Addr}{n c:Nat}{z:Int}(h:Wn w s A n c z)(hb:Below w.heap.size w w'):Wn w' s A n c z:=⟨h.1.below hb,h.2⟩
abbrev Wn.b:= @Wn.below
instance {w w':World} {s:Bool} {A:Option Addr} {n c:Nat} {z:Int}:Mv (Wn w s A n c z) w w' (Wn w' s A n c z):=⟨fun h b=>h.below b⟩
theorem Wr.rd{w:World}{s:Bool}{A:Option Addr}{n c:Nat}{z:Int}(h:Wr w s A n c z):Rd w A n c z.natAbs:=by
 obtain⟨a,h,rfl⟩:=h;rw[bR];exact h
theorem Wr.eq{w:World}{s:Bool}{A:Option Addr}{n c:Nat}{z:Int}(h:Wr w s A n c z):sg s z.natAbs=z:=by
 obtain⟨a,h,rfl⟩:=h;rw[bR]
theorem Rd.wr{w:World}{A:Option Addr}{n c a:Nat}(s:Bool)(h:Rd w A n c a):Wr w s A n c (sg s a):=⟨a,h,rfl⟩
theorem Nm.pos{w:World}{A:Option Addr}{n c v:Nat}(h:Nm w A n c v):0 < n↔0 < v:=by
 have hl:=h.len
 by_cases e:v=0
 ·subst e;rw[ay]at hl;simp at hl;omega
 ·rw[dq e]at hl;simp at hl;omega
theorem Nm.wn{w:World}{A:Option Addr}{n c a:Nat}(s:Bool)(h:Nm w A n c a):Wn w (s && decide (0 < n)) A n c (sg s a):=by
 refine⟨by rw[bR];exact h,?_⟩
 rw[oZ]
 congr 1
 exact decide_eq_decide.2 h.pos
theorem Wn.zero{w:World}:Wn w false none 0 0 0:=⟨Nm.zero,rfl⟩
def W1 (w:World)(K:Nat)(z:Int)(e:Ending)(w':World):Prop:=∃s A n c,e= .returned (.agg #[.bool s,.slice A n c])/\Wn w' s A n c z/\n<=K/\Below w.heap.size w w'
def PB (w:World)(t:Bool)(e:Ending)(w':World):Prop:=e= .returned (.bool t)/\Below w.heap.size w w'
def F9 (w:World)(z:Int)(t:Bool)(e:Ending)(w':World):Prop:=e= .returned (.tuple #[.int .i64 z,.bool t])/\Below w.heap.size w w'
theorem oX{a b:Bool}(h:a=b):Ending.returned (.bool a)= .returned (.bool b):=by rw[h]
theorem aQ{W w1:World}(hb:Below W.heap.size W w1):(∀b o,b < W.heap.size->w1.cell? ⟨b,o,none⟩=W.cell? ⟨b,o,none⟩)/\(∀b o,b < W.heap.size->w1.frozen? ⟨b,o,none⟩=W.frozen? ⟨b,o,none⟩):=
 ⟨fun b o h=>hb.cell (p:=⟨b,o,none⟩) h,fun b o h=>hb.frozen (p:=⟨b,o,none⟩) h⟩
theorem ab (w:World)(a:Obj):Below w.heap.size w (w.alloc a):=aI _ _
theorem bJ (w:World)(a b:Obj):Below w.heap.size w ((w.alloc a).alloc b):=(ab w a).alloc (by simp) _
theorem fB (w:World)(a b c:Obj):Below w.heap.size w (((w.alloc a).alloc b).alloc c):=(bJ w a b).alloc (by simp;omega) _
theorem iF (w:World)(a b c d:Obj):Below w.heap.size w ((((w.alloc a).alloc b).alloc c).alloc d):=(fB w a b c).alloc (by simp;omega) _
theorem bt{w w1 w2:World}(h:Below w.heap.size w w1)(k:Below w1.heap.size w1 w2):Below w.heap.size w w2:=h.trans (k.mono h.size)
theorem fW{B:Nat}{a w:World}(h:Below B a w){b o1 o2:Nat}(hp:B<=b)(u v:Value):Below B a ((w.setCell ⟨b,o1,none⟩ u).setCell ⟨b,o2,none⟩ v):=(h.setCell (p:=⟨b,o1,none⟩) hp u).setCell (p:=⟨b,o2,none⟩) hp v
def Bx (w:World)(g:Nat)(s:Bool)(A:Option Addr)(n c:Nat):Prop:=w.heap[g]?=some (.cells #[.bool s,.slice A n c] 43 (0,0))
section
variable {w w':World} {g:Nat} {s:Bool} {A:Option Addr} {n c:Nat}
theorem Bx.lt (h:Bx w g s A n c):g < w.heap.size:=by
 rcases Nat.lt_or_ge g w.heap.size with hlt | hge
 ·exact hlt
 ·unfold Bx at h;rw[Array.getElem?_eq_none hge]at h;cases h
theorem Bx.keep (h:Bx w g s A n c)(hk:w'.heap[g]?=w.heap[g]?):Bx w' g s A n c:=hk.trans h
theorem Bx.below (h:Bx w g s A n c)(hb:Below w.heap.size w w'):Bx w' g s A n c:=h.keep (hb.block g h.lt)
abbrev Bx.b:= @Bx.below
instance:Mv (Bx w g s A n c) w w' (Bx w' g s A n c):=⟨fun h b=>h.below b⟩
theorem Bx.new (w:World)(s:Bool)(A:Option Addr)(n c:Nat):Bx (w.alloc (.cells #[.bool s,.slice A n c] 43)) w.heap.size s A n c:=heap_alloc_new w _
theorem Bx.newAt (w:World){g:Nat}(hg:w.heap.size=g)(s:Bool)(A:Option Addr)(n c:Nat):Bx (w.alloc (.cells #[.bool s,.slice A n c] 43)) g s A n c:=hg▸heap_alloc_new w _
theorem Bx.cell0 (h:Bx w g s A n c):w.cell? ⟨g,0,none⟩=some (.bool s):=by rw[cell_of_row w g 0 _ _ (0,0) h];rfl
theorem Bx.cell1 (h:Bx w g s A n c):w.cell? ⟨g,1,none⟩=some (.slice A n c):=by rw[cell_of_row w g 1 _ _ (0,0) h];rfl
theorem Bx.frozen (h:Bx w g s A n c)(i:Nat):w.frozen? ⟨g,i,none⟩=false:=by
 unfold Bx at h
 simp[World.frozen?,h]
theorem Bx.no32 (h:Bx w g s A n c){o:Nat}{x:Int}(hc:w.cell? ⟨g,o,none⟩=some (.int .u32 x)):False:=by
 rw[cell_of_row w g o _ _ (0,0) h]at hc
 match o,hc with
 | 0,hc=>simp at hc
 | 1,hc=>simp at hc
 | k+2,hc=>simp at hc
theorem Bx.set (h:Bx w g s A n c)(s':Bool)(A':Option Addr)(n' c':Nat):Bx ((w.setCell ⟨g,0,none⟩ (.bool s')).setCell ⟨g,1,none⟩ (.slice A' n' c')) g s' A' n' c':=by
 unfold Bx at h|-
 simp[World.setCell,Array.getElem?_modify,h]
theorem ox (w:World){g k o1 o2:Nat}(h:k≠g)(u v:Value):((w.setCell ⟨g,o1,none⟩ u).setCell ⟨g,o2,none⟩ v).heap[k]?=w.heap[k]?:=by
 rw[Below.heap_setCell _ _ _ _ h,Below.heap_setCell _ _ _ _ h]
theorem Bx.far (h:Bx w g s A n c){k:Nat}(hk:g≠k)(u v:Value):Bx ((w.setCell ⟨k,0,none⟩ u).setCell ⟨k,1,none⟩ v) g s A n c:=h.keep (ox w hk u v)
theorem DW{b:Nat}{B:Option Addr}{m d:Nat}{xs:List Nat}(h:Sl w b B m d xs)(X:Bx w g s A n c)(u v:Value):Sl ((w.setCell ⟨g,0,none⟩ u).setCell ⟨g,1,none⟩ v) b B m d xs:=
 h.keep fun hm=>ox w (fun e=>by
  obtain⟨o,_,a⟩:=h.at hm
  have:=a 0 hm
  rw[e]at this;exact X.no32 this) u v
theorem Nm.st{B:Option Addr}{m d a:Nat}(h:Nm w B m d a)(X:Bx w g s A n c)(u v:Value):Nm ((w.setCell ⟨g,0,none⟩ u).setCell ⟨g,1,none⟩ v) B m d a:=by
 obtain⟨b,h⟩:=h;exact⟨b,DW h X u v⟩
theorem Rd.st{B:Option Addr}{m d a:Nat}(h:Rd w B m d a)(X:Bx w g s A n c)(u v:Value):Rd ((w.setCell ⟨g,0,none⟩ u).setCell ⟨g,1,none⟩ v) B m d a:=by
 obtain⟨b,xs,h,e⟩:=h;exact⟨b,xs,DW h X u v,e⟩
theorem Wn.st{t:Bool}{B:Option Addr}{m d:Nat}{z:Int}(h:Wn w t B m d z)(X:Bx w g s A n c)(u v:Value):Wn ((w.setCell ⟨g,0,none⟩ u).setCell ⟨g,1,none⟩ v) t B m d z:=⟨h.1.st X u v,h.2⟩
theorem Bx.drew (h:Bx w g s A n c):Bx w.drew g s A n c:=h
theorem Nm.drew{a:Nat}(h:Nm w A n c a):Nm w.drew A n c a:=h
theorem Rd.drew{a:Nat}(h:Rd w A n c a):Rd w.drew A n c a:=h
theorem Wn.drew{z:Int}(h:Wn w s A n c z):Wn w.drew s A n c z:=h
theorem Wr.drew{z:Int}(h:Wr w s A n c z):Wr w.drew s A n c z:=h
end
end Go.Proofs.YteigedaefgmojaaGreatDoor
namespace Go.Proofs.YteigedaefgmojaaGreatDoor
open Go.Proofs.Tryz
set_option maxHeartbeats 1000000
open Go.RowKit
set_option linter.unusedVariables false
def Bo (w:World)(g:Nat)(cs:Array Value)(T:TypeId):Prop:=w.heap[g]?=some (.cells cs T (0,0))
def no32 (v:Value):Bool:=match v with
 | .int .u32 _=>false
 | _=>true
section
variable {w w':World} {g:Nat} {cs:Array Value} {T:TypeId}
theorem Bo.lt (h:Bo w g cs T):g < w.heap.size:=by
 rcases Nat.lt_or_ge g w.heap.size with hlt | hge
 ·exact hlt
 ·unfold Bo at h;rw[Array.getElem?_eq_none hge]at h;cases h
theorem Bo.keep (h:Bo w g cs T)(hk:w'.heap[g]?=w.heap[g]?):Bo w' g cs T:=hk.trans h
theorem Bo.below (h:Bo w g cs T)(hb:Below w.heap.size w w'):Bo w' g cs T:=h.keep (hb.block g h.lt)
abbrev Bo.b:= @Bo.below
instance:Mv (Bo w g cs T) w w' (Bo w' g cs T):=⟨fun h b=>h.below b⟩
theorem Bo.drew (h:Bo w g cs T):Bo w.drew g cs T:=h
theorem Bo.new (w:World)(cs:Array Value)(T:TypeId):Bo (w.alloc (.cells cs T)) w.heap.size cs T:=heap_alloc_new w _
theorem Bo.newAt (w:World){g:Nat}(hg:w.heap.size=g)(cs:Array Value)(T:TypeId):Bo (w.alloc (.cells cs T)) g cs T:=hg▸heap_alloc_new w _
theorem Bo.cell (h:Bo w g cs T)(i:Nat):w.cell? ⟨g,i,none⟩=cs[i]?:=by rw[cell_of_row w g i _ _ (0,0) h]
theorem Bo.frozen (h:Bo w g cs T)(i:Nat):w.frozen? ⟨g,i,none⟩=false:=by
 unfold Bo at h
 simp[World.frozen?,h]
theorem Bo.set (h:Bo w g cs T)(i:Nat)(v:Value):Bo (w.setCell ⟨g,i,none⟩ v) g (cs.setIfInBounds i v) T:=by
 unfold Bo at h|-
 simp[World.setCell,Array.getElem?_modify,h]
theorem Bo.far (h:Bo w g cs T){k:Nat}(hk:g≠k)(i:Nat)(v:Value):Bo (w.setCell ⟨k,i,none⟩ v) g cs T:=h.keep (Below.heap_setCell w _ _ _ hk)
theorem Bo.no (h:Bo w g cs T)(hn:cs.all no32=true){o:Nat}{x:Int}(hc:w.cell? ⟨g,o,none⟩=some (.int .u32 x)):False:=by
 rw[h.cell]at hc;rw[Array.all_eq_true]at hn;obtain⟨hlt,a⟩:=Array.getElem?_eq_some_iff.1 hc
 have:=hn o hlt
 rw[a]at this
 cases this
theorem Ai{b:Nat}{B:Option Addr}{m d:Nat}{xs:List Nat}(h:Sl w b B m d xs)(X:Bo w g cs T)(hn:cs.all no32=true)(i:Nat)(v:Value):Sl (w.setCell ⟨g,i,none⟩ v) b B m d xs:=
 h.keep fun hm=>Below.heap_setCell w _ _ _ (fun e=>by
  obtain⟨o,_,a⟩:=h.at hm
  have:=a 0 hm
  rw[e]at this;exact X.no hn this)
theorem Nm.store{B:Option Addr}{m d a:Nat}(h:Nm w B m d a)(X:Bo w g cs T)(hn:cs.all no32=true)(i:Nat)(v:Value):Nm (w.setCell ⟨g,i,none⟩ v) B m d a:=by
 obtain⟨b,h⟩:=h;exact⟨b,Ai h X hn i v⟩
theorem Wn.store{s:Bool}{B:Option Addr}{m d:Nat}{z:Int}(h:Wn w s B m d z)(X:Bo w g cs T)(hn:cs.all no32=true)(i:Nat)(v:Value):Wn (w.setCell ⟨g,i,none⟩ v) s B m d z:=⟨h.1.store X hn i v,h.2⟩
theorem et{B:Nat}{a:World}(h:Below B a w){b:Nat}(hp:B<=b)(i:Nat)(u:Value):Below B a (w.setCell ⟨b,i,none⟩ u):=h.setCell (p:=⟨b,i,none⟩) hp u
end
theorem Ee (w:World)(a b c d e:Obj):Below w.heap.size w (((((w.alloc a).alloc b).alloc c).alloc d).alloc e):=(iF w a b c d).alloc (by simp;omega) _
theorem dV{w:World}{A:Option Addr}{n c a:Nat}(s:Bool)(h:Nm w A n c a):Calls prog 179 #[.bool s,.slice A n c] w (W1 w n (sg s a)):=by
 have b:=Lib.hid (h.wn s);have d:=h.rd.big;clear h
 cases s
 ·go_enter func179,ntmps179
  go_wp2;exact bodyPost_ret (v:= .agg #[.bool false,.slice A n c]) (by simp[results,results179,go_sem]) rfl ⟨false,A,n,c,rfl,b.out.below (ab _ _),Nat.le_refl _,ab _ _⟩
 ·by_cases f:0 < n
  ·have e:decide (0 < n)=true:=by simpa using f
   go_enter func179,ntmps179
   go_wp2;exact bodyPost_ret (v:= .agg #[.bool true,.slice A n c]) (by simp[results,results179,go_sem]) rfl ⟨true,A,n,c,rfl,by have:=b.out;rw[e]at this;exact this.below (ab _ _),Nat.le_refl _,ab _ _⟩
  ·obtain rfl:n=0:=by omega
   go_enter func179,ntmps179
   go_wp2;exact bodyPost_ret (v:= .agg #[.bool false,.slice A 0 c]) (by simp[results,results179,go_sem]) rfl ⟨false,A,0,c,rfl,b.out.below (ab _ _),Nat.le_refl _,ab _ _⟩
theorem ic{w:World}{A:Option Addr}{n c a:Nat}(s:Bool)(h:Rd w A n c a):Calls prog 123 #[.bool s,.slice A n c] w (W1 w n (sg s a)):=by
 go_enter func123,ntmps123
 go_wp2_with (first
  | (go_at_call 181;((with_reducible refine(pn (h.below (ab _ _))).mono ?_);rintro e w1 ⟨A1,n1,c1,rfl,h1,g,b⟩))
  | (go_at_call 179;((with_reducible refine(dV s h1).mono ?_);rintro e j ⟨s2,A2,n2,c2,rfl,h2,i,d⟩;obtain⟨f,hf⟩:=aQ (bt b d))))
 have X:=(Bx.new w false none 0 0).below (bt b d);exact bodyPost_ret (v:= .agg #[.bool s2,.slice A2 n2 c2]) (by simp[results,results123,go_sem,X.cell0,X.cell1]) rfl ⟨s2,A2,n2,c2,rfl,h2.st X _ _,by omega,fW (bt (ab _ _) (bt b d)) (Nat.le_refl _) _ _⟩
theorem vJ{w:World}{A:Option Addr}{n c:Nat}{s:Bool}{z r:Int}(h:Wr w s A n c z)(hr: -z=r):Calls prog 200 #[.agg #[.bool s,.slice A n c]] w (W1 w n r):=by
 obtain⟨a,h,e⟩:=h
 have d:Hid (sg (!s) a=r):=Lib.hid (by rw[<-hr,<-e];cases s <;> simp[sg])
 clear hr e
 go_enter func200,ntmps200
 go_wp2_with (first
  | (go_at_call 123;((with_reducible refine(ic _ (h.below (bJ _ _ _))).mono ?_);rintro e f ⟨s2,A2,n2,c2,rfl,h2,i,b⟩;obtain⟨g,hf⟩:=aQ b)))
 have X:Bx f (w.heap.size+1) false none 0 0:=(Bx.newAt _ (by simp) false none 0 0).below b
 exact bodyPost_ret (v:= .agg #[.bool s2,.slice A2 n2 c2]) (by simp[results,results200,go_sem,X.cell0,X.cell1]) rfl ⟨s2,A2,n2,c2,rfl,d.out▸h2.st X _ _,by omega,fW (bt (bJ _ _ _) b) (by simp) _ _⟩
section
variable {w:World} {A1 A2:Option Addr} {n m c1 c2 a b:Nat}
theorem qZ (h1:Rd w A1 n c1 a):Calls prog 180 #[.slice A1 n c1] w (PI w (ac a:Nat)):=by
 obtain⟨b,xs,h1,rfl⟩:=h1;refine(Cq w b A1 n c1 xs h1).mono ?_;rintro e w' ⟨rfl,rfl⟩;exact⟨rfl,Below.refl _ _⟩
theorem gE{z:Int}(h1:Rd w A1 n c1 a)(hz:((ac a:Nat):Int)=z):Calls prog 180 #[.slice A1 n c1] w (PI w z):=hz▸qZ h1
end
theorem jy (a:Nat):ah (a:Int) (a:Int)=0:=aT rfl
theorem eE (a b:Int): -1<=ah a b/\ah a b<=1:=by unfold ah;split <;> (try split) <;> omega
theorem aF{a:Nat}:ac a=0↔a=0:=by
 constructor
 ·intro h
  have:=dw a
  rw[h]at this
  simpa using this
 ·rintro rfl;rfl
def kI (s:Bool)(n a:Nat):Bool:=decide ((ag a).length=n) && (decide (0 < n) || !s)
theorem tM (s:Bool){a:Nat}(h:a < 4294967296^0):kI s 0 a=!s:=by
 obtain rfl:a=0:=by simpa using h
 simp[kI,ay]
theorem yt (s:Bool){n:Nat}{xs:List Nat}(hl:aR xs)(h:xs.length=n)(hn:0 < n):kI s n (af xs)=(((xs.getD (n-1) 0:Nat):Int) !=0):=by
 have h1:decide (0 < n)=true:=by simpa using hn
 unfold kI
 rw[h1,Bool.true_or,Bool.and_true]
 by_cases e:xs.getD (n-1) 0=0
 ·rw[e]
  have:(ag (af xs)).length<=n-1:=by
   apply az
   have e3:af (xs.drop (n-1))=0:=by rw[aO (by omega),e,show n-1+1=n by omega,List.drop_of_length_le (by omega)];rfl
   have e2:=ao xs (k:=n-1) (by omega);rw[e3,Nat.mul_zero,Nat.add_zero]at e2;rw[e2]
   have:=bi (hl.take (n-1))
   rwa [List.length_take,h,Nat.min_eq_left (by omega)]at this
  simp
  omega
 ·have:=dF hl (k:=n) (by omega) (by rw[List.drop_of_length_le (by omega)];rfl) (fun _=>e)
  have a:(ag (af xs)).length=n:=by rw[<-this,List.length_take];omega
  rw[a]
  have e':((xs.getD (n-1) 0:Nat):Int)≠0:=by omega
  simp only[decide_true];exact(bne_iff_ne.2 e').symm
theorem AR{w:World}{A:Option Addr}{n c a:Nat}{s:Bool}{r:Bool}(h:Rd w A n c a)(hr:kI s n a=r):Calls prog 252 #[.agg #[.bool s,.slice A n c]] w (PB w r):=by
 rcases Nat.eq_zero_or_pos n with e | f
 ·subst e;rw[tM s h.bound]at hr;subst hr
  go_enter func252,ntmps252
  go_wp2
  go_ret
  exact⟨rfl,ab _ _⟩
 ·obtain⟨b,xs,h,rfl⟩:=h;rw[yt s h.lim h.len f]at hr;have g:=h.big;have i:=h.cap;have hlt:=h.lt f;obtain⟨o,rfl,hcell⟩:=h.at f;have d:=hcell (n-1) (by omega);clear hcell h
  have hi:((n:Int)-1).toNat=n-1:=by omega
  revert hr d
  generalize xs.getD (n-1) 0=x
  intro hr d
  have j:=Lib.hid hr
  have hq:((n:Int)==0)=false:=by
   have:(n:Int)≠0:=by omega
   simpa using this
  have k:b≠w.heap.size:=by omega
  clear hr
  go_enter func252,ntmps252
  go_wp2
  go_ret
  exact⟨oX j.out,ab _ _⟩
section
variable {w:World} {A1 A2:Option Addr} {n m c1 c2 a b:Nat}
theorem lL{a n s:Nat}(ha:a < 4294967296^n):(ag (a*2^s)).length<=n+s/32+1:=by
 have:=er (m:=s/32+1) (b:=2^s) ha (by rw[mD];exact Nat.pow_lt_pow_right (by decide) (by omega))
 omega
theorem Du (s:Nat)(h1:Rd w A1 n c1 a)(hn:n<=1073741824)(hs:s<=16777216):Calls prog 206 #[.slice A1 n c1,.int .i64 (s:Int)] w (P1 w (n+s/32+1) (a*2^s)):=by
 have hl:=lL (s:=s) h1.bound;obtain⟨b,xs,h1,rfl⟩:=h1;refine(C7 w b A1 n c1 xs s h1 hs (by omega)).mono ?_;rintro e w' ⟨g,A,c,rfl,hm,hb⟩;exact⟨A,_,c,rfl,hm.nm,hl,hb⟩
theorem AK (z:Int)(h1:Rd w A1 n c1 a)(hz:z < 1):Calls prog 206 #[.slice A1 n c1,.int .i64 z] w (P1 w n a):=by
 have hl:=h1.limbs_le;obtain⟨b,xs,h1,rfl⟩:=h1;refine(r8 w b A1 n c1 xs z h1 hz).mono ?_;rintro e w' ⟨g,A,c,rfl,hm,hb⟩;exact⟨A,_,c,rfl,hm.nm,hl,hb⟩
theorem sy{s r:Nat}(h1:Rd w A1 n c1 a)(hn:n<=1073741824)(hs:s<=16777216)(hr:a*2^s=r):Calls prog 206 #[.slice A1 n c1,.int .i64 (s:Int)] w (P1 w (n+s/32+1) r):=hr▸Du s h1 hn hs
end
theorem ws{a s:Nat}(ha:a≠0):ac (a*2^s)=ac a+s:=by
 have h1:=dw a;have h2:=blen_le ha
 have c:ac a≠0:=fun e=>by rw[e]at h1;simp at h1;exact ha h1
 have b:=Nat.two_pow_pos s
 have:=jv (n:=a*2^s) (k:=ac a-1+s) (by have:=Nat.mul_pos (Nat.pos_of_ne_zero ha) b;omega)
  (by rw[Nat.pow_add];exact Nat.mul_le_mul_right _ h2)
  (by rw[show ac a-1+s+1=ac a+s by omega,Nat.pow_add];exact Nat.mul_lt_mul_of_pos_right h1 b)
 omega
theorem wq (s:Nat):ac (2^s)=s+1:=by
 have:=ws (a:=1) (s:=s) (by decide)
 rw[Nat.one_mul]at this;rw[this]
 have:ac 1=1:=by decide
 omega
theorem Hy{w:World}{A B:Option Addr}{n c m d a b:Nat}(s t:Bool){r:Int}(h:Rd w A n c a)(k:Rd w B m d b)(hn:n<=1073741824)(hm:m<=1073741824)(hr:sg s a+sg t b=r):
  Calls prog 177 #[.bool s,.slice A n c,.bool t,.slice B m d] w (W1 w (n+m+1) r):=by
 by_cases hs:s=t
 ·subst hs
  have l:Hid (sg s (a+b)=r):=Lib.hid (by rw[<-hr];cases s <;> simp[sg] <;> omega)
  have hq:(s==s)=true:=by simp
  clear hr
  go_enter func177,ntmps177
  go_wp2_with (first
   | (go_at_call 221;((with_reducible refine(Ds (h.below (ab _ _)) (k.below (ab _ _)) hn hm).mono ?_);rintro e w1 ⟨A1,n1,c1,rfl,h1,u,f⟩))
   | (go_at_call 179;((with_reducible refine(dV s h1).mono ?_);rintro e y ⟨s2,A2,n2,c2,rfl,h2,x,g⟩;obtain⟨q,hf⟩:=aQ (bt f g))))
  have X:=(Bx.new w false none 0 0).below (bt f g);exact bodyPost_ret (v:= .agg #[.bool s2,.slice A2 n2 c2]) (by simp[results,results177,go_sem,X.cell0,X.cell1]) rfl ⟨s2,A2,n2,c2,rfl,l.out▸h2.st X _ _,by omega,fW (bt (ab _ _) (bt f g)) (Nat.le_refl _) _ _⟩
 ·have hq:(s==t)=false:=by simpa using hs
  have i:t=!s:=by cases s <;> cases t <;> simp_all
  by_cases o:b<=a
  ·have l:Hid (sg s (a-b)=r):=Lib.hid (by rw[<-hr,i];cases s <;> simp[sg] <;> omega)
   have z:=Lib.hid hs;clear hr i hs
   go_enter func177,ntmps177
   go_wp2_with (first
    | (go_at_call 222;((with_reducible refine(FV (h.below (ab _ _)) (k.below (ab _ _)) o).mono ?_);rintro e w1 ⟨A1,n1,c1,rfl,h1,u,f⟩))
    | (go_at_call 179;((with_reducible refine(dV s h1).mono ?_);rintro e y ⟨s2,A2,n2,c2,rfl,h2,x,g⟩;obtain⟨q,hf⟩:=aQ (bt f g))))
   have X:=(Bx.new w false none 0 0).below (bt f g);exact bodyPost_ret (v:= .agg #[.bool s2,.slice A2 n2 c2]) (by simp[results,results177,go_sem,X.cell0,X.cell1]) rfl ⟨s2,A2,n2,c2,rfl,l.out▸h2.st X _ _,by omega,fW (bt (ab _ _) (bt f g)) (Nat.le_refl _) _ _⟩
  ·have l:Hid (sg t (b-a)=r):=Lib.hid (by rw[<-hr,i];cases s <;> simp[sg] <;> omega)
   have z:=Lib.hid hs
   have hlt:a < b:=by omega
   have p:a<=b:=by omega
   clear hr i hs o
   go_enter func177,ntmps177
   go_wp2_with (first
    | (go_at_call 222;((with_reducible refine(Dv (h.below (ab _ _)) (k.below (ab _ _)) hlt).mono ?_);rintro e w0 ⟨rfl,j⟩))
    | (go_at_call 222;((with_reducible refine(FV (k.below (bt (ab _ _) j)) (h.below (bt (ab _ _) j)) p).mono ?_);rintro e w1 ⟨A1,n1,c1,rfl,h1,u,f⟩))
    | (go_at_call 179;((with_reducible refine(dV t h1).mono ?_);rintro e y ⟨s2,A2,n2,c2,rfl,h2,x,g⟩;obtain⟨q,hf⟩:=aQ (bt j (bt f g)))))
   have X:=(Bx.new w false none 0 0).below (bt j (bt f g));exact bodyPost_ret (v:= .agg #[.bool s2,.slice A2 n2 c2]) (by simp[results,results177,go_sem,X.cell0,X.cell1]) rfl ⟨s2,A2,n2,c2,rfl,l.out▸h2.st X _ _,by omega,fW (bt (ab _ _) (bt j (bt f g))) (Nat.le_refl _) _ _⟩
theorem lR{w:World}{A B:Option Addr}{n c m d:Nat}{s t:Bool}{x y r:Int}(h:Wr w s A n c x)(k:Wr w t B m d y)(hn:n<=1073741824)(hm:m<=1073741824)(hr:x+y=r):
  Calls prog 120 #[.agg #[.bool s,.slice A n c],.agg #[.bool t,.slice B m d]] w (W1 w (n+m+1) r):=by
 obtain⟨a,h,e1⟩:=h;obtain⟨b,k,e2⟩:=k
 have g:Hid (sg s a+sg t b=r):=Lib.hid (by rw[<-hr,e1,e2])
 clear hr e1 e2
 go_enter func120,ntmps120
 go_wp2_with (first
  | (go_at_call 177;((with_reducible refine(Hy s t (h.below (fB _ _ _ _)) (k.below (fB _ _ _ _)) hn hm g.out).mono ?_);rintro e j ⟨s2,A2,n2,c2,rfl,h2,i,f⟩;obtain⟨l,hf⟩:=aQ f)))
 have X:Bx j (w.heap.size+2) false none 0 0:=(Bx.newAt _ (by simp) false none 0 0).below f
 exact bodyPost_ret (v:= .agg #[.bool s2,.slice A2 n2 c2]) (by simp[results,results120,go_sem,X.cell0,X.cell1]) rfl ⟨s2,A2,n2,c2,rfl,h2.st X _ _,i,fW (bt (fB _ _ _ _) f) (by omega) _ _⟩
theorem q6{w:World}{A B:Option Addr}{n c m d:Nat}{s t:Bool}{x y r:Int}(h:Wr w s A n c x)(k:Wr w t B m d y)(hn:n<=1073741824)(hm:m<=1073741824)(hr:x-y=r):
  Calls prog 150 #[.agg #[.bool s,.slice A n c],.agg #[.bool t,.slice B m d]] w (W1 w (n+m+1) r):=by
 obtain⟨a,h,e1⟩:=h;obtain⟨b,k,e2⟩:=k
 have g:Hid (sg s a+sg (!t) b=r):=Lib.hid (by rw[<-hr,<-e1,<-e2];cases t <;> simp[sg] <;> omega)
 clear hr e1 e2
 go_enter func150,ntmps150
 go_wp2_with (first
  | (go_at_call 177;((with_reducible refine(Hy s (!t) (h.below (fB _ _ _ _)) (k.below (fB _ _ _ _)) hn hm g.out).mono ?_);rintro e j ⟨s2,A2,n2,c2,rfl,h2,i,f⟩;obtain⟨l,hf⟩:=aQ f)))
 have X:Bx j (w.heap.size+2) false none 0 0:=(Bx.newAt _ (by simp) false none 0 0).below f
 exact bodyPost_ret (v:= .agg #[.bool s2,.slice A2 n2 c2]) (by simp[results,results150,go_sem,X.cell0,X.cell1]) rfl ⟨s2,A2,n2,c2,rfl,h2.st X _ _,i,fW (bt (fB _ _ _ _) f) (by omega) _ _⟩
