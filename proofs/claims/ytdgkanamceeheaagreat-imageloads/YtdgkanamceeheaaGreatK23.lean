/- The document's port: its regions. The document's port: its regions. -/
import Derived.Test.YtdgkanamceeheaaGreatK22
import Derived.Test.YtdgkanamceeheaaGreatK13
import Derived.Deep.RegionHeld3
set_option linter.unusedVariables false
set_option maxRecDepth 100000
namespace Go.Proofs.YtdgkanamceeheaaGreat
open Go.RowKit
set_option maxHeartbeats 4000000 in
theorem rport2 {W : World} {cb xb i : Nat} {hosts major : Int} {pA wA vA qA : Option Addr} {pl pc wl wk vl vc ql qc : Nat} {qid qhost qpart qkind qvl qsub qudp qsize qdepth qfresh : Int} {qout : Bool} (HC : Hid (W.heap[cb]? = some (.cells #[.int .i64 hosts,.slice pA pl pc,.int .i64 major,.slice wA wl wk,.slice vA vl vc,.slice qA ql qc] 28))) (HP : Hid (W.heap[xb]? = some (.cells #[.int .i64 qid,.int .i64 qhost,.int .i64 qpart,.int .i64 qkind,.bool qout,.int .i64 qvl,.int .i64 qsub,.int .i64 qudp,.int .i64 qsize,.int .i64 qdepth,.int .i64 qfresh] 62))) (hpl : pl ≤ maxLen) {u0 u3 u4 u6 u7 u8 u9 aa ac ae af ag ah ai aj ak am ao ap aq ar au av aw ax ay aA aB aC aD aE aF aG aH aI aJ aK aL aM aN aO aP aQ aR aS aT aU aV aW aX aY aZ ba bb bc bd bf bg bi bj bm bo br bs bt bu bw bz bA bB bC bD bE bF bG bH bI bJ bK bL bM bN bO bP bQ bR bS bT bU bV bW bX bY bZ cg ci cj ck cq cr ct cu cv cw cy cz cE cF cG cH cI cJ cK cM cN cO cP cQ cR cS cT cU cV cW cX cY cZ da dg di dj dk dq dt du dv dw dy dz dE dF dG dH dI dJ dK dM dN dO dP dQ dR dS dT dU dV dW dX dY dZ ed ee ef eg eh ei ej ek el em eo ep eq et eu ey ez eA eB eC eD eE eF eG eH eI eJ eK eL eM eN eO eP eQ eR eS eT eU eV eW eX eY eZ fa fb fc fd fe fg fh fi fj fk fm fn fo fp fq fs fu fv fw fx fy fz fA : Value} {Q : Exit → Act → World → Prop} (HPN : ∀ (p : List PanicEntry) (a : Act) (dd : Nat) (vv : Value) (w : World),Q (.panic p) (a.put (some dd) vv) w → Q (.panic p) a w) (hQ : ∀ (wc : World),Below W.heap.size W wc → ∀ x15 x16 x17 x18 x19 x20 x21 x22 x23 x24 x25 x26 x27 x28 x29 x30 x31 x32 x33 x34 x35 x36 x37 x38 x39 x40 x41 x42 x43 x44 x45 x46 x47 x48 x49 x50 x51 x52 x53 x54 x55 x56 x57 : Value,Q .normal ⟨#[u0,(.int .i64 i),(.pointer (some ⟨cb,0,none⟩)),u3,u4,(.pointer (some ⟨xb,0,none⟩)),u6,u7,u8,u9,aa,ac,ae,af,ag,x15,x16,x17,x18,x19,x20,x21,x22,x23,x24,x25,x26,x27,x28,x29,x30,x31,x32,x33,x34,x35,x36,x37,x38,x39,x40,x41,x42,x43,x44,x45,x46,x47,x48,x49,x50,x51,x52,x53,x54,x55,x56,x57,(.bool (decide (512 ≤ i) || !mayP pl qid qpart qkind qudp qsize)),bf,bg,bi,bj,bm,bo,br,bs,bt,bu,bw,bz,bA,bB,bC,bD,bE,bF,bG,bH,bI,bJ,bK,bL,bM,bN,bO,bP,bQ,bR,bS,bT,bU,bV,bW,bX,bY,bZ,cg,ci,cj,ck,cq,cr,ct,cu,cv,cw,cy,cz,cE,cF,cG,cH,cI,cJ,cK,cM,cN,cO,cP,cQ,cR,cS,cT,cU,cV,cW,cX,cY,cZ,da,dg,di,dj,dk,dq,dt,du,dv,dw,dy,dz,dE,dF,dG,dH,dI,dJ,dK,dM,dN,dO,dP,dQ,dR,dS,dT,dU,dV,dW,dX,dY,dZ,ed,ee,ef,eg,eh,ei,ej,ek,el,em,eo,ep,eq,et,eu,ey,ez,eA,eB,eC,eD,eE,eF,eG,eH,eI,eJ,eK,eL,eM,eN,eO,eP,eQ,eR,eS,eT,eU,eV,eW,eX,eY,eZ,fa,fb,fc,fd,fe,fg,fh,fi,fj,fk,fm,fn,fo,fp,fq,fs,fu,fv,fw,fx,fy,fz,fA],[]⟩ wc) :
    Code.wp Tryz.prog (Code.region 2 #[⟨some 15,.move (.tmp 1),3,"ref.go:99",#[],none⟩,⟨some 16,.binOp .geq 3 (.tmp 15) (.const (.int .i64 512)) 3,4,"ref.go:99",#[⟨0,.data⟩],none⟩,⟨some 17,.move (.tmp 16),4,"ref.go:99",#[⟨1,.data⟩],none⟩,⟨some 18,.fieldAddr 62 (.tmp 5) 0,0,"ref.go:99",#[⟨2,.guard⟩],some (2,false)⟩,⟨some 19,.load 3 (.tmp 18),3,"ref.go:99",#[⟨3,.data⟩,⟨2,.guard⟩],some (2,false)⟩,⟨some 20,.binOp .lss 3 (.tmp 19) (.const (.int .i64 1)) 3,4,"ref.go:99",#[⟨4,.data⟩,⟨2,.guard⟩],some (2,false)⟩,⟨some 21,.pick (.tmp 17) (.const (.bool true)) (.tmp 20),4,"ref.go:99",#[⟨2,.data⟩,⟨5,.data⟩],none⟩,⟨some 22,.move (.tmp 21),4,"ref.go:99",#[⟨6,.data⟩,⟨2,.chain⟩],none⟩,⟨some 23,.fieldAddr 62 (.tmp 5) 3,0,"ref.go:99",#[⟨7,.guard⟩],some (7,false)⟩,⟨some 24,.load 3 (.tmp 23),3,"ref.go:99",#[⟨8,.data⟩,⟨7,.guard⟩],some (7,false)⟩,⟨some 25,.binOp .neq 3 (.tmp 24) (.const (.int .i64 1)) 3,4,"ref.go:99",#[⟨9,.data⟩,⟨7,.guard⟩],some (7,false)⟩,⟨some 26,.move (.tmp 25),4,"ref.go:99",#[⟨10,.data⟩,⟨7,.chain⟩,⟨7,.guard⟩],some (7,false)⟩,⟨some 27,.fieldAddr 62 (.tmp 5) 3,0,"ref.go:99",#[⟨11,.guard⟩],some (11,true)⟩,⟨some 28,.load 3 (.tmp 27),3,"ref.go:99",#[⟨12,.data⟩,⟨11,.guard⟩],some (11,true)⟩,⟨some 29,.binOp .neq 3 (.tmp 28) (.const (.int .i64 2)) 3,4,"ref.go:99",#[⟨13,.data⟩,⟨11,.guard⟩],some (11,true)⟩,⟨some 30,.pick (.tmp 26) (.tmp 29) (.const (.bool false)),4,"ref.go:99",#[⟨11,.data⟩,⟨14,.data⟩,⟨7,.guard⟩],some (7,false)⟩,⟨some 31,.pick (.tmp 22) (.const (.bool true)) (.tmp 30),4,"ref.go:99",#[⟨7,.data⟩,⟨15,.data⟩],none⟩,⟨some 32,.move (.tmp 31),4,"ref.go:99",#[⟨16,.data⟩,⟨11,.chain⟩],none⟩,⟨some 33,.load 28 (.tmp 2),28,"ref.go:99",#[⟨17,.guard⟩],some (17,false)⟩,⟨some 34,.fieldAddr 62 (.tmp 5) 2,0,"ref.go:99",#[⟨17,.guard⟩],some (17,false)⟩,⟨some 35,.load 3 (.tmp 34),3,"ref.go:99",#[⟨19,.data⟩,⟨17,.guard⟩],some (17,false)⟩,⟨some 36,.call ⟨.value (.func 92),#[.tmp 33,.tmp 35],#[28,3]⟩,4,"ref.go:99",#[⟨18,.data⟩,⟨20,.data⟩,⟨17,.chain⟩,⟨17,.guard⟩],some (17,false)⟩,⟨some 37,.unOp .not 4 (.tmp 36),4,"ref.go:99",#[⟨21,.data⟩,⟨17,.guard⟩],some (17,false)⟩,⟨some 38,.pick (.tmp 32) (.const (.bool true)) (.tmp 37),4,"ref.go:99",#[⟨17,.data⟩,⟨22,.data⟩],none⟩,⟨some 39,.move (.tmp 38),4,"ref.go:99",#[⟨23,.data⟩,⟨21,.chain⟩],none⟩,⟨some 40,.fieldAddr 62 (.tmp 5) 7,0,"ref.go:99",#[⟨24,.guard⟩],some (24,false)⟩,⟨some 41,.load 3 (.tmp 40),3,"ref.go:99",#[⟨25,.data⟩,⟨24,.guard⟩],some (24,false)⟩,⟨some 42,.binOp .lss 3 (.tmp 41) (.const (.int .i64 0)) 3,4,"ref.go:99",#[⟨26,.data⟩,⟨24,.guard⟩],some (24,false)⟩,⟨some 43,.pick (.tmp 39) (.const (.bool true)) (.tmp 42),4,"ref.go:99",#[⟨24,.data⟩,⟨27,.data⟩],none⟩,⟨some 44,.move (.tmp 43),4,"ref.go:99",#[⟨28,.data⟩,⟨24,.chain⟩],none⟩,⟨some 45,.fieldAddr 62 (.tmp 5) 7,0,"ref.go:99",#[⟨29,.guard⟩],some (29,false)⟩,⟨some 46,.load 3 (.tmp 45),3,"ref.go:99",#[⟨30,.data⟩,⟨29,.guard⟩],some (29,false)⟩,⟨some 47,.binOp .gtr 3 (.tmp 46) (.const (.int .i64 65535)) 3,4,"ref.go:99",#[⟨31,.data⟩,⟨29,.guard⟩],some (29,false)⟩,⟨some 48,.pick (.tmp 44) (.const (.bool true)) (.tmp 47),4,"ref.go:99",#[⟨29,.data⟩,⟨32,.data⟩],none⟩,⟨some 49,.move (.tmp 48),4,"ref.go:99",#[⟨33,.data⟩,⟨29,.chain⟩],none⟩,⟨some 50,.fieldAddr 62 (.tmp 5) 8,0,"ref.go:99",#[⟨34,.guard⟩],some (34,false)⟩,⟨some 51,.load 3 (.tmp 50),3,"ref.go:99",#[⟨35,.data⟩,⟨34,.guard⟩],some (34,false)⟩,⟨some 52,.binOp .lss 3 (.tmp 51) (.const (.int .i64 1)) 3,4,"ref.go:99",#[⟨36,.data⟩,⟨34,.guard⟩],some (34,false)⟩,⟨some 53,.pick (.tmp 49) (.const (.bool true)) (.tmp 52),4,"ref.go:99",#[⟨34,.data⟩,⟨37,.data⟩],none⟩,⟨some 54,.move (.tmp 53),4,"ref.go:99",#[⟨38,.data⟩,⟨34,.chain⟩],none⟩,⟨some 55,.fieldAddr 62 (.tmp 5) 8,0,"ref.go:99",#[⟨39,.guard⟩],some (39,false)⟩,⟨some 56,.load 3 (.tmp 55),3,"ref.go:99",#[⟨40,.data⟩,⟨39,.guard⟩],some (39,false)⟩,⟨some 57,.binOp .gtr 3 (.tmp 56) (.const (.int .i64 8192)) 3,4,"ref.go:99",#[⟨41,.data⟩,⟨39,.guard⟩],some (39,false)⟩,⟨some 58,.pick (.tmp 54) (.const (.bool true)) (.tmp 57),4,"ref.go:99",#[⟨39,.data⟩,⟨42,.data⟩],none⟩] false) Q ⟨#[u0,(.int .i64 i),(.pointer (some ⟨cb,0,none⟩)),u3,u4,(.pointer (some ⟨xb,0,none⟩)),u6,u7,u8,u9,aa,ac,ae,af,ag,ah,ai,aj,ak,am,ao,ap,aq,ar,au,av,aw,ax,ay,aA,aB,aC,aD,aE,aF,aG,aH,aI,aJ,aK,aL,aM,aN,aO,aP,aQ,aR,aS,aT,aU,aV,aW,aX,aY,aZ,ba,bb,bc,bd,bf,bg,bi,bj,bm,bo,br,bs,bt,bu,bw,bz,bA,bB,bC,bD,bE,bF,bG,bH,bI,bJ,bK,bL,bM,bN,bO,bP,bQ,bR,bS,bT,bU,bV,bW,bX,bY,bZ,cg,ci,cj,ck,cq,cr,ct,cu,cv,cw,cy,cz,cE,cF,cG,cH,cI,cJ,cK,cM,cN,cO,cP,cQ,cR,cS,cT,cU,cV,cW,cX,cY,cZ,da,dg,di,dj,dk,dq,dt,du,dv,dw,dy,dz,dE,dF,dG,dH,dI,dJ,dK,dM,dN,dO,dP,dQ,dR,dS,dT,dU,dV,dW,dX,dY,dZ,ed,ee,ef,eg,eh,ei,ej,ek,el,em,eo,ep,eq,et,eu,ey,ez,eA,eB,eC,eD,eE,eF,eG,eH,eI,eJ,eK,eL,eM,eN,eO,eP,eQ,eR,eS,eT,eU,eV,eW,eX,eY,eZ,fa,fb,fc,fd,fe,fg,fh,fi,fj,fk,fm,fn,fo,fp,fq,fs,fu,fv,fw,fx,fy,fz,fA],[]⟩ W := by
  obtain ⟨c0,c1,c2,c3,c4,c5⟩ := cells_6 HC.out
  obtain ⟨p0,p1,p2,p3,p4,p5,p6,p7,p8,p9,p10⟩ := cells_11 HP.out
  have H1 := fun w => refPart_any hosts major pA wA vA qA pl pc wl wk vl vc ql qc qpart w
  have hM : mayP pl qid qpart qkind qudp qsize = (!decide (qid < 1) && ((qkind == 1 || qkind == 2) && ((decide (0 ≤ qpart) && decide (qpart < (pl : Int))) && ((!decide (qudp < 0) && !decide (65535 < qudp)) && (!decide (qsize < 1) && !decide (8192 < qsize)))))) := by
    rw [mayP,not_lt_dec,not_lt_dec,not_lt_dec,not_lt_dec,not_lt_dec]
  rw [hM] at hQ
  clear hM
  generalize hb0 : decide (512 ≤ i) = b0 at hQ
  have hb0' : decide (512 ≤ (i : Int)) = b0 := by rw [← hb0];exact decide_eq_decide.2 ⟨fun h => by omega,fun h => by omega⟩
  generalize hb1 : decide (qid < 1) = b1 at hQ
  generalize hb2k : (qkind == 1) = b2 at hQ
  have hb2n : (qkind != 1) = !b2 := by rw [← hb2k];rfl
  have hb2d : decide (qkind = 1) = b2 := hb2k
  generalize hb3k : (qkind == 2) = b3 at hQ
  have hb3n : (qkind != 2) = !b3 := by rw [← hb3k];rfl
  have hb3d : decide (qkind = 2) = b3 := hb3k
  generalize (decide (0 ≤ qpart) && decide (qpart < (pl : Int))) = b4 at H1 hQ
  generalize hb5 : decide (qudp < 0) = b5 at hQ
  generalize hb6 : decide (65535 < qudp) = b6 at hQ
  generalize hb7 : decide (qsize < 1) = b7 at hQ
  generalize hb8 : decide (8192 < qsize) = b8 at hQ
  have H1 := Lib.hid H1
  have HQ := Lib.hid hQ
  clear hQ
  cases b0
  · cases b1
    · cases b2
      · cases b3
        · go_wp2
          all_goals exact HQ.out W (Below.refl _ W) _ _ _ _ _ _ _ _ _ _ _ _ _ _ _ _ _ _ _ _ _ _ _ _ _ _ _ _ _ _ _ _ _ _ _ _ _ _ _ _ _ _ _
        · cases b4
          · go_wp2_with (first
              | (go_at_call 92;(with_reducible refine (H1.out _).mono ?_);rintro e w2 ⟨rfl,hb2⟩
                 (have X2 := Lib.hid (lies_below HP.out (hb2) (lies_lt HP.out)))
                 (clear c0 c1 c2 c3 c4 c5 p0 p1 p2 p3 p4 p5 p6 p7 p8 p9 p10)
                 (obtain ⟨p0,p1,p2,p3,p4,p5,p6,p7,p8,p9,p10⟩ := cells_11 X2.out)))
            all_goals exact HQ.out _ hb2 _ _ _ _ _ _ _ _ _ _ _ _ _ _ _ _ _ _ _ _ _ _ _ _ _ _ _ _ _ _ _ _ _ _ _ _ _ _ _ _ _ _ _
          · cases b5
            · cases b6
              · cases b7
                · cases b8
                  · go_wp2_with (first
                      | (go_at_call 92;(with_reducible refine (H1.out _).mono ?_);rintro e w2 ⟨rfl,hb2⟩
                         (have X2 := Lib.hid (lies_below HP.out (hb2) (lies_lt HP.out)))
                         (clear c0 c1 c2 c3 c4 c5 p0 p1 p2 p3 p4 p5 p6 p7 p8 p9 p10)
                         (obtain ⟨p0,p1,p2,p3,p4,p5,p6,p7,p8,p9,p10⟩ := cells_11 X2.out)))
                    all_goals exact HQ.out _ hb2 _ _ _ _ _ _ _ _ _ _ _ _ _ _ _ _ _ _ _ _ _ _ _ _ _ _ _ _ _ _ _ _ _ _ _ _ _ _ _ _ _ _ _
                  · go_wp2_with (first
                      | (go_at_call 92;(with_reducible refine (H1.out _).mono ?_);rintro e w2 ⟨rfl,hb2⟩
                         (have X2 := Lib.hid (lies_below HP.out (hb2) (lies_lt HP.out)))
                         (clear c0 c1 c2 c3 c4 c5 p0 p1 p2 p3 p4 p5 p6 p7 p8 p9 p10)
                         (obtain ⟨p0,p1,p2,p3,p4,p5,p6,p7,p8,p9,p10⟩ := cells_11 X2.out)))
                    all_goals exact HQ.out _ hb2 _ _ _ _ _ _ _ _ _ _ _ _ _ _ _ _ _ _ _ _ _ _ _ _ _ _ _ _ _ _ _ _ _ _ _ _ _ _ _ _ _ _ _
                · go_wp2_with (first
                    | (go_at_call 92;(with_reducible refine (H1.out _).mono ?_);rintro e w2 ⟨rfl,hb2⟩
                       (have X2 := Lib.hid (lies_below HP.out (hb2) (lies_lt HP.out)))
                       (clear c0 c1 c2 c3 c4 c5 p0 p1 p2 p3 p4 p5 p6 p7 p8 p9 p10)
                       (obtain ⟨p0,p1,p2,p3,p4,p5,p6,p7,p8,p9,p10⟩ := cells_11 X2.out)))
                  all_goals exact HQ.out _ hb2 _ _ _ _ _ _ _ _ _ _ _ _ _ _ _ _ _ _ _ _ _ _ _ _ _ _ _ _ _ _ _ _ _ _ _ _ _ _ _ _ _ _ _
              · go_wp2_with (first
                  | (go_at_call 92;(with_reducible refine (H1.out _).mono ?_);rintro e w2 ⟨rfl,hb2⟩
                     (have X2 := Lib.hid (lies_below HP.out (hb2) (lies_lt HP.out)))
                     (clear c0 c1 c2 c3 c4 c5 p0 p1 p2 p3 p4 p5 p6 p7 p8 p9 p10)
                     (obtain ⟨p0,p1,p2,p3,p4,p5,p6,p7,p8,p9,p10⟩ := cells_11 X2.out)))
                all_goals exact HQ.out _ hb2 _ _ _ _ _ _ _ _ _ _ _ _ _ _ _ _ _ _ _ _ _ _ _ _ _ _ _ _ _ _ _ _ _ _ _ _ _ _ _ _ _ _ _
            · go_wp2_with (first
                | (go_at_call 92;(with_reducible refine (H1.out _).mono ?_);rintro e w2 ⟨rfl,hb2⟩
                   (have X2 := Lib.hid (lies_below HP.out (hb2) (lies_lt HP.out)))
                   (clear c0 c1 c2 c3 c4 c5 p0 p1 p2 p3 p4 p5 p6 p7 p8 p9 p10)
                   (obtain ⟨p0,p1,p2,p3,p4,p5,p6,p7,p8,p9,p10⟩ := cells_11 X2.out)))
              all_goals exact HQ.out _ hb2 _ _ _ _ _ _ _ _ _ _ _ _ _ _ _ _ _ _ _ _ _ _ _ _ _ _ _ _ _ _ _ _ _ _ _ _ _ _ _ _ _ _ _
      · cases b4
        · go_wp2_with (first
            | (go_at_call 92;(with_reducible refine (H1.out _).mono ?_);rintro e w2 ⟨rfl,hb2⟩
               (have X2 := Lib.hid (lies_below HP.out (hb2) (lies_lt HP.out)))
               (clear c0 c1 c2 c3 c4 c5 p0 p1 p2 p3 p4 p5 p6 p7 p8 p9 p10)
               (obtain ⟨p0,p1,p2,p3,p4,p5,p6,p7,p8,p9,p10⟩ := cells_11 X2.out)))
          all_goals exact HQ.out _ hb2 _ _ _ _ _ _ _ _ _ _ _ _ _ _ _ _ _ _ _ _ _ _ _ _ _ _ _ _ _ _ _ _ _ _ _ _ _ _ _ _ _ _ _
        · cases b5
          · cases b6
            · cases b7
              · cases b8
                · go_wp2_with (first
                    | (go_at_call 92;(with_reducible refine (H1.out _).mono ?_);rintro e w2 ⟨rfl,hb2⟩
                       (have X2 := Lib.hid (lies_below HP.out (hb2) (lies_lt HP.out)))
                       (clear c0 c1 c2 c3 c4 c5 p0 p1 p2 p3 p4 p5 p6 p7 p8 p9 p10)
                       (obtain ⟨p0,p1,p2,p3,p4,p5,p6,p7,p8,p9,p10⟩ := cells_11 X2.out)))
                  all_goals exact HQ.out _ hb2 _ _ _ _ _ _ _ _ _ _ _ _ _ _ _ _ _ _ _ _ _ _ _ _ _ _ _ _ _ _ _ _ _ _ _ _ _ _ _ _ _ _ _
                · go_wp2_with (first
                    | (go_at_call 92;(with_reducible refine (H1.out _).mono ?_);rintro e w2 ⟨rfl,hb2⟩
                       (have X2 := Lib.hid (lies_below HP.out (hb2) (lies_lt HP.out)))
                       (clear c0 c1 c2 c3 c4 c5 p0 p1 p2 p3 p4 p5 p6 p7 p8 p9 p10)
                       (obtain ⟨p0,p1,p2,p3,p4,p5,p6,p7,p8,p9,p10⟩ := cells_11 X2.out)))
                  all_goals exact HQ.out _ hb2 _ _ _ _ _ _ _ _ _ _ _ _ _ _ _ _ _ _ _ _ _ _ _ _ _ _ _ _ _ _ _ _ _ _ _ _ _ _ _ _ _ _ _
              · go_wp2_with (first
                  | (go_at_call 92;(with_reducible refine (H1.out _).mono ?_);rintro e w2 ⟨rfl,hb2⟩
                     (have X2 := Lib.hid (lies_below HP.out (hb2) (lies_lt HP.out)))
                     (clear c0 c1 c2 c3 c4 c5 p0 p1 p2 p3 p4 p5 p6 p7 p8 p9 p10)
                     (obtain ⟨p0,p1,p2,p3,p4,p5,p6,p7,p8,p9,p10⟩ := cells_11 X2.out)))
                all_goals exact HQ.out _ hb2 _ _ _ _ _ _ _ _ _ _ _ _ _ _ _ _ _ _ _ _ _ _ _ _ _ _ _ _ _ _ _ _ _ _ _ _ _ _ _ _ _ _ _
            · go_wp2_with (first
                | (go_at_call 92;(with_reducible refine (H1.out _).mono ?_);rintro e w2 ⟨rfl,hb2⟩
                   (have X2 := Lib.hid (lies_below HP.out (hb2) (lies_lt HP.out)))
                   (clear c0 c1 c2 c3 c4 c5 p0 p1 p2 p3 p4 p5 p6 p7 p8 p9 p10)
                   (obtain ⟨p0,p1,p2,p3,p4,p5,p6,p7,p8,p9,p10⟩ := cells_11 X2.out)))
              all_goals exact HQ.out _ hb2 _ _ _ _ _ _ _ _ _ _ _ _ _ _ _ _ _ _ _ _ _ _ _ _ _ _ _ _ _ _ _ _ _ _ _ _ _ _ _ _ _ _ _
          · go_wp2_with (first
              | (go_at_call 92;(with_reducible refine (H1.out _).mono ?_);rintro e w2 ⟨rfl,hb2⟩
                 (have X2 := Lib.hid (lies_below HP.out (hb2) (lies_lt HP.out)))
                 (clear c0 c1 c2 c3 c4 c5 p0 p1 p2 p3 p4 p5 p6 p7 p8 p9 p10)
                 (obtain ⟨p0,p1,p2,p3,p4,p5,p6,p7,p8,p9,p10⟩ := cells_11 X2.out)))
            all_goals exact HQ.out _ hb2 _ _ _ _ _ _ _ _ _ _ _ _ _ _ _ _ _ _ _ _ _ _ _ _ _ _ _ _ _ _ _ _ _ _ _ _ _ _ _ _ _ _ _
    · go_wp2
      all_goals exact HQ.out W (Below.refl _ W) _ _ _ _ _ _ _ _ _ _ _ _ _ _ _ _ _ _ _ _ _ _ _ _ _ _ _ _ _ _ _ _ _ _ _ _ _ _ _ _ _ _ _
  · go_wp2
    all_goals exact HQ.out W (Below.refl _ W) _ _ _ _ _ _ _ _ _ _ _ _ _ _ _ _ _ _ _ _ _ _ _ _ _ _ _ _ _ _ _ _ _ _ _ _ _ _ _ _ _ _ _
end Go.Proofs.YtdgkanamceeheaaGreat
set_option maxRecDepth 100000
namespace Go.Proofs.YtdgkanamceeheaaGreat
open Go.RowKit
set_option maxHeartbeats 4000000 in
theorem rport9 {W : World} {cb xb vb : Nat} {has : Bool} {vid vhost vbag vsmax vsubs vskew : Int} {vhigh : Bool} {tA : Option Addr} {tl tc : Nat} {qid qhost qpart qkind qvl qsub qudp qsize qdepth qfresh : Int} {qout : Bool} (HP : Hid (W.heap[xb]? = some (.cells #[.int .i64 qid,.int .i64 qhost,.int .i64 qpart,.int .i64 qkind,.bool qout,.int .i64 qvl,.int .i64 qsub,.int .i64 qudp,.int .i64 qsize,.int .i64 qdepth,.int .i64 qfresh] 62))) (HV : Hid (W.heap[vb]? = some (.cells #[.int .i64 vid,.int .i64 vhost,.int .i64 vbag,.int .i64 vsmax,.bool vhigh,.int .i64 vsubs,.int .i64 vskew,.slice tA tl tc] 60))) (H46 : Hid (∀ w,Below W.heap.size W w → Calls Tryz.prog 94 #[.slice tA tl tc,.int .i64 qhost] w fun e w' => e = .returned (.bool has) ∧ w = w')) {u0 u1 u3 u4 u7 u8 u9 aa ac ae af ag ah ai aj ak am ao ap aq ar au av aw ax ay aA aB aC aD aE aF aG aH aI aJ aK aL aM aN aO aP aQ aR aS aT aU aV aW aX aY aZ ba bb bc bd bf bg bi bj bm bo br bs bt bu bw bz bA bB bC bD bE bF bG bH bI bJ bK bL bM bN bO bP bQ bR bS bT bU bV bW bX bY bZ cg ci cj ck cq cr ct cu cv cw cy cz cE cF cG cH cI cJ cK cM cN cO cP cQ cR cS cT cU cV cW cX cY cZ da dg di dj dk dq dt du dv dw dy dz dE dF dG dH dI dJ dK dM dN dO dP dQ dR dS dT dU dV dW dX dY dZ ed ee ef eg eh ei ej ek el em eo ep eq et eu ey ez eA eB eC eD eE eF eG eH eI eJ eK eL eM eN eO eP eQ eR eS eT eU eV eW eX eY eZ fa fb fc fd fe fg fh fi fj fk fm fn fo fp fq fs fu fv fw fx fy fz fA : Value} {Q : Exit → Act → World → Prop} (HPN : ∀ (p : List PanicEntry) (a : Act) (dd : Nat) (vv : Value) (w : World),Q (.panic p) (a.put (some dd) vv) w → Q (.panic p) a w) (hQ : ∀ (wc : World),Below W.heap.size W wc → ∀ x93 x94 x95 x96 x97 x98 x99 x100 x101 x102 x103 x104 x105 x106 x107 x108 x109 x110 x111 x112 x113 : Value,Q .normal ⟨#[u0,u1,(.pointer (some ⟨cb,0,none⟩)),u3,u4,(.pointer (some ⟨xb,0,none⟩)),(.pointer (some ⟨vb,0,none⟩)),u7,u8,u9,aa,ac,ae,af,ag,ah,ai,aj,ak,am,ao,ap,aq,ar,au,av,aw,ax,ay,aA,aB,aC,aD,aE,aF,aG,aH,aI,aJ,aK,aL,aM,aN,aO,aP,aQ,aR,aS,aT,aU,aV,aW,aX,aY,aZ,ba,bb,bc,bd,bf,bg,bi,bj,bm,bo,br,bs,bt,bu,bw,bz,bA,bB,bC,bD,bE,bF,bG,bH,bI,bJ,bK,bL,bM,bN,bO,bP,bQ,bR,bS,bT,bU,bV,x93,x94,x95,x96,x97,x98,x99,x100,x101,x102,x103,x104,x105,x106,x107,x108,x109,x110,x111,x112,x113,(.bool ((qout && !(vhost == qhost)) || (!qout && !has))),cK,cM,cN,cO,cP,cQ,cR,cS,cT,cU,cV,cW,cX,cY,cZ,da,dg,di,dj,dk,dq,dt,du,dv,dw,dy,dz,dE,dF,dG,dH,dI,dJ,dK,dM,dN,dO,dP,dQ,dR,dS,dT,dU,dV,dW,dX,dY,dZ,ed,ee,ef,eg,eh,ei,ej,ek,el,em,eo,ep,eq,et,eu,ey,ez,eA,eB,eC,eD,eE,eF,eG,eH,eI,eJ,eK,eL,eM,eN,eO,eP,eQ,eR,eS,eT,eU,eV,eW,eX,eY,eZ,fa,fb,fc,fd,fe,fg,fh,fi,fj,fk,fm,fn,fo,fp,fq,fs,fu,fv,fw,fx,fy,fz,fA],[]⟩ wc) :
    Code.wp Tryz.prog (Code.region 9 #[⟨some 93,.fieldAddr 62 (.tmp 5) 4,0,"ref.go:109",#[],none⟩,⟨some 94,.load 4 (.tmp 93),4,"ref.go:109",#[⟨0,.data⟩],none⟩,⟨some 95,.move (.tmp 94),4,"ref.go:109",#[⟨1,.data⟩],none⟩,⟨some 96,.fieldAddr 60 (.tmp 6) 1,0,"ref.go:109",#[⟨2,.guard⟩],some (2,true)⟩,⟨some 97,.load 3 (.tmp 96),3,"ref.go:109",#[⟨3,.data⟩,⟨2,.guard⟩],some (2,true)⟩,⟨some 98,.fieldAddr 62 (.tmp 5) 1,0,"ref.go:109",#[⟨2,.guard⟩],some (2,true)⟩,⟨some 99,.load 3 (.tmp 98),3,"ref.go:109",#[⟨5,.data⟩,⟨2,.guard⟩],some (2,true)⟩,⟨some 100,.binOp .neq 3 (.tmp 97) (.tmp 99) 3,4,"ref.go:109",#[⟨4,.data⟩,⟨6,.data⟩,⟨2,.guard⟩],some (2,true)⟩,⟨some 101,.pick (.tmp 95) (.tmp 100) (.const (.bool false)),4,"ref.go:109",#[⟨2,.data⟩,⟨7,.data⟩],none⟩,⟨some 102,.move (.tmp 101),4,"ref.go:109",#[⟨8,.data⟩,⟨2,.chain⟩],none⟩,⟨some 103,.fieldAddr 62 (.tmp 5) 4,0,"ref.go:109",#[⟨9,.guard⟩],some (9,false)⟩,⟨some 104,.load 4 (.tmp 103),4,"ref.go:109",#[⟨10,.data⟩,⟨9,.guard⟩],some (9,false)⟩,⟨some 105,.unOp .not 4 (.tmp 104),4,"ref.go:109",#[⟨11,.data⟩,⟨9,.guard⟩],some (9,false)⟩,⟨some 106,.move (.tmp 105),4,"ref.go:109",#[⟨12,.data⟩,⟨9,.chain⟩,⟨9,.guard⟩],some (9,false)⟩,⟨some 107,.fieldAddr 60 (.tmp 6) 7,0,"ref.go:109",#[⟨13,.guard⟩],some (13,true)⟩,⟨some 108,.load 23 (.tmp 107),23,"ref.go:109",#[⟨14,.data⟩,⟨13,.guard⟩],some (13,true)⟩,⟨some 109,.fieldAddr 62 (.tmp 5) 1,0,"ref.go:109",#[⟨13,.guard⟩],some (13,true)⟩,⟨some 110,.load 3 (.tmp 109),3,"ref.go:109",#[⟨16,.data⟩,⟨13,.guard⟩],some (13,true)⟩,⟨some 111,.call ⟨.value (.func 94),#[.tmp 108,.tmp 110],#[23,3]⟩,4,"ref.go:109",#[⟨15,.data⟩,⟨17,.data⟩,⟨13,.chain⟩,⟨13,.guard⟩],some (13,true)⟩,⟨some 112,.unOp .not 4 (.tmp 111),4,"ref.go:109",#[⟨18,.data⟩,⟨13,.guard⟩],some (13,true)⟩,⟨some 113,.pick (.tmp 106) (.tmp 112) (.const (.bool false)),4,"ref.go:109",#[⟨13,.data⟩,⟨19,.data⟩,⟨9,.guard⟩],some (9,false)⟩,⟨some 114,.pick (.tmp 102) (.const (.bool true)) (.tmp 113),4,"ref.go:109",#[⟨9,.data⟩,⟨20,.data⟩],none⟩] false) Q ⟨#[u0,u1,(.pointer (some ⟨cb,0,none⟩)),u3,u4,(.pointer (some ⟨xb,0,none⟩)),(.pointer (some ⟨vb,0,none⟩)),u7,u8,u9,aa,ac,ae,af,ag,ah,ai,aj,ak,am,ao,ap,aq,ar,au,av,aw,ax,ay,aA,aB,aC,aD,aE,aF,aG,aH,aI,aJ,aK,aL,aM,aN,aO,aP,aQ,aR,aS,aT,aU,aV,aW,aX,aY,aZ,ba,bb,bc,bd,bf,bg,bi,bj,bm,bo,br,bs,bt,bu,bw,bz,bA,bB,bC,bD,bE,bF,bG,bH,bI,bJ,bK,bL,bM,bN,bO,bP,bQ,bR,bS,bT,bU,bV,bW,bX,bY,bZ,cg,ci,cj,ck,cq,cr,ct,cu,cv,cw,cy,cz,cE,cF,cG,cH,cI,cJ,cK,cM,cN,cO,cP,cQ,cR,cS,cT,cU,cV,cW,cX,cY,cZ,da,dg,di,dj,dk,dq,dt,du,dv,dw,dy,dz,dE,dF,dG,dH,dI,dJ,dK,dM,dN,dO,dP,dQ,dR,dS,dT,dU,dV,dW,dX,dY,dZ,ed,ee,ef,eg,eh,ei,ej,ek,el,em,eo,ep,eq,et,eu,ey,ez,eA,eB,eC,eD,eE,eF,eG,eH,eI,eJ,eK,eL,eM,eN,eO,eP,eQ,eR,eS,eT,eU,eV,eW,eX,eY,eZ,fa,fb,fc,fd,fe,fg,fh,fi,fj,fk,fm,fn,fo,fp,fq,fs,fu,fv,fw,fx,fy,fz,fA],[]⟩ W := by
  obtain ⟨p0,p1,p2,p3,p4,p5,p6,p7,p8,p9,p10⟩ := cells_11 HP.out
  obtain ⟨x0,x1,x2,x3,x4,x5,x6,x7⟩ := cells_8 HV.out
  generalize hb1 : (vhost == qhost) = b1 at hQ
  have hb1n : (vhost != qhost) = !b1 := by rw [← hb1];rfl
  have hb1d : decide (vhost = qhost) = b1 := hb1
  have HQ := Lib.hid hQ
  clear hQ
  cases qout
  · cases has
    · go_wp2_with (first
        | (go_at_call 94;(with_reducible refine (H46.out _ (Below.refl _ _)).mono ?_);rintro e w3 ⟨rfl,rfl⟩))
      all_goals exact HQ.out _ (Below.refl _ _) _ _ _ _ _ _ _ _ _ _ _ _ _ _ _ _ _ _ _ _ _
    · go_wp2_with (first
        | (go_at_call 94;(with_reducible refine (H46.out _ (Below.refl _ _)).mono ?_);rintro e w3 ⟨rfl,rfl⟩))
      all_goals exact HQ.out _ (Below.refl _ _) _ _ _ _ _ _ _ _ _ _ _ _ _ _ _ _ _ _ _ _ _
  · cases b1
    · go_wp2
      all_goals exact HQ.out _ (Below.refl _ _) _ _ _ _ _ _ _ _ _ _ _ _ _ _ _ _ _ _ _ _ _
    · go_wp2
      all_goals exact HQ.out _ (Below.refl _ _) _ _ _ _ _ _ _ _ _ _ _ _ _ _ _ _ _ _ _ _ _
set_option maxHeartbeats 4000000 in
theorem rport11 {W : World} {xb vb : Nat} {vid vhost vbag vsmax vsubs vskew : Int} {vhigh : Bool} {tA : Option Addr} {tl tc : Nat} {qid qhost qpart qkind qvl qsub qudp qsize qdepth qfresh : Int} {qout : Bool} (HP : Hid (W.heap[xb]? = some (.cells #[.int .i64 qid,.int .i64 qhost,.int .i64 qpart,.int .i64 qkind,.bool qout,.int .i64 qvl,.int .i64 qsub,.int .i64 qudp,.int .i64 qsize,.int .i64 qdepth,.int .i64 qfresh] 62))) (HV : Hid (W.heap[vb]? = some (.cells #[.int .i64 vid,.int .i64 vhost,.int .i64 vbag,.int .i64 vsmax,.bool vhigh,.int .i64 vsubs,.int .i64 vskew,.slice tA tl tc] 60))) {u0 u1 u2 u3 u4 u7 u8 u9 aa ac ae af ag ah ai aj ak am ao ap aq ar au av aw ax ay aA aB aC aD aE aF aG aH aI aJ aK aL aM aN aO aP aQ aR aS aT aU aV aW aX aY aZ ba bb bc bd bf bg bi bj bm bo br bs bt bu bw bz bA bB bC bD bE bF bG bH bI bJ bK bL bM bN bO bP bQ bR bS bT bU bV bW bX bY bZ cg ci cj ck cq cr ct cu cv cw cy cz cE cF cG cH cI cJ cK cM cN cO cP cQ cR cS cT cU cV cW cX cY cZ da dg di dj dk dq dt du dv dw dy dz dE dF dG dH dI dJ dK dM dN dO dP dQ dR dS dT dU dV dW dX dY dZ ed ee ef eg eh ei ej ek el em eo ep eq et eu ey ez eA eB eC eD eE eF eG eH eI eJ eK eL eM eN eO eP eQ eR eS eT eU eV eW eX eY eZ fa fb fc fd fe fg fh fi fj fk fm fn fo fp fq fs fu fv fw fx fy fz fA : Value} {Q : Exit → Act → World → Prop} (HPN : ∀ (p : List PanicEntry) (a : Act) (dd : Nat) (vv : Value) (w : World),Q (.panic p) (a.put (some dd) vv) w → Q (.panic p) a w) (hQ : ∀ (wc : World),Below W.heap.size W wc → ∀ x115 x116 x117 x118 x119 x120 x121 x122 x123 x124 x125 x126 x127 x128 x129 x130 x131 x132 x133 x134 x135 x136 x137 : Value,Q .normal ⟨#[u0,u1,u2,u3,u4,(.pointer (some ⟨xb,0,none⟩)),(.pointer (some ⟨vb,0,none⟩)),u7,u8,u9,aa,ac,ae,af,ag,ah,ai,aj,ak,am,ao,ap,aq,ar,au,av,aw,ax,ay,aA,aB,aC,aD,aE,aF,aG,aH,aI,aJ,aK,aL,aM,aN,aO,aP,aQ,aR,aS,aT,aU,aV,aW,aX,aY,aZ,ba,bb,bc,bd,bf,bg,bi,bj,bm,bo,br,bs,bt,bu,bw,bz,bA,bB,bC,bD,bE,bF,bG,bH,bI,bJ,bK,bL,bM,bN,bO,bP,bQ,bR,bS,bT,bU,bV,bW,bX,bY,bZ,cg,ci,cj,ck,cq,cr,ct,cu,cv,cw,cy,cz,cE,cF,cG,cH,cI,cJ,x115,x116,x117,x118,x119,x120,x121,x122,x123,x124,x125,x126,x127,x128,x129,x130,x131,x132,x133,x134,x135,x136,x137,(.bool (decide (qsub < 0) || ((qout && decide (vsubs ≤ qsub)) || (!qout && !(qsub == 0))))),dw,dy,dz,dE,dF,dG,dH,dI,dJ,dK,dM,dN,dO,dP,dQ,dR,dS,dT,dU,dV,dW,dX,dY,dZ,ed,ee,ef,eg,eh,ei,ej,ek,el,em,eo,ep,eq,et,eu,ey,ez,eA,eB,eC,eD,eE,eF,eG,eH,eI,eJ,eK,eL,eM,eN,eO,eP,eQ,eR,eS,eT,eU,eV,eW,eX,eY,eZ,fa,fb,fc,fd,fe,fg,fh,fi,fj,fk,fm,fn,fo,fp,fq,fs,fu,fv,fw,fx,fy,fz,fA],[]⟩ wc) :
    Code.wp Tryz.prog (Code.region 11 #[⟨some 115,.fieldAddr 62 (.tmp 5) 6,0,"ref.go:112",#[],none⟩,⟨some 116,.load 3 (.tmp 115),3,"ref.go:112",#[⟨0,.data⟩],none⟩,⟨some 117,.binOp .lss 3 (.tmp 116) (.const (.int .i64 0)) 3,4,"ref.go:112",#[⟨1,.data⟩],none⟩,⟨some 118,.move (.tmp 117),4,"ref.go:112",#[⟨2,.data⟩],none⟩,⟨some 119,.fieldAddr 62 (.tmp 5) 4,0,"ref.go:112",#[⟨3,.guard⟩],some (3,false)⟩,⟨some 120,.load 4 (.tmp 119),4,"ref.go:112",#[⟨4,.data⟩,⟨3,.guard⟩],some (3,false)⟩,⟨some 121,.move (.tmp 120),4,"ref.go:112",#[⟨5,.data⟩,⟨3,.chain⟩,⟨3,.guard⟩],some (3,false)⟩,⟨some 122,.fieldAddr 62 (.tmp 5) 6,0,"ref.go:112",#[⟨6,.guard⟩],some (6,true)⟩,⟨some 123,.load 3 (.tmp 122),3,"ref.go:112",#[⟨7,.data⟩,⟨6,.guard⟩],some (6,true)⟩,⟨some 124,.fieldAddr 60 (.tmp 6) 5,0,"ref.go:112",#[⟨6,.guard⟩],some (6,true)⟩,⟨some 125,.load 3 (.tmp 124),3,"ref.go:112",#[⟨9,.data⟩,⟨6,.guard⟩],some (6,true)⟩,⟨some 126,.binOp .geq 3 (.tmp 123) (.tmp 125) 3,4,"ref.go:112",#[⟨8,.data⟩,⟨10,.data⟩,⟨6,.guard⟩],some (6,true)⟩,⟨some 127,.pick (.tmp 121) (.tmp 126) (.const (.bool false)),4,"ref.go:112",#[⟨6,.data⟩,⟨11,.data⟩,⟨3,.guard⟩],some (3,false)⟩,⟨some 128,.pick (.tmp 118) (.const (.bool true)) (.tmp 127),4,"ref.go:112",#[⟨3,.data⟩,⟨12,.data⟩],none⟩,⟨some 129,.move (.tmp 128),4,"ref.go:112",#[⟨13,.data⟩,⟨6,.chain⟩],none⟩,⟨some 130,.fieldAddr 62 (.tmp 5) 4,0,"ref.go:112",#[⟨14,.guard⟩],some (14,false)⟩,⟨some 131,.load 4 (.tmp 130),4,"ref.go:112",#[⟨15,.data⟩,⟨14,.guard⟩],some (14,false)⟩,⟨some 132,.unOp .not 4 (.tmp 131),4,"ref.go:112",#[⟨16,.data⟩,⟨14,.guard⟩],some (14,false)⟩,⟨some 133,.move (.tmp 132),4,"ref.go:112",#[⟨17,.data⟩,⟨14,.chain⟩,⟨14,.guard⟩],some (14,false)⟩,⟨some 134,.fieldAddr 62 (.tmp 5) 6,0,"ref.go:112",#[⟨18,.guard⟩],some (18,true)⟩,⟨some 135,.load 3 (.tmp 134),3,"ref.go:112",#[⟨19,.data⟩,⟨18,.guard⟩],some (18,true)⟩,⟨some 136,.binOp .neq 3 (.tmp 135) (.const (.int .i64 0)) 3,4,"ref.go:112",#[⟨20,.data⟩,⟨18,.guard⟩],some (18,true)⟩,⟨some 137,.pick (.tmp 133) (.tmp 136) (.const (.bool false)),4,"ref.go:112",#[⟨18,.data⟩,⟨21,.data⟩,⟨14,.guard⟩],some (14,false)⟩,⟨some 138,.pick (.tmp 129) (.const (.bool true)) (.tmp 137),4,"ref.go:112",#[⟨14,.data⟩,⟨22,.data⟩],none⟩] false) Q ⟨#[u0,u1,u2,u3,u4,(.pointer (some ⟨xb,0,none⟩)),(.pointer (some ⟨vb,0,none⟩)),u7,u8,u9,aa,ac,ae,af,ag,ah,ai,aj,ak,am,ao,ap,aq,ar,au,av,aw,ax,ay,aA,aB,aC,aD,aE,aF,aG,aH,aI,aJ,aK,aL,aM,aN,aO,aP,aQ,aR,aS,aT,aU,aV,aW,aX,aY,aZ,ba,bb,bc,bd,bf,bg,bi,bj,bm,bo,br,bs,bt,bu,bw,bz,bA,bB,bC,bD,bE,bF,bG,bH,bI,bJ,bK,bL,bM,bN,bO,bP,bQ,bR,bS,bT,bU,bV,bW,bX,bY,bZ,cg,ci,cj,ck,cq,cr,ct,cu,cv,cw,cy,cz,cE,cF,cG,cH,cI,cJ,cK,cM,cN,cO,cP,cQ,cR,cS,cT,cU,cV,cW,cX,cY,cZ,da,dg,di,dj,dk,dq,dt,du,dv,dw,dy,dz,dE,dF,dG,dH,dI,dJ,dK,dM,dN,dO,dP,dQ,dR,dS,dT,dU,dV,dW,dX,dY,dZ,ed,ee,ef,eg,eh,ei,ej,ek,el,em,eo,ep,eq,et,eu,ey,ez,eA,eB,eC,eD,eE,eF,eG,eH,eI,eJ,eK,eL,eM,eN,eO,eP,eQ,eR,eS,eT,eU,eV,eW,eX,eY,eZ,fa,fb,fc,fd,fe,fg,fh,fi,fj,fk,fm,fn,fo,fp,fq,fs,fu,fv,fw,fx,fy,fz,fA],[]⟩ W := by
  obtain ⟨p0,p1,p2,p3,p4,p5,p6,p7,p8,p9,p10⟩ := cells_11 HP.out
  obtain ⟨x0,x1,x2,x3,x4,x5,x6,x7⟩ := cells_8 HV.out
  generalize hb1 : decide (qsub < 0) = b1 at hQ
  generalize hb2 : decide (vsubs ≤ qsub) = b2 at hQ
  generalize hb3 : (qsub == 0) = b3 at hQ
  have hb3n : (qsub != 0) = !b3 := by rw [← hb3];rfl
  have hb3d : decide (qsub = 0) = b3 := hb3
  have HQ := Lib.hid hQ
  clear hQ
  cases b1
  · cases qout
    · cases b3
      · go_wp2
        all_goals exact HQ.out _ (Below.refl _ _) _ _ _ _ _ _ _ _ _ _ _ _ _ _ _ _ _ _ _ _ _ _ _
      · go_wp2
        all_goals exact HQ.out _ (Below.refl _ _) _ _ _ _ _ _ _ _ _ _ _ _ _ _ _ _ _ _ _ _ _ _ _
    · cases b2
      · go_wp2
        all_goals exact HQ.out _ (Below.refl _ _) _ _ _ _ _ _ _ _ _ _ _ _ _ _ _ _ _ _ _ _ _ _ _
      · go_wp2
        all_goals exact HQ.out _ (Below.refl _ _) _ _ _ _ _ _ _ _ _ _ _ _ _ _ _ _ _ _ _ _ _ _ _
  · go_wp2
    all_goals exact HQ.out _ (Below.refl _ _) _ _ _ _ _ _ _ _ _ _ _ _ _ _ _ _ _ _ _ _ _ _ _
end Go.Proofs.YtdgkanamceeheaaGreat
