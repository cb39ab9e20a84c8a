/-
  Layer 13: a tree's text, as it is printed, is cut into the tree's words. No program text.
  Conditions: those that each theorem states.
  Layer 13: a manifest that was read, printed, cut and read again is the same. No program text.
  Conditions: those that each theorem states.
  Layer 13: statements as a list; words that a text may hold; what may be, may be by less. No program text.
  Conditions: those that each theorem states.
  Layer 13: nodes that stand at a place. No program text.
  Conditions: those that each theorem states.
  Layer 12: how deep a tree is: the last node's depth is the greatest; the row of depths while it is reckoned.
  Conditions: those that each theorem states.
-/
import Derived.Test.YtfpdgdacifiejaaGreatWTxt
import Derived.Test.YtfpdgdacifiejaaGreatVPar
namespace Go.Proofs.YtfpdgdacifiejaaGreat

theorem tk_key {t : List UInt8} (h : t ∈ keys12) : TkOk ⟨1, t⟩ := by
  simp only [keys12, List.mem_cons, List.not_mem_nil, or_false] at h
  rcases h with rfl | rfl | rfl | rfl | rfl | rfl | rfl | rfl | rfl <;>
    exact ⟨1, rfl, by decide, by decide, by kernel_rfl, by kernel_rfl, by kernel_rfl⟩
theorem Lx.key {t : List UInt8} (h : t ∈ keys12) : Lx t [⟨1, t⟩] GS := by
  have := Lx.sep (tk_key h)
  have e : covT ⟨1, t⟩ = t := by simp [covT, covO]
  rwa [e] at this
theorem Lx.name {t : List UInt8} (h : TkOk ⟨1, t⟩) : Lx t [⟨1, t⟩] GS := by
  have := Lx.sep h
  have e : covT ⟨1, t⟩ = t := by simp [covT, covO]
  rwa [e] at this
theorem Lx.type {t : List UInt8} (h : TkOk ⟨2, t⟩) : Lx t [⟨2, t⟩] GS := by
  have := Lx.sep h
  have e : covT ⟨2, t⟩ = t := by simp [covT, covO]
  rwa [e] at this
theorem Lx.var {t : List UInt8} (h : TkOk ⟨3, t⟩) : Lx (36 :: t) [⟨3, t⟩] GC := by
  have := Lx.col h (.inr rfl)
  have e : covT ⟨3, t⟩ = 36 :: t := by simp [covT, covO]
  rwa [e] at this
theorem tf_col {t : List UInt8} (ht : t = [116, 114, 117, 101] ∨ t = [102, 97, 108, 115, 101]) (b : List UInt8) (hb : b.head? ≠ some 58) : pcO (t ++ 58 :: b) = pcO t := by
  have hm : moreN (58 :: b) = 0 := by
    rw [moreN.eq_def, if_neg]
    rintro ⟨h, _⟩
    cases b with
    | nil => simp at h
    | cons c r => simp at h hb; exact hb h
  rcases ht with rfl | rfl
  · have h1 : pcO [116, 114, 117, 101] = ⟨1, 4, 0, 0⟩ := by kernel_rfl
    rw [h1]
    have hp : partN smB (116 :: 114 :: 117 :: 101 :: 58 :: b) = 4 := by simp [partN, spanN, smB, tlB, dgB]
    simp [pcO, hdC, cutO, clsN, nameN, hp, hm]
  · have h1 : pcO [102, 97, 108, 115, 101] = ⟨1, 5, 0, 0⟩ := by kernel_rfl
    rw [h1]
    have hp : partN smB (102 :: 97 :: 108 :: 115 :: 101 :: 58 :: b) = 5 := by simp [partN, spanN, smB, tlB, dgB]
    simp [pcO, hdC, cutO, clsN, nameN, hp, hm]
theorem Lx.tf (b : Bool) : Lx (if b then [116, 114, 117, 101] else [102, 97, 108, 115, 101]) [⟨1, if b then [116, 114, 117, 101] else [102, 97, 108, 115, 101]⟩] GC := by
  obtain ⟨t, ht, hk, hd⟩ : ∃ t : List UInt8, (if b then [116, 114, 117, 101] else [102, 97, 108, 115, 101]) = t ∧ t ∈ keys12 ∧ (t = [116, 114, 117, 101] ∨ t = [102, 97, 108, 115, 101]) := by
    cases b
    · exact ⟨_, rfl, by decide, .inr rfl⟩
    · exact ⟨_, rfl, by decide, .inl rfl⟩
  rw [ht]
  have e : covT ⟨1, t⟩ = t := by simp [covT, covO]
  have hw := tk_key hk
  obtain ⟨h1, h2, h3, _⟩ := tk_parts hw
  have := Lx.word hw (ok := GC) (fun r hr => by
    rw [e] at h1 h2 h3 ⊢
    rcases hr with hr | ⟨c, rfl, hc⟩
    · exact pc_gs h1 h2 h3 hr
    · exact tf_col hd c hc)
  rwa [e] at this

/- The texts. -/
def VT.txt : VT → List UInt8
  | .leaf k tx => if k = 13 then 39 :: (tx ++ [39]) else if k = 14 then 34 :: (tx ++ [34]) else if k = 15 then tx else 36 :: tx
  | .tf b => if b then [116, 114, 117, 101] else [102, 97, 108, 115, 101]
  | .neg v => 33 :: v.txt
  | .op tx a b => 40 :: (a.txt ++ (32 :: (tx ++ (32 :: (b.txt ++ [41])))))
theorem sep41 : Sep 41 := ⟨by decide, by decide, by decide, by decide, by decide, by decide⟩
theorem sep93 : Sep 93 := ⟨by decide, by decide, by decide, by decide, by decide, by decide⟩
theorem sep44 : Sep 44 := ⟨by decide, by decide, by decide, by decide, by decide, by decide⟩
theorem sep91 : Sep 91 := ⟨by decide, by decide, by decide, by decide, by decide, by decide⟩
theorem sep40 : Sep 40 := ⟨by decide, by decide, by decide, by decide, by decide, by decide⟩
/-- No value's text begins with '='. -/
theorem VT.hd {t : VT} (h : t.Ok TkOk) (r : List UInt8) : (t.txt ++ r).head? ≠ some 61 := by
  cases t with
  | leaf k tx =>
    rcases h.1 with rfl | rfl | rfl | rfl
    · simp [VT.txt]
    · simp [VT.txt]
    · have hw : TkOk ⟨6, tx⟩ := h.2
      obtain ⟨h1, h2, h3, h4, _⟩ := tk_parts hw
      have e : covT ⟨6, tx⟩ = tx := by simp [covT, covO]
      rw [e] at h1 h4
      have h5 : ((pcO tx).kd : Int) = 6 := h4
      have hc := (cls_of (l := tx) rfl).2.2.1 (by omega)
      cases tx with
      | nil => exact absurd rfl h1
      | cons c x =>
        simp only [VT.txt]
        intro hh
        simp at hh
        subst hh
        simp [hdC, clsN] at hc
    · simp [VT.txt]
  | tf b => cases b <;> simp [VT.txt]
  | neg v => simp [VT.txt]
  | op tx a b => simp [VT.txt]
theorem VT.lx : ∀ {t : VT}, t.Ok TkOk → Lx t.txt t.ws GC
  | .leaf k tx, h => by
    rcases h.1 with rfl | rfl | rfl | rfl
    · have := (Lx.quo (t := ⟨4, tx⟩) h.2 (.inl rfl)).weak (o2 := GC) (fun _ _ => trivial)
      have e : covT ⟨4, tx⟩ = 39 :: (tx ++ [39]) := by simp [covT, covO]
      rwa [e] at this
    · have := (Lx.quo (t := ⟨5, tx⟩) h.2 (.inr rfl)).weak (o2 := GC) (fun _ _ => trivial)
      have e : covT ⟨5, tx⟩ = 34 :: (tx ++ [34]) := by simp [covT, covO]
      rwa [e] at this
    · have := Lx.col (t := ⟨6, tx⟩) h.2 (.inl rfl)
      have e : covT ⟨6, tx⟩ = tx := by simp [covT, covO]
      rwa [e] at this
    · exact Lx.var h.2
  | .tf b, _ => Lx.tf b
  | .neg v, h => Lx.app (x := [33]) (ws := [sgT 33]) Lx.bang (VT.lx (t := v) h) (fun r _ => VT.hd (t := v) h r)
  | .op tx a b, h => by
    have hop : Lx tx [opW tx] GS := by
      have h1 := h.1
      simp [opsT] at h1
      rcases h1 with rfl | rfl | rfl | rfl
      · exact (Lx.two (t := [61, 61]) (by decide)).weak (fun _ _ => trivial)
      · exact (Lx.two (t := [33, 61]) (by decide)).weak (fun _ _ => trivial)
      · exact Lx.key (t := [97, 110, 100]) (by decide)
      · exact Lx.key (t := [111, 114]) (by decide)
    have l1 := Lx.app (VT.lx (t := b) h.2.2) (Lx.one (c := 41) (by decide)) (fun r _ => .inl (gs_cons sep41 r))
    have l2 := Lx.app (x := [32]) (ws := []) (Lx.blank rfl) l1 (fun _ _ => trivial)
    have l3 := Lx.app hop l2 (fun r _ => gs_cons sep32 _)
    have l4 := Lx.app (x := [32]) (ws := []) (Lx.blank rfl) l3 (fun _ _ => trivial)
    have l5 := Lx.app (VT.lx (t := a) h.2.1) l4 (fun r _ => .inl (gs_cons sep32 _))
    have l6 := Lx.app (x := [40]) (ws := [sgT 40]) (Lx.one (by decide)) l5 (fun _ _ => trivial)
    have e1 : (VT.op tx a b).txt = [40] ++ (a.txt ++ ([32] ++ (tx ++ ([32] ++ (b.txt ++ [41]))))) := by simp [VT.txt]
    have e2 : (VT.op tx a b).ws = [sgT 40] ++ (a.ws ++ ([] ++ ([opW tx] ++ ([] ++ (b.ws ++ [sgT 41]))))) := by simp [VT.ws]
    rw [e1, e2]
    exact l6.weak (fun _ _ => trivial)

/- Parts. -/
def PmT.txt (p : PmT) : List UInt8 := match p.2 with
  | none => 36 :: p.1
  | some v => 36 :: (p.1 ++ (32 :: 61 :: 32 :: v.txt))
def AtT.txt (p : AtT) : List UInt8 := p.1 ++ (32 :: 61 :: 62 :: 32 :: p.2.txt)
def rfTxt (p : AtT) : List UInt8 := p.1 ++ (91 :: (p.2.txt ++ [93]))
def arTxt (p : ArT) : List UInt8 := 32 :: (p.1 ++ (32 :: rfTxt p.2))
def sepX : List (List UInt8) → List UInt8
  | [] => []
  | [a] => a
  | a :: b :: r => a ++ (44 :: 32 :: sepX (b :: r))
def atsX : List (List UInt8) → List UInt8
  | [] => []
  | [a] => 32 :: a
  | a :: b :: r => 32 :: (a ++ (44 :: atsX (b :: r)))
theorem PmT.lx {p : PmT} (h : PmT.Ok TkOk p) : Lx p.txt p.ws GS := by
  obtain ⟨tx, o⟩ := p
  cases o with
  | none => exact (Lx.var h.1).weak (fun r hr => .inl hr)
  | some v =>
    have l1 := Lx.app (x := [32]) (ws := []) (Lx.blank rfl) (VT.lx (h.2 v rfl)) (fun _ _ => trivial)
    have l2 := Lx.app Lx.eq l1 (fun r _ => by simp)
    have l3 := Lx.app (x := [32]) (ws := []) (Lx.blank rfl) l2 (fun _ _ => trivial)
    have l4 := Lx.app (Lx.var h.1) l3 (fun r _ => .inl (gs_cons sep32 _))
    have e1 : PmT.txt (tx, some v) = (36 :: tx) ++ ([32] ++ ([61] ++ ([32] ++ v.txt))) := by simp [PmT.txt]
    have e2 : PmT.ws (tx, some v) = [(⟨3, tx⟩ : Tok)] ++ ([] ++ ([sgT 61] ++ ([] ++ v.ws))) := by simp [PmT.ws]
    rw [e1, e2]
    exact l4.weak (fun r hr => .inl hr)
theorem AtT.lx {p : AtT} (h : AtT.Ok TkOk p) : Lx p.txt p.ws GS := by
  obtain ⟨tx, v⟩ := p
  have l1 := Lx.app (x := [32]) (ws := []) (Lx.blank rfl) (VT.lx h.2.2) (fun _ _ => trivial)
  have l2 := Lx.app (Lx.two (t := [61, 62]) (by decide)) l1 (fun _ _ => trivial)
  have l3 := Lx.app (x := [32]) (ws := []) (Lx.blank rfl) l2 (fun _ _ => trivial)
  have l4 := Lx.app (Lx.name h.2.1) l3 (fun r _ => gs_cons sep32 _)
  have e1 : AtT.txt (tx, v) = tx ++ ([32] ++ ([61, 62] ++ ([32] ++ v.txt))) := by simp [AtT.txt]
  have e2 : AtT.ws (tx, v) = [(⟨1, tx⟩ : Tok)] ++ ([] ++ ([⟨7, [61, 62]⟩] ++ ([] ++ v.ws))) := by simp [AtT.ws]
  rw [e1, e2]
  exact l4.weak (fun r hr => .inl hr)
theorem rf_lx {p : AtT} (h : rfOk TkOk p) : Lx (rfTxt p) (rfWs p) AnyR := by
  obtain ⟨tx, v⟩ := p
  have l1 := Lx.app (VT.lx h.2) (Lx.one (c := 93) (by decide)) (fun r _ => .inl (gs_cons sep93 r))
  have l2 := Lx.app (Lx.one (c := 91) (by decide)) l1 (fun _ _ => trivial)
  have l3 := Lx.app (Lx.type h.1) l2 (fun r _ => gs_cons sep91 _)
  have e1 : rfTxt (tx, v) = tx ++ ([91] ++ (v.txt ++ [93])) := by simp [rfTxt]
  have e2 : rfWs (tx, v) = [(⟨2, tx⟩ : Tok)] ++ ([sgT 91] ++ (v.ws ++ [sgT 93])) := by simp [rfWs]
  rw [e1, e2]
  exact l3
theorem ar_lx {p : ArT} (h : arOk TkOk p) : Lx (arTxt p) (arWs p) AnyR := by
  obtain ⟨tx, r⟩ := p
  have hs : tx ∈ sgn2 := by rcases h.1 with e | e <;> (simp only at e; rw [e]; decide)
  have l1 := Lx.app (x := [32]) (ws := []) (Lx.blank rfl) (rf_lx h.2) (fun _ _ => trivial)
  have l2 := Lx.app (Lx.two hs) l1 (fun _ _ => trivial)
  have l3 := Lx.app (x := [32]) (ws := []) (Lx.blank rfl) l2 (fun _ _ => trivial)
  exact l3
theorem ars_lx : ∀ {l : List ArT}, (∀ a ∈ l, arOk TkOk a) → Lx (l.map arTxt).flatten (l.map arWs).flatten AnyR
  | [], _ => Lx.nil
  | a :: l, h => by
    have l1 := Lx.app (ar_lx (h a (by simp))) (ars_lx (l := l) (fun x hx => h x (by simp [hx]))) (fun _ _ => trivial)
    simpa using l1
theorem sep_lx {α : Type} {tx : α → List UInt8} {ws : α → List Tok} : ∀ {l : List α}, (∀ a ∈ l, Lx (tx a) (ws a) GS) → Lx (sepX (l.map tx)) (sepW (l.map ws)) GS
  | [], _ => Lx.nil.weak (fun _ _ => trivial)
  | [a], h => h a (by simp)
  | a :: b :: r, h => by
    have ih := sep_lx (l := b :: r) (fun x hx => h x (by simp at hx ⊢; exact .inr hx))
    have l1 := Lx.app (x := [32]) (ws := []) (Lx.blank rfl) ih (fun _ _ => trivial)
    have l2 := Lx.app (Lx.one (c := 44) (by decide)) l1 (fun _ _ => trivial)
    have l3 := Lx.app (h a (by simp)) l2 (fun r _ => gs_cons sep44 _)
    exact l3
theorem ats_lx {α : Type} {tx : α → List UInt8} {ws : α → List Tok} : ∀ {l : List α}, (∀ a ∈ l, Lx (tx a) (ws a) GS) → Lx (atsX (l.map tx)) (sepW (l.map ws)) GS
  | [], _ => Lx.nil.weak (fun _ _ => trivial)
  | [a], h => Lx.app (x := [32]) (ws := []) (Lx.blank rfl) (h a (by simp)) (fun _ _ => trivial)
  | a :: b :: r, h => by
    have ih := ats_lx (l := b :: r) (fun x hx => h x (by simp at hx ⊢; exact .inr hx))
    have l2 := Lx.app (Lx.one (c := 44) (by decide)) ih (fun _ _ => trivial)
    have l3 := Lx.app (h a (by simp)) l2 (fun r _ => gs_cons sep44 _)
    exact Lx.app (x := [32]) (ws := []) (Lx.blank rfl) l3 (fun _ _ => trivial)

/- Statements. -/
def psTxt (ps : List PmT) : List UInt8 := if ps = [] then [] else 40 :: (sepX (ps.map PmT.txt) ++ [41])
mutual
def StT.txt : StT → List UInt8 → List UInt8
  | .decl k tx ps b, ah => (if k = 2 then kClass else kDefine) ++ (32 :: (tx ++ (psTxt ps ++ (32 :: 123 :: 10 :: (b.txt (ah ++ [32, 32]) ++ (ah ++ [125]))))))
  | .incl tx, _ => kInclude ++ (32 :: tx)
  | .set tx v, _ => 36 :: (tx ++ (32 :: 61 :: 32 :: v.txt))
  | .cond v b, ah => kIf ++ (32 :: (v.txt ++ (32 :: 123 :: 10 :: (b.txt (ah ++ [32, 32]) ++ (ah ++ [125])))))
  | .condE v b e, ah => kIf ++ (32 :: (v.txt ++ (32 :: 123 :: 10 :: (b.txt (ah ++ [32, 32]) ++ (ah ++ (125 :: 32 :: (kElse ++ (32 :: 123 :: 10 :: (e.txt (ah ++ [32, 32]) ++ (ah ++ [125]))))))))))
  | .res tx v ats, _ => tx ++ (32 :: 123 :: 32 :: (v.txt ++ (58 :: (atsX (ats.map AtT.txt) ++ [32, 125]))))
  | .chain r l, _ => rfTxt r ++ (l.map arTxt).flatten
/-- Statements, each on a line of its own, ah ahead. -/
def SlT.txt : SlT → List UInt8 → List UInt8
  | .nil, _ => []
  | .cons s l, ah => ah ++ (s.txt ah ++ (10 :: l.txt ah))
end
theorem ps_lx {ps : List PmT} (h : ∀ p ∈ ps, PmT.Ok TkOk p) : Lx (psTxt ps) (psWs ps) AnyR := by
  unfold psTxt psWs
  by_cases e : ps = []
  · rw [if_pos e, if_pos e]
    exact Lx.nil
  · rw [if_neg e, if_neg e]
    have l1 := Lx.app (sep_lx (l := ps) (tx := PmT.txt) (ws := PmT.ws) (fun a ha => PmT.lx (h a ha))) (Lx.one (c := 41) (by decide)) (fun r _ => gs_cons sep41 r)
    exact Lx.app (x := [40]) (ws := [sgT 40]) (Lx.one (by decide)) l1 (fun _ _ => trivial)
theorem Lx.block {x ah : List UInt8} {ws : List Tok} (h : Lx x ws AnyR) (ha : ∀ c ∈ ah, c = 32) : Lx (32 :: 123 :: 10 :: (x ++ (ah ++ [125]))) (sgT 123 :: (ws ++ [sgT 125])) AnyR := by
  have l1 := Lx.app (Lx.blanks ha) (Lx.one (c := 125) (by decide)) (fun _ _ => trivial)
  have l2 := Lx.app h l1 (fun _ _ => trivial)
  have l3 := Lx.app (x := [10]) (ws := []) (Lx.blank rfl) l2 (fun _ _ => trivial)
  have l4 := Lx.app (x := [123]) (ws := [sgT 123]) (Lx.one (by decide)) l3 (fun _ _ => trivial)
  exact Lx.app (x := [32]) (ws := []) (Lx.blank rfl) l4 (fun _ _ => trivial)
theorem all32 {ah : List UInt8} (ha : ∀ c ∈ ah, c = 32) : ∀ c ∈ ah ++ [32, 32], c = 32 := fun c hc => by
  simp at hc
  rcases hc with hc | hc
  · exact ha c hc
  · exact hc
theorem Lx.sp {x : List UInt8} {ws : List Tok} {o : List UInt8 → Prop} (h : Lx x ws o) : Lx (32 :: x) ws o := Lx.app (x := [32]) (ws := []) (Lx.blank rfl) h (fun _ _ => trivial)
mutual
theorem StT.lx : ∀ (t : StT) (ah : List UInt8), t.Ok TkOk → (∀ c ∈ ah, c = 32) → Lx (t.txt ah) t.ws GS
  | .decl k tx ps b, ah, h, ha => by
    have hk : (if k = 2 then kClass else kDefine) ∈ keys12 := by split <;> decide
    have l1 := Lx.block (SlT.lx b (ah ++ [32, 32]) h.2.2.2.2 (all32 ha)) ha
    have l2 := Lx.app (ps_lx h.2.2.2.1) l1 (fun _ _ => trivial)
    have hgs : ∀ r : List UInt8, GS (psTxt ps ++ (32 :: 123 :: 10 :: (b.txt (ah ++ [32, 32]) ++ (ah ++ [125]))) ++ r) := fun r => by
      unfold psTxt
      split
      · exact gs_cons sep32 _
      · exact gs_cons sep40 _
    have l3 := Lx.app (Lx.name h.2.2.1) l2 (fun r _ => hgs r)
    have l4 := Lx.app (Lx.key hk) l3.sp (fun r _ => gs_cons sep32 _)
    exact l4.weak (fun _ _ => trivial)
  | .incl tx, ah, h, _ => Lx.app (Lx.key (t := kInclude) (by decide)) (Lx.sp (Lx.name h.2)) (fun r _ => gs_cons sep32 _)
  | .set tx v, ah, h, _ => by
    have l1 := Lx.app Lx.eq (VT.lx h.2).sp (fun r _ => by simp)
    have l2 := Lx.app (Lx.var h.1) l1.sp (fun r _ => .inl (gs_cons sep32 _))
    have e1 : (StT.set tx v).txt ah = (36 :: tx) ++ (32 :: ([61] ++ (32 :: v.txt))) := by simp [StT.txt]
    rw [e1]
    exact l2.weak (fun r hr => .inl hr)
  | .cond v b, ah, h, ha => by
    have l1 := Lx.block (SlT.lx b (ah ++ [32, 32]) h.2 (all32 ha)) ha
    have l2 := Lx.app (VT.lx h.1) l1 (fun r _ => .inl (gs_cons sep32 _))
    have l3 := Lx.app (Lx.key (t := kIf) (by decide)) l2.sp (fun r _ => gs_cons sep32 _)
    exact l3.weak (fun _ _ => trivial)
  | .condE v b e, ah, h, ha => by
    have l0 := Lx.block (SlT.lx e (ah ++ [32, 32]) h.2.2 (all32 ha)) ha
    have lk := Lx.app (Lx.key (t := kElse) (by decide)) l0 (fun r _ => gs_cons sep32 _)
    have l1 := Lx.app (Lx.block (SlT.lx b (ah ++ [32, 32]) h.2.1 (all32 ha)) ha) lk.sp (fun _ _ => trivial)
    have l2 := Lx.app (VT.lx h.1) l1 (fun r _ => .inl (gs_cons sep32 _))
    have l3 := Lx.app (Lx.key (t := kIf) (by decide)) l2.sp (fun r _ => gs_cons sep32 _)
    have e1 : (StT.condE v b e).txt ah = kIf ++ (32 :: (v.txt ++ ((32 :: 123 :: 10 :: (b.txt (ah ++ [32, 32]) ++ (ah ++ [125]))) ++ (32 :: (kElse ++ (32 :: 123 :: 10 :: (e.txt (ah ++ [32, 32]) ++ (ah ++ [125])))))))) := by simp [StT.txt]
    have e2 : (StT.condE v b e).ws = [kwT kIf] ++ (v.ws ++ ((sgT 123 :: (b.ws ++ [sgT 125])) ++ ([kwT kElse] ++ (sgT 123 :: (e.ws ++ [sgT 125]))))) := by simp [StT.ws]
    rw [e1, e2]
    exact l3.weak (fun _ _ => trivial)
  | .res tx v ats, ah, h, _ => by
    have l1 := Lx.app (ats_lx (l := ats) (tx := AtT.txt) (ws := AtT.ws) (fun a ha => AtT.lx (h.2.2.2 a ha))) (Lx.sp (Lx.one (c := 125) (by decide))) (fun r _ => gs_cons sep32 _)
    have l2 := Lx.app (Lx.one (c := 58) (by decide)) l1 (fun _ _ => trivial)
    have hgc : ∀ r : List UInt8, GC ([58] ++ (atsX (ats.map AtT.txt) ++ [32, 125]) ++ r) := fun r => by
      refine .inr ⟨_, rfl, ?_⟩
      match ats with
      | [] => simp [atsX]
      | [a] => simp [atsX]
      | a :: b :: r => simp [atsX]
    have l3 := Lx.app (VT.lx h.2.2.1) l2 (fun r _ => hgc r)
    have l4 := Lx.app (Lx.one (c := 123) (by decide)) l3.sp (fun _ _ => trivial)
    have l5 := Lx.app (Lx.name h.2.1) l4.sp (fun r _ => gs_cons sep32 _)
    exact l5.weak (fun _ _ => trivial)
  | .chain r l, ah, h, _ => (Lx.app (rf_lx h.1) (ars_lx h.2.2) (fun _ _ => trivial)).weak (fun _ _ => trivial)
theorem SlT.lx : ∀ (b : SlT) (ah : List UInt8), b.Ok TkOk → (∀ c ∈ ah, c = 32) → Lx (b.txt ah) b.ws AnyR
  | .nil, _, _, _ => Lx.nil
  | .cons s l, ah, h, ha => by
    have l1 := Lx.app (x := [10]) (ws := []) (Lx.blank rfl) (SlT.lx l ah h.2 ha) (fun _ _ => trivial)
    have l2 := Lx.app (StT.lx s ah h.1 ha) l1 (fun r _ => gs_cons sep10 _)
    exact Lx.app (ws := []) (Lx.blanks ha) l2 (fun _ _ => trivial)
end
/-- A manifest's text is cut into its words. -/
theorem top_lx (b : SlT) (h : b.Ok TkOk) : (lexL (b.txt []) 0).2 = none ∧ (lexL (b.txt []) 0).1.map tkW = b.ws := by
  obtain ⟨W, h1, h2⟩ := SlT.lx b [] h (by simp) [] 0 trivial
  rw [List.append_nil, lexL_nil] at h2
  rw [h2]
  exact ⟨rfl, by simpa using h1⟩
end Go.Proofs.YtfpdgdacifiejaaGreat

namespace Go.Proofs.YtfpdgdacifiejaaGreat

theorem sep_few {α : Type} {ws : α → List Tok} {sz : α → Nat} (h : ∀ a, (ws a).length + 1 ≤ 4 * sz a) : ∀ l : List α, (sepW (l.map ws)).length ≤ 4 * szL sz l
  | [] => by simp [sepW]
  | [a] => by have := h a; simp [sepW, szL]; omega
  | a :: b :: r => by
    have := h a
    have := sep_few h (b :: r)
    simp [sepW, szL] at this ⊢
    omega
theorem pm_few (p : PmT) : p.ws.length + 1 ≤ 4 * p.size := by
  obtain ⟨x, o⟩ := p
  cases o with
  | none => simp [PmT.ws, PmT.size]
  | some v => have := v.few; simp [PmT.ws, PmT.size]; omega
theorem at_few (p : AtT) : p.ws.length + 1 ≤ 4 * p.size := by
  have := p.2.few
  simp [AtT.ws, AtT.size]
  omega
theorem rf_few (p : AtT) : (rfWs p).length ≤ 4 * p.size := by
  have := p.2.few
  simp [rfWs, AtT.size]
  omega
theorem ars_few : ∀ l : List ArT, ((l.map arWs).flatten).length ≤ 4 * szL arSz l
  | [] => by simp
  | a :: l => by
    have := ars_few l
    have := rf_few a.2
    simp only [List.map_cons, List.flatten_cons, List.length_append, szL, arSz, arWs, List.length_cons] at *
    omega
mutual
theorem StT.few : ∀ t : StT, t.ws.length ≤ 4 * t.size
  | .decl k tx ps b => by
    have h1 := b.few
    have h2 := sep_few pm_few ps
    have h3 : (psWs ps).length ≤ 4 * szL PmT.size ps + 2 := by
      unfold psWs
      split
      · simp
      · simp; omega
    simp [StT.ws, StT.size]
    omega
  | .incl tx => by simp [StT.ws, StT.size]
  | .set tx v => by have := v.few; simp [StT.ws, StT.size]; omega
  | .cond v b => by have := v.few; have := b.few; simp [StT.ws, StT.size]; omega
  | .condE v b e => by have := v.few; have := b.few; have := e.few; simp [StT.ws, StT.size]; omega
  | .res tx v ats => by
    have := v.few
    have := sep_few at_few ats
    simp [StT.ws, StT.size]
    omega
  | .chain r l => by
    have h1 := rf_few r
    have h2 := ars_few l
    simp only [StT.ws, StT.size, List.length_append]
    omega
theorem SlT.few : ∀ b : SlT, b.ws.length ≤ 4 * b.size
  | .nil => by simp [SlT.ws]
  | .cons s l => by have := s.few; have := l.few; simp [SlT.ws, SlT.size]; omega
end
theorem topL_len (b : SlT) : (topL b).length = b.size + 1 := by simp [topL, b.len]
/-- A tree's words are read as that tree. -/
theorem par_back {P : Tok → Prop} {b : SlT} (h : b.Ok P) (h1 : (topL b).length ≤ 1024) (h2 : depN (topL b) ≤ 32) : parO b.ws = (topL b, 0, 0) := by
  have hf := b.few
  rw [topL_len] at h1
  have ht := top_back (P := P) 5000 b 5000 [] [] h (by omega) (by omega)
  unfold parO
  rw [if_neg (by omega), ht]
  simp only [List.nil_append, List.length_nil]
  have e : b.lay 0 ++ [(⟨1, [], b.idx 0⟩ : Nod)] = topL b := rfl
  rw [e, if_neg (by rw [topL_len]; omega)]
/-- Read, printed, cut, read again. -/
theorem print_back {l : List Tok} (h : (parO l).2.2 = 0) (hw : ∀ w ∈ l, TkOk w) :
    ∃ b : SlT, b.Ok TkOk ∧ (parO l).1 = topL b ∧ (lexL (b.txt []) 0).2 = none ∧ parO ((lexL (b.txt []) 0).1.map tkW) = (topL b, 0, 0) := by
  obtain ⟨b, h1, h2, h3, h4⟩ := par_tree TkOk h hw
  obtain ⟨h5, h6⟩ := top_lx b h1
  exact ⟨b, h1, h2, h5, by rw [h6]; exact par_back h1 h3 h4⟩
/-- The words of a text are such. -/
theorem lex_tk (l : List UInt8) (n : Nat) : ∀ w ∈ ((lexL l n).1.map tkW), TkOk w := by
  intro w hw
  obtain ⟨u, hu, rfl⟩ := List.mem_map.1 hw
  exact ⟨u.kd, rfl, lex_wok l n u hu⟩
end Go.Proofs.YtfpdgdacifiejaaGreat

namespace Go.Proofs.YtfpdgdacifiejaaGreat

def SlT.ls : SlT → List StT
  | .nil => []
  | .cons s l => s :: l.ls
/-- A word that a text may hold. -/
def TkC (t : Tok) : Prop := TkOk t ∧ (covT t).length ≤ 65536
theorem TkC.ok {t : Tok} (h : TkC t) : TkOk t := h.1
theorem cov_ge (t : Tok) : t.tx.length ≤ (covT t).length := by
  unfold covT covO
  split
  · simp
  · split
    · simp; omega
    · split
      · simp; omega
      · exact Nat.le_refl _
theorem TkC.len {t : Tok} (h : TkC t) : t.tx.length ≤ 65536 := Nat.le_trans (cov_ge t) h.2
theorem VT.okm {P Q : Tok → Prop} (hpq : ∀ t, P t → Q t) : ∀ (t : VT), t.Ok P → t.Ok Q
  | .leaf _ _, h => ⟨h.1, hpq _ h.2⟩
  | .tf _, _ => trivial
  | .neg v, h => VT.okm hpq v h
  | .op _ a b, h => ⟨h.1, VT.okm hpq a h.2.1, VT.okm hpq b h.2.2⟩
theorem PmT.okm {P Q : Tok → Prop} (hpq : ∀ t, P t → Q t) (p : PmT) (h : PmT.Ok P p) : PmT.Ok Q p := ⟨hpq _ h.1, fun v hv => VT.okm hpq v (h.2 v hv)⟩
theorem AtT.okm {P Q : Tok → Prop} (hpq : ∀ t, P t → Q t) (p : AtT) (h : AtT.Ok P p) : AtT.Ok Q p := ⟨h.1, hpq _ h.2.1, VT.okm hpq _ h.2.2⟩
theorem rf_okm {P Q : Tok → Prop} (hpq : ∀ t, P t → Q t) (p : AtT) (h : rfOk P p) : rfOk Q p := ⟨hpq _ h.1, VT.okm hpq _ h.2⟩
theorem ar_okm {P Q : Tok → Prop} (hpq : ∀ t, P t → Q t) (p : ArT) (h : arOk P p) : arOk Q p := ⟨h.1, rf_okm hpq _ h.2⟩
mutual
theorem StT.okm {P Q : Tok → Prop} (hpq : ∀ t, P t → Q t) : ∀ (t : StT), t.Ok P → t.Ok Q
  | .decl _ _ _ b, h => ⟨h.1, h.2.1, hpq _ h.2.2.1, fun p hp => PmT.okm hpq p (h.2.2.2.1 p hp), SlT.okm hpq b h.2.2.2.2⟩
  | .incl _, h => ⟨h.1, hpq _ h.2⟩
  | .set _ v, h => ⟨hpq _ h.1, VT.okm hpq v h.2⟩
  | .cond v b, h => ⟨VT.okm hpq v h.1, SlT.okm hpq b h.2⟩
  | .condE v b e, h => ⟨VT.okm hpq v h.1, SlT.okm hpq b h.2.1, SlT.okm hpq e h.2.2⟩
  | .res _ v _, h => ⟨h.1, hpq _ h.2.1, VT.okm hpq v h.2.2.1, fun a ha => AtT.okm hpq a (h.2.2.2 a ha)⟩
  | .chain r _, h => ⟨rf_okm hpq r h.1, h.2.1, fun a ha => ar_okm hpq a (h.2.2 a ha)⟩
theorem SlT.okm {P Q : Tok → Prop} (hpq : ∀ t, P t → Q t) : ∀ (t : SlT), t.Ok P → t.Ok Q
  | .nil, _ => trivial
  | .cons s l, h => ⟨StT.okm hpq s h.1, SlT.okm hpq l h.2⟩
end
/-- The words of a text are no longer than it. -/
theorem lex_short : ∀ (k : Nat) (l : List UInt8) (n : Nat), l.length ≤ k → ∀ u ∈ (lexL l n).1, (covO u).length ≤ l.length
  | 0, l, n, h, u, hu => by
    have : l = [] := List.eq_nil_of_length_eq_zero (by omega)
    subst this
    rw [lexL_nil] at hu
    simp at hu
  | k + 1, l, n, h, u, hu => by
    by_cases h0 : l = []
    · subst h0
      rw [lexL_nil] at hu
      simp at hu
    have hl : 0 < l.length := List.length_pos_iff.2 h0
    by_cases hz : (pcO l).sz = 0
    · rw [lexL_err h0 hz] at hu
      simp at hu
    have hz' : 0 < (pcO l).sz := by omega
    have hd : (l.drop (pcO l).sz).length ≤ k := by rw [List.length_drop]; omega
    by_cases hk : (pcO l).kd = 0
    · rw [lexL_skip h0 hz' hk] at hu
      have := lex_short k _ _ hd u hu
      rw [List.length_drop] at this
      omega
    · rw [lexL_word h0 hz' hk] at hu
      rcases List.mem_cons.1 hu with rfl | hu
      · have e := cov_take l h0 hz' hk n
        rw [e, List.length_take]
        omega
      · have := lex_short k _ _ hd u hu
        rw [List.length_drop] at this
        omega
theorem lxW_tkc (L : List UInt8) : ∀ w ∈ ((lexL L 0).1.map tkW), L.length ≤ 65536 → TkC w := by
  intro w hw hl
  refine ⟨lex_tk L 0 w hw, ?_⟩
  obtain ⟨u, hu, rfl⟩ := List.mem_map.1 hw
  have := lex_short L.length L 0 (Nat.le_refl _) u hu
  have e : covT (tkW u) = covO u := by
    unfold covT tkW
    simp only [Int.toNat_natCast]
    rfl
  rw [e]
  omega
end Go.Proofs.YtfpdgdacifiejaaGreat

namespace Go.Proofs.YtfpdgdacifiejaaGreat

/-- These nodes stand at n. -/
def InN (ns : List Nod) (n : Nat) (xs : List Nod) : Prop := ∀ k (h : k < xs.length), ns[n + k]? = some xs[k]
theorem InN.left {ns : List Nod} {n : Nat} {xs ys : List Nod} (h : InN ns n (xs ++ ys)) : InN ns n xs := fun k hk => by
  have := h k (by simp; omega)
  rwa [List.getElem_append_left hk] at this
theorem InN.right {ns : List Nod} {n m : Nat} {xs ys : List Nod} (h : InN ns n (xs ++ ys)) (hm : xs.length = m) : InN ns (n + m) ys := fun k hk => by
  have := h (m + k) (by simp; omega)
  rw [List.getElem_append_right (by omega)] at this
  simpa [hm, Nat.add_assoc] using this
theorem InN.one {ns : List Nod} {n : Nat} {x : Nod} {ys : List Nod} (h : InN ns n (x :: ys)) : ns[n]? = some x := h 0 (by simp)
theorem InN.tail {ns : List Nod} {n : Nat} {x : Nod} {ys : List Nod} (h : InN ns n (x :: ys)) : InN ns (n + 1) ys := InN.right (xs := [x]) h rfl
theorem InN.self (ns : List Nod) : InN ns 0 ns := fun k hk => by simp [hk]
end Go.Proofs.YtfpdgdacifiejaaGreat

namespace Go.Proofs.YtfpdgdacifiejaaGreat
open Go.RowKit Go.Maps

/-- A node's depth, where those ahead are known. -/
def dpF (x : Nod) (d : List Nat) : Nat := (x.ks.map fun k => d.getD k 0).foldl max 0 + 1
theorem depsN_snoc (x : List Nod) (a : Nod) (d : List Nat) : depsN (x ++ [a]) d = depsN x d ++ [dpF a (depsN x d)] := by
  rw [depsN_app]
  rfl
theorem depsN_len : ∀ (x : List Nod) (d : List Nat), (depsN x d).length = d.length + x.length
  | [], d => by simp [depsN]
  | a :: x, d => by
    unfold depsN
    rw [depsN_len x]
    simp
    omega
theorem depsN_take (ns : List Nod) (i : Nat) (hi : i < ns.length) : depsN (ns.take (i + 1)) [] = depsN (ns.take i) [] ++ [dpF ns[i] (depsN (ns.take i) [])] := by
  rw [List.take_add_one, List.getElem?_eq_getElem hi]
  exact depsN_snoc _ _ _
theorem depsN_split (ns : List Nod) (i : Nat) : ∃ t, depsN ns [] = depsN (ns.take i) [] ++ t := by
  have h : ns = ns.take i ++ ns.drop i := (List.take_append_drop i ns).symm
  have key : ∀ (y : List Nod) (d : List Nat), ∃ t, depsN y d = d ++ t := by
    intro y
    induction y with
    | nil => intro d; exact ⟨[], by simp [depsN]⟩
    | cons a y ih =>
      intro d
      obtain ⟨t, ht⟩ := ih (d ++ [(a.ks.map fun k => d.getD k 0).foldl max 0 + 1])
      exact ⟨[(a.ks.map fun k => d.getD k 0).foldl max 0 + 1] ++ t, by unfold depsN; rw [ht, List.append_assoc]⟩
  obtain ⟨t, ht⟩ := key (ns.drop i) (depsN (ns.take i) [])
  refine ⟨t, ?_⟩
  conv => lhs; rw [h, depsN_app]
  exact ht
theorem dep_at (ns : List Nod) (i : Nat) (hi : i < ns.length) (hk : ∀ x ∈ ns[i].ks, x < i) : (depsN ns []).getD i 0 = dpF ns[i] (depsN ns []) := by
  obtain ⟨t, ht⟩ := depsN_split ns (i + 1)
  rw [depsN_take ns i hi] at ht
  have hl : (depsN (ns.take i) []).length = i := by rw [depsN_len]; simp; omega
  have e1 : (depsN ns []).getD i 0 = dpF ns[i] (depsN (ns.take i) []) := by
    rw [ht, List.getD_eq_getElem?_getD, List.append_assoc, List.getElem?_append_right (by omega), hl]
    simp
  rw [e1]
  unfold dpF
  congr 2
  refine List.map_congr_left fun x hx => ?_
  have hxi := hk x hx
  rw [ht, List.append_assoc, List.getD_eq_getElem?_getD, List.getD_eq_getElem?_getD, List.getElem?_append_left (by omega)]
theorem dpF_le {x : Nod} {d : List Nat} {n : Nat} (h : ∀ y ∈ d, y ≤ n) : dpF x d ≤ n + 1 := by
  unfold dpF
  have : (x.ks.map fun k => d.getD k 0).foldl max 0 ≤ n := by
    rw [mx_le]
    refine ⟨Nat.zero_le _, fun y hy => ?_⟩
    obtain ⟨k, _, rfl⟩ := List.mem_map.1 hy
    rw [List.getD_eq_getElem?_getD]
    cases hk : d[k]? with
    | none => exact Nat.zero_le _
    | some z => exact h z (List.mem_of_getElem? hk)
  omega
theorem depsN_le : ∀ (x : List Nod) (d : List Nat), (∀ y ∈ d, y ≤ d.length) → ∀ y ∈ depsN x d, y ≤ d.length + x.length
  | [], d, h, y, hy => by have := h y hy; simpa using this
  | a :: x, d, h, y, hy => by
    have h2 : ∀ y ∈ d ++ [dpF a d], y ≤ (d ++ [dpF a d]).length := fun y hy => by
      rw [List.length_append]
      rcases List.mem_append.1 hy with hy | hy
      · have := h y hy; simp; omega
      · have := dpF_le (x := a) h
        simp only [List.mem_singleton] at hy
        subst hy
        simpa using this
    have := depsN_le x (d ++ [dpF a d]) h2 y hy
    simp at this ⊢
    omega
/-- In a tree the last node is the deepest. -/
theorem dep_last {ns : List Nod} {n : Nat} (hs : Seg ns 0 (n + 1) [n]) (hl : ns.length = n + 1) : (depsN ns []).getD n 0 = depN ns := by
  have hkid : ∀ i (hi : i < ns.length), ∀ x ∈ ns[i].ks, x < i := fun i hi x hx => (hs.kids i (by omega) (by omega) x (by unfold kidsN; rw [List.getElem?_eq_getElem hi]; exact hx)).2
  have hup : ∀ j, j < n → ∃ i, ∃ hi : i < ns.length, j < i ∧ j ∈ ns[i].ks := by
    intro j hj
    have h1 := hs.count j (by omega) (by omega)
    rw [List.count_eq_zero.2 (by simp; omega), Nat.sub_zero, Nat.add_zero] at h1
    apply Classical.byContradiction
    intro hno
    have h0 : cntN ns 0 (n + 1) j = 0 := cntN_out ns 0 (n + 1) j (fun i _ hi hm => by
      unfold kidsN at hm
      have hil : i < ns.length := by omega
      rw [List.getElem?_eq_getElem hil] at hm
      exact hno ⟨i, hil, hkid i hil j hm, hm⟩)
    omega
  have hle : ∀ d j, j ≤ n → n - j ≤ d → (depsN ns []).getD j 0 ≤ (depsN ns []).getD n 0 := by
    intro d
    induction d with
    | zero => intro j h1 h2; have : j = n := by omega
              rw [this]; exact Nat.le_refl _
    | succ d ih =>
      intro j h1 h2
      by_cases e : j = n
      · rw [e]; exact Nat.le_refl _
      · obtain ⟨i, hi, hji, hm⟩ := hup j (by omega)
        have h3 := ih i (by omega) (by omega)
        have h4 : (depsN ns []).getD j 0 < (depsN ns []).getD i 0 := by
          rw [dep_at ns i hi (hkid i hi)]
          unfold dpF
          have := mx_mem (l := ns[i].ks.map fun k => (depsN ns []).getD k 0) (x := (depsN ns []).getD j 0) (List.mem_map.2 ⟨j, hm, rfl⟩)
          omega
        omega
  have hlen : (depsN ns []).length = n + 1 := by rw [depsN_len]; simp; omega
  unfold depN
  refine Nat.le_antisymm ?_ ?_
  · refine mx_mem ?_
    rw [List.getD_eq_getElem?_getD, List.getElem?_eq_getElem (by omega)]
    exact List.getElem_mem _
  · rw [mx_le]
    refine ⟨Nat.zero_le _, fun x hx => ?_⟩
    obtain ⟨j, hj, rfl⟩ := List.getElem_of_mem hx
    have := hle n j (by omega) (by omega)
    rw [List.getD_eq_getElem?_getD, List.getElem?_eq_getElem hj] at this
    exact this
theorem foldl_snoc (l : List Nat) (x : Nat) : (l ++ [x]).foldl max 0 = max (l.foldl max 0) x := by simp
/-- The depths while they are reckoned. -/
structure DpSt (w0 : World) (g : Nat) (D : List Nat) (w : World) : Prop where
  row : w.heap[g]? = some (.cells (nvA D) 3)
  kept : Kept [] w0 w
  hg : w0.heap.size ≤ g
theorem DpSt.cell {w0 : World} {g : Nat} {D : List Nat} {w : World} (h : DpSt w0 g D w) (k : Nat) (hk : k < D.length) : w.cell? ⟨g, k, none⟩ = some (.int .i64 (D[k] : Int)) := by
  rw [cell_of_row _ _ k _ _ _ h.row]
  exact nvA_get D k hk
theorem DpSt.keep {w0 : World} {g : Nat} {D : List Nat} {w w' : World} (h : DpSt w0 g D w) (hk : Kept [] w w') : DpSt w0 g D w' := ⟨hk.heap (by simp) h.row, h.kept.trans hk, h.hg⟩
theorem DpSt.set {w0 : World} {g : Nat} {D : List Nat} {w : World} (h : DpSt w0 g D w) (k x : Nat) : DpSt w0 g (D.set k x) (w.setCell ⟨g, k, none⟩ (.int .i64 (x : Int))) := by
  refine ⟨?_, h.kept.setNew _ _ h.hg, h.hg⟩
  rw [← nvA_set]
  exact row_setJ h.row k _
/-- What stands at i while its children are looked at. -/
def dpK (ns : List Nod) (i k : Nat) (hi : i < ns.length) : Nat := ((ns[i].ks.take k).map fun x => (depsN (ns.take i) []).getD x 0).foldl max 0
def rowD (ns : List Nod) (i n : Nat) (z : Nat) : List Nat := depsN (ns.take i) [] ++ z :: List.replicate (n - i - 1) 0
end Go.Proofs.YtfpdgdacifiejaaGreat
