/-
  Layer 13: a tree's text, as it is printed, is cut into the tree's words. No program text.
  Conditions: those that each theorem states.
-/
import Derived.Test.YtfpdgdacifiejaaGreatWTxt
namespace Go.Proofs.YtfpdgdacifiejaaGreat

theorem tk_key {t : List UInt8} (h : t ∈ keys12) : TkOk ⟨1, t⟩ := by
  simp only [keys12, List.mem_cons, List.not_mem_nil, or_false] at h
  rcases h with rfl | rfl | rfl | rfl | rfl | rfl | rfl | rfl | rfl <;>
    exact ⟨1, rfl, by decide, by decide, by kernel_rfl, by kernel_rfl, by kernel_rfl⟩
theorem Lx.key {t : List UInt8} (h : t ∈ keys12) : Lx t [⟨1, t⟩] GS := by
  have := Lx.sep (tk_key h)
  have e : covT ⟨1, t⟩ = t := by simp [covT, covO]
  rwa [e] at this
theorem Lx.name {t : List UInt8} (h : TkOk ⟨1, t⟩) : Lx t [⟨1, t⟩] GS := by
  have := Lx.sep h
  have e : covT ⟨1, t⟩ = t := by simp [covT, covO]
  rwa [e] at this
theorem Lx.type {t : List UInt8} (h : TkOk ⟨2, t⟩) : Lx t [⟨2, t⟩] GS := by
  have := Lx.sep h
  have e : covT ⟨2, t⟩ = t := by simp [covT, covO]
  rwa [e] at this
theorem Lx.var {t : List UInt8} (h : TkOk ⟨3, t⟩) : Lx (36 :: t) [⟨3, t⟩] GC := by
  have := Lx.col h (.inr rfl)
  have e : covT ⟨3, t⟩ = 36 :: t := by simp [covT, covO]
  rwa [e] at this
theorem tf_col {t : List UInt8} (ht : t = [116, 114, 117, 101] ∨ t = [102, 97, 108, 115, 101]) (b : List UInt8) (hb : b.head? ≠ some 58) : pcO (t ++ 58 :: b) = pcO t := by
  have hm : moreN (58 :: b) = 0 := by
    rw [moreN.eq_def, if_neg]
    rintro ⟨h, _⟩
    cases b with
    | nil => simp at h
    | cons c r => simp at h hb; exact hb h
  rcases ht with rfl | rfl
  · have h1 : pcO [116, 114, 117, 101] = ⟨1, 4, 0, 0⟩ := by kernel_rfl
    rw [h1]
    have hp : partN smB (116 :: 114 :: 117 :: 101 :: 58 :: b) = 4 := by simp [partN, spanN, smB, tlB, dgB]
    simp [pcO, hdC, cutO, clsN, nameN, hp, hm]
  · have h1 : pcO [102, 97, 108, 115, 101] = ⟨1, 5, 0, 0⟩ := by kernel_rfl
    rw [h1]
    have hp : partN smB (102 :: 97 :: 108 :: 115 :: 101 :: 58 :: b) = 5 := by simp [partN, spanN, smB, tlB, dgB]
    simp [pcO, hdC, cutO, clsN, nameN, hp, hm]
theorem Lx.tf (b : Bool) : Lx (if b then [116, 114, 117, 101] else [102, 97, 108, 115, 101]) [⟨1, if b then [116, 114, 117, 101] else [102, 97, 108, 115, 101]⟩] GC := by
  obtain ⟨t, ht, hk, hd⟩ : ∃ t : List UInt8, (if b then [116, 114, 117, 101] else [102, 97, 108, 115, 101]) = t ∧ t ∈ keys12 ∧ (t = [116, 114, 117, 101] ∨ t = [102, 97, 108, 115, 101]) := by
    cases b
    · exact ⟨_, rfl, by decide, .inr rfl⟩
    · exact ⟨_, rfl, by decide, .inl rfl⟩
  rw [ht]
  have e : covT ⟨1, t⟩ = t := by simp [covT, covO]
  have hw := tk_key hk
  obtain ⟨h1, h2, h3, _⟩ := tk_parts hw
  have := Lx.word hw (ok := GC) (fun r hr => by
    rw [e] at h1 h2 h3 ⊢
    rcases hr with hr | ⟨c, rfl, hc⟩
    · exact pc_gs h1 h2 h3 hr
    · exact tf_col hd c hc)
  rwa [e] at this

/- The texts. -/
def VT.txt : VT → List UInt8
  | .leaf k tx => if k = 13 then 39 :: (tx ++ [39]) else if k = 14 then 34 :: (tx ++ [34]) else if k = 15 then tx else 36 :: tx
  | .tf b => if b then [116, 114, 117, 101] else [102, 97, 108, 115, 101]
  | .neg v => 33 :: v.txt
  | .op tx a b => 40 :: (a.txt ++ (32 :: (tx ++ (32 :: (b.txt ++ [41])))))
theorem sep41 : Sep 41 := ⟨by decide, by decide, by decide, by decide, by decide, by decide⟩
theorem sep93 : Sep 93 := ⟨by decide, by decide, by decide, by decide, by decide, by decide⟩
theorem sep44 : Sep 44 := ⟨by decide, by decide, by decide, by decide, by decide, by decide⟩
theorem sep91 : Sep 91 := ⟨by decide, by decide, by decide, by decide, by decide, by decide⟩
theorem sep40 : Sep 40 := ⟨by decide, by decide, by decide, by decide, by decide, by decide⟩
/-- No value's text begins with '='. -/
theorem VT.hd {t : VT} (h : t.Ok TkOk) (r : List UInt8) : (t.txt ++ r).head? ≠ some 61 := by
  cases t with
  | leaf k tx =>
    rcases h.1 with rfl | rfl | rfl | rfl
    · simp [VT.txt]
    · simp [VT.txt]
    · have hw : TkOk ⟨6, tx⟩ := h.2
      obtain ⟨h1, h2, h3, h4, _⟩ := tk_parts hw
      have e : covT ⟨6, tx⟩ = tx := by simp [covT, covO]
      rw [e] at h1 h4
      have h5 : ((pcO tx).kd : Int) = 6 := h4
      have hc := (cls_of (l := tx) rfl).2.2.1 (by omega)
      cases tx with
      | nil => exact absurd rfl h1
      | cons c x =>
        simp only [VT.txt]
        intro hh
        simp at hh
        subst hh
        simp [hdC, clsN] at hc
    · simp [VT.txt]
  | tf b => cases b <;> simp [VT.txt]
  | neg v => simp [VT.txt]
  | op tx a b => simp [VT.txt]
theorem VT.lx : ∀ {t : VT}, t.Ok TkOk → Lx t.txt t.ws GC
  | .leaf k tx, h => by
    rcases h.1 with rfl | rfl | rfl | rfl
    · have := (Lx.quo (t := ⟨4, tx⟩) h.2 (.inl rfl)).weak (o2 := GC) (fun _ _ => trivial)
      have e : covT ⟨4, tx⟩ = 39 :: (tx ++ [39]) := by simp [covT, covO]
      rwa [e] at this
    · have := (Lx.quo (t := ⟨5, tx⟩) h.2 (.inr rfl)).weak (o2 := GC) (fun _ _ => trivial)
      have e : covT ⟨5, tx⟩ = 34 :: (tx ++ [34]) := by simp [covT, covO]
      rwa [e] at this
    · have := Lx.col (t := ⟨6, tx⟩) h.2 (.inl rfl)
      have e : covT ⟨6, tx⟩ = tx := by simp [covT, covO]
      rwa [e] at this
    · exact Lx.var h.2
  | .tf b, _ => Lx.tf b
  | .neg v, h => Lx.app (x := [33]) (ws := [sgT 33]) Lx.bang (VT.lx (t := v) h) (fun r _ => VT.hd (t := v) h r)
  | .op tx a b, h => by
    have hop : Lx tx [opW tx] GS := by
      have h1 := h.1
      simp [opsT] at h1
      rcases h1 with rfl | rfl | rfl | rfl
      · exact (Lx.two (t := [61, 61]) (by decide)).weak (fun _ _ => trivial)
      · exact (Lx.two (t := [33, 61]) (by decide)).weak (fun _ _ => trivial)
      · exact Lx.key (t := [97, 110, 100]) (by decide)
      · exact Lx.key (t := [111, 114]) (by decide)
    have l1 := Lx.app (VT.lx (t := b) h.2.2) (Lx.one (c := 41) (by decide)) (fun r _ => .inl (gs_cons sep41 r))
    have l2 := Lx.app (x := [32]) (ws := []) (Lx.blank rfl) l1 (fun _ _ => trivial)
    have l3 := Lx.app hop l2 (fun r _ => gs_cons sep32 _)
    have l4 := Lx.app (x := [32]) (ws := []) (Lx.blank rfl) l3 (fun _ _ => trivial)
    have l5 := Lx.app (VT.lx (t := a) h.2.1) l4 (fun r _ => .inl (gs_cons sep32 _))
    have l6 := Lx.app (x := [40]) (ws := [sgT 40]) (Lx.one (by decide)) l5 (fun _ _ => trivial)
    have e1 : (VT.op tx a b).txt = [40] ++ (a.txt ++ ([32] ++ (tx ++ ([32] ++ (b.txt ++ [41]))))) := by simp [VT.txt]
    have e2 : (VT.op tx a b).ws = [sgT 40] ++ (a.ws ++ ([] ++ ([opW tx] ++ ([] ++ (b.ws ++ [sgT 41]))))) := by simp [VT.ws]
    rw [e1, e2]
    exact l6.weak (fun _ _ => trivial)

/- Parts. -/
def PmT.txt (p : PmT) : List UInt8 := match p.2 with
  | none => 36 :: p.1
  | some v => 36 :: (p.1 ++ (32 :: 61 :: 32 :: v.txt))
def AtT.txt (p : AtT) : List UInt8 := p.1 ++ (32 :: 61 :: 62 :: 32 :: p.2.txt)
def rfTxt (p : AtT) : List UInt8 := p.1 ++ (91 :: (p.2.txt ++ [93]))
def arTxt (p : ArT) : List UInt8 := 32 :: (p.1 ++ (32 :: rfTxt p.2))
def sepX : List (List UInt8) → List UInt8
  | [] => []
  | [a] => a
  | a :: b :: r => a ++ (44 :: 32 :: sepX (b :: r))
def atsX : List (List UInt8) → List UInt8
  | [] => []
  | [a] => 32 :: a
  | a :: b :: r => 32 :: (a ++ (44 :: atsX (b :: r)))
theorem PmT.lx {p : PmT} (h : PmT.Ok TkOk p) : Lx p.txt p.ws GS := by
  obtain ⟨tx, o⟩ := p
  cases o with
  | none => exact (Lx.var h.1).weak (fun r hr => .inl hr)
  | some v =>
    have l1 := Lx.app (x := [32]) (ws := []) (Lx.blank rfl) (VT.lx (h.2 v rfl)) (fun _ _ => trivial)
    have l2 := Lx.app Lx.eq l1 (fun r _ => by simp)
    have l3 := Lx.app (x := [32]) (ws := []) (Lx.blank rfl) l2 (fun _ _ => trivial)
    have l4 := Lx.app (Lx.var h.1) l3 (fun r _ => .inl (gs_cons sep32 _))
    have e1 : PmT.txt (tx, some v) = (36 :: tx) ++ ([32] ++ ([61] ++ ([32] ++ v.txt))) := by simp [PmT.txt]
    have e2 : PmT.ws (tx, some v) = [(⟨3, tx⟩ : Tok)] ++ ([] ++ ([sgT 61] ++ ([] ++ v.ws))) := by simp [PmT.ws]
    rw [e1, e2]
    exact l4.weak (fun r hr => .inl hr)
theorem AtT.lx {p : AtT} (h : AtT.Ok TkOk p) : Lx p.txt p.ws GS := by
  obtain ⟨tx, v⟩ := p
  have l1 := Lx.app (x := [32]) (ws := []) (Lx.blank rfl) (VT.lx h.2.2) (fun _ _ => trivial)
  have l2 := Lx.app (Lx.two (t := [61, 62]) (by decide)) l1 (fun _ _ => trivial)
  have l3 := Lx.app (x := [32]) (ws := []) (Lx.blank rfl) l2 (fun _ _ => trivial)
  have l4 := Lx.app (Lx.name h.2.1) l3 (fun r _ => gs_cons sep32 _)
  have e1 : AtT.txt (tx, v) = tx ++ ([32] ++ ([61, 62] ++ ([32] ++ v.txt))) := by simp [AtT.txt]
  have e2 : AtT.ws (tx, v) = [(⟨1, tx⟩ : Tok)] ++ ([] ++ ([⟨7, [61, 62]⟩] ++ ([] ++ v.ws))) := by simp [AtT.ws]
  rw [e1, e2]
  exact l4.weak (fun r hr => .inl hr)
theorem rf_lx {p : AtT} (h : rfOk TkOk p) : Lx (rfTxt p) (rfWs p) AnyR := by
  obtain ⟨tx, v⟩ := p
  have l1 := Lx.app (VT.lx h.2) (Lx.one (c := 93) (by decide)) (fun r _ => .inl (gs_cons sep93 r))
  have l2 := Lx.app (Lx.one (c := 91) (by decide)) l1 (fun _ _ => trivial)
  have l3 := Lx.app (Lx.type h.1) l2 (fun r _ => gs_cons sep91 _)
  have e1 : rfTxt (tx, v) = tx ++ ([91] ++ (v.txt ++ [93])) := by simp [rfTxt]
  have e2 : rfWs (tx, v) = [(⟨2, tx⟩ : Tok)] ++ ([sgT 91] ++ (v.ws ++ [sgT 93])) := by simp [rfWs]
  rw [e1, e2]
  exact l3
theorem ar_lx {p : ArT} (h : arOk TkOk p) : Lx (arTxt p) (arWs p) AnyR := by
  obtain ⟨tx, r⟩ := p
  have hs : tx ∈ sgn2 := by rcases h.1 with e | e <;> (simp only at e; rw [e]; decide)
  have l1 := Lx.app (x := [32]) (ws := []) (Lx.blank rfl) (rf_lx h.2) (fun _ _ => trivial)
  have l2 := Lx.app (Lx.two hs) l1 (fun _ _ => trivial)
  have l3 := Lx.app (x := [32]) (ws := []) (Lx.blank rfl) l2 (fun _ _ => trivial)
  exact l3
theorem ars_lx : ∀ {l : List ArT}, (∀ a ∈ l, arOk TkOk a) → Lx (l.map arTxt).flatten (l.map arWs).flatten AnyR
  | [], _ => Lx.nil
  | a :: l, h => by
    have l1 := Lx.app (ar_lx (h a (by simp))) (ars_lx (l := l) (fun x hx => h x (by simp [hx]))) (fun _ _ => trivial)
    simpa using l1
theorem sep_lx {α : Type} {tx : α → List UInt8} {ws : α → List Tok} : ∀ {l : List α}, (∀ a ∈ l, Lx (tx a) (ws a) GS) → Lx (sepX (l.map tx)) (sepW (l.map ws)) GS
  | [], _ => Lx.nil.weak (fun _ _ => trivial)
  | [a], h => h a (by simp)
  | a :: b :: r, h => by
    have ih := sep_lx (l := b :: r) (fun x hx => h x (by simp at hx ⊢; exact .inr hx))
    have l1 := Lx.app (x := [32]) (ws := []) (Lx.blank rfl) ih (fun _ _ => trivial)
    have l2 := Lx.app (Lx.one (c := 44) (by decide)) l1 (fun _ _ => trivial)
    have l3 := Lx.app (h a (by simp)) l2 (fun r _ => gs_cons sep44 _)
    exact l3
theorem ats_lx {α : Type} {tx : α → List UInt8} {ws : α → List Tok} : ∀ {l : List α}, (∀ a ∈ l, Lx (tx a) (ws a) GS) → Lx (atsX (l.map tx)) (sepW (l.map ws)) GS
  | [], _ => Lx.nil.weak (fun _ _ => trivial)
  | [a], h => Lx.app (x := [32]) (ws := []) (Lx.blank rfl) (h a (by simp)) (fun _ _ => trivial)
  | a :: b :: r, h => by
    have ih := ats_lx (l := b :: r) (fun x hx => h x (by simp at hx ⊢; exact .inr hx))
    have l2 := Lx.app (Lx.one (c := 44) (by decide)) ih (fun _ _ => trivial)
    have l3 := Lx.app (h a (by simp)) l2 (fun r _ => gs_cons sep44 _)
    exact Lx.app (x := [32]) (ws := []) (Lx.blank rfl) l3 (fun _ _ => trivial)

/- Statements. -/
def psTxt (ps : List PmT) : List UInt8 := if ps = [] then [] else 40 :: (sepX (ps.map PmT.txt) ++ [41])
mutual
def StT.txt : StT → List UInt8 → List UInt8
  | .decl k tx ps b, ah => (if k = 2 then kClass else kDefine) ++ (32 :: (tx ++ (psTxt ps ++ (32 :: 123 :: 10 :: (b.txt (ah ++ [32, 32]) ++ (ah ++ [125]))))))
  | .incl tx, _ => kInclude ++ (32 :: tx)
  | .set tx v, _ => 36 :: (tx ++ (32 :: 61 :: 32 :: v.txt))
  | .cond v b, ah => kIf ++ (32 :: (v.txt ++ (32 :: 123 :: 10 :: (b.txt (ah ++ [32, 32]) ++ (ah ++ [125])))))
  | .condE v b e, ah => kIf ++ (32 :: (v.txt ++ (32 :: 123 :: 10 :: (b.txt (ah ++ [32, 32]) ++ (ah ++ (125 :: 32 :: (kElse ++ (32 :: 123 :: 10 :: (e.txt (ah ++ [32, 32]) ++ (ah ++ [125]))))))))))
  | .res tx v ats, _ => tx ++ (32 :: 123 :: 32 :: (v.txt ++ (58 :: (atsX (ats.map AtT.txt) ++ [32, 125]))))
  | .chain r l, _ => rfTxt r ++ (l.map arTxt).flatten
/-- Statements, each on a line of its own, ah ahead. -/
def SlT.txt : SlT → List UInt8 → List UInt8
  | .nil, _ => []
  | .cons s l, ah => ah ++ (s.txt ah ++ (10 :: l.txt ah))
end
theorem ps_lx {ps : List PmT} (h : ∀ p ∈ ps, PmT.Ok TkOk p) : Lx (psTxt ps) (psWs ps) AnyR := by
  unfold psTxt psWs
  by_cases e : ps = []
  · rw [if_pos e, if_pos e]
    exact Lx.nil
  · rw [if_neg e, if_neg e]
    have l1 := Lx.app (sep_lx (l := ps) (tx := PmT.txt) (ws := PmT.ws) (fun a ha => PmT.lx (h a ha))) (Lx.one (c := 41) (by decide)) (fun r _ => gs_cons sep41 r)
    exact Lx.app (x := [40]) (ws := [sgT 40]) (Lx.one (by decide)) l1 (fun _ _ => trivial)
theorem Lx.block {x ah : List UInt8} {ws : List Tok} (h : Lx x ws AnyR) (ha : ∀ c ∈ ah, c = 32) : Lx (32 :: 123 :: 10 :: (x ++ (ah ++ [125]))) (sgT 123 :: (ws ++ [sgT 125])) AnyR := by
  have l1 := Lx.app (Lx.blanks ha) (Lx.one (c := 125) (by decide)) (fun _ _ => trivial)
  have l2 := Lx.app h l1 (fun _ _ => trivial)
  have l3 := Lx.app (x := [10]) (ws := []) (Lx.blank rfl) l2 (fun _ _ => trivial)
  have l4 := Lx.app (x := [123]) (ws := [sgT 123]) (Lx.one (by decide)) l3 (fun _ _ => trivial)
  exact Lx.app (x := [32]) (ws := []) (Lx.blank rfl) l4 (fun _ _ => trivial)
theorem all32 {ah : List UInt8} (ha : ∀ c ∈ ah, c = 32) : ∀ c ∈ ah ++ [32, 32], c = 32 := fun c hc => by
  simp at hc
  rcases hc with hc | hc
  · exact ha c hc
  · exact hc
theorem Lx.sp {x : List UInt8} {ws : List Tok} {o : List UInt8 → Prop} (h : Lx x ws o) : Lx (32 :: x) ws o := Lx.app (x := [32]) (ws := []) (Lx.blank rfl) h (fun _ _ => trivial)
mutual
theorem StT.lx : ∀ (t : StT) (ah : List UInt8), t.Ok TkOk → (∀ c ∈ ah, c = 32) → Lx (t.txt ah) t.ws GS
  | .decl k tx ps b, ah, h, ha => by
    have hk : (if k = 2 then kClass else kDefine) ∈ keys12 := by split <;> decide
    have l1 := Lx.block (SlT.lx b (ah ++ [32, 32]) h.2.2.2.2 (all32 ha)) ha
    have l2 := Lx.app (ps_lx h.2.2.2.1) l1 (fun _ _ => trivial)
    have hgs : ∀ r : List UInt8, GS (psTxt ps ++ (32 :: 123 :: 10 :: (b.txt (ah ++ [32, 32]) ++ (ah ++ [125]))) ++ r) := fun r => by
      unfold psTxt
      split
      · exact gs_cons sep32 _
      · exact gs_cons sep40 _
    have l3 := Lx.app (Lx.name h.2.2.1) l2 (fun r _ => hgs r)
    have l4 := Lx.app (Lx.key hk) l3.sp (fun r _ => gs_cons sep32 _)
    exact l4.weak (fun _ _ => trivial)
  | .incl tx, ah, h, _ => Lx.app (Lx.key (t := kInclude) (by decide)) (Lx.sp (Lx.name h.2)) (fun r _ => gs_cons sep32 _)
  | .set tx v, ah, h, _ => by
    have l1 := Lx.app Lx.eq (VT.lx h.2).sp (fun r _ => by simp)
    have l2 := Lx.app (Lx.var h.1) l1.sp (fun r _ => .inl (gs_cons sep32 _))
    have e1 : (StT.set tx v).txt ah = (36 :: tx) ++ (32 :: ([61] ++ (32 :: v.txt))) := by simp [StT.txt]
    rw [e1]
    exact l2.weak (fun r hr => .inl hr)
  | .cond v b, ah, h, ha => by
    have l1 := Lx.block (SlT.lx b (ah ++ [32, 32]) h.2 (all32 ha)) ha
    have l2 := Lx.app (VT.lx h.1) l1 (fun r _ => .inl (gs_cons sep32 _))
    have l3 := Lx.app (Lx.key (t := kIf) (by decide)) l2.sp (fun r _ => gs_cons sep32 _)
    exact l3.weak (fun _ _ => trivial)
  | .condE v b e, ah, h, ha => by
    have l0 := Lx.block (SlT.lx e (ah ++ [32, 32]) h.2.2 (all32 ha)) ha
    have lk := Lx.app (Lx.key (t := kElse) (by decide)) l0 (fun r _ => gs_cons sep32 _)
    have l1 := Lx.app (Lx.block (SlT.lx b (ah ++ [32, 32]) h.2.1 (all32 ha)) ha) lk.sp (fun _ _ => trivial)
    have l2 := Lx.app (VT.lx h.1) l1 (fun r _ => .inl (gs_cons sep32 _))
    have l3 := Lx.app (Lx.key (t := kIf) (by decide)) l2.sp (fun r _ => gs_cons sep32 _)
    have e1 : (StT.condE v b e).txt ah = kIf ++ (32 :: (v.txt ++ ((32 :: 123 :: 10 :: (b.txt (ah ++ [32, 32]) ++ (ah ++ [125]))) ++ (32 :: (kElse ++ (32 :: 123 :: 10 :: (e.txt (ah ++ [32, 32]) ++ (ah ++ [125])))))))) := by simp [StT.txt]
    have e2 : (StT.condE v b e).ws = [kwT kIf] ++ (v.ws ++ ((sgT 123 :: (b.ws ++ [sgT 125])) ++ ([kwT kElse] ++ (sgT 123 :: (e.ws ++ [sgT 125]))))) := by simp [StT.ws]
    rw [e1, e2]
    exact l3.weak (fun _ _ => trivial)
  | .res tx v ats, ah, h, _ => by
    have l1 := Lx.app (ats_lx (l := ats) (tx := AtT.txt) (ws := AtT.ws) (fun a ha => AtT.lx (h.2.2.2 a ha))) (Lx.sp (Lx.one (c := 125) (by decide))) (fun r _ => gs_cons sep32 _)
    have l2 := Lx.app (Lx.one (c := 58) (by decide)) l1 (fun _ _ => trivial)
    have hgc : ∀ r : List UInt8, GC ([58] ++ (atsX (ats.map AtT.txt) ++ [32, 125]) ++ r) := fun r => by
      refine .inr ⟨_, rfl, ?_⟩
      match ats with
      | [] => simp [atsX]
      | [a] => simp [atsX]
      | a :: b :: r => simp [atsX]
    have l3 := Lx.app (VT.lx h.2.2.1) l2 (fun r _ => hgc r)
    have l4 := Lx.app (Lx.one (c := 123) (by decide)) l3.sp (fun _ _ => trivial)
    have l5 := Lx.app (Lx.name h.2.1) l4.sp (fun r _ => gs_cons sep32 _)
    exact l5.weak (fun _ _ => trivial)
  | .chain r l, ah, h, _ => (Lx.app (rf_lx h.1) (ars_lx h.2.2) (fun _ _ => trivial)).weak (fun _ _ => trivial)
theorem SlT.lx : ∀ (b : SlT) (ah : List UInt8), b.Ok TkOk → (∀ c ∈ ah, c = 32) → Lx (b.txt ah) b.ws AnyR
  | .nil, _, _, _ => Lx.nil
  | .cons s l, ah, h, ha => by
    have l1 := Lx.app (x := [10]) (ws := []) (Lx.blank rfl) (SlT.lx l ah h.2 ha) (fun _ _ => trivial)
    have l2 := Lx.app (StT.lx s ah h.1 ha) l1 (fun r _ => gs_cons sep10 _)
    exact Lx.app (ws := []) (Lx.blanks ha) l2 (fun _ _ => trivial)
end
/-- A manifest's text is cut into its words. -/
theorem top_lx (b : SlT) (h : b.Ok TkOk) : (lexL (b.txt []) 0).2 = none ∧ (lexL (b.txt []) 0).1.map tkW = b.ws := by
  obtain ⟨W, h1, h2⟩ := SlT.lx b [] h (by simp) [] 0 trivial
  rw [List.append_nil, lexL_nil] at h2
  rw [h2]
  exact ⟨rfl, by simpa using h1⟩
end Go.Proofs.YtfpdgdacifiejaaGreat
