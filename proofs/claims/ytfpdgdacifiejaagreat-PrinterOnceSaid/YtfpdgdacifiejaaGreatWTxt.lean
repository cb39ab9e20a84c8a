/-
  Layer 13: a tree's words, as they are printed, are read as that tree. No program text.
  Conditions: those that each theorem states.
  Layer 13: the texts of trees, as they are printed, and how such a text is cut into words. No program text.
  Conditions: those that each theorem states.
-/
import Derived.Test.YtfpdgdacifiejaaGreatWRd
import Derived.Test.YtfpdgdacifiejaaGreatUCut
namespace Go.Proofs.YtfpdgdacifiejaaGreat

/-- What may be behind a statement. -/
def FW (r : List Tok) : Prop := NoOp r ∧ tkB isAw r = false ∧ tkB (isKy kElse) r = false
theorem fw_sg (c : UInt8) (r : List Tok) : FW (sgT c :: r) := by
  refine ⟨noOp_sg c r, ?_, rfl⟩
  show isAw (sgT c) = false
  simp [isAw, isSg, sgT]
theorem fw_nil : FW [] := ⟨⟨rfl, rfl, rfl⟩, rfl, rfl⟩
theorem fw_kd {k : Int} {t : List UInt8} (r : List Tok) (h1 : k ≠ 1) (h7 : k ≠ 7) : FW (⟨k, t⟩ :: r) := by
  refine ⟨⟨?_, ?_, ?_⟩, ?_, ?_⟩
  · show isEq ⟨k, t⟩ = false; simp [isEq, isSg, h7]
  · show isKy _ ⟨k, t⟩ = false; simp [isKy, h1]
  · show isKy _ ⟨k, t⟩ = false; simp [isKy, h1]
  · show isAw ⟨k, t⟩ = false; simp [isAw, isSg, h7]
  · show isKy _ ⟨k, t⟩ = false; simp [isKy, h1]
theorem fw_ky {t : List UInt8} (r : List Tok) (h1 : t ≠ [97, 110, 100]) (h2 : t ≠ [111, 114]) (h3 : t ≠ kElse) : FW (⟨1, t⟩ :: r) := by
  refine ⟨⟨?_, ?_, ?_⟩, ?_, ?_⟩
  · show isEq ⟨1, t⟩ = false; simp [isEq, isSg]
  · show isKy _ ⟨1, t⟩ = false; simp [isKy, h1]
  · show isKy _ ⟨1, t⟩ = false; simp [isKy, h2]
  · show isAw ⟨1, t⟩ = false; simp [isAw, isSg]
  · show isKy _ ⟨1, t⟩ = false; simp [isKy, h3]
theorem nm_not {t : List UInt8} (h : isNm ⟨1, t⟩ = true) : t ∉ keys12 := by
  unfold isNm at h
  simpa using h
theorem fw_stmt {P : Tok → Prop} (t : StT) (ho : t.Ok P) (r : List Tok) : FW (t.ws ++ r) := by
  have nm : ∀ {t : List UInt8} (r : List Tok), isNm ⟨1, t⟩ = true → FW (⟨1, t⟩ :: r) := fun {t} r h => by
    have hn := nm_not h
    exact fw_ky r (fun e => hn (by rw [e]; decide)) (fun e => hn (by rw [e]; decide)) (fun e => hn (by rw [e]; decide))
  cases t with
  | decl k tx ps b =>
    rcases ho.1 with rfl | rfl
    · exact fw_ky _ (by decide) (by decide) (by decide)
    · exact fw_ky _ (by decide) (by decide) (by decide)
  | incl tx => exact fw_ky _ (by decide) (by decide) (by decide)
  | set tx v => exact fw_kd _ (by decide) (by decide)
  | cond v b => exact fw_ky _ (by decide) (by decide) (by decide)
  | condE v b e => exact fw_ky _ (by decide) (by decide) (by decide)
  | res tx v ats => exact nm _ ho.1
  | chain r l => exact fw_kd _ (by decide) (by decide)
theorem fw_stmts {P : Tok → Prop} (b : SlT) (ho : b.Ok P) (r : List Tok) (hr : FW r) : FW (b.ws ++ r) := by
  cases b with
  | nil => exact hr
  | cons s l =>
    simp only [SlT.ws, List.append_assoc]
    exact fw_stmt s ho.1 _

/- Parts. -/
def BkA {α : Type} (_ : Tok → Prop) (f : Prs Nat) (n : Nat) (Ok : α → Prop) (ws : α → List Tok) (lay : α → Nat → List Nod) (sz : α → Nat) : Prop :=
  ∀ (a : α) (c : UInt8) (r : List Tok) (ns : List Nod), Ok a → c ≠ 61 → (ws a ++ sgT c :: r).length < n + 1 → f ⟨ws a ++ sgT c :: r, ns⟩ = .ok ⟨sgT c :: r, ns ++ lay a ns.length⟩ (ns.length + sz a - 1)
theorem sg_ne {c d : UInt8} (h : c ≠ d) (r : List Tok) : tkB (isSg [d]) (sgT c :: r) = false := by
  show isSg [d] (sgT c) = false
  simp [isSg, sgT, h]
theorem sg_eq (c : UInt8) (r : List Tok) : tkB (isSg [c]) (sgT c :: r) = true := by
  show isSg [c] (sgT c) = true
  simp [isSg, sgT]
theorem listR_back {α : Type} {P : Tok → Prop} {part : Prs Nat} {n : Nat} {Ok : α → Prop} {ws : α → List Tok} {lay : α → Nat → List Nod} {sz : α → Nat} (hb : BkA P part n Ok ws lay sz) (hlen : ∀ a n, (lay a n).length = sz a) (e : UInt8) (h44 : e ≠ 44) (h61 : e ≠ 61) (rest : List Tok) :
    ∀ (ats : List α) (k : Nat) (l : List Nat) (ns : List Nod), ats ≠ [] → (∀ a ∈ ats, Ok a) → (sepW (ats.map ws) ++ sgT e :: rest).length < n + 1 → ats.length ≤ k →
      listR part [e] k l ⟨sepW (ats.map ws) ++ sgT e :: rest, ns⟩ = .ok ⟨rest, ns ++ layL lay sz ats ns.length⟩ (l ++ idxL sz ats ns.length)
  | [], _, _, _, h, _, _, _ => absurd rfl h
  | _ :: _, 0, _, _, _, _, _, hk => by simp at hk
  | [a], k + 1, l, ns, _, ho, hl, _ => by
    have h1 := hb a e rest ns (ho a (by simp)) h61 hl
    show pbind part _ ⟨ws a ++ sgT e :: rest, ns⟩ = _
    rw [bind_ok h1, ifT_f (sg_ne h44 rest), ifT_must (sg_eq e rest)]
    simp [layL, idxL, prt]
  | a :: b :: r, k + 1, l, ns, _, ho, hl, hk => by
    have hw : sepW ((a :: b :: r).map ws) ++ sgT e :: rest = ws a ++ sgT 44 :: (sepW ((b :: r).map ws) ++ sgT e :: rest) := by simp [sepW]
    rw [hw] at hl ⊢
    have h1 := hb a 44 (sepW ((b :: r).map ws) ++ sgT e :: rest) ns (ho a (by simp)) (by decide) hl
    have h2 := listR_back hb hlen e h44 h61 rest (b :: r) k (l ++ [ns.length + sz a - 1]) (ns ++ lay a ns.length) (by simp) (fun x hx => ho x (by simp at hx ⊢; exact .inr hx)) (by simp at hl ⊢; omega) (by simp at hk ⊢; omega)
    show pbind part _ _ = _
    rw [bind_ok h1, ifT_t (sg_eq 44 _)]
    show listR part [e] k (l ++ [ns.length + sz a - 1]) ⟨sepW ((b :: r).map ws) ++ sgT e :: rest, ns ++ lay a ns.length⟩ = _
    rw [h2]
    have hln : (ns ++ lay a ns.length).length = ns.length + sz a := by rw [List.length_append, hlen]
    rw [hln]
    simp only [layL, idxL, List.append_assoc, List.cons_append, List.nil_append]
theorem listF_back {α : Type} {P : Tok → Prop} {part : Prs Nat} {n : Nat} {Ok : α → Prop} {ws : α → List Tok} {lay : α → Nat → List Nod} {sz : α → Nat} (hb : BkA P part n Ok ws lay sz) (hlen : ∀ a n, (lay a n).length = sz a) (e : UInt8) (h44 : e ≠ 44) (h61 : e ≠ 61) (rest : List Tok)
    (hh : ∀ a r, tkB (isSg [e]) (ws a ++ r) = false) (hpos : ∀ a, 0 < (ws a).length) (ats : List α) (ns : List Nod) (ho : ∀ a ∈ ats, Ok a) (hl : (sepW (ats.map ws) ++ sgT e :: rest).length < n + 1) :
      listF part [e] n ⟨sepW (ats.map ws) ++ sgT e :: rest, ns⟩ = .ok ⟨rest, ns ++ layL lay sz ats ns.length⟩ (idxL sz ats ns.length) := by
  cases ats with
  | nil =>
    unfold listF
    show ifT _ _ _ ⟨sgT e :: rest, ns⟩ = _
    rw [ifT_t (sg_eq e rest)]
    simp [layL, idxL, prt]
  | cons a r =>
    have hhd : tkB (isSg [e]) (sepW ((a :: r).map ws) ++ sgT e :: rest) = false := by
      cases r with
      | nil => exact hh a _
      | cons b r => simp only [List.map_cons, sepW, List.append_assoc]; exact hh a _
    have hcnt : ∀ l : List α, l.length ≤ (sepW (l.map ws)).length := by
      intro l
      induction l with
      | nil => simp
      | cons a r ih =>
        have := hpos a
        cases r with
        | nil => simp [sepW]; omega
        | cons b r => simp [sepW] at ih ⊢; omega
    have hc := hcnt (a :: r)
    have := listR_back hb hlen e h44 h61 rest (a :: r) n [] ns (by simp) ho hl (by rw [List.length_append] at hl; simp only [List.length_cons] at hl hc ⊢; omega)
    unfold listF
    rw [ifT_f hhd, this]
    rfl
theorem param_back {P : Tok → Prop} (n : Nat) : BkA P (paramF n) n (PmT.Ok P) PmT.ws PmT.lay PmT.size := by
  rintro ⟨tx, o⟩ c r ns ho hc hl
  unfold paramF
  cases o with
  | none =>
    show pbind _ _ ⟨⟨3, tx⟩ :: sgT c :: r, ns⟩ = _
    rw [ifT_must (show tkB (isKd 3) (⟨3, tx⟩ :: sgT c :: r) = true from rfl)]
    show ifT _ _ _ ⟨sgT c :: r, ns⟩ = _
    rw [ifT_f (sg_ne hc r)]
    rfl
  | some v =>
    show pbind _ _ ⟨⟨3, tx⟩ :: sgT 61 :: (v.ws ++ sgT c :: r), ns⟩ = _
    rw [ifT_must (show tkB (isKd 3) (⟨3, tx⟩ :: sgT 61 :: (v.ws ++ sgT c :: r)) = true from rfl)]
    show ifT _ _ _ ⟨sgT 61 :: (v.ws ++ sgT c :: r), ns⟩ = _
    rw [ifT_t (sg_eq 61 _)]
    show pbind (value n) _ ⟨v.ws ++ sgT c :: r, ns⟩ = _
    rw [bind_ok (value_back v n (sgT c :: r) ns (ho.2 v rfl) (by simp [PmT.ws] at hl ⊢; omega) (noOp_sg c r))]
    unfold pnode
    simp [PmT.lay, PmT.size, v.len, hdT]
theorem attr_back {P : Tok → Prop} (n : Nat) : BkA P (attrF n) n (AtT.Ok P) AtT.ws AtT.lay AtT.size := by
  rintro ⟨tx, v⟩ c r ns ho hc hl
  unfold attrF
  show pbind _ _ ⟨⟨1, tx⟩ :: ⟨7, [61, 62]⟩ :: (v.ws ++ sgT c :: r), ns⟩ = _
  rw [ifT_must (show tkB isPl (⟨1, tx⟩ :: ⟨7, [61, 62]⟩ :: (v.ws ++ sgT c :: r)) = true from ho.1)]
  show pbind _ _ ⟨⟨7, [61, 62]⟩ :: (v.ws ++ sgT c :: r), ns⟩ = _
  rw [ifT_must (show tkB (isSg [61, 62]) (⟨7, [61, 62]⟩ :: (v.ws ++ sgT c :: r)) = true from rfl)]
  show pbind (value n) _ ⟨v.ws ++ sgT c :: r, ns⟩ = _
  rw [bind_ok (value_back v n (sgT c :: r) ns ho.2.2 (by simp [AtT.ws] at hl ⊢; omega) (noOp_sg c r))]
  unfold pnode
  simp [AtT.lay, AtT.size, v.len, hdT]
theorem ref_back {P : Tok → Prop} (n : Nat) (p : AtT) (r : List Tok) (ns : List Nod) (ho : rfOk P p) (hl : (rfWs p ++ r).length < n + 1) : refF n ⟨rfWs p ++ r, ns⟩ = .ok ⟨r, ns ++ rfLay p ns.length⟩ (ns.length + p.size - 1) := by
  obtain ⟨tx, v⟩ := p
  unfold refF
  have hw : rfWs (tx, v) ++ r = ⟨2, tx⟩ :: sgT 91 :: (v.ws ++ sgT 93 :: r) := by simp [rfWs]
  rw [hw] at hl ⊢
  rw [ifT_must (show tkB (isKd 2) (⟨2, tx⟩ :: sgT 91 :: (v.ws ++ sgT 93 :: r)) = true from rfl)]
  show refOf n tx ⟨sgT 91 :: (v.ws ++ sgT 93 :: r), ns⟩ = _
  unfold refOf
  rw [ifT_must (sg_eq 91 _)]
  show pbind (value n) _ ⟨v.ws ++ sgT 93 :: r, ns⟩ = _
  rw [bind_ok (value_back v n (sgT 93 :: r) ns ho.2 (by simp at hl ⊢; omega) (noOp_sg 93 r)), ifT_must (sg_eq 93 _)]
  unfold pnode
  simp [rfLay, AtT.size, v.len]
theorem chR_back {P : Tok → Prop} (n : Nat) (rest : List Tok) (hf : FW rest) : ∀ (ars : List ArT) (k : Nat) (l : List Nat) (ns : List Nod), (∀ a ∈ ars, arOk P a) → ((ars.map arWs).flatten ++ rest).length < n + 1 → ars.length ≤ k →
    chR n k l ⟨(ars.map arWs).flatten ++ rest, ns⟩ = .ok ⟨rest, ns ++ (layL arLay arSz ars ns.length ++ [⟨10, [], l ++ arIx ars ns.length⟩])⟩ (ns.length + szL arSz ars)
  | [], k, l, ns, _, _, _ => by
    unfold chR
    show ifT _ _ _ ⟨rest, ns⟩ = _
    rw [ifT_f hf.2.1]
    unfold pnode
    simp [layL, arIx, szL]
  | _ :: _, 0, _, _, _, _, hk => by simp at hk
  | a :: r, k + 1, l, ns, ho, hl, hk => by
    have ha := ho a (by simp)
    have hw : (((a :: r).map arWs).flatten ++ rest) = ⟨7, a.1⟩ :: (rfWs a.2 ++ ((r.map arWs).flatten ++ rest)) := by simp [arWs]
    rw [hw] at hl ⊢
    have hb : isAw ⟨7, a.1⟩ = true := by rcases ha.1 with e | e <;> rw [e] <;> rfl
    have hb' : tkB isAw (⟨7, a.1⟩ :: (rfWs a.2 ++ ((r.map arWs).flatten ++ rest))) = true := hb
    rw [chR_yes hb']
    have e1 : arrowF ⟨⟨7, a.1⟩ :: (rfWs a.2 ++ ((r.map arWs).flatten ++ rest)), ns⟩ = .ok ⟨rfWs a.2 ++ ((r.map arWs).flatten ++ rest), ns ++ [⟨12, a.1, []⟩]⟩ ns.length := by
      unfold arrowF
      rw [ifT_must hb']
      rfl
    rw [bind_ok e1]
    have e2 := ref_back n a.2 ((r.map arWs).flatten ++ rest) (ns ++ [⟨12, a.1, []⟩]) ha.2 (by simp only [List.length_cons] at hl; omega)
    rw [bind_ok e2]
    have e3 := chR_back n rest hf r k (l ++ [ns.length, (ns ++ [(⟨12, a.1, []⟩ : Nod)]).length + a.2.size - 1]) (ns ++ [⟨12, a.1, []⟩] ++ rfLay a.2 (ns ++ [(⟨12, a.1, []⟩ : Nod)]).length) (fun x hx => ho x (by simp at hx ⊢; exact .inr hx)) (by simp at hl ⊢; omega) (by simp at hk; omega)
    rw [e3]
    have hln : (ns ++ [(⟨12, a.1, []⟩ : Nod)] ++ rfLay a.2 (ns ++ [(⟨12, a.1, []⟩ : Nod)]).length).length = ns.length + arSz a := by
      rw [List.length_append, rf_len]
      simp [arSz]
      omega
    rw [hln]
    have hl1 : (ns ++ [(⟨12, a.1, []⟩ : Nod)]).length = ns.length + 1 := by simp
    rw [hl1]
    simp only [layL, arLay, arIx, szL, List.append_assoc, List.cons_append, List.nil_append, Nat.add_assoc]
    rw [show ns.length + (1 + a.2.size) - 1 = ns.length + a.2.size by omega]
theorem stmt_pos (t : StT) : 0 < t.ws.length := by cases t <;> simp [StT.ws, rfWs]
theorem stmt_hd {P : Tok → Prop} (t : StT) (ho : t.Ok P) (r : List Tok) : tkB (isSg [125]) (t.ws ++ r) = false := by
  cases t <;> rfl
theorem params_back {P : Tok → Prop} (n : Nat) (ps : List PmT) (rest : List Tok) (ns : List Nod) (ho : ∀ p ∈ ps, PmT.Ok P p) (hl : (psWs ps ++ sgT 123 :: rest).length < n + 1) : params n ⟨psWs ps ++ sgT 123 :: rest, ns⟩ = .ok ⟨sgT 123 :: rest, ns ++ layL PmT.lay PmT.size ps ns.length⟩ (idxL PmT.size ps ns.length) := by
  rw [params_eq]
  unfold psWs at hl ⊢
  by_cases h : ps = []
  · subst h
    rw [if_pos rfl]
    show ifT _ _ _ ⟨sgT 123 :: rest, ns⟩ = _
    rw [ifT_f (sg_ne (by decide) rest)]
    simp [prt, layL, idxL]
  · rw [if_neg h] at hl ⊢
    have hw : sgT 40 :: (sepW (ps.map PmT.ws) ++ [sgT 41]) ++ sgT 123 :: rest = sgT 40 :: (sepW (ps.map PmT.ws) ++ sgT 41 :: sgT 123 :: rest) := by simp
    rw [hw] at hl ⊢
    rw [ifT_t (sg_eq 40 _)]
    show listF _ _ _ ⟨sepW (ps.map PmT.ws) ++ sgT 41 :: sgT 123 :: rest, ns⟩ = _
    exact listF_back (param_back n) PmT.len 41 (by decide) (by decide) (sgT 123 :: rest) (fun a r => by obtain ⟨x, o⟩ := a; cases o <;> rfl) (fun a => by obtain ⟨x, o⟩ := a; cases o <;> simp [PmT.ws]) ps ns ho (by simp only [List.length_cons] at hl ⊢; omega)
theorem block_of {n : Nat} {b : SlT} {rest : List Tok} {ns : List Nod} (h : ∀ k l ns, (b.ws ++ sgT 125 :: rest).length < k → stmts (stmtF n) k l ⟨b.ws ++ sgT 125 :: rest, ns⟩ = .ok ⟨rest, ns ++ b.lay ns.length⟩ (l ++ b.idx ns.length)) (hl : (b.ws ++ sgT 125 :: rest).length < n) :
    blockOf n (stmtF n) ⟨sgT 123 :: (b.ws ++ sgT 125 :: rest), ns⟩ = .ok ⟨rest, ns ++ (b.lay ns.length ++ [⟨1, [], b.idx ns.length⟩])⟩ (ns.length + b.size) := by
  unfold blockOf
  rw [ifT_must (sg_eq 123 _)]
  show pbind (stmts (stmtF n) n []) _ ⟨b.ws ++ sgT 125 :: rest, ns⟩ = _
  rw [bind_ok (h n [] ns hl)]
  unfold pnode
  simp [b.len]
mutual
theorem stmt_back {P : Tok → Prop} : ∀ (t : StT) (n : Nat) (rest : List Tok) (ns : List Nod), t.Ok P → FW rest → (t.ws ++ rest).length < n → stmtF n ⟨t.ws ++ rest, ns⟩ = .ok ⟨rest, ns ++ t.lay ns.length⟩ (ns.length + t.size - 1)
  | _, 0, _, _, _, _, h => absurd h (Nat.not_lt_zero _)
  | .decl k tx ps b, n + 1, rest, ns, ho, _, hl => by
    have hw : (StT.decl k tx ps b).ws ++ rest = kwT (if k = 2 then kClass else kDefine) :: ⟨1, tx⟩ :: (psWs ps ++ sgT 123 :: (b.ws ++ sgT 125 :: rest)) := by simp [StT.ws]
    rw [hw] at hl ⊢
    have hc : classy n (stmtF n) k ⟨⟨1, tx⟩ :: (psWs ps ++ sgT 123 :: (b.ws ++ sgT 125 :: rest)), ns⟩ = .ok ⟨rest, ns ++ (StT.decl k tx ps b).lay ns.length⟩ (ns.length + (StT.decl k tx ps b).size - 1) := by
      unfold classy
      rw [ifT_must (show tkB isNm (⟨1, tx⟩ :: (psWs ps ++ sgT 123 :: (b.ws ++ sgT 125 :: rest))) = true from ho.2.1)]
      show pbind (params n) _ ⟨psWs ps ++ sgT 123 :: (b.ws ++ sgT 125 :: rest), ns⟩ = _
      rw [bind_ok (params_back n ps (b.ws ++ sgT 125 :: rest) ns ho.2.2.2.1 (by simp at hl ⊢; omega))]
      have hln : (ns ++ layL PmT.lay PmT.size ps ns.length).length = ns.length + szL PmT.size ps := by rw [List.length_append, layL_len PmT.len]
      rw [bind_ok (block_of (fun k l ns h => stmts_back b n k l rest ns ho.2.2.2.2 (by simp at hl ⊢; omega) h) (by simp at hl ⊢; omega)), hln]
      unfold pnode
      simp [StT.lay, StT.size, hdT, layL_len PmT.len, b.len]
    rcases ho.1 with rfl | rfl
    · rw [stmt_class rfl rfl]
      exact hc
    · rw [stmt_define rfl rfl]
      exact hc
  | .incl tx, n + 1, rest, ns, ho, _, _ => by
    show stmtF (n + 1) ⟨kwT kInclude :: ⟨1, tx⟩ :: rest, ns⟩ = _
    rw [stmt_include rfl rfl]
    show incF ⟨⟨1, tx⟩ :: rest, ns⟩ = _
    unfold incF
    rw [ifT_must (show tkB isNm (⟨1, tx⟩ :: rest) = true from ho.1)]
    rfl
  | .set tx v, n + 1, rest, ns, ho, hf, hl => by
    show stmtF (n + 1) ⟨⟨3, tx⟩ :: sgT 61 :: (v.ws ++ rest), ns⟩ = _
    rw [stmt_var rfl]
    unfold setF
    rw [ifT_must (show tkB (isKd 3) (⟨3, tx⟩ :: sgT 61 :: (v.ws ++ rest)) = true from rfl)]
    show pbind _ _ ⟨sgT 61 :: (v.ws ++ rest), ns⟩ = _
    rw [ifT_must (sg_eq 61 _)]
    show pbind (value n) _ ⟨v.ws ++ rest, ns⟩ = _
    rw [bind_ok (value_back v n rest ns ho.2 (by simp [StT.ws] at hl ⊢; omega) hf.1)]
    unfold pnode
    simp [StT.lay, StT.size, v.len, hdT]
  | .cond v b, n + 1, rest, ns, ho, hf, hl => by
    have hw : (StT.cond v b).ws ++ rest = kwT kIf :: (v.ws ++ sgT 123 :: (b.ws ++ sgT 125 :: rest)) := by simp [StT.ws]
    rw [hw] at hl ⊢
    rw [stmt_if rfl rfl]
    show ifOf n (stmtF n) ⟨v.ws ++ sgT 123 :: (b.ws ++ sgT 125 :: rest), ns⟩ = _
    unfold ifOf
    rw [bind_ok (value_back v n (sgT 123 :: (b.ws ++ sgT 125 :: rest)) ns ho.1 (by simp at hl ⊢; omega) (noOp_sg 123 _))]
    have hln : (ns ++ v.lay ns.length).length = ns.length + v.size := by rw [List.length_append, v.len]
    rw [bind_ok (block_of (fun k l ns h => stmts_back b n k l rest ns ho.2 (by simp at hl ⊢; omega) h) (by simp at hl ⊢; omega)), hln]
    show ifT _ _ _ ⟨rest, _⟩ = _
    rw [ifT_f hf.2.2]
    unfold pnode
    simp [StT.lay, StT.size, v.len, b.len]
  | .condE v b e, n + 1, rest, ns, ho, hf, hl => by
    have hw : (StT.condE v b e).ws ++ rest = kwT kIf :: (v.ws ++ sgT 123 :: (b.ws ++ sgT 125 :: (kwT kElse :: sgT 123 :: (e.ws ++ sgT 125 :: rest)))) := by simp [StT.ws]
    rw [hw] at hl ⊢
    rw [stmt_if rfl rfl]
    show ifOf n (stmtF n) ⟨v.ws ++ sgT 123 :: (b.ws ++ sgT 125 :: (kwT kElse :: sgT 123 :: (e.ws ++ sgT 125 :: rest))), ns⟩ = _
    unfold ifOf
    rw [bind_ok (value_back v n (sgT 123 :: (b.ws ++ sgT 125 :: (kwT kElse :: sgT 123 :: (e.ws ++ sgT 125 :: rest)))) ns ho.1 (by simp at hl ⊢; omega) (noOp_sg 123 _))]
    have hln : (ns ++ v.lay ns.length).length = ns.length + v.size := by rw [List.length_append, v.len]
    rw [bind_ok (block_of (fun k l ns h => stmts_back b n k l (kwT kElse :: sgT 123 :: (e.ws ++ sgT 125 :: rest)) ns ho.2.1 (by simp at hl ⊢; omega) h) (by simp at hl ⊢; omega)), hln]
    show ifT _ _ _ ⟨kwT kElse :: sgT 123 :: (e.ws ++ sgT 125 :: rest), _⟩ = _
    rw [ifT_t (show tkB (isKy [101, 108, 115, 101]) (kwT kElse :: sgT 123 :: (e.ws ++ sgT 125 :: rest)) = true from rfl)]
    show pbind (blockOf n (stmtF n)) _ ⟨sgT 123 :: (e.ws ++ sgT 125 :: rest), _⟩ = _
    have hln2 : (ns ++ v.lay ns.length ++ (b.lay (ns.length + v.size) ++ [(⟨1, [], b.idx (ns.length + v.size)⟩ : Nod)])).length = ns.length + v.size + b.size + 1 := by
      simp [v.len, b.len]
      omega
    rw [bind_ok (block_of (fun k l ns h => stmts_back e n k l rest ns ho.2.2 (by simp at hl ⊢; omega) h) (by simp at hl ⊢; omega)), hln2]
    unfold pnode
    simp [StT.lay, StT.size, v.len, b.len, e.len]
    omega
  | .res tx v ats, n + 1, rest, ns, ho, _, hl => by
    have hw : (StT.res tx v ats).ws ++ rest = ⟨1, tx⟩ :: sgT 123 :: (v.ws ++ sgT 58 :: (sepW (ats.map AtT.ws) ++ sgT 125 :: rest)) := by simp [StT.ws]
    rw [hw] at hl ⊢
    have hn := nm_not ho.1
    rw [stmt_res rfl (fun e => hn (by simp only [hdT] at e; rw [e]; decide)) (fun e => hn (by simp only [hdT] at e; rw [e]; decide)) (fun e => hn (by simp only [hdT] at e; rw [e]; decide)) (fun e => hn (by simp only [hdT] at e; rw [e]; decide))]
    unfold resF
    rw [ifT_must (show tkB isNm (⟨1, tx⟩ :: sgT 123 :: (v.ws ++ sgT 58 :: (sepW (ats.map AtT.ws) ++ sgT 125 :: rest))) = true from ho.1), resOf_eq]
    show pbind _ _ ⟨sgT 123 :: (v.ws ++ sgT 58 :: (sepW (ats.map AtT.ws) ++ sgT 125 :: rest)), ns⟩ = _
    rw [ifT_must (sg_eq 123 _)]
    show pbind (value n) _ ⟨v.ws ++ sgT 58 :: (sepW (ats.map AtT.ws) ++ sgT 125 :: rest), ns⟩ = _
    rw [bind_ok (value_back v n (sgT 58 :: (sepW (ats.map AtT.ws) ++ sgT 125 :: rest)) ns ho.2.2.1 (by simp at hl ⊢; omega) (noOp_sg 58 _)), ifT_must (sg_eq 58 _)]
    show pbind (listF (attrF n) [125] n) _ ⟨sepW (ats.map AtT.ws) ++ sgT 125 :: rest, ns ++ v.lay ns.length⟩ = _
    have hln : (ns ++ v.lay ns.length).length = ns.length + v.size := by rw [List.length_append, v.len]
    rw [bind_ok (listF_back (attr_back n) AtT.len 125 (by decide) (by decide) rest (fun a r => rfl) (fun a => by simp [AtT.ws]) ats (ns ++ v.lay ns.length) ho.2.2.2 (by simp at hl ⊢; omega)), hln]
    unfold pnode
    simp [StT.lay, StT.size, v.len, layL_len AtT.len, hdT]
  | .chain r l, n + 1, rest, ns, ho, hf, hl => by
    obtain ⟨a, l', rfl⟩ : ∃ a l', l = a :: l' := by
      cases l with
      | nil => exact absurd rfl ho.2.1
      | cons a l' => exact ⟨a, l', rfl⟩
    have ha := ho.2.2 a (by simp)
    have hw : (StT.chain r (a :: l')).ws ++ rest = rfWs r ++ (⟨7, a.1⟩ :: (rfWs a.2 ++ ((l'.map arWs).flatten ++ rest))) := by simp [StT.ws, arWs]
    have hcnt : ∀ x : List ArT, x.length ≤ ((x.map arWs).flatten).length := by
      intro x
      induction x with
      | nil => simp
      | cons b x ih => simp [arWs] at ih ⊢; omega
    have hc := hcnt l'
    rw [hw] at hl ⊢
    rw [stmt_type rfl]
    obtain ⟨k, rfl⟩ : ∃ k, n = k + 1 := ⟨n - 1, by simp [rfWs] at hl; omega⟩
    unfold chainF
    rw [chain_eq (k + 1) k rfl]
    rw [bind_ok (ref_back (P := P) (k + 1) r _ ns ho.1 (by omega))]
    have hb' : tkB isAw (⟨7, a.1⟩ :: (rfWs a.2 ++ ((l'.map arWs).flatten ++ rest))) = true := by
      show isAw ⟨7, a.1⟩ = true
      rcases ha.1 with e | e <;> rw [e] <;> rfl
    have hl1 : (ns ++ rfLay r ns.length).length = ns.length + r.size := by rw [List.length_append, rf_len]
    have e1 : arrowF ⟨⟨7, a.1⟩ :: (rfWs a.2 ++ ((l'.map arWs).flatten ++ rest)), ns ++ rfLay r ns.length⟩ = .ok ⟨rfWs a.2 ++ ((l'.map arWs).flatten ++ rest), ns ++ rfLay r ns.length ++ [⟨12, a.1, []⟩]⟩ (ns.length + r.size) := by
      unfold arrowF
      rw [ifT_must hb']
      unfold pnode
      rw [hl1]
      rfl
    rw [bind_ok e1]
    have hl2 : (ns ++ rfLay r ns.length ++ [(⟨12, a.1, []⟩ : Nod)]).length = ns.length + r.size + 1 := by simp [rf_len]; omega
    have hlr : (rfWs a.2 ++ ((l'.map arWs).flatten ++ rest)).length < k + 1 + 1 := by
      have h1 : 0 < (rfWs r).length := by simp [rfWs]
      rw [List.length_append, List.length_cons] at hl
      omega
    rw [bind_ok (ref_back (P := P) (k + 1) a.2 _ _ ha.2 hlr), hl2]
    have hlc : ((l'.map arWs).flatten ++ rest).length < k + 1 + 1 := by
      rw [List.length_append] at hlr
      omega
    have hk : l'.length ≤ k := by
      have h1 : 3 ≤ (rfWs r).length := by simp [rfWs]
      have h2 : 3 ≤ (rfWs a.2).length := by simp [rfWs]
      rw [List.length_append, List.length_cons, List.length_append, List.length_append] at hl
      omega
    rw [chR_back (P := P) (k + 1) rest hf l' k _ _ (fun x hx => ho.2.2 x (by simp [hx])) hlc hk]
    have hl3 : (ns ++ rfLay r ns.length ++ [(⟨12, a.1, []⟩ : Nod)] ++ rfLay a.2 (ns.length + r.size + 1)).length = ns.length + r.size + arSz a := by
      rw [List.length_append, hl2, rf_len]
      simp only [arSz]
      omega
    rw [hl3]
    simp only [StT.lay, StT.size, layL, arLay, arIx, szL, List.append_assoc, List.cons_append, List.nil_append]
    rw [show ns.length + r.size + 1 + a.2.size - 1 = ns.length + r.size + a.2.size by omega, show ns.length + (r.size + (arSz a + szL arSz l') + 1) - 1 = ns.length + r.size + arSz a + szL arSz l' by omega]
theorem stmts_back {P : Tok → Prop} : ∀ (b : SlT) (n k : Nat) (l : List Nat) (rest : List Tok) (ns : List Nod), b.Ok P → (b.ws ++ sgT 125 :: rest).length < n → (b.ws ++ sgT 125 :: rest).length < k → stmts (stmtF n) k l ⟨b.ws ++ sgT 125 :: rest, ns⟩ = .ok ⟨rest, ns ++ b.lay ns.length⟩ (l ++ b.idx ns.length)
  | _, _, 0, _, _, _, _, _, h => absurd h (Nat.not_lt_zero _)
  | .nil, n, k + 1, l, rest, ns, _, _, _ => by
    show ifT _ _ _ ⟨sgT 125 :: rest, ns⟩ = _
    rw [ifT_t (sg_eq 125 rest)]
    simp [prt, SlT.lay, SlT.idx]
  | .cons s b, n, k + 1, l, rest, ns, ho, hn, hk => by
    have hw : (SlT.cons s b).ws ++ sgT 125 :: rest = s.ws ++ (b.ws ++ sgT 125 :: rest) := by simp [SlT.ws]
    rw [hw] at hn hk ⊢
    have h1 := stmt_back s n (b.ws ++ sgT 125 :: rest) ns ho.1 (fw_stmts b ho.2 _ (fw_sg 125 rest)) hn
    have hns : tkB (isSg [125]) (s.ws ++ (b.ws ++ sgT 125 :: rest)) = false := stmt_hd s ho.1 _
    have hpos := stmt_pos s
    have h2 := stmts_back b n k (l ++ [ns.length + s.size - 1]) rest (ns ++ s.lay ns.length) ho.2 (by rw [List.length_append] at hn; omega) (by rw [List.length_append] at hk; omega)
    show ifT _ _ _ ⟨s.ws ++ (b.ws ++ sgT 125 :: rest), ns⟩ = _
    rw [ifT_f hns, bind_ok h1, h2]
    have hln : (ns ++ s.lay ns.length).length = ns.length + s.size := by rw [List.length_append, s.len]
    rw [hln]
    simp only [SlT.lay, SlT.idx, List.append_assoc, List.cons_append, List.nil_append]
end
theorem top_back {P : Tok → Prop} (n : Nat) : ∀ (b : SlT) (k : Nat) (l : List Nat) (ns : List Nod), b.Ok P → b.ws.length < n → b.ws.length < k → topF (stmtF n) k l ⟨b.ws, ns⟩ = .ok ⟨[], ns ++ (b.lay ns.length ++ [⟨1, [], l ++ b.idx ns.length⟩])⟩ (ns.length + b.size)
  | _, 0, _, _, _, _, h => absurd h (Nat.not_lt_zero _)
  | .nil, k + 1, l, ns, _, _, _ => by
    show topF _ _ _ ⟨[], ns⟩ = _
    rw [topF_nil]
    unfold pnode
    simp [SlT.lay, SlT.idx, SlT.size]
  | .cons s b, k + 1, l, ns, ho, hn, hk => by
    have hw : (SlT.cons s b).ws = s.ws ++ b.ws := rfl
    rw [hw] at hn hk ⊢
    have hf : FW b.ws := by have := fw_stmts b ho.2 [] fw_nil; simpa using this
    have h1 := stmt_back s n b.ws ns ho.1 hf hn
    have hpos := stmt_pos s
    rw [topF_cons _ _ _ _ _ (by intro e; have h9 := congrArg List.length e; rw [List.length_append, List.length_nil] at h9; omega), bind_ok h1]
    have h2 := top_back n b k (l ++ [ns.length + s.size - 1]) (ns ++ s.lay ns.length) ho.2 (by rw [List.length_append] at hn; omega) (by rw [List.length_append] at hk; omega)
    rw [h2]
    have hln : (ns ++ s.lay ns.length).length = ns.length + s.size := by rw [List.length_append, s.len]
    rw [hln]
    simp only [SlT.lay, SlT.idx, SlT.size, List.append_assoc, List.cons_append, List.nil_append, Nat.add_assoc]
end Go.Proofs.YtfpdgdacifiejaaGreat

namespace Go.Proofs.YtfpdgdacifiejaaGreat

/-- A word that, cut out, is itself. -/
def TkOk (t : Tok) : Prop := ∃ k : Nat, t.kd = (k : Int) ∧ WOk ⟨k, t.tx, 0⟩
def covT (t : Tok) : List UInt8 := covO ⟨t.kd.toNat, t.tx, 0⟩
/-- A text that is cut into these words, whatever (that may be there) comes behind. -/
def Lx (x : List UInt8) (ws : List Tok) (ok : List UInt8 → Prop) : Prop := ∀ (rest : List UInt8) (n : Nat), ok rest → ∃ W : List Wd, W.map tkW = ws ∧ lexL (x ++ rest) n = (W ++ (lexL rest (n + x.length)).1, (lexL rest (n + x.length)).2)
def AnyR (_ : List UInt8) : Prop := True
theorem Lx.app {x y : List UInt8} {ws vs : List Tok} {o1 o2 : List UInt8 → Prop} (h : Lx x ws o1) (k : Lx y vs o2) (ho : ∀ r, o2 r → o1 (y ++ r)) : Lx (x ++ y) (ws ++ vs) o2 := by
  intro rest n hr
  obtain ⟨W, h1, h2⟩ := h (y ++ rest) n (ho rest hr)
  obtain ⟨V, k1, k2⟩ := k rest (n + x.length) hr
  refine ⟨W ++ V, by rw [List.map_append, h1, k1], ?_⟩
  rw [List.append_assoc, h2, k2, List.length_append, ← Nat.add_assoc, List.append_assoc]
theorem Lx.weak {x : List UInt8} {ws : List Tok} {o1 o2 : List UInt8 → Prop} (h : Lx x ws o1) (ho : ∀ r, o2 r → o1 r) : Lx x ws o2 := fun rest n hr => h rest n (ho rest hr)
theorem Lx.nil : Lx [] [] AnyR := fun rest n _ => ⟨[], rfl, by simp⟩
theorem Lx.blank {c : UInt8} (hc : clsN c.toNat = 1) : Lx [c] [] AnyR := fun rest n _ => ⟨[], rfl, by simp [lex_wh c hc]⟩
theorem Lx.blanks : ∀ {l : List UInt8}, (∀ c ∈ l, c = 32) → Lx l [] AnyR
  | [], _ => Lx.nil
  | c :: l, h => by
    have hc : c = 32 := h c (by simp)
    subst hc
    exact Lx.app (x := [32]) (Lx.blank rfl) (Lx.blanks fun c hm => h c (by simp [hm])) (fun _ _ => trivial)
/-- A word ahead of what does not make it longer. -/
theorem Lx.word {t : Tok} (h : TkOk t) {ok : List UInt8 → Prop} (hp : ∀ r, ok r → pcO (covT t ++ r) = pcO (covT t)) : Lx (covT t) [t] ok := by
  intro rest n hr
  obtain ⟨k, hk, h1, h2, h3, h4, h5⟩ := h
  have hc : covT t = covO ⟨k, t.tx, 0⟩ := by unfold covT; rw [hk, Int.toNat_natCast]
  have hp := hp rest hr
  rw [hc] at hp ⊢
  have h0 : (covO ⟨k, t.tx, 0⟩).length ≠ 0 := by simpa using h1
  have et : txO (covO ⟨k, t.tx, 0⟩ ++ rest) (pcO (covO ⟨k, t.tx, 0⟩)) = t.tx := by
    rw [← txO_take, List.take_append_of_le_length (by omega), txO_take]
    exact h5
  refine ⟨[⟨k, t.tx, n⟩], ?_, ?_⟩
  · show [(⟨(k : Int), t.tx⟩ : Tok)] = [t]
    rw [← hk]
  · rw [lexL_word (by simp [h1]) (by rw [hp]; omega) (by rw [hp, h3]; exact h2), hp, et, h4, h3, List.drop_left]
    rfl
/-- Behind a word: the end, or a byte that parts; or one ':' alone. -/
def GS (r : List UInt8) : Prop := r = [] ∨ ∃ s b, r = s :: b ∧ Sep s
def GC (r : List UInt8) : Prop := GS r ∨ ∃ b, r = 58 :: b ∧ b.head? ≠ some 58
theorem gs_cons {s : UInt8} (h : Sep s) (b : List UInt8) : GS (s :: b) := .inr ⟨s, b, rfl, h⟩
theorem pc_gs {a r : List UInt8} (h : a ≠ []) (h0 : 0 < (pcO a).sz) (hk : (pcO a).kd ≠ 0) (hr : GS r) : pcO (a ++ r) = pcO a := by
  rcases hr with rfl | ⟨s, b, rfl, hs⟩
  · rw [List.append_nil]
  · exact pc_sep hs a b h h0 (.inr hk)
theorem tk_parts {t : Tok} (h : TkOk t) : covT t ≠ [] ∧ 0 < (pcO (covT t)).sz ∧ (pcO (covT t)).kd ≠ 0 ∧ ((pcO (covT t)).kd : Int) = t.kd ∧ (pcO (covT t)).sz = (covT t).length := by
  obtain ⟨k, hk, h1, h2, h3, h4, h5⟩ := h
  have hc : covT t = covO ⟨k, t.tx, 0⟩ := by unfold covT; rw [hk, Int.toNat_natCast]
  rw [hc]
  have h0 : (covO ⟨k, t.tx, 0⟩).length ≠ 0 := by simpa using h1
  exact ⟨h1, by omega, by rw [h3]; exact h2, by rw [h3, hk], h4⟩
theorem Lx.sep {t : Tok} (h : TkOk t) : Lx (covT t) [t] GS := by
  obtain ⟨h1, h2, h3, _⟩ := tk_parts h
  exact Lx.word h (fun r hr => pc_gs h1 h2 h3 hr)
/-- Of what class a word's first byte is. -/
theorem cls_of {l : List UInt8} {k : Nat} (hk : (pcO l).kd = k) : (k = 1 → hdC l = 3) ∧ (k = 2 → hdC l = 4) ∧ (k = 6 → hdC l = 5) ∧ (k = 3 → hdC l = 7) ∧ (k = 4 → hdC l = 8) ∧ (k = 5 → hdC l = 9) := by
  unfold pcO cutO at hk
  by_cases c1 : hdC l = 1
  · simp only [c1, if_true] at hk; omega
  by_cases c2 : hdC l = 2
  · simp only [c2, if_true, if_neg (show ¬ 2 = 1 by omega)] at hk; omega
  by_cases c3 : hdC l = 3
  · simp only [c3, if_true, if_neg (show ¬ 3 = 1 by omega), if_neg (show ¬ 3 = 2 by omega)] at hk; omega
  by_cases c4 : hdC l = 4
  · simp only [c4, if_true, if_neg (show ¬ 4 = 1 by omega), if_neg (show ¬ 4 = 2 by omega), if_neg (show ¬ 4 = 3 by omega)] at hk; omega
  by_cases c5 : hdC l = 5
  · simp only [c5, if_true, if_neg (show ¬ 5 = 1 by omega), if_neg (show ¬ 5 = 2 by omega), if_neg (show ¬ 5 = 3 by omega), if_neg (show ¬ 5 = 4 by omega)] at hk; omega
  by_cases c7 : hdC l = 7
  · simp only [c7, if_true, if_neg (show ¬ 7 = 1 by omega), if_neg (show ¬ 7 = 2 by omega), if_neg (show ¬ 7 = 3 by omega), if_neg (show ¬ 7 = 4 by omega), if_neg (show ¬ 7 = 5 by omega)] at hk; omega
  by_cases c8 : hdC l = 8
  · simp only [c8, if_true, if_neg (show ¬ 8 = 1 by omega), if_neg (show ¬ 8 = 2 by omega), if_neg (show ¬ 8 = 3 by omega), if_neg (show ¬ 8 = 4 by omega), if_neg (show ¬ 8 = 5 by omega), if_neg (show ¬ 8 = 7 by omega)] at hk; omega
  by_cases c9 : hdC l = 9
  · simp only [c9, if_true, if_neg (show ¬ 9 = 1 by omega), if_neg (show ¬ 9 = 2 by omega), if_neg (show ¬ 9 = 3 by omega), if_neg (show ¬ 9 = 4 by omega), if_neg (show ¬ 9 = 5 by omega), if_neg (show ¬ 9 = 7 by omega), if_neg (show ¬ 9 = 8 by omega)] at hk; omega
  · simp only [c1, c2, c3, c4, c5, c7, c8, c9, if_false] at hk; omega
/-- A text, a mixed one: whatever comes behind. -/
theorem Lx.quo {t : Tok} (h : TkOk t) (hk : t.kd = 4 ∨ t.kd = 5) : Lx (covT t) [t] AnyR := by
  obtain ⟨h1, h2, h3, h4, _⟩ := tk_parts h
  refine Lx.word h (fun r _ => ?_)
  cases r with
  | nil => rw [List.append_nil]
  | cons s b =>
    have hc := cls_of (l := covT t) rfl
    unfold pcO at h2 ⊢
    rw [hdC_app h1]
    unfold cutO at h2 ⊢
    rcases hk with e | e
    · have c8 : hdC (covT t) = 8 := hc.2.2.2.2.1 (by omega)
      simp only [c8, if_true, if_neg (show ¬ 8 = 1 by omega), if_neg (show ¬ 8 = 2 by omega), if_neg (show ¬ 8 = 3 by omega), if_neg (show ¬ 8 = 4 by omega), if_neg (show ¬ 8 = 5 by omega), if_neg (show ¬ 8 = 7 by omega)] at h2 ⊢
      rw [quo_sep _ b h1 h2]
    · have c9 : hdC (covT t) = 9 := hc.2.2.2.2.2 (by omega)
      simp only [c9, if_true, if_neg (show ¬ 9 = 1 by omega), if_neg (show ¬ 9 = 2 by omega), if_neg (show ¬ 9 = 3 by omega), if_neg (show ¬ 9 = 4 by omega), if_neg (show ¬ 9 = 5 by omega), if_neg (show ¬ 9 = 7 by omega), if_neg (show ¬ 9 = 8 by omega)] at h2 ⊢
      rw [quo_sep _ b h1 h2]
/-- A number, a variable: also ahead of ':'. -/
theorem Lx.col {t : Tok} (h : TkOk t) (hk : t.kd = 6 ∨ t.kd = 3) : Lx (covT t) [t] GC := by
  obtain ⟨h1, h2, h3, h4, _⟩ := tk_parts h
  refine Lx.word h (fun r hr => ?_)
  rcases hr with hr | ⟨b, rfl, _⟩
  · exact pc_gs h1 h2 h3 hr
  · have hc := cls_of (l := covT t) rfl
    unfold pcO
    rw [hdC_app h1]
    unfold cutO
    rcases hk with e | e
    · have c5 : hdC (covT t) = 5 := hc.2.2.1 (by omega)
      simp only [c5, if_true, if_neg (show ¬ 5 = 1 by omega), if_neg (show ¬ 5 = 2 by omega), if_neg (show ¬ 5 = 3 by omega), if_neg (show ¬ 5 = 4 by omega)]
      unfold numN
      rw [spanN_sep dgB 58 (by decide)]
    · have c7 : hdC (covT t) = 7 := hc.2.2.2.1 (by omega)
      simp only [c7, if_true, if_neg (show ¬ 7 = 1 by omega), if_neg (show ¬ 7 = 2 by omega), if_neg (show ¬ 7 = 3 by omega), if_neg (show ¬ 7 = 4 by omega), if_neg (show ¬ 7 = 5 by omega)]
      unfold varN
      rw [tail_app' h1, partN_sep smB 58 (by decide) (by decide)]
/-- A sign of one byte that begins no other; one of two. -/
theorem Lx.one {c : UInt8} (hc : c ∈ ([123, 125, 40, 41, 91, 93, 44, 58] : List UInt8)) : Lx [c] [sgT c] AnyR := by
  intro rest n _
  have hp : pcO ([c] ++ rest) = ⟨7, 1, 0, 0⟩ := by
    simp only [List.mem_cons, List.not_mem_nil, or_false] at hc
    rcases hc with rfl | rfl | rfl | rfl | rfl | rfl | rfl | rfl <;> cases rest <;> simp [pcO, hdC, cutO, clsN, signN, sgn2, sgn1]
  refine ⟨[⟨7, [c], n⟩], rfl, ?_⟩
  rw [lexL_word (by simp) (by rw [hp]; decide) (by rw [hp]; decide), hp]
  simp [txO]
theorem Lx.two {t : List UInt8} (ht : t ∈ sgn2) : Lx t [⟨7, t⟩] AnyR := by
  intro rest n _
  have hp : pcO (t ++ rest) = ⟨7, 2, 0, 0⟩ := by
    simp only [sgn2, List.mem_cons, List.not_mem_nil, or_false] at ht
    rcases ht with rfl | rfl | rfl | rfl | rfl <;> simp [pcO, hdC, cutO, clsN, signN, sgn2]
  have hl : t.length = 2 := by
    simp only [sgn2, List.mem_cons, List.not_mem_nil, or_false] at ht
    rcases ht with rfl | rfl | rfl | rfl | rfl <;> rfl
  refine ⟨[⟨7, t, n⟩], rfl, ?_⟩
  rw [lexL_word (by intro e; have := congrArg List.length e; simp [hl] at this) (by rw [hp]; decide) (by rw [hp]; decide), hp]
  simp only [txO, Nat.sub_zero, List.drop_zero]
  rw [List.take_append_of_le_length (by omega), List.take_of_length_le (by omega), ← hl, List.drop_left]
  rfl
theorem Lx.eq : Lx [61] [sgT 61] (fun r => r.head? ≠ some 61 ∧ r.head? ≠ some 62) := by
  intro rest n hr
  have hp : pcO ([61] ++ rest) = ⟨7, 1, 0, 0⟩ := by
    cases rest with
    | nil => simp [pcO, hdC, cutO, clsN, signN, sgn2, sgn1]
    | cons c r =>
      simp only [List.head?_cons, ne_eq, Option.some.injEq] at hr
      simp [pcO, hdC, cutO, clsN, signN, sgn2, sgn1, hr.1, hr.2]
  refine ⟨[⟨7, [61], n⟩], rfl, ?_⟩
  rw [lexL_word (by simp) (by rw [hp]; decide) (by rw [hp]; decide), hp]
  simp [txO]
theorem Lx.bang : Lx [33] [sgT 33] (fun r => r.head? ≠ some 61) := by
  intro rest n hr
  have hp : pcO ([33] ++ rest) = ⟨7, 1, 0, 0⟩ := by
    cases rest with
    | nil => simp [pcO, hdC, cutO, clsN, signN, sgn2, sgn1]
    | cons c r =>
      simp only [List.head?_cons, ne_eq, Option.some.injEq] at hr
      simp [pcO, hdC, cutO, clsN, signN, sgn2, sgn1, hr]
  refine ⟨[⟨7, [33], n⟩], rfl, ?_⟩
  rw [lexL_word (by simp) (by rw [hp]; decide) (by rw [hp]; decide), hp]
  simp [txO]
end Go.Proofs.YtfpdgdacifiejaaGreat
